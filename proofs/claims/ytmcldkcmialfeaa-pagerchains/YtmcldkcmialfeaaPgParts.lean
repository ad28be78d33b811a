/-
  The parts of a page (mayBeNo, payOf, noOf, summedOf, sumOf) and a copy of bytes (copyOf).
-/
import Derived.Test.YtmcldkcmialfeaaPgRow
import Derived.Test.YtmcldkcmialfeaaNbFour
import Derived.Test.YtmcldkcmialfeaaGrPl9
namespace Go.Proofs.Ytmcldkcmialfeaa
open Go.RowKit
set_option linter.unusedVariables false

theorem mayBeNo_any (w : World) (no : Int) :
    Calls Try.prog 66 #[.int .i64 no] w fun e w' => e = .returned (.bool (decide (0 ≤ no ∧ no ≤ 2147483647))) ∧ w = w' := by
  by_cases h0 : 0 ≤ no
  · by_cases h1 : no ≤ 2147483647
    · have hd : decide (0 ≤ no ∧ no ≤ 2147483647) = true := by simp; omega
      rw [hd]
      clear hd
      go_enter Try.func66, Try.ntmps66
      go_wp2
      go_ret
      exact ⟨rfl, rfl⟩
    · have hd : decide (0 ≤ no ∧ no ≤ 2147483647) = false := by simp; omega
      rw [hd]
      clear hd
      have hf : decide (no ≤ 2147483647) = false := by simp; omega
      go_enter Try.func66, Try.ntmps66
      go_wp2
      go_ret
      exact ⟨rfl, rfl⟩
  · have hd : decide (0 ≤ no ∧ no ≤ 2147483647) = false := by simp; omega
    rw [hd]
    clear hd
    have hf : decide (0 ≤ no) = false := by simp; omega
    go_enter Try.func66, Try.ntmps66
    go_wp2
    go_ret
    exact ⟨rfl, rfl⟩

theorem payOf_any (w : World) (b off c : Nat) (hc : 1024 ≤ c) :
    Calls Try.prog 67 #[.slice (some ⟨b, off, none⟩) 1024 c] w fun e w' => e = .returned (.slice (some ⟨b, off, none⟩) 1016 1016) ∧ w = w' := by
  have h1 : (1016 : Int) ≤ (c : Int) := by omega
  go_enter Try.func67, Try.ntmps67
  go_wp2
  go_ret
  exact ⟨rfl, rfl⟩
theorem noOf_any (w : World) (b off c : Nat) (hc : 1024 ≤ c) :
    Calls Try.prog 68 #[.slice (some ⟨b, off, none⟩) 1024 c] w fun e w' => e = .returned (.slice (some ⟨b, off + 1016, none⟩) 4 4) ∧ w = w' := by
  have h1 : (1020 : Int) ≤ (c : Int) := by omega
  go_enter Try.func68, Try.ntmps68
  go_wp2
  go_ret
  exact ⟨rfl, rfl⟩
theorem sumOf_any (w : World) (b off c : Nat) (hc : 1024 ≤ c) :
    Calls Try.prog 69 #[.slice (some ⟨b, off, none⟩) 1024 c] w fun e w' => e = .returned (.slice (some ⟨b, off + 1020, none⟩) 4 4) ∧ w = w' := by
  have h1 : (1024 : Int) ≤ (c : Int) := by omega
  go_enter Try.func69, Try.ntmps69
  go_wp2
  go_ret
  exact ⟨rfl, rfl⟩
theorem summedOf_any (w : World) (b off c : Nat) (hc : 1024 ≤ c) :
    Calls Try.prog 71 #[.slice (some ⟨b, off, none⟩) 1024 c] w fun e w' => e = .returned (.slice (some ⟨b, off, none⟩) 1020 1020) ∧ w = w' := by
  have h1 : (1020 : Int) ≤ (c : Int) := by omega
  go_enter Try.func71, Try.ntmps71
  go_wp2
  go_ret
  exact ⟨rfl, rfl⟩

end Go.Proofs.Ytmcldkcmialfeaa
