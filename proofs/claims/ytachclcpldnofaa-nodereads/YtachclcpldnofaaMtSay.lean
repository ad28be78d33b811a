/-
  When a page says a meta, part by part. No Go here.
-/
import Derived.Test.YtachclcpldnofaaMtMath
import Derived.Test.YtachclcpldnofaaPgMath
namespace Go.Proofs.Ytachclcpldnofaa.Mt
open Nm
set_option linter.unusedVariables false

theorem be_of {k : Nat} {l : List Nat} (hl : l.length = k) (hb : ∀ x ∈ l, x < 256) : be k (fromBe l) = l := by
  have h := fromBe_lt l hb
  rw [hl] at h
  exact Pg.foldl_inj _ _ (by rw [be_len, hl]) (be_lt _ _) hb (fromBe_be k _ h)
theorem cut_eq (l : List Nat) (a k : Nat) : l.drop a = (l.drop a).take k ++ l.drop (a + k) := by
  rw [← List.drop_drop, List.take_append_drop]
theorem says_iff {l : List Nat} (hl : l.length = 1016) (hb : ∀ x ∈ l, x < 256) : Says l ↔ (l.take 4 = [67, 65, 77, 66] ∧ l.drop 24 = List.replicate 992 0) ∧ May (of l) := by
  constructor
  · rintro ⟨_, h1, h2⟩
    refine ⟨⟨?_, ?_⟩, h1⟩
    · rw [← h2]; rfl
    · rw [← h2]
      unfold full
      rw [show (24 : Nat) = 24 + 0 from rfl, drop_app (pay_len _), List.drop_zero]
  · rintro ⟨⟨h1, h2⟩, h3⟩
    refine ⟨hl, h3, ?_⟩
    have p : ∀ a k, a + k ≤ 1016 → be k (fromBe ((l.drop a).take k)) = (l.drop a).take k := fun a k h => be_of (by rw [List.length_take, List.length_drop]; omega) fun x hx => hb x (List.mem_of_mem_drop (List.mem_of_mem_take hx))
    unfold full pay of
    simp only [Int.toNat_natCast]
    rw [p 4 8 (by omega), p 12 4 (by omega), p 16 4 (by omega), p 20 4 (by omega), ← h1, ← h2]
    simp only [List.append_assoc]
    rw [← cut_eq l 20 4, ← cut_eq l 16 4, ← cut_eq l 12 4, ← cut_eq l 4 8, List.take_append_drop]

end Go.Proofs.Ytachclcpldnofaa.Mt
