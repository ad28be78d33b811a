/-
  The document's FromPay, Pieces.
-/
import Derived.Test.YtbfofhgnamheeaaRpPayW
import Derived.Test.YtbfofhgnamheeaaPoFromP
import Derived.Test.YtbfofhgnamheeaaSame
namespace Go.Proofs.Ytbfofhgnamheeaa.Pq
open Go.RowKit
set_option linter.unusedVariables false

theorem rpieces_any (w : World) (n : Nat) (hn : n ≤ 1000000) :
    Calls Try.prog 26 #[.int .i64 (n : Int)] w fun e w' => e = .returned (.int .i64 (Pl.pieces (n : Int))) ∧ w = w' := by
  go_enter Try.func26, Try.ntmps26
  go_wp2_with fail
  go_loopw [0, 3] (fun x y wr => ∃ (j m : Nat), x = .int .i64 (m : Int) ∧ y = .int .i64 ((1 + j : Nat) : Int) ∧ n = m + 84 * j ∧ (0 < j → 0 < m) ∧ wr = w) (fun x _ _ => (intOf x).toNat)
  case atStart => exact ⟨0, n, rfl, rfl, by omega, by omega, rfl⟩
  case round =>
    obtain ⟨j, m, rfl, rfl, hnm, hj, rfl⟩ := hrel
    have HNM := Lib.hid (And.intro hnm hj)
    have hm : m ≤ 1000000 := by omega
    have hjb : j ≤ 1000000 := by omega
    clear hnm hj
    by_cases hlt : 84 < m
    · have z1 : (84 : Int) < (m : Int) := by omega
      have r1 : IntKind.i64.wrap ((m : Int) - 84) = ((m - 84 : Nat) : Int) := by rw [IntWalk.i64_in _ ⟨by omega, by omega⟩]; omega
      have r1' : (m : Int) - 84 = ((m - 84 : Nat) : Int) := by omega
      have r2 : IntKind.i64.wrap (((1 + j : Nat) : Int) + 1) = ((1 + (j + 1) : Nat) : Int) := by rw [IntWalk.i64_in _ ⟨by omega, by omega⟩]; omega
      obtain ⟨m', hm'⟩ : ∃ m', m' = m - 84 := ⟨_, rfl⟩
      have HM := Lib.hid hm'
      rw [← hm'] at r1 r1'
      clear hm'
      go_wp2
      have h1 := HNM.out
      have h2 := HM.out
      go_roundw
      case rel => exact ⟨j + 1, m', rfl, by go_num, by omega, by omega, by trivial⟩
      case measure => simp [intOf]; omega
    · have z1 : ¬ (84 : Int) < (m : Int) := by omega
      have hp : Pl.pieces (n : Int) = ((1 + j : Nat) : Int) := by
        have := HNM.out
        unfold Pl.pieces
        split <;> omega
      have HP := Lib.hid hp
      clear hp
      go_wp2
      go_ret
      rw [HP.out]; exact ⟨rfl, rfl⟩

end Go.Proofs.Ytbfofhgnamheeaa.Pq
