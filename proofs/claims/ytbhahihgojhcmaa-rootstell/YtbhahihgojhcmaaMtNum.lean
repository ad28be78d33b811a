/-
  Numbers of eight bytes in order, and four bytes, by the program and by the document: as layer 1's texts have them, on top of NbFour and NbKey.
-/
import Derived.Test.YtbhahihgojhcmaaNbKey
namespace Go.Proofs.Ytbhahihgojhcmaa
open Go.RowKit
set_option linter.unusedVariables false

set_option maxRecDepth 100000 in
set_option maxHeartbeats 400000 in
theorem refGet32_any (w : World) (A : Option Addr) (n c : Nat) (l : List Nat) (hb : Bs w A n c l) :
    Calls Try.prog 25 #[.slice A n c] w fun e w' => e = .returned (.int .u32 (Nm.fromBe (pad4 l) : Int)) ∧ w = w' := by
  obtain ⟨h1, h2, h3, h4, h5⟩ := hb
  unfold maxLen at h3
  have H1 := Lib.hid h1
  have H4 := Lib.hid h4
  have H5 := Lib.hid h5
  clear h1 h4 h5
  go_enter Try.func25, Try.ntmps25
  go_wp2
  go_loop [3, 4] (fun v i => ∃ k : Nat, k ≤ 4 ∧ i = .int .i64 k ∧ v = .int .u32 (Nm.fromBe ((pad4 l).take k) : Int)) (fun _ i => 4 - (intOf i).toNat)
  case atStart => exact ⟨0, Nat.zero_le _, rfl, rfl⟩
  case round =>
    obtain ⟨k, hk, rfl, rfl⟩ := hrel
    by_cases hlt : k < 4
    · have P := pad4_at l k hlt
      have ht := from4_take l H4.out k hlt
      by_cases hkn : k < n
      · obtain ⟨b, off, rfl, hbl, hcell⟩ := H5.out (by omega)
        obtain ⟨x, hx⟩ : ∃ x, l[k]? = some x := ⟨_, List.getElem?_eq_getElem (by rw [H1.out]; omega)⟩
        have hx256 := H4.out x (List.mem_of_getElem? hx)
        have hcx := hcell k x hx
        rw [List.getD_eq_getElem?_getD, hx, Option.getD_some] at P
        have HT : Hid (Nm.fromBe ((pad4 l).take k) * 256 + x = Nm.fromBe ((pad4 l).take (k + 1))) := by
          show _ = _
          rw [List.take_add_one, P]; exact (Nm.fromBe_snoc _ _).symm
        clear hx hcell P
        have hw1 : IntKind.u32.wrap ((Nm.fromBe ((pad4 l).take k) : Int) * 256) = (Nm.fromBe ((pad4 l).take k) : Int) * 256 := by rw [IntKind.wrap_u32]; omega
        have hw2 : IntKind.u32.wrap ((Nm.fromBe ((pad4 l).take k) : Int) * 256 + (x : Int)) = (Nm.fromBe ((pad4 l).take k) : Int) * 256 + (x : Int) := by rw [IntKind.wrap_u32]; omega
        go_wp2
        go_round
        case rel => exact ⟨k + 1, by omega, by go_num, by rw [← HT.out]; go_num⟩
        case measure => simp [intOf]; omega
      · have hnone : l[k]? = none := List.getElem?_eq_none (by rw [H1.out]; omega)
        rw [List.getD_eq_getElem?_getD, hnone, Option.getD_none] at P
        clear hnone
        have HT : Hid (Nm.fromBe ((pad4 l).take k) * 256 = Nm.fromBe ((pad4 l).take (k + 1))) := by
          show _ = _
          rw [List.take_add_one, P, Option.toList_some, Nm.fromBe_snoc, Nat.add_zero]
        clear P
        have hw1 : IntKind.u32.wrap ((Nm.fromBe ((pad4 l).take k) : Int) * 256) = (Nm.fromBe ((pad4 l).take k) : Int) * 256 := by rw [IntKind.wrap_u32]; omega
        go_wp2
        go_round
        case rel => exact ⟨k + 1, by omega, by go_num, by rw [← HT.out]; go_num⟩
        case measure => simp [intOf]; omega
    · go_wp2
      go_ret
      exact ⟨by rw [List.take_of_length_le (by rw [pad4_len]; omega)]; rfl, rfl⟩

end Go.Proofs.Ytbhahihgojhcmaa
