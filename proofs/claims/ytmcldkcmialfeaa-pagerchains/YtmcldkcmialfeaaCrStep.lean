/-
  shiftOut (crc): four bits out; the document's Sum, bit by bit.
-/
import Derived.Test.YtmcldkcmialfeaaBase
import Derived.Test.YtmcldkcmialfeaaGrPl9
namespace Go.Proofs.Ytmcldkcmialfeaa
open Go.RowKit
set_option linter.unusedVariables false

/-- A number of 32 bits (the bound behind a name). -/
def L32 (v : Nat) : Prop := v < 4294967296
theorem Tn_snoc (k s : Nat) : Cr.Tn (k + 1) s = Cr.T (Cr.Tn k s) := Cr.Tn_add k 1 s
theorem T_odd {s : Nat} (h : s % 2 = 1) : Cr.T s = s / 2 ^^^ 2197175160 := if_pos h
theorem T_even {s : Nat} (h : s % 2 = 0) : Cr.T s = s / 2 := if_neg (by omega)
theorem and_one {s : Nat} (h : L32 s) : bits .and .u32 (s : Int) 1 = ((s % 2 : Nat) : Int) := by
  unfold L32 at h
  have := u32_and_nat s 1 h (by omega)
  rw [nat_mask1] at this
  exact this
theorem xor_poly {s : Nat} (h : L32 s) : bits .xor .u32 (s : Int) 2197175160 = ((s ^^^ 2197175160 : Nat) : Int) := by
  unfold L32 at h
  exact u32_xor_nat s 2197175160 h (by omega)

set_option maxRecDepth 100000 in
set_option maxHeartbeats 1000000 in
theorem shiftOut_any (w : World) (s : Nat) (hs : L32 s) :
    Calls Try.prog 100 #[.int .u32 (s : Int)] w fun e w' => e = .returned (.int .u32 (Cr.Tn 4 s : Int)) ∧ w = w' := by
  go_enter Try.func100, Try.ntmps100
  go_wp2
  go_loop [0, 4] (fun v i => ∃ k x : Nat, k ≤ 4 ∧ i = .int .i64 k ∧ v = .int .u32 (x : Int) ∧ L32 x ∧ Hid (x = Cr.Tn k s)) (fun _ i => 4 - (intOf i).toNat)
  case atStart => exact ⟨0, s, Nat.zero_le _, rfl, rfl, hs, rfl⟩
  case round =>
    obtain ⟨k, x, hk, rfl, rfl, hx, HX⟩ := hrel
    by_cases hlt : k < 4
    · have a1 := and_one hx
      have hx2 : L32 (x / 2) := by unfold L32 at *; omega
      have a2 := xor_poly hx2
      rcases Nat.mod_two_eq_zero_or_one x with hm | hm
      · rw [hm] at a1
        have HT : Hid (x / 2 = Cr.Tn (k + 1) s) := by show _ = _; rw [Tn_snoc, ← HX.out, T_even hm]
        clear hm
        go_wp2
        go_round
        case rel => exact ⟨k + 1, x / 2, by omega, by go_num, by go_num, hx2, HT⟩
        case measure => simp [intOf]; omega
      · rw [hm] at a1
        have HT : Hid (x / 2 ^^^ 2197175160 = Cr.Tn (k + 1) s) := by show _ = _; rw [Tn_snoc, ← HX.out, T_odd hm]
        have hx3 : L32 (x / 2 ^^^ 2197175160) := Cr.lt_xor hx2 (by omega)
        clear hm
        go_wp2
        go_round
        case rel => exact ⟨k + 1, x / 2 ^^^ 2197175160, by omega, by go_num, by first | exact congrArg _ a2 | go_num, hx3, HT⟩
        case measure => simp [intOf]; omega
    · go_wp2
      go_ret
      exact ⟨by rw [HX.out, show k = 4 by omega]; rfl, rfl⟩

theorem xor_byte {v b : Nat} (h : L32 v) (hb : b < 256) : bits .xor .u32 (v : Int) (b : Int) = ((v ^^^ b : Nat) : Int) := by
  unfold L32 at h
  exact u32_xor_nat v b h (by omega)
theorem L32.xor {v b : Nat} (h : L32 v) (hb : b < 256) : L32 (v ^^^ b) := Cr.lt_xor h (by omega)
theorem turned_all {x : Nat} (h : L32 x) : IntKind.u32.wrap (4294967295 - (x : Int)) = ((4294967295 - x : Nat) : Int) := by
  unfold L32 at h
  rw [IntKind.wrap_u32']; omega


end Go.Proofs.Ytmcldkcmialfeaa
