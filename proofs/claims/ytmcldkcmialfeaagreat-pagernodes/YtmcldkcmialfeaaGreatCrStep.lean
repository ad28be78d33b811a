/-
  shiftOut (crc): four bits out; the document's Sum, bit by bit.
-/
import Derived.Test.YtmcldkcmialfeaaGreatBase
import Derived.Test.YtmcldkcmialfeaaGreatGrPl9
namespace Go.Proofs.YtmcldkcmialfeaaGreat
open Go.RowKit
set_option linter.unusedVariables false

/-- A number of 32 bits (the bound behind a name). -/
def L32 (v : Nat) : Prop := v < 4294967296
theorem Tn_snoc (k s : Nat) : Cr.Tn (k + 1) s = Cr.T (Cr.Tn k s) := Cr.Tn_add k 1 s
theorem T_odd {s : Nat} (h : s % 2 = 1) : Cr.T s = s / 2 ^^^ 2197175160 := if_pos h
theorem T_even {s : Nat} (h : s % 2 = 0) : Cr.T s = s / 2 := if_neg (by omega)
theorem and_one {s : Nat} (h : L32 s) : bits .and .u32 (s : Int) 1 = ((s % 2 : Nat) : Int) := by
  unfold L32 at h
  have := u32_and_nat s 1 h (by omega)
  rw [nat_mask1] at this
  exact this
theorem xor_poly {s : Nat} (h : L32 s) : bits .xor .u32 (s : Int) 2197175160 = ((s ^^^ 2197175160 : Nat) : Int) := by
  unfold L32 at h
  exact u32_xor_nat s 2197175160 h (by omega)

set_option maxRecDepth 100000 in
set_option maxHeartbeats 1000000 in
theorem shiftOut_any (w : World) (s : Nat) (hs : L32 s) :
    Calls Tryz.prog 150 #[.int .u32 (s : Int)] w fun e w' => e = .returned (.int .u32 (Cr.Tn 4 s : Int)) ∧ w = w' := by
  go_enter Tryz.func150, Tryz.ntmps150
  go_wp2
  go_loop [0, 4] (fun v i => ∃ k x : Nat, k ≤ 4 ∧ i = .int .i64 k ∧ v = .int .u32 (x : Int) ∧ L32 x ∧ Hid (x = Cr.Tn k s)) (fun _ i => 4 - (intOf i).toNat)
  case atStart => exact ⟨0, s, Nat.zero_le _, rfl, rfl, hs, rfl⟩
  case round =>
    obtain ⟨k, x, hk, rfl, rfl, hx, HX⟩ := hrel
    by_cases hlt : k < 4
    · have a1 := and_one hx
      have hx2 : L32 (x / 2) := by unfold L32 at *; omega
      have a2 := xor_poly hx2
      rcases Nat.mod_two_eq_zero_or_one x with hm | hm
      · rw [hm] at a1
        have HT : Hid (x / 2 = Cr.Tn (k + 1) s) := by show _ = _; rw [Tn_snoc, ← HX.out, T_even hm]
        clear hm
        go_wp2
        go_round
        case rel => exact ⟨k + 1, x / 2, by omega, by go_num, by go_num, hx2, HT⟩
        case measure => simp [intOf]; omega
      · rw [hm] at a1
        have HT : Hid (x / 2 ^^^ 2197175160 = Cr.Tn (k + 1) s) := by show _ = _; rw [Tn_snoc, ← HX.out, T_odd hm]
        have hx3 : L32 (x / 2 ^^^ 2197175160) := Cr.lt_xor hx2 (by omega)
        clear hm
        go_wp2
        go_round
        case rel => exact ⟨k + 1, x / 2 ^^^ 2197175160, by omega, by go_num, by first | exact congrArg _ a2 | go_num, hx3, HT⟩
        case measure => simp [intOf]; omega
    · go_wp2
      go_ret
      exact ⟨by rw [HX.out, show k = 4 by omega]; rfl, rfl⟩

theorem xor_byte {v b : Nat} (h : L32 v) (hb : b < 256) : bits .xor .u32 (v : Int) (b : Int) = ((v ^^^ b : Nat) : Int) := by
  unfold L32 at h
  exact u32_xor_nat v b h (by omega)
theorem L32.xor {v b : Nat} (h : L32 v) (hb : b < 256) : L32 (v ^^^ b) := Cr.lt_xor h (by omega)
theorem turned_all {x : Nat} (h : L32 x) : IntKind.u32.wrap (4294967295 - (x : Int)) = ((4294967295 - x : Nat) : Int) := by
  unfold L32 at h
  rw [IntKind.wrap_u32']; omega

set_option maxRecDepth 100000 in
set_option maxHeartbeats 2000000 in
theorem refSum_any (w : World) (A : Option Addr) (n c : Nat) (l : List Nat) (hb : Bs w A n c l) :
    Calls Tryz.prog 90 #[.slice A n c] w fun e w' => e = .returned (.int .u32 (Cr.sum l : Int)) ∧ w = w' := by
  obtain ⟨h1, h2, h3, h4, h5⟩ := hb
  unfold maxLen at h3
  have H1 := Lib.hid h1
  have H4 := Lib.hid h4
  have H5 := Lib.hid h5
  clear h1 h4 h5
  go_enter Tryz.func90, Tryz.ntmps90
  go_wp2
  go_loop [3, 4] (fun v i => ∃ k x : Nat, k ≤ n ∧ i = .int .i64 k ∧ v = .int .u32 (x : Int) ∧ L32 x ∧ Hid (x = Cr.run 4294967295 (l.take k))) (fun _ i => n - (intOf i).toNat)
  case atStart => exact ⟨0, 4294967295, Nat.zero_le _, rfl, rfl, by unfold L32; omega, rfl⟩
  case round =>
    obtain ⟨k, x, hk, rfl, rfl, hx, HX⟩ := hrel
    by_cases hlt : k < n
    · obtain ⟨b, off, rfl, hbl, hcell⟩ := H5.out (by omega)
      obtain ⟨y, hy⟩ : ∃ y, l[k]? = some y := ⟨_, List.getElem?_eq_getElem (by rw [H1.out]; omega)⟩
      have hy256 := H4.out y (List.mem_of_getElem? hy)
      have hcx := hcell k y hy
      have HR : Hid (Cr.Tn 8 (x ^^^ y) = Cr.run 4294967295 (l.take (k + 1))) := by
        show _ = _
        rw [List.take_add_one, hy, Option.toList_some, Cr.run_snoc, ← HX.out]; rfl
      have a0 := xor_byte hx hy256
      have hz := hx.xor hy256
      clear hy hcell
      generalize x ^^^ y = z at *
      go_wp2
      go_loop [3, 5] (fun v i => ∃ j q : Nat, j ≤ 8 ∧ i = .int .i64 j ∧ v = .int .u32 (q : Int) ∧ L32 q ∧ Hid (q = Cr.Tn j z)) (fun _ i => 8 - (intOf i).toNat)
      case atStart => exact ⟨0, z, Nat.zero_le _, rfl, by first | rfl | exact congrArg _ a0, hz, rfl⟩
      case round =>
        clear a0
        obtain ⟨j, q, hj, rfl, rfl, hq, HQ⟩ := hrel
        by_cases hjlt : j < 8
        · have hq2 : L32 (q / 2) := by unfold L32 at *; omega
          have a2 := xor_poly hq2
          have a1 : IntKind.u32.wrap ((q : Int) % 2) = ((q % 2 : Nat) : Int) := by rw [IntKind.wrap_u32']; omega
          have a3 : IntKind.u32.wrap ((q : Int) / 2) = (q : Int) / 2 := by unfold L32 at hq; rw [IntKind.wrap_u32']; omega
          rcases Nat.mod_two_eq_zero_or_one q with hm | hm
          · have HT : Hid (q / 2 = Cr.Tn (j + 1) z) := by show _ = _; rw [Tn_snoc, ← HQ.out, T_even hm]
            rw [hm] at a1
            have g : decide ((q : Int) % 2 = 1) = false := by simp; omega
            go_wp2
            go_round
            case rel => exact ⟨j + 1, q / 2, by omega, by go_num, by go_num, hq2, HT⟩
            case measure => simp [intOf]; omega
          · have HT : Hid (q / 2 ^^^ 2197175160 = Cr.Tn (j + 1) z) := by show _ = _; rw [Tn_snoc, ← HQ.out, T_odd hm]
            have hq3 : L32 (q / 2 ^^^ 2197175160) := Cr.lt_xor hq2 (by omega)
            rw [hm] at a1
            have g : decide ((q : Int) % 2 = 1) = true := by simp; omega
            go_wp2
            go_round
            case rel => exact ⟨j + 1, q / 2 ^^^ 2197175160, by omega, by go_num, by first | exact congrArg _ a2 | go_num, hq3, HT⟩
            case measure => simp [intOf]; omega
        · have hj8 : j = 8 := by omega
          have HT : Hid (q = Cr.run 4294967295 (l.take (k + 1))) := by show _ = _; rw [← HR.out, HQ.out, hj8]
          clear hj8
          go_wp2
          go_round
          case rel => exact ⟨k + 1, q, by omega, by go_num, rfl, hq, HT⟩
          case measure => simp [intOf]; omega
    · have a := turned_all hx
      have HE : Hid ((4294967295 - x : Nat) = Cr.sum l) := by
        show _ = _
        rw [HX.out, List.take_of_length_le (by rw [H1.out]; omega)]; rfl
      go_wp2
      go_ret
      exact ⟨by rw [← HE.out]; first | rfl | exact congrArg _ (congrArg _ a), rfl⟩

end Go.Proofs.YtmcldkcmialfeaaGreat
