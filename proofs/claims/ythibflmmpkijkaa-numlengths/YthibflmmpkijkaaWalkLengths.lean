/-
  NumLengths: a short number has as many bytes as its bits by seven, one at least; one that is twice as great, at most one more.
-/
import Derived.Test.YthibflmmpkijkaaAwake
import Derived.Test.YthibflmmpkijkaaSame
namespace Go.Proofs.Ythibflmmpkijkaa
open Go.RowKit
set_option linter.unusedVariables false

/-- What is known at the head of a round of the counting loop. -/
def Cnt (v f y k : Nat) : Prop := y < 128 ^ f ∧ f + k = 11 ∧ (k = 1 ∨ 0 < y) ∧ (Nm.put v).length + 1 = k + (Nm.putN f y).length
theorem Cnt.start {v : Nat} (hv : L64 v) : Cnt v 10 v 1 := ⟨by rw [Nm.pow_128_10]; unfold L64 at hv; omega, rfl, .inl rfl, by unfold Nm.put; omega⟩
theorem Cnt.goes {v f y k : Nat} (h : Cnt v f y k) (hy : ¬ y < 128) : ∃ f', f = f' + 1 ∧ Cnt v f' (y / 128) (k + 1) := by
  obtain ⟨h1, h2, h3, h4⟩ := h
  match f, h1, h2, h4 with
  | 0, h1, _, _ => simp at h1; omega
  | f + 1, h1, h2, h4 =>
    rw [Nm.putN_great f y hy, List.length_cons] at h4
    exact ⟨f, rfl, by rw [Nat.pow_succ] at h1; exact Nat.div_lt_of_lt_mul (by rw [Nat.mul_comm]; exact h1), by omega, .inr (by omega), by omega⟩
theorem Cnt.ends {v f y k : Nat} (h : Cnt v f y k) (hy : y < 128) : (Nm.put v).length = k := by
  obtain ⟨h1, h2, h3, h4⟩ := h
  match f, h1, h2, h4 with
  | 0, h1, _, _ => simp at h1; omega
  | f + 1, h1, h2, h4 => rw [Nm.putN_small f y hy] at h4; simpa using h4
theorem last_ne {v : Nat} (hv : L64 v) (h0 : 0 < v) : ∃ x, (Nm.put v)[(Nm.put v).length - 1]? = some x ∧ x ≠ 0 := by
  have h := Nm.putN_last 10 v (by rw [Nm.pow_128_10]; unfold L64 at hv; omega) h0
  have hp := Nm.put_pos v
  have hl : (Nm.put v).length - 1 < (Nm.put v).length := by omega
  refine ⟨_, List.getElem?_eq_getElem hl, ?_⟩
  have : (Nm.put v).getD ((Nm.put v).length - 1) 0 = (Nm.put v)[(Nm.put v).length - 1] := by rw [List.getD_eq_getElem?_getD, List.getElem?_eq_getElem hl]; rfl
  rw [← this]; exact h
theorem L64.wrap2 {v : Nat} (h : v ≤ 4611686018427387904) : IntKind.u64.wrap (2 * (v : Int)) = ((2 * v : Nat) : Int) := by rw [IntKind.wrap_u64]; omega

set_option maxRecDepth 100000 in
set_option maxHeartbeats 1000000 in
theorem numLengths_walk (w : World) (v : Nat) (hv : L64 v) :
    Calls Try.prog 7 #[.int .u64 (v : Int)] w fun e w' => e = .returned (.bool true) ∧ Below w.heap.size w w' := by
  go_enter Try.func7, Try.ntmps7
  go_wp2_with fail
  refine (awake_any _).mono ?_
  rintro e w1 ⟨rfl, b1⟩
  go_wp2_with fail
  refine (put_any _ _ hv).mono ?_
  rintro e w2 ⟨Ax, nx, cx, rfl, x2, b2⟩
  have B2 := onto b1 b2
  clear b1 b2
  go_wp2
  go_loop [4, 5] (fun n x => ∃ f y k : Nat, k ≤ 11 ∧ L64 y ∧ n = .int .i64 (k : Int) ∧ x = .int .u64 (y : Int) ∧ Cnt v f y k) (fun _ x => (intOf x).toNat)
  case atStart => exact ⟨10, v, 1, by omega, hv, rfl, rfl, Cnt.start hv⟩
  case round =>
    obtain ⟨f, y, k, hk, hy, rfl, rfl, hc⟩ := hrel
    by_cases hlt : y < 128
    · have HL := Lib.hid (hc.ends hlt)
      have hpos : 0 < k := by have := Nm.put_pos v; have := HL.out; omega
      clear hc
      have HN := Lib.hid x2.1
      have hcx := x2.2.1
      have hcm := x2.2.2.1
      unfold maxLen at hcm
      obtain rfl : nx = k := by rw [← HN.out, HL.out]
      have hne : ((nx : Int) != (nx : Int)) = false := by simp
      have hlast := last_ne hv
      obtain ⟨b, off, rfl, _, hcell⟩ := x2.2.2.2.2 hpos
      by_cases h0 : v = 0
      · have hv0 : decide ((0 : Int) < (v : Int)) = false := by simp; omega
        have hv1 : decide (0 < v) = false := by simp; omega
        have hv2n : (v : Int) ≤ 0 := by omega
        have hd : decide ((4611686018427387904 : Int) < (v : Int)) = false := by simp; omega
        clear hlast hcell
        have hv2 : L64 (2 * v) := by unfold L64; omega
        have HD := Lib.hid (Nm.put_double v hv)
        clear h0
        go_wp2_with fail
        rw [show (2 : Int) * (v : Int) = ((2 * v : Nat) : Int) from by omega]
        refine (put_any _ _ hv2).mono ?_
        rintro e w3 ⟨Ad, nd, cd, rfl, d3, b3⟩
        have hnd : nd ≤ nx + 1 := by have := d3.1; have := HD.out; have := HL.out; omega
        have hnd' : decide ((nd : Int) ≤ (nx : Int) + 1) = true := by simp; omega
        have x3 := x2.on b3
        have B3 := onto B2 b3
        clear x2 b3 B2 d3
        go_wp2_with fail
        refine (put_any _ _ hv).mono ?_
        rintro e w4 ⟨Ae, ne, ce, rfl, e4, b4⟩
        have x4 := x3.on b4
        have B4 := onto B3 b4
        clear x3 b4 B3
        go_wp2_with fail
        refine (same_eq _ _ _ _ _ _ _ _ e4 x4).mono ?_
        rintro e w5 ⟨rfl, m, rfl⟩
        go_wp2
        go_ret
        exact ⟨rfl, below_drewN B4 _⟩
      · obtain ⟨z, hz, hz0⟩ := hlast (by omega)
        rw [HL.out] at hz
        have hcz := hcell (nx - 1) z hz
        have hz0' : ((z : Int) == 0) = false := by simp; omega
        have hv0 : (0 : Int) < (v : Int) := by omega
        clear hlast hcell hz
        by_cases hbig : 4611686018427387904 < v
        · have hd : decide ((4611686018427387904 : Int) < (v : Int)) = true := by simp; omega
          clear hbig
          go_wp2
          go_ret
          exact ⟨rfl, B2⟩
        · have hd : decide ((4611686018427387904 : Int) < (v : Int)) = false := by simp; omega
          have HW := Lib.hid (L64.wrap2 (v := v) (by omega))
          have hv2 : L64 (2 * v) := by unfold L64; omega
          have HD := Lib.hid (Nm.put_double v hv)
          clear hbig
          go_wp2_with fail
          rw [HW.out]
          refine (put_any _ _ hv2).mono ?_
          rintro e w3 ⟨Ad, nd, cd, rfl, d3, b3⟩
          have hnd : nd ≤ nx + 1 := by have := d3.1; have := HD.out; have := HL.out; omega
          have hnd' : decide ((nd : Int) ≤ (nx : Int) + 1) = true := by simp; omega
          have x3 := x2.on b3
          have B3 := onto B2 b3
          clear x2 b3 B2 d3
          go_wp2_with fail
          refine (put_any _ _ hv).mono ?_
          rintro e w4 ⟨Ae, ne, ce, rfl, e4, b4⟩
          have x4 := x3.on b4
          have B4 := onto B3 b4
          clear x3 b4 B3
          go_wp2_with fail
          refine (same_eq _ _ _ _ _ _ _ _ e4 x4).mono ?_
          rintro e w5 ⟨rfl, m, rfl⟩
          go_wp2
          go_ret
          exact ⟨rfl, below_drewN B4 _⟩
    · obtain ⟨f', rfl, hc'⟩ := hc.goes hlt
      have hy' := L64.div hy
      have hyw := L64.wrap_ hy
      have hge : (128 : Int) ≤ (y : Int) := by omega
      have hk10 : k ≤ 10 := by have := hc.2.1; omega
      clear hc
      go_wp2
      go_round
      case rel => exact ⟨f', y / 128, k + 1, by omega, hy', by go_num, by go_num, hc'⟩
      case measure => simp [intOf]; omega

end Go.Proofs.Ythibflmmpkijkaa
