/-
  The document's metas: FromPay.
-/
import Derived.Test.YtcpgmglpgffhdaaMtCell
import Derived.Test.YtcpgmglpgffhdaaSame
import Derived.Deep.CutBlock
import Derived.Deep.DeepCutAuto
import Derived.Deep.RegionHeld3
namespace Go.Proofs.Ytcpgmglpgffhdaa
open Go.RowKit
set_option linter.unusedVariables false

set_option maxRecDepth 100000 in
set_option maxHeartbeats 1000000 in
theorem refFrom_short (w : World) (A : Option Addr) (n c : Nat) (hn : n ≠ 1016) (hc : n ≤ 9223372036854775807) :
    Calls Try.prog 15 #[.slice A n c] w fun e w' => e = .returned (.tuple #[mv m0, .int .i64 5]) ∧ Below w.heap.size w w' := by
  have hd : ((n : Int) != 1016) = true := by rw [bne_iff_ne]; omega
  have HB := Lib.hid ((Below.refl w.heap.size w).alloc (Nat.le_refl _) (.cells #[.int .u64 0, .int .i64 0, .int .i64 0, .int .i64 0] 24))
  go_enter Try.func15, Try.ntmps15
  go_wp2
  have q := mt_cells (heap_alloc_new w (.cells #[.int .u64 0, .int .i64 0, .int .i64 0, .int .i64 0] 24))
  obtain ⟨q0, q1, q2, q3⟩ := q
  refine bodyPost_ret (v := .tuple #[mv m0, .int .i64 5]) (by simp [results, Try.results15, go_sem, mv, m0, q0, q1, q2, q3]) rfl ⟨rfl, HB.out⟩

set_option maxRecDepth 100000 in
set_option maxHeartbeats 2000000 in
theorem refFrom_any (w : World) (A : Option Addr) (c : Nat) (l : List Nat) (hb : Bs w A 1016 c l) :
    Calls Try.prog 15 #[.slice A 1016 c] w fun e w' => e = .returned (if Mt.Says l then .tuple #[mv (Mt.of l), .int .i64 0] else .tuple #[mv m0, .int .i64 5]) ∧ Below w.heap.size w w' := by
  obtain ⟨b, off, rfl, hp⟩ := hb.part (by omega)
  have hc := hb.2.1
  have hcm := hb.2.2.1
  unfold maxLen at hcm
  have HB := Lib.hid hb
  have HPT := Lib.hid hp
  clear hp hb
  go_enter Try.func15, Try.ntmps15
  go_wp2_with fail
  have B0 : Below w.heap.size w (w.alloc (.cells #[.int .u64 0, .int .i64 0, .int .i64 0, .int .i64 0] 24)) := (Below.refl _ _).alloc (Nat.le_refl _) _
  have hk0 := Lib.hid (heap_alloc_new w (.cells #[.int .u64 0, .int .i64 0, .int .i64 0, .int .i64 0] 24))
  have hlt0 : w.heap.size < (w.alloc (.cells #[.int .u64 0, .int .i64 0, .int .i64 0, .int .i64 0] 24)).heap.size := by simp
  generalize w.alloc (.cells #[.int .u64 0, .int .i64 0, .int .i64 0, .int .i64 0] 24) = w1 at *
  have D4 : Bs w1 (some ⟨b, off + 4, none⟩) 8 (c - 4) ((l.drop 4).take 8) := ((HB.out.cut_far 4 (by omega)).first 8 (by omega)).on B0
  have D12 : Hid (Bs w1 (some ⟨b, off + 12, none⟩) 1004 (c - 12) (l.drop 12)) := (HB.out.cut_far 12 (by omega)).on B0
  have D16 : Hid (Bs w1 (some ⟨b, off + 16, none⟩) 1000 (c - 16) (l.drop 16)) := (HB.out.cut_far 16 (by omega)).on B0
  have D20 : Hid (Bs w1 (some ⟨b, off + 20, none⟩) 996 (c - 20) (l.drop 20)) := (HB.out.cut_far 20 (by omega)).on B0
  have HB0 := Lib.hid B0
  refine (refUnkey_yes w1 _ _ _ D4).mono ?_
  rintro e w2 ⟨rfl, rfl⟩
  clear D4 B0
  have n12 : ¬ (c = 12) := by omega
  have n16 : ¬ (c = 16) := by omega
  have n20 : ¬ (c = 20) := by omega
  go_upto_region 4 with fail
  have hl := HB.out.1
  have ht := HB.out.2.2.2.1
  obtain ⟨x1, hx1, y1⟩ : ∃ x, Nm.fromBe (pad4 (l.drop 12)) = x ∧ x < 4294967296 := ⟨_, rfl, fromBe4_lt _ fun y hy => ht y (List.mem_of_mem_drop hy)⟩
  obtain ⟨x2, hx2, y2⟩ : ∃ x, Nm.fromBe (pad4 (l.drop 16)) = x ∧ x < 4294967296 := ⟨_, rfl, fromBe4_lt _ fun y hy => ht y (List.mem_of_mem_drop hy)⟩
  obtain ⟨x3, hx3, y3⟩ : ∃ x, Nm.fromBe (pad4 (l.drop 20)) = x ∧ x < 4294967296 := ⟨_, rfl, fromBe4_lt _ fun y hy => ht y (List.mem_of_mem_drop hy)⟩
  have eo : Hid (Mt.of l = ⟨Nm.fromBe ((l.drop 4).take 8), (x1 : Int), (x2 : Int), (x3 : Int)⟩) := by
    show _ = _
    unfold Mt.of
    rw [← pad4_take (l := l.drop 12) (by rw [List.length_drop]; omega), ← pad4_take (l := l.drop 16) (by rw [List.length_drop]; omega), ← pad4_take (l := l.drop 20) (by rw [List.length_drop]; omega), hx1, hx2, hx3]
  have hl' := Lib.hid hl
  have ht' := Lib.hid ht
  have X1 := Lib.hid hx1
  have X2 := Lib.hid hx2
  have X3 := Lib.hid hx3
  clear hx1 hx2 hx3 hl ht
  generalize Nm.fromBe ((l.drop 4).take 8) = G at *
  have v1 : IntKind.i64.wrap (x1 : Int) = (x1 : Int) := IntWalk.i64_in _ ⟨by omega, by omega⟩
  have v2 : IntKind.i64.wrap (x2 : Int) = (x2 : Int) := IntWalk.i64_in _ ⟨by omega, by omega⟩
  have v3 : IntKind.i64.wrap (x3 : Int) = (x3 : Int) := IntWalk.i64_in _ ⟨by omega, by omega⟩
  go_cut [6] (fun v wx => ∃ bx, v = .pointer (some ⟨bx, 0, none⟩) ∧ wx.heap[bx]? = some (.cells #[.int .u64 (G : Int), .int .i64 (x1 : Int), .int .i64 (x2 : Int), .int .i64 (x3 : Int)] 24 (0, 0)) ∧ Below w1.heap.size w1 wx)
  case first =>
    go_region_held3 (fun _ => True) (trivial) (first
      | (go_at_call 38; refine (refGet32_any _ _ _ _ _ (by first | with_reducible exact D12.out.drew | with_reducible exact D16.out.drew | with_reducible exact D20.out.drew | with_reducible exact (D12.out.alloc _).drew | with_reducible exact (D16.out.alloc _).drew | with_reducible exact (D20.out.alloc _).drew)).mono ?_; rintro e w3 ⟨rfl, rfl⟩; first | rw [X1.out] | rw [X2.out] | rw [X3.out]))
    all_goals
      go_wp2_with fail
      go_meet
      exact ⟨w1.heap.size, rfl, heap_alloc_new w1 _, ((Below.refl w1.heap.size w1).alloc (Nat.le_refl _) _).drew⟩
  case rest =>
    obtain ⟨bx, rfl, hbx, B2⟩ := hcut
    obtain ⟨w2, hw2⟩ : ∃ w2 : World, w2 = wc := ⟨_, rfl⟩
    subst hw2
    have hr2 := (B2.block _ hlt0).trans hk0.out
    have W2 := Lib.hid (onto HB0.out B2)
    have HBX := Lib.hid hbx
    have HR2 := Lib.hid hr2
    obtain ⟨c0, c1, c2, c3⟩ := mt_cells hbx
    have lbx : bx < w2.heap.size := (Array.getElem?_eq_some_iff.1 hbx).1
    have lr : w.heap.size < w2.heap.size := (Array.getElem?_eq_some_iff.1 hr2).1
    have HB2 := Lib.hid (HB.out.on W2.out)
    clear B2 hbx hr2 D12 D16 D20 X1 X2 X3 v1 v2 v3 n12 n16 n20 HB0 hk0 hlt0
    have em : mv (Mt.of l) = .agg #[.int .u64 (G : Int), .int .i64 (x1 : Int), .int .i64 (x2 : Int), .int .i64 (x3 : Int)] := by rw [eo.out]; rfl
    by_cases hM : Mt.May (Mt.of l)
    · have C := Lib.hid (refPay_yes w2 (Mt.of l) hM)
      rw [em] at C
      go_wp2_with fail
      refine C.out.mono ?_
      rintro e w3 ⟨A3, k3, rfl, O3, B3⟩
      have K3 := Lib.hid ((B3.block _ lr).trans HR2.out)
      have X3 := Lib.hid ((B3.block _ lbx).trans HBX.out)
      have R3 := Lib.hid (onto W2.out B3)
      have HB3 := Lib.hid (HB2.out.on B3)
      have L3 : w2.heap.size ≤ w3.heap.size := B3.size
      have HP := Lib.hid (Mt.pay_len (Mt.of l))
      have HQ := Lib.hid (Mt.full_lt (Mt.of l))
      clear c0 c1 c2 c3 B3 HB2 HR2 HBX W2 C
      obtain ⟨i0, hi, hz0, hz1, hz2⟩ := info_parts Try.info5
      go_wp2_with fail
      go_loopw [7] (fun v wr => ∃ (k : Nat) (A : Option Addr) (c' : Nat), v = .slice A k c' ∧ 24 ≤ k ∧ k ≤ 1016 ∧ k ≤ c' ∧ wr.ownsRow w2.heap.size 5 1 (.slice A k c') k (bv (Mt.pay (Mt.of l) ++ List.replicate (k - 24) 0)) ∧ Below w2.heap.size w3 wr) (fun v _ => 1016 - lenV v)
      case atStart =>
        obtain ⟨A1, c1, e, hc, _⟩ := own_form O3
        injection e with e1 e2 e3
        subst e1 e3
        exact ⟨24, _, _, rfl, Nat.le_refl _, by omega, hc, by simpa using O3, Below.refl _ _⟩
      case round =>
        clear O3
        obtain ⟨k, A1, c1, rfl, hnk, hk, hkc, hown, hbel⟩ := hrel
        by_cases hlt : k < 1016
        · have hsz := hbel.size
          have S1 := Lib.hid (Bs.lit wr [0] (by decide) (by unfold maxLen; decide) 5 (0, 0))
          have O2 := Lib.hid (hown.alloc (.cells #[Value.int .u8 0] 5))
          have B2 := hbel.alloc (by omega) (.cells #[Value.int .u8 0] 5)
          have k1 : (k : Int) < 1016 := by omega
          go_wp2_with (at_builtin; refine wpList_append_bs _ rfl _ _ 25 rfl w2.heap.size 5 i0 (.int .u8 0) Try.underlying25 hi hz0 hz1 hz2 rfl _ _ _ rfl O2.out _ _ _ _ rfl S1.out (by simp; omega) (by simp; omega) ?_; intro v5 w5 O5 g5)
          have B5 : Below w2.heap.size w3 w5 := below_own B2 O2.out g5 (by simp; omega) (Nat.le_refl _)
          have e1 : bv (Mt.pay (Mt.of l) ++ List.replicate (k - 24) 0) ++ bv [0] = bv (Mt.pay (Mt.of l) ++ List.replicate (k + 1 - 24) 0) := by
            rw [bv_app, List.append_assoc, show k + 1 - 24 = (k - 24) + 1 by omega, List.replicate_succ']
          rw [e1] at O5
          obtain ⟨A5, c5, rfl, hc5, _⟩ := own_form O5
          clear e1 g5 O2 S1 B2 hown hbel
          go_roundw
          case rel => exact ⟨k + 1, A5, c5, rfl, by omega, by omega, hc5, O5, B5⟩
          case measure => simp [lenV]; omega
        · have hk' : k = 1016 := by omega
          subst hk'
          have e1 : Mt.pay (Mt.of l) ++ List.replicate (1016 - 24) 0 = Mt.full (Mt.of l) := rfl
          rw [e1] at hown
          have S4 := own_bs hown (Mt.full_len _) HQ.out
          have R4 := Lib.hid (R3.out.trans (hbel.mono (Nat.le_of_lt lr)))
          have SB := HB.out.on R4.out
          have X4 := Lib.hid ((hbel.block _ lbx).trans X3.out)
          have K4 := Lib.hid ((hbel.block _ lr).trans K3.out)
          have EQ : Mt.Says l ↔ Mt.full (Mt.of l) = l := ⟨fun h => h.2.2, fun h => ⟨hl'.out, hM, h⟩⟩
          have C := Lib.hid (same_any wr _ _ _ _ _ _ _ _ S4 SB)
          clear e1 hlt hk hnk hown hbel S4 SB
          by_cases hs : Mt.full (Mt.of l) = l
          · have hsay := EQ.2 hs
            rw [decide_eq_true hs] at C
            go_wp2_with fail
            refine C.out.mono ?_
            rintro e w6 ⟨rfl, m, rfl⟩
            obtain ⟨c0, c1, c2, c3⟩ := mt_cells X4.out
            have f0 := frozen_of_row wr w.heap.size 0 _ _ K4.out
            have f1 := frozen_of_row wr w.heap.size 1 _ _ K4.out
            have f2 := frozen_of_row wr w.heap.size 2 _ _ K4.out
            have f3 := frozen_of_row wr w.heap.size 3 _ _ K4.out
            obtain ⟨q0, q1, q2, q3⟩ := mt_cells K4.out
            clear hs EQ
            go_wp2
            have k5 := set4_at (w := wr.drewN m) K4.out (.int .u64 (G : Int)) (.int .i64 (x1 : Int)) (.int .i64 (x2 : Int)) (.int .i64 (x3 : Int))
            have B5 := set4_below (below_drewN R4.out m) (Nat.le_refl _) (.int .u64 (G : Int)) (.int .i64 (x1 : Int)) (.int .i64 (x2 : Int)) (.int .i64 (x3 : Int))
            unfold set4 at k5 B5
            obtain ⟨p0, p1, p2, p3⟩ := mt_cells k5
            refine bodyPost_ret (v := .tuple #[mv (Mt.of l), .int .i64 0]) (by rw [em]; simp [results, Try.results15, go_sem, p0, p1, p2, p3]) rfl ⟨by rw [em], B5⟩
          · have hsay : ¬ Mt.Says l := fun h => hs (EQ.1 h)
            rw [decide_eq_false hs] at C
            go_wp2_with fail
            refine C.out.mono ?_
            rintro e w6 ⟨rfl, m, rfl⟩
            have f0 := frozen_of_row wr w.heap.size 0 _ _ K4.out
            have f1 := frozen_of_row wr w.heap.size 1 _ _ K4.out
            have f2 := frozen_of_row wr w.heap.size 2 _ _ K4.out
            have f3 := frozen_of_row wr w.heap.size 3 _ _ K4.out
            obtain ⟨q0, q1, q2, q3⟩ := mt_cells K4.out
            clear hs EQ
            go_wp2
            have k5 := set4_at (w := wr.drewN m) K4.out (.int .u64 0) (.int .i64 0) (.int .i64 0) (.int .i64 0)
            have B5 := set4_below (below_drewN R4.out m) (Nat.le_refl _) (.int .u64 0) (.int .i64 0) (.int .i64 0) (.int .i64 0)
            unfold set4 at k5 B5
            obtain ⟨p0, p1, p2, p3⟩ := mt_cells k5
            refine bodyPost_ret (v := .tuple #[mv m0, .int .i64 5]) (by simp [results, Try.results15, go_sem, mv, m0, p0, p1, p2, p3]) rfl ⟨rfl, B5⟩
    · have C := Lib.hid (refPay_no w2 (Mt.of l) hM)
      rw [em] at C
      have hs : ¬ Mt.Says l := fun h => hM h.2.1
      go_wp2_with fail
      refine C.out.mono ?_
      rintro e w3 ⟨rfl, B3⟩
      have k3 := (B3.block _ lr).trans HR2.out
      obtain ⟨q0, q1, q2, q3⟩ := mt_cells k3
      have f0 := frozen_of_row w3 w.heap.size 0 _ _ k3
      have f1 := frozen_of_row w3 w.heap.size 1 _ _ k3
      have f2 := frozen_of_row w3 w.heap.size 2 _ _ k3
      have f3 := frozen_of_row w3 w.heap.size 3 _ _ k3
      have HE := Lib.hid (onto W2.out B3)
      clear c0 c1 c2 c3
      go_wp2
      have k4 := set4_at k3 (.int .u64 0) (.int .i64 0) (.int .i64 0) (.int .i64 0)
      have B4 := set4_below HE.out (Nat.le_refl _) (.int .u64 0) (.int .i64 0) (.int .i64 0) (.int .i64 0)
      unfold set4 at k4 B4
      obtain ⟨q0, q1, q2, q3⟩ := mt_cells k4
      refine bodyPost_ret (v := .tuple #[mv m0, .int .i64 5]) (by simp [results, Try.results15, go_sem, mv, m0, q0, q1, q2, q3]) rfl ⟨rfl, B4⟩

end Go.Proofs.Ytcpgmglpgffhdaa
