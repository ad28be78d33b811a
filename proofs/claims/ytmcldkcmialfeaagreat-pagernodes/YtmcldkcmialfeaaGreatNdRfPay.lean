/-
  The document's Pay, of a leaf.
-/
import Derived.Test.YtmcldkcmialfeaaGreatNdRfPl
namespace Go.Proofs.YtmcldkcmialfeaaGreat.Nn
open Go.RowKit
set_option linter.unusedVariables false

set_option maxRecDepth 100000 in
set_option maxHeartbeats 8000000 in
theorem refPay_leaf (w : World) (x : Nv) (cs : List Nd.Cell) (hc : Cs w x.cA x.cn x.cc cs) (hb : x.br = false) (hf : Nd.leafLen cs ≤ 1000000000) :
    Calls Tryz.prog 39 #[x.val] w fun e w' => (∃ A n c, e = .returned (.slice A n c) ∧ Bs w' A n c (payL cs) ∧ w'.ownsRow w.heap.size 5 1 (.slice A n c) n (bv (payL cs))) ∧ Below w.heap.size w w' := by
  obtain ⟨i0, hi, hz0, hz1, hz2⟩ := info_parts Tryz.info5
  have CL := Lib.hid (fun (W : World) (hW : Below w.heap.size w W) => refMay_leaf W x cs (hc.on hW) hb hf)
  obtain ⟨br, cA, cn, cc_, kA, kn, kc, pA, pn, pc⟩ := x
  simp only at hb hc
  subst hb
  have hn := hc.len
  have hclt := Lib.hid hc.lt
  have B1 : Below w.heap.size w (w.alloc (.cells #[.bool false, .slice cA cn cc_, .slice kA kn kc, .slice pA pn pc] 65)) := (Below.refl _ _).alloc (Nat.le_refl _) _
  have Z1 := heap_alloc_new w (.cells #[.bool false, .slice cA cn cc_, .slice kA kn kc, .slice pA pn pc] 65)
  have s1 : w.heap.size < (w.alloc (.cells #[.bool false, .slice cA cn cc_, .slice kA kn kc, .slice pA pn pc] 65)).heap.size := by simp
  obtain ⟨b0, b1, b2, b3⟩ := four_cells Z1
  have HK := Lib.hid hc
  have HB1 := Lib.hid B1
  have HZ1 := Lib.hid Z1
  have C1 := Lib.hid (CL.out _ B1)
  clear hc B1 Z1 CL
  unfold Nv.val at *
  simp only at *
  go_enter Tryz.func39, Tryz.ntmps39
  go_wp2_with fail
  generalize w.alloc (.cells #[.bool false, .slice cA cn cc_, .slice kA kn kc, .slice pA pn pc] 65) = w0 at *
  refine C1.out.mono ?_
  rintro e w1 ⟨rfl, b1'⟩
  have B1 := HB1.out.trans (b1'.mono (by omega))
  have Z1 := (b1'.block _ s1).trans HZ1.out
  have hs1 := b1'.size
  clear C1 HB1 HZ1 b1' b0 b1 b2 b3
  obtain ⟨q0, q1, q2, q3⟩ := four_cells Z1
  by_cases hm : Nd.LeafMay cs
  · rw [decide_eq_true hm]
    have hpay : payL cs = Nd.leafPay cs := if_pos hm
    have hm16 := hm.1
    have hcn9 : cn ≤ 1016 := by have := count_le cs; unfold Nd.leafLen at hm16; omega
    have HM := Lib.hid hm
    have HPY := Lib.hid hpay
    have HLT := Lib.hid (leafPay_lt (w := w) hclt.out (fun c hc => (hm.2.2.1 _ (List.mem_map_of_mem hc)).2))
    have HCs := Lib.hid (HK.out.on B1)
    have OL : (w1.alloc (.cells #[.int .u8 1] 5)).ownsRow w1.heap.size 5 1 (.slice (some ⟨w1.heap.size, 0, none⟩) 1 1) 1 (bv [1]) := own_lit1 w1 1
    have BL : Below w1.heap.size w1 (w1.alloc (.cells #[.int .u8 1] 5)) := (Below.refl _ _).alloc (Nat.le_refl _) _
    have qL := (BL.cell (p := ⟨w.heap.size, 1, none⟩) (cell_lt q1)).trans q1
    have C2 := Lib.hid (fun W => big_any W cn (by omega) 2 (.inl rfl))
    clear hm hpay
    go_wp2_with fail
    refine (C2.out _).mono ?_
    rintro e w2 ⟨⟨A2, c2, rfl, r2⟩, b2⟩
    have O2 := own_on OL b2
    have B2 := BL.trans (b2.mono BL.size)
    have hs2 := B2.size
    clear OL BL b2 qL C2
    go_upto_region 13 with (at_builtin; refine wpList_append_bs _ rfl _ _ 43 rfl w1.heap.size 5 i0 (.int .u8 0) Tryz.underlying43 hi hz0 hz1 hz2 rfl _ _ _ rfl O2 _ _ _ _ rfl r2 (by omega) hs2 ?_; intro v3 w3 O3 g3)
    have B3 := below_own B2 O2 g3 hs2 (Nat.le_refl _)
    rw [bv_app] at O3
    clear O2 g3 r2 B2 hs2
    go_wp2
    go_loopw [5, 6] (fun v i wr => ∃ k : Nat, k ≤ cn ∧ i = .int .i64 (k : Int) ∧ wr.ownsRow w1.heap.size 5 1 v (3 + Nd.lens (cs.take k)) (bv (1 :: (Nm.be 2 cn ++ Nd.all (cs.take k)))) ∧ Below w1.heap.size w1 wr) (fun _ i _ => cn - (intOf i).toNat)
    case atStart => exact ⟨0, Nat.zero_le _, rfl, by simpa [Nd.lens, Nd.all] using O3, B3⟩
    case round =>
      clear O3 B3
      obtain ⟨k, hk, rfl, hown, hbel⟩ := hrel
      have p1 := (hbel.cell (p := ⟨w.heap.size, 1, none⟩) (cell_lt q1)).trans q1
      have hsz := hbel.size
      by_cases hlt : k < cn
      · obtain ⟨b, off, x, y, rfl, hbl, hy, hcr, c0, c1, c2, c3⟩ := HCs.out.get hlt
        obtain ⟨⟨A1, n1, k1, e1, r1, _⟩, ⟨A2, n2, k2, e2, r2, _⟩, e3, e4, _, _⟩ := hcr
        have f0 := (hbel.cell (p := ⟨b, off + k * 4, none⟩) hbl).trans c0
        have f1 := (hbel.cell (p := ⟨b, off + k * 4 + 1, none⟩) hbl).trans c1
        have f2 := (hbel.cell (p := ⟨b, off + k * 4 + 2, none⟩) hbl).trans c2
        have f3 := (hbel.cell (p := ⟨b, off + k * 4 + 3, none⟩) hbl).trans c3
        rw [e1] at f0
        rw [e2] at f1
        rw [e3] at f2
        rw [e4] at f3
        have hj1 : (k : Int) < (cn : Int) := by omega
        have hl := lens_take_le cs (k + 1)
        have HLN := Lib.hid (lens_take hy)
        have HAL := Lib.hid (all_take hy)
        have hmem := List.mem_of_getElem? hy
        have hOk := HM.out.2.1 y hmem
        have hk100 := (HM.out.2.2.1 _ (List.mem_map_of_mem (f := Nd.Cell.key) hmem)).2
        rw [r1.1] at hk100
        unfold Nd.leafLen at hm16
        have hl2 := HLN.out
        have hl9 : Nd.lens (cs.take k) ≤ 1016 := by omega
        have bA : Below wr.heap.size wr (wr.alloc (.cells #[.slice A1 n1 k1, .slice A2 n2 k2, .int .i64 y.size, .int .i64 y.head] 125)) := (Below.refl _ _).alloc (Nat.le_refl _) _
        have zc := heap_alloc_new wr (.cells #[.slice A1 n1 k1, .slice A2 n2 k2, .int .i64 y.size, .int .i64 y.head] 125)
        have ownA := hown.alloc (.cells #[.slice A1 n1 k1, .slice A2 n2 k2, .int .i64 y.size, .int .i64 y.head] 125)
        have belA := hbel.trans (bA.mono hsz)
        have szA := bA.size
        have R1 := Lib.hid (r1.on belA)
        have R2 := Lib.hid r2
        have HRK := Lib.hid r1
        clear c0 c1 c2 c3 r1 r2 hy e1 e2 e3 e4 hown hbel hmem hl2
        go_upto_region 17 with fail
        generalize hgc : wr.heap.size = gc at *
        generalize wr.alloc (.cells #[.slice A1 n1 k1, .slice A2 n2 k2, .int .i64 y.size, .int .i64 y.head] 125) = wA at *
        obtain ⟨z0, z1, z2, z3⟩ := four_cells zc
        have HZC := Lib.hid zc
        have hu8 : IntKind.u8.wrap (n1 : Int) = (n1 : Int) := by rw [IntKind.wrap_u8]; omega
        have L1 := Lib.hid (bs_lit1 wA n1 (by omega))
        have OA := Lib.hid (ownA.alloc (.cells #[.int .u8 (n1 : Int)] 5))
        have HOA := Lib.hid ownA
        clear zc ownA f0 f1 f2 f3 bA
        generalize hT : 3 + Nd.lens (cs.take k) = T at *
        have hT9 : T ≤ 1019 := by omega
        have HBA := Lib.hid belA
        clear belA
        go_region_held3 (fun w' => w'.cell? ⟨gc, 0, none⟩ = some (.slice A1 n1 k1)) (first | assumption | exact z0 | exact zD | exact zE | go_keep) (first
          | (refine step_append_run rfl (.tmp 77) (.tmp 82) 43 43 rfl _ (.slice (some ⟨wA.heap.size, 0, none⟩) 1 1) (by simp [Act.eval]; rfl) (by simp [Act.eval]) _ (run_append_bs _ w1.heap.size 43 _ 5 i0 (.int .u8 0) Tryz.underlying43 hi hz0 hz1 hz2 rfl _ T _ (by exact OA.out) _ 1 1 [n1] (by exact L1.out) (by omega) (by simp; omega)) ?_; rintro v4 w4 ⟨O4, g4⟩; have F4 := Lib.hid (bf_app HOA.out g4 (by omega)); have s4 := F4.out.size; have zD := (four_cells (F4.out.kept _ _ HZC.out (cellR_notB _))).1; have K4 := Lib.hid (HRK.out.below (HBA.out.trans F4.out.below) (Nat.le_refl _)); have HO4 := Lib.hid O4; clear O4 g4)
          | (refine step_append_run rfl (.tmp 83) (.tmp 85) 43 43 rfl v4 (.slice A1 n1 k1) (by simp [Act.eval]) (by simp [Act.eval]) _ (run_append_bs _ w1.heap.size 43 _ 5 i0 (.int .u8 0) Tryz.underlying43 hi hz0 hz1 hz2 rfl _ (T + 1) _ (by exact HO4.out) A1 n1 k1 y.key (by exact K4.out) (by omega) (by omega)) ?_; rintro v5 w5 ⟨O5, g5⟩; have F5 := Lib.hid (F4.out.trans (Bf.of_own (e := 0) HO4.out g5 (by omega))); have s5 := F5.out.size; have zE := (four_cells (F5.out.kept _ _ HZC.out (cellR_notB _))).1; have HO5 := Lib.hid O5; clear O5 g5))
        have ZF := F5.out.kept _ _ HZC.out (cellR_notB _)
        have B5 := Lib.hid (HBA.out.trans F5.out.below)
        have hO5 := HO5.out
        rw [bv_app, bv_app] at hO5
        have HO := Lib.hid hO5
        have R5 := Lib.hid (R2.out.below B5.out (Nat.le_refl _))
        clear zD zE z0 z1 z2 z3 HO4 HO5 F4 F5 K4 OA HOA L1 HZC R1 hO5 p1
        obtain ⟨z0, z1, z2, z3⟩ := four_cells ZF
        rcases hOk with ⟨p1', p2', p3'⟩ | ⟨⟨p1', p1''⟩, ⟨p2', p2''⟩, p3'⟩
        · have d : (y.size == 0) = true := by simp [p1']
          have hn2 : n2 ≤ 200 := by rw [← R5.out.1]; exact p3'
          have C6 := Lib.hid (fun W => big_any W n2 (by omega) 2 (.inl rfl))
          have HZF := Lib.hid ZF
          have HP1 := Lib.hid p1'
          clear p1' p2' p3' ZF
          go_upto_region 19 with fail
          go_region_held3 (fun w' => w'.cell? ⟨gc, 1, none⟩ = some (.slice A2 n2 k2)) (first | assumption | exact z1 | exact zG | exact zH | exact zI | go_keep) (first
            | (go_at_call 63; refine (C6.out _).mono ?_; rintro e w6 ⟨⟨A6, c6, rfl, r6⟩, b6⟩; have b6' : Below w5.heap.size w5 w6 := ⟨b6.os, b6.tape, b6.output, b6.size, b6.block⟩; have O6 := Lib.hid (own_on HO.out b6'); have R6 := Lib.hid r6; have s6 := b6'.size; have zG := (four_cells ((b6'.block gc (Array.getElem?_eq_some_iff.1 HZF.out).1).trans HZF.out)).2.1; have F6 := Lib.hid (Bf.of_below (base := w1.heap.size) b6' (by omega)); clear b6 b6' r6)
            | (refine step_append_run rfl (.tmp 90) (.tmp 94) 43 43 rfl v5 (.slice A6 2 c6) (by simp [Act.eval]) (by simp [Act.eval]) _ (run_append_bs _ w1.heap.size 43 _ 5 i0 (.int .u8 0) Tryz.underlying43 hi hz0 hz1 hz2 rfl _ (T + 1 + n1) _ (by exact O6.out) A6 2 c6 _ (by exact R6.out) (by omega) (by omega)) ?_; rintro v7 w7 ⟨O7, g7⟩; have F7 := Lib.hid (F6.out.trans (Bf.of_own (e := 0) O6.out g7 (by omega))); have s7 := F7.out.size; have zH := (four_cells (F7.out.kept _ _ HZF.out (cellR_notB _))).2.1; have HO7 := Lib.hid O7; have K7 := Lib.hid (R2.out.below (B5.out.trans F7.out.below) (Nat.le_refl _)); clear O7 g7)
            | (refine step_append_run rfl (.tmp 95) (.tmp 97) 43 43 rfl v7 (.slice A2 n2 k2) (by simp [Act.eval]) (by simp [Act.eval]) _ (run_append_bs _ w1.heap.size 43 _ 5 i0 (.int .u8 0) Tryz.underlying43 hi hz0 hz1 hz2 rfl _ (T + 1 + n1 + 2) _ (by exact HO7.out) A2 n2 k2 y.inl (by exact K7.out) (by omega) (by omega)) ?_; rintro v8 w8 ⟨O8, g8⟩; have F8 := Lib.hid (F7.out.trans (Bf.of_own (e := 0) HO7.out g8 (by omega))); have zI := (four_cells (F8.out.kept _ _ HZF.out (cellR_notB _))).2.1; have HO8 := Lib.hid O8; clear O8 g8))
          have hO8 := HO8.out
          have B8 := B5.out.trans F8.out.below
          have O9 : w8.ownsRow w1.heap.size 5 1 v8 (3 + Nd.lens (cs.take (k + 1))) (bv (1 :: (Nm.be 2 cn ++ Nd.all (cs.take (k + 1))))) := by
            rw [HLN.out, HAL.out, one_plain HP1.out]
            have e1 : 3 + (Nd.lens (cs.take k) + y.len) = T + 1 + n1 + 2 + n2 := by unfold Nd.Cell.len; rw [if_pos HP1.out, HRK.out.1, R2.out.1]; omega
            rw [e1, HRK.out.1, R2.out.1]
            rw [bv_app, bv_app] at hO8
            simpa [List.append_assoc] using hO8
          clear hO8 HO8 F8 F7 F6 HO7 K7 O6 R6 zG zH zI
          go_wp2
          go_roundw
          case rel => exact ⟨k + 1, by omega, by go_num, O9, B8⟩
          case measure => simp [intOf]; omega
        · obtain ⟨zs, hzs⟩ := Int.eq_ofNat_of_zero_le (show 0 ≤ y.size by omega)
          obtain ⟨zh, hzh⟩ := Int.eq_ofNat_of_zero_le (show 0 ≤ y.head by omega)
          have d : (y.size == 0) = false := by simp; omega
          have hzs9 : zs < 9223372036854775808 := by omega
          have hzh9 : zh < 9223372036854775808 := by omega
          rw [hzs, hzh] at ZF
          have HZF := Lib.hid ZF
          have HP1 := Lib.hid (And.intro p1' (And.intro hzs hzh))
          rw [hzs] at z2 d
          rw [hzh] at z3
          clear p1' p1'' p2' p2'' p3' ZF hzs hzh
          have P5 : Hid (Pst w1.heap.size w5 w5 v5 (T + 1 + n1) (1 :: (Nm.be 2 cn ++ Nd.all (cs.take k)) ++ [n1] ++ y.key)) := ⟨Bf.refl _ _, by first | exact HO.out | (rw [← bv_app]; exact HO.out), by omega⟩
          generalize hl5 : 1 :: (Nm.be 2 cn ++ Nd.all (cs.take k)) ++ [n1] ++ y.key = l5 at P5
          have HL5 := Lib.hid hl5
          have hT3 : 3 ≤ T := by omega
          clear HO hl5
          go_upto_region 20 with fail
          go_region_held3 (fun w' => w'.cell? ⟨gc, 2, none⟩ = some (.int .i64 (zs : Int)) ∧ w'.cell? ⟨gc, 3, none⟩ = some (.int .i64 (zh : Int))) ((refine Kp.two ?_ HZF.out; repeat (first | with_reducible exact P5.out.kp | with_reducible exact P6.out.kp | with_reducible exact P7.out.kp | with_reducible exact P8.out.kp | with_reducible exact P9.out.kp | with_reducible exact Pa.out.kp | with_reducible apply Kp.drew | with_reducible apply Kp.alloc))) (first
            | (refine step_append_run rfl (.tmp 107) (.tmp 108) 43 43 rfl v9 (.slice (some ⟨_, 0, none⟩) 2 2) (by simp only [Act.eval]; rfl) (by simp only [Act.eval]; rfl) _ (Pst.run (by repeat (first | with_reducible exact P9.out | with_reducible apply Pst.drew | with_reducible apply Pst.alloc)) (Lt.bs (by repeat (first | with_reducible apply Lt.drew | with_reducible refine Lt.new ?_ | with_reducible apply H9.out | with_reducible apply H8.out | with_reducible apply H7.out | with_reducible apply H6.out | rfl))) (by omega) (by omega) _) ?_; rintro va wa ⟨pa, ha⟩; have Pa := Lib.hid pa; clear pa ha)
            | (refine step_append_run rfl (.tmp 103) (.tmp 106) 43 43 rfl v7 (.slice A8 4 c8) (by simp only [Act.eval]; rfl) (by simp only [Act.eval]; rfl) _ (Pst.run (by repeat (first | with_reducible exact P8.out | with_reducible apply Pst.drew | with_reducible apply Pst.alloc)) (by repeat (first | with_reducible exact R8.out | with_reducible apply bs_drew | with_reducible apply Bs.alloc)) (by omega) (by omega) _) ?_; rintro v9 w9 ⟨p9, h9⟩; have P9 := Lib.hid p9; have H9 := Lib.hid h9; clear p9 h9)
            | (have q7 := P7; clear q7; go_at_call 63; refine (Pst.big (by repeat (first | with_reducible exact P7.out | with_reducible apply Pst.drew | with_reducible apply Pst.alloc)) zh hzh9 4 (.inr rfl)).mono ?_; rintro e w8 ⟨⟨A8, c8, rfl, r8⟩, p8, h8⟩; have P8 := Lib.hid p8; have R8 := Lib.hid r8; have H8 := Lib.hid h8; clear p8 r8 h8)
            | (refine step_append_run rfl (.tmp 99) (.tmp 102) 43 43 rfl v5 (.slice A6 2 c6) (by simp only [Act.eval]; rfl) (by simp only [Act.eval]; rfl) _ (Pst.run (by repeat (first | with_reducible exact P6.out | with_reducible apply Pst.drew | with_reducible apply Pst.alloc)) (by repeat (first | with_reducible exact R6.out | with_reducible apply bs_drew | with_reducible apply Bs.alloc)) (by omega) (by omega) _) ?_; rintro v7 w7 ⟨p7, h7⟩; have P7 := Lib.hid p7; have H7 := Lib.hid h7; clear p7 h7)
            | (go_at_call 63; refine (Pst.big (by repeat (first | with_reducible exact P5.out | with_reducible apply Pst.drew | with_reducible apply Pst.alloc)) zs hzs9 2 (.inl rfl)).mono ?_; rintro e w6 ⟨⟨A6, c6, rfl, r6⟩, p6, h6⟩; have P6 := Lib.hid p6; have R6 := Lib.hid r6; have H6 := Lib.hid h6; clear p6 r6 h6)
            | fail)
          all_goals
            have hO8 := Pa.out.own
            have B8 := B5.out.trans Pa.out.f.below
            have O9 : wa.ownsRow w1.heap.size 5 1 va (3 + Nd.lens (cs.take (k + 1))) (bv (1 :: (Nm.be 2 cn ++ Nd.all (cs.take (k + 1))))) := by
              have hp1 := HP1.out.1
              rw [HLN.out, HAL.out, one_chain (by omega)]
              have e1 : 3 + (Nd.lens (cs.take k) + y.len) = T + 1 + n1 + 2 + 4 + 2 := by unfold Nd.Cell.len; rw [if_neg (by omega), HRK.out.1]; omega
              rw [e1, HRK.out.1, HP1.out.2.1, HP1.out.2.2]
              rw [← HL5.out] at hO8
              simpa [List.append_assoc, Nm.be] using hO8
            clear hO8 Pa P6 P7 P8 P9 P5 R6 R8 H6 H7 H8 H9
            go_wp2
            go_roundw
            case rel => exact ⟨k + 1, by omega, by go_num, O9, B8⟩
            case measure => simp [intOf]; omega
      · obtain rfl : k = cn := by omega
        rw [List.take_of_length_le (by omega)] at hown
        have hown' := hown
        rw [show 3 + Nd.lens cs = (Nd.leafPay cs).length from (Nd.leafPay_len cs).symm, show 1 :: (Nm.be 2 k ++ Nd.all cs) = Nd.leafPay cs from by unfold Nd.leafPay; rw [hn]] at hown'
        obtain ⟨A3, c3, rfl, r3⟩ := Bs.of_own hown' HLT.out
        have RS := Lib.hid (And.intro r3 (own_base hown' (show w.heap.size ≤ w1.heap.size by omega)))
        clear hown hown' r3
        go_wp2
        go_ret
        exact ⟨⟨_, _, _, rfl, by rw [HPY.out]; exact RS.out⟩, onto B1 hbel⟩
  · rw [decide_eq_false hm]
    have hpay : payL cs = [] := if_neg hm
    go_wp2
    go_ret
    exact ⟨⟨_, _, _, rfl, by rw [hpay]; exact Bs.nil_ _ _ _ (Nat.zero_le _), by rw [hpay]; exact World.ownsRow_nil _ _ _ _⟩, B1⟩
end Go.Proofs.YtmcldkcmialfeaaGreat.Nn
