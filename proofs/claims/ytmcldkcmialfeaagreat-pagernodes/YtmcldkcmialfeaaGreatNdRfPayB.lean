/-
  The document's Pay, of a branch.
-/
import Derived.Test.YtmcldkcmialfeaaGreatNdRfPl
namespace Go.Proofs.YtmcldkcmialfeaaGreat.Nn
open Go.RowKit
set_option linter.unusedVariables false

set_option maxRecDepth 100000 in
set_option maxHeartbeats 4000000 in
theorem refPay_branch (w : World) (x : Nv) (ks : List (List Nat)) (ps : List Int) (hk : Ks w x.kA x.kn x.kc ks) (hp : Is w x.pA x.pn x.pc ps) (hb : x.br = true) (hf : Nd.branchLen ks ≤ 1000000000) (hp9 : ps.length ≤ 100000) :
    Calls Tryz.prog 39 #[x.val] w fun e w' => (∃ A n c, e = .returned (.slice A n c) ∧ Bs w' A n c (payB ks ps) ∧ w'.ownsRow w.heap.size 5 1 (.slice A n c) n (bv (payB ks ps))) ∧ Below w.heap.size w w' := by
  obtain ⟨i0, hi, hz0, hz1, hz2⟩ := info_parts Tryz.info5
  have CL := Lib.hid (fun (W : World) (hW : Below w.heap.size w W) => refMay_branch W x ks ps (hk.on hW) (hp.on hW) hb hf hp9)
  obtain ⟨br, cA, cn, cc_, kA, kn, kc, pA, pn, pc⟩ := x
  simp only at hb hk hp
  subst hb
  have hn := hk.len
  have hpn := hp.len
  have hklt := Lib.hid hk.lt
  have B1 : Below w.heap.size w (w.alloc (.cells #[.bool true, .slice cA cn cc_, .slice kA kn kc, .slice pA pn pc] 65)) := (Below.refl _ _).alloc (Nat.le_refl _) _
  have Z1 := heap_alloc_new w (.cells #[.bool true, .slice cA cn cc_, .slice kA kn kc, .slice pA pn pc] 65)
  have s1 : w.heap.size < (w.alloc (.cells #[.bool true, .slice cA cn cc_, .slice kA kn kc, .slice pA pn pc] 65)).heap.size := by simp
  obtain ⟨b0, b1, b2, b3⟩ := four_cells Z1
  have HK := Lib.hid hk
  have HP := Lib.hid hp
  have HB1 := Lib.hid B1
  have HZ1 := Lib.hid Z1
  have C1 := Lib.hid (CL.out _ B1)
  clear hk hp B1 Z1 CL
  unfold Nv.val at *
  simp only at *
  go_enter Tryz.func39, Tryz.ntmps39
  go_wp2_with fail
  generalize w.alloc (.cells #[.bool true, .slice cA cn cc_, .slice kA kn kc, .slice pA pn pc] 65) = w0 at *
  refine C1.out.mono ?_
  rintro e w1 ⟨rfl, b1'⟩
  have B1 := HB1.out.trans (b1'.mono (by omega))
  have Z1 := (b1'.block _ s1).trans HZ1.out
  have hs1 := b1'.size
  clear C1 HB1 HZ1 b1' b0 b1 b2 b3
  obtain ⟨q0, q1, q2, q3⟩ := four_cells Z1
  by_cases hm : Nd.BranchMay ks ps
  · rw [decide_eq_true hm]
    obtain ⟨p, q, rfl⟩ : ∃ p q, ps = p :: q := by
      cases ps with
      | nil => have := hm.2.2.2; simp at this
      | cons p q => exact ⟨p, q, rfl⟩
    have hpay : payB ks (p :: q) = Nd.branchPay ks p q := by unfold payB; rw [if_pos hm]
    have hm16 := hm.1
    have HM := Lib.hid hm
    have HPY := Lib.hid hpay
    have hq : ks.length = q.length := by have := hm.2.2.2; simp at this; omega
    have HQ := Lib.hid hq
    have hnn : pn = kn + 1 := by have := hm.2.2.2; omega
    have hn9 : kn ≤ 1016 := by have := kcount_le ks; unfold Nd.branchLen at hm16; omega
    have HLT := Lib.hid (branchPay_lt (p := p) (q := q) hklt.out (fun y hy => (hm.2.2.1.1 y hy).2))
    have hpg := hm.2.1 p (by simp)
    obtain ⟨hp1, hp2⟩ := hpg
    obtain ⟨zp, rfl⟩ := Int.eq_ofNat_of_zero_le (show 0 ≤ p by omega)
    have HKs := Lib.hid (HK.out.on B1)
    have HPs := Lib.hid (HP.out.on B1)
    have OL : (w1.alloc (.cells #[.int .u8 2] 5)).ownsRow w1.heap.size 5 1 (.slice (some ⟨w1.heap.size, 0, none⟩) 1 1) 1 (bv [2]) := own_lit1 w1 2
    have BL : Below w1.heap.size w1 (w1.alloc (.cells #[.int .u8 2] 5)) := (Below.refl _ _).alloc (Nat.le_refl _) _
    have qL := (BL.cell (p := ⟨w.heap.size, 2, none⟩) (cell_lt q2)).trans q2
    have C2 := Lib.hid (fun W => big_any W kn (by omega) 2 (.inl rfl))
    clear hm hpay hklt
    subst hnn
    go_wp2_with fail
    refine (C2.out _).mono ?_
    rintro e w2 ⟨⟨A2, c2, rfl, r2⟩, b2⟩
    have O2 := own_on OL b2
    have B2 := BL.trans (b2.mono BL.size)
    have hs2 := B2.size
    clear OL BL b2 qL C2
    go_upto_region 5 with (at_builtin; refine wpList_append_bs _ rfl _ _ 43 rfl w1.heap.size 5 i0 (.int .u8 0) Tryz.underlying43 hi hz0 hz1 hz2 rfl _ _ _ rfl O2 _ _ _ _ rfl r2 (by omega) hs2 ?_; intro v3 w3 O3 g3)
    have B3 := below_own B2 O2 g3 hs2 (Nat.le_refl _)
    rw [bv_app] at O3
    clear O2 g3 r2 B2 hs2
    obtain ⟨b, off, z, rfl, hbl, hz, _, cz⟩ := HPs.out.get (k := 0) (by omega)
    simp only [List.getElem?_cons_zero, Option.some.injEq] at hz
    subst hz
    have cz3 := (B3.cell (p := ⟨b, off, none⟩) hbl).trans (by simpa using cz)
    have k3 := (B3.cell (p := ⟨w.heap.size, 3, none⟩) (cell_lt q3)).trans q3
    have hs3 := B3.size
    have C3 := Lib.hid (fun W => big_any W zp (by omega) 4 (.inr rfl))
    clear cz
    go_wp2_with fail
    refine (C3.out _).mono ?_
    rintro e w4 ⟨⟨A4, c4, rfl, r4⟩, b4⟩
    have O4 := own_on O3 b4
    have B4 := B3.trans (b4.mono hs3)
    have hs4 := B4.size
    clear O3 B3 cz3 k3 C3 b4
    go_upto_region 6 with (at_builtin; refine wpList_append_bs _ rfl _ _ 43 rfl w1.heap.size 5 i0 (.int .u8 0) Tryz.underlying43 hi hz0 hz1 hz2 rfl _ _ _ rfl O4 _ _ _ _ rfl r4 (by omega) hs4 ?_; intro v5 w5 O5 g5)
    have B5 := below_own B4 O4 g5 hs4 (Nat.le_refl _)
    rw [bv_app] at O5
    clear O4 g5 r4 B4 hs4
    go_wp2
    go_loopw [3, 4] (fun v i wr => ∃ k : Nat, k ≤ kn ∧ i = .int .i64 (k : Int) ∧ wr.ownsRow w1.heap.size 5 1 v (7 + Nd.klens (ks.take k)) (bv (2 :: (Nm.be 2 kn ++ (Nm.be 4 zp ++ Nd.allK ((ks.zip q).take k))))) ∧ Below w1.heap.size w1 wr) (fun _ i _ => kn - (intOf i).toNat)
    case atStart => exact ⟨0, Nat.zero_le _, rfl, by simpa [Nd.klens, Nd.allK, List.append_assoc] using O5, B5⟩
    case round =>
      clear O5 B5
      obtain ⟨k, hk, rfl, hown, hbel⟩ := hrel
      have p2 := (hbel.cell (p := ⟨w.heap.size, 2, none⟩) (cell_lt q2)).trans q2
      have hsz := hbel.size
      by_cases hlt : k < kn
      · obtain ⟨kb, koff, A1, n1, k1, y, rfl, hbl2, hy, c0, r1, _⟩ := HKs.out.get hlt
        obtain ⟨_, _, z, e5, _, hz, _, cz⟩ := HPs.out.get (k := k + 1) (by omega)
        injection e5 with e5
        injection e5 with e5 e6
        subst e5 e6
        rw [List.getElem?_cons_succ] at hz
        have hl1 := r1.1
        have hkl := (HM.out.2.2.1.1 y (List.mem_of_getElem? hy)).2
        have hzp := HM.out.2.1 z (by simp [List.mem_of_getElem? hz])
        obtain ⟨hz1', hz2'⟩ := hzp
        obtain ⟨zn, rfl⟩ := Int.eq_ofNat_of_zero_le (show 0 ≤ z by omega)
        have f0 := (hbel.cell (p := ⟨kb, koff + k, none⟩) hbl2).trans c0
        have hj1 : (k : Int) < (kn : Int) := by omega
        have hl := klens_take_le ks (k + 1)
        have HLN := Lib.hid (klens_take hy)
        have HAL := Lib.hid (allK_take (zip_at hy hz))
        have hl2 := HLN.out
        unfold Nd.branchLen at hm16
        have L1 := Lib.hid (bs_lit1 wr n1 (by omega))
        have OA := Lib.hid (hown.alloc (.cells #[.int .u8 (n1 : Int)] 5))
        have HOW := Lib.hid hown
        have HBL := Lib.hid hbel
        have HR1 := Lib.hid r1
        have HC0 := Lib.hid c0
        have HCZ := Lib.hid cz
        have hu8 : IntKind.u8.wrap (n1 : Int) = (n1 : Int) := by rw [IntKind.wrap_u8]; omega
        generalize hT : 7 + Nd.klens (ks.take k) = T at *
        have hT9 : T ≤ 1019 := by omega
        have HT := Lib.hid hT
        clear c0 r1 hy hz hown hbel cz hl2 hl hT
        go_wp2_with fail
        go_region_held3 (fun w' => w'.cell? ⟨w.heap.size, 2, none⟩ = some (.slice (some ⟨kb, koff, none⟩) kn kc) ∧ w'.cell? ⟨kb, koff + k, none⟩ = some (.slice A1 n1 k1)) (first | assumption | exact ⟨p2, f0⟩ | exact zD | exact zE | go_keep) (first
          | (refine step_append_run rfl (.tmp 33) (.tmp 41) 43 43 rfl _ (.slice (some ⟨wr.heap.size, 0, none⟩) 1 1) (by simp [Act.eval]; rfl) (by simp [Act.eval]) _ (run_append_bs _ w1.heap.size 43 _ 5 i0 (.int .u8 0) Tryz.underlying43 hi hz0 hz1 hz2 rfl _ T _ (by exact OA.out) _ 1 1 [n1] (by exact L1.out) (by omega) (by simp; omega)) ?_; rintro v4 w4 ⟨O4, g4⟩; have F4 := Lib.hid (HBL.out.trans (bf_app HOW.out g4 (by omega)).below); have s4 := F4.out.size; have zD := And.intro ((F4.out.cell (p := ⟨w.heap.size, 2, none⟩) (cell_lt q2)).trans q2) ((F4.out.cell (p := ⟨kb, koff + k, none⟩) hbl2).trans HC0.out); have K4 := Lib.hid (HR1.out.below F4.out (Nat.le_refl _)); have HO4 := Lib.hid O4; clear O4 g4)
          | (refine step_append_run rfl (.tmp 42) (.tmp 47) 43 43 rfl v4 (.slice A1 n1 k1) (by simp [Act.eval]) (by simp [Act.eval]) _ (run_append_bs _ w1.heap.size 43 _ 5 i0 (.int .u8 0) Tryz.underlying43 hi hz0 hz1 hz2 rfl _ (T + 1) _ (by exact HO4.out) A1 n1 k1 y (by exact K4.out) (by omega) (by omega)) ?_; rintro v5 w5 ⟨O5, g5⟩; have F5 := Lib.hid (below_own F4.out HO4.out g5 s4 (Nat.le_refl _)); have s5 := F5.out.size; have zE := And.intro ((F5.out.cell (p := ⟨w.heap.size, 2, none⟩) (cell_lt q2)).trans q2) ((F5.out.cell (p := ⟨kb, koff + k, none⟩) hbl2).trans HC0.out); have HO5 := Lib.hid O5; clear O5 g5)
          | fail)
        have hO5 := HO5.out
        rw [bv_app, bv_app] at hO5
        have p3' := (F5.out.cell (p := ⟨w.heap.size, 3, none⟩) (cell_lt q3)).trans q3
        have cz5 := (F5.out.cell (p := ⟨b, off + (k + 1), none⟩) hbl).trans HCZ.out
        have B5 := F5.out
        have C6 := Lib.hid (fun W => big_any W zn (by omega) 4 (.inr rfl))
        have hj2 : (k : Int) + 1 < (kn : Int) + 1 := by omega
        clear zD zE HO4 HO5 K4 OA HOW L1 HR1 HC0 HCZ p2 f0 F4 F5 HBL
        go_wp2_with fail
        refine (C6.out _).mono ?_
        rintro e w6 ⟨⟨A6, c6, rfl, r6⟩, b6⟩
        have O6 := own_on hO5 b6
        have B6 := B5.trans (b6.mono s5)
        have hs6 := B6.size
        clear hO5 B5 b6 p3' cz5 C6
        go_upto_region 8 with (at_builtin; refine wpList_append_bs _ rfl _ _ 43 rfl w1.heap.size 5 i0 (.int .u8 0) Tryz.underlying43 hi hz0 hz1 hz2 rfl _ _ _ rfl O6 _ _ _ _ rfl r6 (by omega) hs6 ?_; intro v7 w7 O7 g7)
        have B7 := below_own B6 O6 g7 hs6 (Nat.le_refl _)
        rw [bv_app] at O7
        have O9 : w7.ownsRow w1.heap.size 5 1 v7 (7 + Nd.klens (ks.take (k + 1))) (bv (2 :: (Nm.be 2 kn ++ (Nm.be 4 zp ++ Nd.allK ((ks.zip q).take (k + 1)))))) := by
          rw [HLN.out, HAL.out]
          unfold Nd.oneK
          rw [hl1]
          have e7 : 7 + (Nd.klens (ks.take k) + (5 + n1)) = T + 1 + n1 + 4 := by have := HT.out; omega
          rw [e7]
          simpa [List.append_assoc] using O7
        clear O7 g7 O6 B6 r6
        go_wp2
        go_roundw
        case rel => exact ⟨k + 1, by omega, by go_num, O9, B7⟩
        case measure => simp [intOf]; omega
      · obtain rfl : k = kn := by omega
        have hown' := hown
        rw [List.take_of_length_le (by omega), List.take_of_length_le (by rw [List.length_zip]; omega), show 7 + Nd.klens ks = (Nd.branchPay ks (zp : Int) q).length from (Nd.branchPay_len HQ.out).symm, show 2 :: (Nm.be 2 k ++ (Nm.be 4 zp ++ Nd.allK (ks.zip q))) = Nd.branchPay ks (zp : Int) q from by unfold Nd.branchPay; rw [hn]; rfl] at hown'
        obtain ⟨A3, c3, rfl, r3⟩ := Bs.of_own hown' HLT.out
        have RS := Lib.hid (And.intro r3 (own_base hown' (show w.heap.size ≤ w1.heap.size by omega)))
        clear hown hown' r3
        go_wp2
        go_ret
        exact ⟨⟨_, _, _, rfl, by rw [HPY.out]; exact RS.out⟩, onto B1 hbel⟩
  · rw [decide_eq_false hm]
    have hpay : payB ks ps = [] := if_neg hm
    go_wp2
    go_ret
    exact ⟨⟨_, _, _, rfl, by rw [hpay]; exact Bs.nil_ _ _ _ (Nat.zero_le _), by rw [hpay]; exact World.ownsRow_nil _ _ _ _⟩, B1⟩
end Go.Proofs.YtmcldkcmialfeaaGreat.Nn
