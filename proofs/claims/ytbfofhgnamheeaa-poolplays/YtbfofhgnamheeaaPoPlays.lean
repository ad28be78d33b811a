/-
  PoolPlays: the walk.
-/
import Derived.Test.YtbfofhgnamheeaaPoTwo
import Derived.Deep.CutBlock
namespace Go.Proofs.Ytbfofhgnamheeaa.Pq
open Go.RowKit
set_option linter.unusedVariables false

set_option maxRecDepth 100000 in
set_option maxHeartbeats 6000000 in
theorem poolPlays_walk (w : World) (x : Bg) (hx : x.Is w) (A : Option Addr) (n c : Nat) (L : List Dov) (hL : Ds w A n c L) :
    Calls Try.prog 3 #[x.val, .slice A n c] w fun e w' => e = .returned (.bool true) ∧ Below w.heap.size w w' := by
  have HX := Lib.hid hx
  have HD := Lib.hid hL
  have hln := hL.2.1
  have hlm := hL.2.2.1
  have B0 := (Below.refl _ w).alloc (Nat.le_refl _) (.cells #[.int .i64 x.cap, .int .i64 x.high, .slice x.A x.n x.c] 24)
  have HB0 := Lib.hid B0
  have HX0 := Lib.hid (bx_new w x 24)
  have hnc := hx.fs.2.1
  have hcm := hx.fs.2.2.1
  unfold maxLen at hcm hlm
  unfold Bg.val
  clear hx B0 hL
  go_enter Try.func3, Try.ntmps3
  go_wp2_with fail
  refine (awake_any _).mono ?_
  rintro e v1 ⟨rfl, B1⟩
  have hb1 : Below w.heap.size w v1 := onto HB0.out B1
  have hx1 := HX0.out.on (by simp) B1
  have k0 := hx1.c0
  have k1 := hx1.c1
  have k2 := hx1.c2
  have HB1 := Lib.hid hb1
  have HX1 := Lib.hid hx1
  have HWS : Hid (w.heap.size < v1.heap.size) := by have := B1.size; simp at this; exact this
  clear hb1 B1 HB0 hx1
  by_cases hn : x.n ≤ 100
  · have z1 : ¬ ((100 : Int) < (x.n : Int)) := by omega
    have CN := Lib.hid (new_any v1 x.cap x.high x.A x.n x.c x.l (HX.out.fs.on HB1.out) ⟨HX.out.cap, HX.out.high⟩ hn)
    go_wp2_with fail
    refine CN.out.mono ?_
    rintro e v2 ⟨p, mb, rfl, hP, B2⟩
    have hb2 := onto HB1.out B2
    have hx2 := HX1.out.on HWS.out B2
    have j0 := hx2.c0
    have j1 := hx2.c1
    have j2 := hx2.c2
    have CR := Lib.hid (rnew_any v2 x.cap x.high x.A x.n x.c x.l (HX.out.fs.on hb2) ⟨HX.out.cap, HX.out.high⟩ hn)
    have HB2 := Lib.hid hb2
    have HP := Lib.hid hP
    have HV12 : Hid (v1.heap.size ≤ v2.heap.size) := B2.size
    clear CN k0 k1 k2 hP B2 hb2 hx2
    cases hN : newOf x.cap x.high x.l with
    | none =>
      simp only [newV]
      rw [hN] at CR
      go_wp2_with fail
      refine CR.out.mono ?_
      rintro e v3 ⟨q, rfl, _, B3⟩
      simp only [newV]
      have HB3 := Lib.hid (onto HB2.out B3)
      clear B3 hN CR
      go_wp2
      go_ret
      exact ⟨rfl, HB3.out⟩
    | some d =>
      simp only [newV]
      rw [hN] at CR
      go_wp2_with fail
      refine CR.out.mono ?_
      rintro e v3 ⟨q, rfl, hR, B3⟩
      simp only [newV]
      obtain ⟨hPd, hp, hm⟩ := HP.out d hN
      obtain ⟨hR, hq⟩ := hR d rfl
      have hT : Tw w v3 p mb q d d := ⟨hPd.on B3, hR, by have := HB1.out.size; omega, by have := HB1.out.size; omega, by have := HB2.out.size; omega, onto HB2.out B3⟩
      have HT0 := Lib.hid hT
      clear hPd hp hm hq B3 hN CR j0 j1 j2 HP hT hR
      go_wp2_with fail
      go_loopw [5, 9] (fun v5 i wr => ∃ (k p mb : Nat) (d : Pl.Pd), v5 = .pointer (some ⟨p, 0, none⟩) ∧ k ≤ n ∧ k ≤ 60 ∧ i = .int .i64 (k : Int) ∧ Tw w wr p mb q d d) (fun _ i _ => n - (intOf i).toNat)
      case atStart => exact ⟨0, p, mb, d, rfl, Nat.zero_le _, Nat.zero_le _, rfl, HT0.out⟩
      case round =>
        obtain ⟨k, p, mb, d, rfl, hk, hk6, rfl, hT⟩ := hrel
        have HT := Lib.hid hT
        clear HT0
        by_cases hlt : k < n
        · have y1 : (k : Int) < (n : Int) := by omega
          by_cases hlt6 : k < 60
          · have y2 : (k : Int) < 60 := by omega
            obtain ⟨b, off, s, rfl, hbl, hs, hin, ha⟩ := (HD.out.on hT.bel).get hlt
            have s0 := ha.c0
            have s1 := ha.c1
            have s2 := ha.c2
            have HIn := Lib.hid hin
            have hB3 := (Below.refl _ wr).alloc (Nat.le_refl _) (.cells #[.int .i64 s.kind, .int .i64 s.page, .int .u64 (s.gen : Int)] 36)
            have HT3 := Lib.hid (hT.on hB3)
            have BX : Hid ((wr.alloc (.cells #[.int .i64 s.kind, .int .i64 s.page, .int .u64 (s.gen : Int)] 36)).heap[wr.heap.size]? = some (.cells #[.int .i64 s.kind, .int .i64 s.page, .int .u64 (s.gen : Int)] 36 (0, 0))) := heap_alloc_new wr _
            clear hT ha hin hs hbl hB3
            go_upto_block 2 with fail
            generalize hW : wr.alloc (.cells #[.int .i64 s.kind, .int .i64 s.page, .int .u64 (s.gen : Int)] 36) = W at *
            clear hW s0 s1 s2
            go_cut [5, 11, 12, 13, 14, 15] from 76 to 140 (fun v5 _ _ _ _ _ wx => ∃ (p mb : Nat) (d : Pl.Pd), v5 = .pointer (some ⟨p, 0, none⟩) ∧ Tw w wx p mb q d d)
            case first =>
              have BC : Hid (∀ w' : World, w'.heap[wr.heap.size]? = some (.cells #[.int .i64 s.kind, .int .i64 s.page, .int .u64 (s.gen : Int)] 36 (0, 0)) → w'.cell? ⟨wr.heap.size, 1, none⟩ = some (.int .i64 s.page) ∧ w'.cell? ⟨wr.heap.size, 2, none⟩ = some (.int .u64 (s.gen : Int))) := fun w' h => ⟨cell_of_row w' _ 1 _ _ (0, 0) h, cell_of_row w' _ 2 _ _ (0, 0) h⟩
              have b0 := BC.out W BX.out
              obtain ⟨t1, t2⟩ := b0
              by_cases q0 : s.kind = 0
              · have e0 : (s.kind == 0) = true := by simpa using q0
                have CA := Lib.hid (alloc_any W p mb d s.gen HT3.out.po)
                clear q0
                go_wp2_with fail
                refine CA.out.mono ?_
                rintro e w1 ⟨rfl, hP1, o1⟩
                have T1 := HT3.out.left hP1 o1
                have bx1 := o1.at_ BX.out (mine_free HT3.out.po BX.out (by decide))
                obtain ⟨u1, u2⟩ := BC.out w1 bx1
                obtain ⟨v1, hR1⟩ := T1.rf
                have CR := Lib.hid (ralloc_any w1 q v1 d s.gen hR1)
                have HT1 := Lib.hid T1
                clear hP1 o1 T1 bx1 hR1 CA t1 t2
                go_wp2_with fail
                refine CR.out.mono ?_
                rintro e w2 ⟨rfl, hR2, o2⟩
                have HT2 := Lib.hid (HT1.out.right hR2 o2)
                have a1 : (Pl.allocNo d s.gen != Pl.allocNo d s.gen) = false := by simp
                have a2 : (Pl.allocCode d s.gen != Pl.allocCode d s.gen) = false := by simp
                clear hR2 o2 CR u1 u2
                go_wp2
                go_meet
                exact ⟨p, mb, _, rfl, HT2.out⟩
              · have e0 : (s.kind == 0) = false := by simpa using q0
                have HTd : Hid (Tw w W.drew p mb q d d) := HT3.out.drewN 1
                have BXd : Hid (W.drew.heap[wr.heap.size]? = some (.cells #[.int .i64 s.kind, .int .i64 s.page, .int .u64 (s.gen : Int)] 36 (0, 0))) := BX.out
                by_cases q1 : s.kind = 1
                · have e1 : (s.kind == 1) = true := by simpa using q1
                  have CF := Lib.hid (free_any W.drew p mb d s.page s.gen HTd.out.po HIn.out.page HIn.out.gen)
                  have a1 : (Pl.freeCode d s.page != Pl.freeCode d s.page) = false := by simp
                  clear q0 q1
                  go_wp2_with fail
                  go_region_held3 (fun w' => w'.cell? ⟨wr.heap.size, 1, none⟩ = some (.int .i64 s.page) ∧ w'.cell? ⟨wr.heap.size, 2, none⟩ = some (.int .u64 (s.gen : Int))) (first | assumption | exact ⟨t1, t2⟩ | go_keep) (first
                    | (go_at_call 14; refine CF.out.mono ?_; rintro e w1 ⟨rfl, hP1, o1⟩; have T1 := HTd.out.left hP1 o1; have bx1 := o1.at_ BXd.out (mine_free HTd.out.po BXd.out (by decide)); have S1 : (fun w' : World => w'.cell? ⟨wr.heap.size, 1, none⟩ = some (.int .i64 s.page) ∧ w'.cell? ⟨wr.heap.size, 2, none⟩ = some (.int .u64 (s.gen : Int))) w1 := BC.out w1 bx1; obtain ⟨v1, hR1⟩ := T1.rf)
                    | (go_at_call 15; refine (rfree_any w1 q v1 d s.page s.gen hR1 HIn.out.page HIn.out.gen).mono ?_; rintro e w2 ⟨rfl, hR2, o2⟩; have T2 := T1.right hR2 o2; have bx2 := o2.at_ bx1 (fun hk => by have := hR1.str; rw [← hk, bx1] at this; simp at this); have S2 : (fun w' : World => w'.cell? ⟨wr.heap.size, 1, none⟩ = some (.int .i64 s.page) ∧ w'.cell? ⟨wr.heap.size, 2, none⟩ = some (.int .u64 (s.gen : Int))) w2 := BC.out w2 bx2))
                  all_goals
                    have HT2 := Lib.hid T2
                    clear T1 T2 hP1 o1 bx1 S1 hR1 hR2 o2 bx2 S2
                    go_wp2
                    go_meet
                    exact ⟨p, mb, _, rfl, HT2.out⟩
                · have e1 : (s.kind == 1) = false := by simpa using q1
                  by_cases q2 : s.kind = 2
                  · have e2 : (s.kind == 2) = true := by simpa using q2
                    have CT := Lib.hid (trim_any W.drew p mb d s.gen HTd.out.po)
                    have a1 : (((Pl.trim d s.gen).2 : Int) != ((Pl.trim d s.gen).2 : Int)) = false := by simp
                    clear q0 q1 q2
                    go_wp2_with fail
                    go_region_held3 (fun w' => w'.cell? ⟨wr.heap.size, 2, none⟩ = some (.int .u64 (s.gen : Int))) (first | assumption | exact t2 | go_keep) (first
                      | (go_at_call 16; refine CT.out.mono ?_; rintro e w1 ⟨rfl, hP1, o1⟩; have T1 := HTd.out.left hP1 o1; have bx1 := o1.at_ BXd.out (mine_free HTd.out.po BXd.out (by decide)); have S1 : (fun w' : World => w'.cell? ⟨wr.heap.size, 2, none⟩ = some (.int .u64 (s.gen : Int))) w1 := (BC.out w1 bx1).2; obtain ⟨v1, hR1⟩ := T1.rf)
                      | (go_at_call 17; refine (rtrim_any w1 q v1 d s.gen hR1).mono ?_; rintro e w2 ⟨rfl, hR2, o2⟩; have T2 := T1.right hR2 o2; have bx2 := o2.at_ bx1 (fun hk => by have := hR1.str; rw [← hk, bx1] at this; simp at this); have S2 : (fun w' : World => w'.cell? ⟨wr.heap.size, 2, none⟩ = some (.int .u64 (s.gen : Int))) w2 := (BC.out w2 bx2).2))
                    all_goals
                      have HT2 := Lib.hid T2
                      clear T1 T2 hP1 o1 bx1 S1 hR1 hR2 o2 bx2 S2
                      go_wp2
                      go_meet
                      exact ⟨p, mb, _, rfl, HT2.out⟩
                  · have e2 : (s.kind == 2) = false := by simpa using q2
                    have CC := Lib.hid (clone_any W p mb d HT3.out.po)
                    clear q0 q1 q2
                    go_wp2_with fail
                    refine CC.out.mono ?_
                    rintro e w1 ⟨p', mb', rfl, hPc, hp', hm', B1⟩
                    have T1 := HT3.out.on B1
                    have bx1 := (B1.block wr.heap.size (Array.getElem?_eq_some_iff.1 BX.out).1).trans BX.out
                    obtain ⟨u1, u2⟩ := BC.out w1 bx1
                    have CA := Lib.hid (alloc_any w1 p mb d s.gen T1.po)
                    have hne : ∀ j, Mine p' mb' j → ¬ Mine p mb j := by
                      have h1 := HT3.out.po.p_lt
                      have h2 := HT3.out.po.mb_lt
                      rintro j (rfl | rfl) (hj | hj) <;> omega
                    have HNE := Lib.hid hne
                    have H1 := Lib.hid (And.intro T1 (And.intro hPc (And.intro bx1 (And.intro hp' hm'))))
                    clear T1 bx1 hne hPc hp' hm' B1 CC t1 t2
                    go_wp2_with fail
                    refine CA.out.mono ?_
                    rintro e w2 ⟨rfl, hP2, o2⟩
                    obtain ⟨T1, hPc, bx1, hp', hm'⟩ := H1.out
                    have T2 := T1.left hP2 o2
                    have hPc2 := hPc.off o2 HNE.out
                    have bx2 := o2.at_ bx1 (mine_free T1.po bx1 (by decide))
                    obtain ⟨z1', z2'⟩ := BC.out w2 bx2
                    have CF := Lib.hid (free_any w2 p mb _ s.page s.gen T2.po HIn.out.page HIn.out.gen)
                    have H2 := Lib.hid (And.intro T2 (And.intro hPc2 (And.intro hp' hm')))
                    clear T1 T2 hPc hPc2 bx1 bx2 hP2 o2 hp' hm' CA u1 u2 H1
                    go_wp2_with fail
                    refine CF.out.mono ?_
                    rintro e w3 ⟨rfl, hP3, o3⟩
                    obtain ⟨T2, hPc2, hp', hm'⟩ := H2.out
                    have T3 := T2.left hP3 o3
                    have hws := HT3.out.bel.size
                    have HT4 : Hid (Tw w w3 p' mb' q d d) := ⟨hPc2.off o3 HNE.out, T3.rf, by omega, by omega, T3.hq, T3.bel⟩
                    clear T2 T3 hPc2 hP3 o3 hp' hm' CF H2 z1' z2'
                    go_wp2
                    go_meet
                    exact ⟨p', mb', d, rfl, HT4.out⟩
            case rest =>
              obtain ⟨p, mb, d, rfl, hT⟩ := hcut
              have HT := Lib.hid hT
              clear hT HT3 BX
              obtain ⟨rv, hRv⟩ := HT.out.rf
              obtain ⟨rA, rc, hrv, hFr⟩ := hRv.fs
              subst hrv
              obtain ⟨m, hm⟩ : ∃ m, m = d.l.length := ⟨_, rfl⟩
              rw [← hm] at hRv hFr
              have g1 := hRv.c1
              have g2 := hRv.c2
              have HFr := Lib.hid hFr
              have HRV := Lib.hid hRv
              have CH := Lib.hid (fun mm => high_any (wc.drewN mm) p mb d (HT.out.po.drewN mm))
              have CL := Lib.hid (fun mm => list_any (wc.drewN mm) p mb d (HT.out.po.drewN mm))
              have e1 : (d.high != d.high) = false := by simp
              have e2 : (d.high == d.high) = true := by simp
              clear hRv hFr hm
              go_wp2_with fail
              go_region_held3 (fun w' => w'.cell? ⟨q, 1, none⟩ = some (.int .i64 d.high) ∧ w'.cell? ⟨q, 2, none⟩ = some (.slice rA m rc)) (first | assumption | exact ⟨g1, g2⟩ | go_keep) (first
                | (go_at_call 19; refine (CH.out 1).mono ?_; rintro e u1 ⟨rfl, rfl⟩)
                | (go_at_call 21; refine (CL.out 1).mono ?_; rintro e u2 ⟨vq, rfl, O10, B10⟩; obtain ⟨qA, qc, rfl, F10⟩ := fs_own O10 (in_ok HT.out.po.ok); have hR10 := HRV.out.on (below_drewN (Below.refl _ _) 1) |>.on B10; have S2 : (fun w' : World => w'.cell? ⟨q, 1, none⟩ = some (.int .i64 d.high) ∧ w'.cell? ⟨q, 2, none⟩ = some (.slice rA m rc)) u2 := ⟨hR10.c1, hR10.c2⟩)
                | (go_at_call 20; refine (sameF_any u2 _ _ _ _ _ _ d.l d.l F10 ((HFr.out.drewN 1).on B10)).mono ?_; rintro e u3 ⟨rfl, m3, rfl⟩; rw [show decide (d.l = d.l) = true from by simp]))
              all_goals
                have HTe := Lib.hid ((HT.out.drewN 1).on (onto B10 (below_drewN (Below.refl _ u2) m3)))
                clear O10 B10 F10 hR10 S2
                go_wp2
                go_roundw
                case rel => exact ⟨k + 1, p, mb, d, rfl, by omega, by omega, by go_num, HTe.out⟩
                case measure => simp [intOf]; omega
          · have y2 : ¬ ((k : Int) < 60) := by omega
            have y2' : decide ((k : Int) < 60) = false := by simp; omega
            clear hT
            obtain ⟨rv, hRv⟩ := HT.out.rf
            obtain ⟨rA, rc, hrv, hFr⟩ := hRv.fs
            subst hrv
            obtain ⟨m, hm⟩ : ∃ m, m = d.l.length := ⟨_, rfl⟩
            rw [← hm] at hRv hFr
            have g1 := hRv.c1
            have g2 := hRv.c2
            have HFr := Lib.hid hFr
            have HRV := Lib.hid hRv
            have CH := Lib.hid (fun mm => high_any (wr.drewN mm) p mb d (HT.out.po.drewN mm))
            have CL := Lib.hid (fun mm => list_any (wr.drewN mm) p mb d (HT.out.po.drewN mm))
            have e1 : (d.high != d.high) = false := by simp
            have e2 : (d.high == d.high) = true := by simp
            clear hRv hFr hm
            go_wp2_with fail
            go_region_held3 (fun w' => w'.cell? ⟨q, 1, none⟩ = some (.int .i64 d.high) ∧ w'.cell? ⟨q, 2, none⟩ = some (.slice rA m rc)) (first | assumption | exact ⟨g1, g2⟩ | go_keep) (first
              | (go_at_call 19; refine (CH.out 1).mono ?_; rintro e u1 ⟨rfl, rfl⟩)
              | (go_at_call 21; refine (CL.out 1).mono ?_; rintro e u2 ⟨vq, rfl, O10, B10⟩; obtain ⟨qA, qc, rfl, F10⟩ := fs_own O10 (in_ok HT.out.po.ok); have hR10 := HRV.out.on (below_drewN (Below.refl _ _) 1) |>.on B10; have S2 : (fun w' : World => w'.cell? ⟨q, 1, none⟩ = some (.int .i64 d.high) ∧ w'.cell? ⟨q, 2, none⟩ = some (.slice rA m rc)) u2 := ⟨hR10.c1, hR10.c2⟩)
              | (go_at_call 20; refine (sameF_any u2 _ _ _ _ _ _ d.l d.l F10 ((HFr.out.drewN 1).on B10)).mono ?_; rintro e u3 ⟨rfl, m3, rfl⟩; rw [show decide (d.l = d.l) = true from by simp]))
            all_goals
              have HBe := Lib.hid ((HT.out.drewN 1).on (onto B10 (below_drewN (Below.refl _ u2) m3))).bel
              clear O10 B10 F10 hR10 S2
              go_wp2
              go_ret
              exact ⟨rfl, HBe.out⟩
        · have y1 : ¬ ((k : Int) < (n : Int)) := by omega
          have y1' : decide ((k : Int) < (n : Int)) = false := by simp; omega
          clear hT
          obtain ⟨rv, hRv⟩ := HT.out.rf
          obtain ⟨rA, rc, hrv, hFr⟩ := hRv.fs
          subst hrv
          obtain ⟨m, hm⟩ : ∃ m, m = d.l.length := ⟨_, rfl⟩
          rw [← hm] at hRv hFr
          have g1 := hRv.c1
          have g2 := hRv.c2
          have HFr := Lib.hid hFr
          have HRV := Lib.hid hRv
          have CH := Lib.hid (fun mm => high_any (wr.drewN mm) p mb d (HT.out.po.drewN mm))
          have CL := Lib.hid (fun mm => list_any (wr.drewN mm) p mb d (HT.out.po.drewN mm))
          have e1 : (d.high != d.high) = false := by simp
          have e2 : (d.high == d.high) = true := by simp
          clear hRv hFr hm
          go_wp2_with fail
          go_region_held3 (fun w' => w'.cell? ⟨q, 1, none⟩ = some (.int .i64 d.high) ∧ w'.cell? ⟨q, 2, none⟩ = some (.slice rA m rc)) (first | assumption | exact ⟨g1, g2⟩ | go_keep) (first
            | (go_at_call 19; refine (CH.out 1).mono ?_; rintro e u1 ⟨rfl, rfl⟩)
            | (go_at_call 21; refine (CL.out 1).mono ?_; rintro e u2 ⟨vq, rfl, O10, B10⟩; obtain ⟨qA, qc, rfl, F10⟩ := fs_own O10 (in_ok HT.out.po.ok); have hR10 := HRV.out.on (below_drewN (Below.refl _ _) 1) |>.on B10; have S2 : (fun w' : World => w'.cell? ⟨q, 1, none⟩ = some (.int .i64 d.high) ∧ w'.cell? ⟨q, 2, none⟩ = some (.slice rA m rc)) u2 := ⟨hR10.c1, hR10.c2⟩)
            | (go_at_call 20; refine (sameF_any u2 _ _ _ _ _ _ d.l d.l F10 ((HFr.out.drewN 1).on B10)).mono ?_; rintro e u3 ⟨rfl, m3, rfl⟩; rw [show decide (d.l = d.l) = true from by simp]))
          all_goals
            have HBe := Lib.hid ((HT.out.drewN 1).on (onto B10 (below_drewN (Below.refl _ u2) m3))).bel
            clear O10 B10 F10 hR10 S2
            go_wp2
            go_ret
            exact ⟨rfl, HBe.out⟩
  · have z1 : (100 : Int) < (x.n : Int) := by omega
    go_wp2
    go_ret
    exact ⟨rfl, HB1.out⟩

end Go.Proofs.Ytbfofhgnamheeaa.Pq
