/-
  RootsChange, walked.
-/
import Derived.Test.YtbhahihgojhcmaaRtOrder
namespace Go.Proofs.Ytbhahihgojhcmaa.Rt
open Go.RowKit
set_option linter.unusedVariables false

theorem find_with_zero {L : List Rm.R} {r : Rm.R} (h : withCode L r = 0) : Rm.find (withL L r) r.name = some r := by
  rw [withL_zero h]; exact Rm.find_with L r
theorem may_with_zero {L : List Rm.R} {r : Rm.R} (hm : Rm.may L = true) (h : withCode L r = 0) : Rm.may (withL L r) = true := by
  have h0 := code_zero h
  rw [withL_zero h]; exact Rm.may_with hm h0.1 h0.2

set_option maxRecDepth 100000 in
set_option maxHeartbeats 4000000 in
theorem rootsChange_walk (w : World) (A : Option Addr) (n c : Nat) (l : List Rm.R) (h : Rs w A n c l) (r : Rm.R) (hr : In r) (nm : List Nat) (hn : ∀ z ∈ nm, z < 256) :
    Calls Try.prog 4 #[.slice A n c, rv r, .string (txt nm)] w fun e w' => e = .returned (.bool true) ∧ Below w.heap.size w w' := by
  have B0 : Below w.heap.size w (w.alloc (.cells #[.string (txt r.name), .int .i64 r.page, .int .i64 r.count] 34)) := (Below.refl _ _).alloc (Nat.le_refl _) _
  have K0 := Rb.new w r
  have C0 := Lib.hid awake_any
  have HIN := Lib.hid hr
  have HNM := Lib.hid hn
  have hl := h.1
  have hcm := h.2.2.1
  have hnc := h.2.1
  unfold maxLen at hcm
  have HR0 := Lib.hid (h.on B0)
  have HB0 := Lib.hid B0
  have HK0 := Lib.hid K0
  clear hr hn h B0 K0
  unfold rv at *
  go_enter Try.func4, Try.ntmps4
  go_wp2_with fail
  generalize w.alloc (.cells #[.string (txt r.name), .int .i64 r.page, .int .i64 r.count] 34) = w0 at *
  refine (C0.out _).mono ?_
  rintro e w1 ⟨rfl, b1⟩
  have HB1 := Lib.hid (onto HB0.out b1)
  have HK1 := Lib.hid (HK0.out.on b1)
  have HR1 := Lib.hid (HR0.out.on b1)
  have C1 := Lib.hid (rfMay_any w1 A n c l HR1.out)
  clear C0 b1 HB0 HK0 HR0
  go_wp2_with fail
  refine C1.out.mono ?_
  rintro e w2 ⟨rfl, b2⟩
  have HB2 := Lib.hid (onto HB1.out b2)
  have HK2 := Lib.hid (HK1.out.on b2)
  have HR2 := Lib.hid (HR1.out.on b2)
  obtain ⟨d0, d1, d2⟩ := HK2.out.three
  clear C1 b2 HB1 HK1 HR1
  cases hmay : Rm.may l with
  | false =>
    go_wp2
    go_ret
    exact ⟨rfl, HB2.out⟩
  | true =>
    by_cases hb1 : 300 < (txt nm).size
    · have hb1' : (300 : Int) < ((txt nm).size : Int) := by omega
      go_wp2
      go_ret
      exact ⟨rfl, HB2.out⟩
    · have hb1' : ¬ (300 : Int) < ((txt nm).size : Int) := by omega
      by_cases hb2 : 300 < (txt r.name).size
      · have hb2' : (300 : Int) < ((txt r.name).size : Int) := by omega
        go_wp2
        go_ret
        exact ⟨rfl, HB2.out⟩
      · have hb2' : ¬ (300 : Int) < ((txt r.name).size : Int) := by omega
        have HMAY := Lib.hid hmay
        have hn12 : n ≤ 12 := by rw [← hl]; exact Rm.may_len hmay
        have bE : Below w2.heap.size w2 (w2.alloc (.cells #[] 34)) := (Below.refl _ _).alloc (Nat.le_refl _) _
        have AP := Lib.hid (fun ty => run_append_rs (w2.alloc (.cells #[] 34)) w2.heap.size ty _ [] (own_empty w2 w2.heap.size (Nat.le_refl _)) A n c l (HR2.out.on bE) (by simp; omega) bE.size)
        have HE := Lib.hid (own_empty w2 w2.heap.size (Nat.le_refl _))
        have HBE := Lib.hid bE
        clear hmay bE
        go_wp2_with (at_builtin; refine wpList_append_ran _ rfl _ _ 22 22 rfl _ _ rfl rfl _ (AP.out _) ?_; rintro v3 w3 ⟨O3, G3⟩; rw [List.nil_append] at O3; have b3 := below_own HBE.out HE.out G3 HBE.out.size (Nat.le_refl _); clear d0 d1 d2; obtain ⟨d0, d1, d2⟩ := (HK2.out.on b3).three; obtain ⟨A3, c3, rfl, R3⟩ := rs_own O3 HR2.out.2.2.2.1; rw [hl] at R3; simp only [hl])
        have C4 := Lib.hid (with_any w3 A3 n c3 l r R3 HIN.out (by omega))
        have HR3 := Lib.hid (HR2.out.on b3)
        have HO3 := Lib.hid R3
        have HK3 := Lib.hid (HK2.out.on b3)
        have HB3 := Lib.hid (onto HB2.out b3)
        unfold WithSays rv at C4
        clear AP HE HBE O3 G3 R3 b3 HR2 HK2 HB2
        refine C4.out.mono ?_
        rintro e w4 ⟨A4, m4, c4, rfl, R4, b4⟩
        have HR4 := Lib.hid (HR3.out.on b4)
        have HO4 := Lib.hid (HO3.out.on b4)
        have HX4 := Lib.hid R4
        have HK4 := Lib.hid (HK3.out.on b4)
        have HB4 := Lib.hid (onto HB3.out b4)
        have C5 := Lib.hid (rfWith_any w4 A n c l r HR4.out HIN.out (by omega))
        unfold WithSays rv at C5
        clear d0 d1 d2 C4 R4 b4 HR3 HO3 HK3 HB3
        obtain ⟨d0, d1, d2⟩ := HK4.out.three
        go_wp2_with fail
        refine C5.out.mono ?_
        rintro e w5 ⟨A5, m5, c5, rfl, R5, b5⟩
        have HR5 := Lib.hid (HR4.out.on b5)
        have HO5 := Lib.hid (HO4.out.on b5)
        have HX5 := Lib.hid (HX4.out.on b5)
        have HY5 := Lib.hid R5
        have HK5 := Lib.hid (HK4.out.on b5)
        have HB5 := Lib.hid (onto HB4.out b5)
        obtain ⟨q, hq⟩ : ∃ q, (Rm.find l nm).getD r0 = q := ⟨_, rfl⟩
        obtain ⟨bo, hbo⟩ : ∃ bo, (Rm.find l nm).isSome = bo := ⟨_, rfl⟩
        have C6 := Lib.hid (find_any w5 A3 n c3 l nm HO5.out HNM.out)
        have C7 := Lib.hid (fun (W : World) (hW : Below w5.heap.size w5 W) => rfFind_any W A n c l nm (HR5.out.on hW) HNM.out)
        unfold findV at C6 C7
        rw [hq, hbo] at C6 C7
        unfold rv at C6 C7
        clear d0 d1 d2 C5 R5 b5 HR4 HO4 HX4 HK4 HB4 hq hbo
        go_wp2_with fail
        refine C6.out.mono ?_
        rintro e w6 ⟨rfl, b6⟩
        have bA := b6.alloc b6.size (.cells #[.string (txt q.name), .int .i64 q.page, .int .i64 q.count] 34)
        have K6 := Lib.hid (Rb.new w6 q)
        have C7' := Lib.hid (C7.out _ bA)
        have BA := Lib.hid bA
        clear C6 C7 b6 bA
        go_wp2_with fail
        generalize hg6 : w6.heap.size = g6 at *
        generalize w6.alloc (.cells #[.string (txt q.name), .int .i64 q.page, .int .i64 q.count] 34) = w7 at *
        refine C7'.out.mono ?_
        rintro e w8 ⟨rfl, b8⟩
        have K8 := K6.out.on b8
        have bB : Below w8.heap.size w8 (w8.alloc (.cells #[.string (txt q.name), .int .i64 q.page, .int .i64 q.count] 34)) := (Below.refl _ _).alloc (Nat.le_refl _) _
        have B59 := onto (onto BA.out b8) bB
        have HK9 := Lib.hid (HK5.out.on B59)
        have HR9 := Lib.hid (HR5.out.on B59)
        have HO9 := Lib.hid (HO5.out.on B59)
        have HX9 := Lib.hid (HX5.out.on B59)
        have HY9 := Lib.hid (HY5.out.on B59)
        have HB9 := Lib.hid (onto HB5.out B59)
        have HP9 := Lib.hid (K8.on bB)
        have HQ9 := Lib.hid (Rb.new w8 q)
        clear C7' K6 BA K8 bB B59 HK5 HR5 HO5 HX5 HY5 HB5 hg6
        have hzz : ((withCode l r : Int) != (withCode l r : Int)) = false := by simp
        have hbb : (bo != bo) = false := by simp
        have EQ := fun W => rt_eq W q
        have EQr := fun W => rt_eq W r
        have hm45 : m5 = m4 := HY9.out.1.symm.trans HX9.out.1
        subst hm45
        have C10 := Lib.hid (same_any _ _ _ _ _ _ _ _ HX9.out HY9.out)
        generalize hg8 : w8.heap.size = g8 at *
        go_wp2_with fail
        generalize w8.alloc (.cells #[.string (txt q.name), .int .i64 q.page, .int .i64 q.count] 34) = w9 at *
        refine C10.out.mono ?_
        rintro e w10 ⟨rfl, m9, rfl⟩
        have HK10 : Hid (Rb (w9.drewN m9) w.heap.size r) := HK9.out
        have HP10 : Hid (Rb (w9.drewN m9) g6 q) := HP9.out
        have HQ10 : Hid (Rb (w9.drewN m9) g8 q) := HQ9.out
        have HR10 := Lib.hid (HR9.out.drewN m9)
        have HO10 := Lib.hid (HO9.out.drewN m9)
        have HX10 := Lib.hid (HX9.out.drewN m9)
        have HB10 := Lib.hid (below_drewN HB9.out m9)
        clear C10 HK9 HP9 HQ9 HR9 HO9 HX9 HY9 HB9 hg8
        generalize w9.drewN m9 = wa at *
        obtain ⟨p0, p1, p2⟩ := HP10.out.three
        obtain ⟨q0, q1, q2⟩ := HQ10.out.three
        have C11 := Lib.hid (without_any wa A3 n c3 l nm HO10.out HNM.out (by omega))
        go_wp2_with fail
        refine C11.out.mono ?_
        rintro e wb ⟨vb, rfl, Ob⟩
        have bb := Ob.bel
        obtain ⟨Ab, cb, rfl, Rb1⟩ := rs_own Ob.own Ob.all
        have HRb := Lib.hid (HR10.out.on bb)
        have HOb := Lib.hid (HO10.out.on bb)
        have HXb := Lib.hid (HX10.out.on bb)
        have HKb := Lib.hid (HK10.out.on bb)
        have HWb := Lib.hid Rb1
        have HBb := Lib.hid (onto HB10.out bb)
        have C12 := Lib.hid (rfWithout_any wb A n c l nm HRb.out HNM.out (by omega))
        clear C11 Ob bb Rb1 p0 p1 p2 q0 q1 q2 HP10 HQ10 HR10 HO10 HX10 HK10 HB10
        go_wp2_with fail
        refine C12.out.mono ?_
        rintro e wc ⟨vc, rfl, Oc⟩
        have bc := Oc.bel
        obtain ⟨Ac, cc, rfl, Rc⟩ := rs_own Oc.own Oc.all
        have C13 := Lib.hid (same_any _ _ _ _ _ _ _ _ (HWb.out.on bc) Rc)
        have HRc := Lib.hid (HRb.out.on bc)
        have HOc := Lib.hid (HOb.out.on bc)
        have HXc := Lib.hid (HXb.out.on bc)
        have HKc := Lib.hid (HKb.out.on bc)
        have HBc := Lib.hid (onto HBb.out bc)
        clear C12 Oc bc Rc HRb HOb HXb HKb HWb HBb
        generalize (Rm.without l nm).length = ml at *
        go_wp2_with fail
        refine C13.out.mono ?_
        rintro e wd ⟨rfl, md, rfl⟩
        have HKd : Hid (Rb (wc.drewN md) w.heap.size r) := HKc.out
        have HRd := Lib.hid (HRc.out.drewN md)
        have HOd := Lib.hid (HOc.out.drewN md)
        have HXd := Lib.hid (HXc.out.drewN md)
        have HBd := Lib.hid (below_drewN HBc.out md)
        clear C13 HKc HRc HOc HXc HBc
        generalize wc.drewN md = we at *
        obtain ⟨d0, d1, d2⟩ := HKd.out.three
        have C14 := Lib.hid (find_any we A4 m5 c4 (withL l r) r.name HXd.out HIN.out.nm)
        have HFZ := Lib.hid (fun (h : withCode l r = 0) => find_with_zero h)
        have HMZ := Lib.hid (fun (h : withCode l r = 0) => may_with_zero HMAY.out h)
        obtain ⟨f, hf⟩ : ∃ f, Rm.find (withL l r) r.name = f := ⟨_, rfl⟩
        rw [hf] at C14 HFZ
        obtain ⟨q2, hq2⟩ : ∃ q2, f.getD r0 = q2 := ⟨_, rfl⟩
        obtain ⟨b2, hb2⟩ : ∃ b2, f.isSome = b2 := ⟨_, rfl⟩
        unfold findV at C14
        rw [hq2, hb2] at C14
        have HQZ : Hid (withCode l r = 0 → q2 = r ∧ b2 = true) := fun h => by
          have := HFZ.out h
          subst this
          exact ⟨hq2.symm, hb2.symm⟩
        unfold rv at C14
        clear hf hq2 hb2 HFZ
        go_wp2_with fail
        refine C14.out.mono ?_
        rintro e wf ⟨rfl, bf⟩
        have bG : Below wf.heap.size wf (wf.alloc (.cells #[.string (txt q2.name), .int .i64 q2.page, .int .i64 q2.count] 34)) := (Below.refl _ _).alloc (Nat.le_refl _) _
        have Bfg := onto bf bG
        have HKg := Lib.hid (HKd.out.on Bfg)
        have HRg := Lib.hid (HRd.out.on Bfg)
        have HOg := Lib.hid (HOd.out.on Bfg)
        have HXg := Lib.hid (HXd.out.on Bfg)
        have HBg := Lib.hid (onto HBd.out Bfg)
        have HQg := Lib.hid (Rb.new wf q2)
        have C15 := Lib.hid (same_any _ _ _ _ _ _ _ _ HOg.out HRg.out)
        clear C14 bf bG Bfg HKd HRd HOd HXd HBd d0 d1 d2
        go_wp2_with fail
        generalize wf.heap.size = gg at *
        generalize wf.alloc (.cells #[.string (txt q2.name), .int .i64 q2.page, .int .i64 q2.count] 34) = wg at *
        refine C15.out.mono ?_
        rintro e wh ⟨rfl, mh, rfl⟩
        have HKh : Hid (Rb (wg.drewN mh) w.heap.size r) := HKg.out
        have HQh : Hid (Rb (wg.drewN mh) gg q2) := HQg.out
        have HXh := Lib.hid (HXg.out.drewN mh)
        have HBh := Lib.hid (below_drewN HBg.out mh)
        clear C15 HKg HRg HOg HXg HBg HQg
        generalize wg.drewN mh = wi at *
        obtain ⟨d0, d1, d2⟩ := HKh.out.three
        obtain ⟨q0, q1, q3⟩ := HQh.out.three
        clear HKh HQh EQ
        by_cases hz : withCode l r = 0
        · obtain ⟨rfl, rfl⟩ := HQZ.out hz
          have C16 := Lib.hid (may_any wi A4 m5 c4 _ HXh.out)
          rw [HMZ.out hz] at C16
          rw [hz]
          clear HQZ HMZ hz hzz
          go_wp2_with fail
          refine C16.out.mono ?_
          rintro e wj ⟨rfl, bj⟩
          have HBj := Lib.hid (onto HBh.out bj)
          clear C16 bj
          go_wp2
          go_ret
          exact ⟨rfl, HBj.out⟩
        · have hzb : ((withCode l r : Int) != 0) = true := by simp; omega
          clear HQZ HMZ
          generalize withCode l r = z at *
          go_wp2
          go_ret
          exact ⟨rfl, HBh.out⟩

theorem rootsChange_walks (w : World) (A : Option Addr) (n c : Nat) (l : List Rm.R) (h : Rs w A n c l) (r : Rm.R) (hr : In r) (s : ByteArray) :
    Calls Try.prog 4 #[.slice A n c, rv r, .string s] w fun e w' => e = .returned (.bool true) ∧ Below w.heap.size w w' := by
  have q := rootsChange_walk w A n c l h r hr (nums s) (nums_lt s)
  rwa [txt_nums] at q

end Go.Proofs.Ytbhahihgojhcmaa.Rt
