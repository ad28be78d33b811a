/-
  PoolHolds: the walk.
-/
import Derived.Test.YtbfofhgnamheeaaPoTwo
namespace Go.Proofs.Ytbfofhgnamheeaa.Pq
open Go.RowKit
set_option linter.unusedVariables false

/-- What is left when those of the first k that may be used have been told. -/
def after (l : List Pl.F) (hz k : Nat) : List Pl.F := (l.take k).filter (fun f => decide (hz < f.2)) ++ l.drop k
theorem after_zero (l : List Pl.F) (hz : Nat) : after l hz 0 = l := by simp [after]
theorem after_stay {l : List Pl.F} {hz k : Nat} {f : Pl.F} (hf : l[k]? = some f) (h : ¬ f.2 ≤ hz) : after l hz (k + 1) = after l hz k := by
  unfold after
  have hk := (List.getElem?_eq_some_iff.1 hf).1
  have he : l[k] = f := (List.getElem?_eq_some_iff.1 hf).2
  rw [List.take_add_one, hf, List.drop_eq_getElem_cons hk, he, List.filter_append]
  have hlt : hz < f.2 := by omega
  simp [hlt]
theorem after_first {l : List Pl.F} {hz k : Nat} {f : Pl.F} (hf : l[k]? = some f) (h : f.2 ≤ hz) :
    ∃ i, Pl.first (after l hz k) hz = some i ∧ (after l hz k)[i]? = some f ∧ Pl.cut (after l hz k) i = after l hz (k + 1) := by
  have hk := (List.getElem?_eq_some_iff.1 hf).1
  have he : l[k] = f := (List.getElem?_eq_some_iff.1 hf).2
  refine ⟨((l.take k).filter (fun f => decide (hz < f.2))).length, ?_, ?_, ?_⟩
  · refine first_at (fun j x hj hx => ?_) (f := f) ?_ h
    · unfold after at hx
      rw [List.getElem?_append_left hj] at hx
      have := List.mem_filter.1 (List.mem_of_getElem? hx)
      simpa using this.2
    · unfold after
      rw [List.getElem?_append_right (Nat.le_refl _), Nat.sub_self, List.getElem?_drop]; simpa using hf
  · unfold after
    rw [List.getElem?_append_right (Nat.le_refl _), Nat.sub_self, List.getElem?_drop]; simpa using hf
  · unfold Pl.cut after
    rw [List.take_left' rfl, List.drop_append, List.drop_eq_nil_of_le (by omega), List.nil_append, show ((l.take k).filter (fun f => decide (hz < f.2))).length + 1 - ((l.take k).filter (fun f => decide (hz < f.2))).length = 1 by omega, List.drop_drop, List.take_add_one, hf, List.filter_append]
    have : ¬ hz < f.2 := by omega
    simp [this]
theorem after_end {l : List Pl.F} {hz : Nat} : Pl.first (after l hz l.length) hz = none := by
  refine first_no fun f hf => ?_
  unfold after at hf
  rw [List.take_length, List.drop_length, List.append_nil] at hf
  simpa using (List.mem_filter.1 hf).2

set_option maxRecDepth 100000 in
set_option maxHeartbeats 2000000 in
theorem poolHolds_walk (w : World) (x : Bg) (hx : x.Is w) (hz : Nat) (hh : hz < 18446744073709551616) :
    Calls Try.prog 6 #[x.val, .int .u64 (hz : Int)] w fun e w' => e = .returned (.bool true) ∧ Below w.heap.size w w' := by
  have HX := Lib.hid hx
  have B0 := (Below.refl _ w).alloc (Nat.le_refl _) (.cells #[.int .i64 x.cap, .int .i64 x.high, .slice x.A x.n x.c] 24)
  have HB0 := Lib.hid B0
  have HX0 := Lib.hid (bx_new w x 24)
  have hnc := hx.fs.2.1
  have hcm := hx.fs.2.2.1
  unfold maxLen at hcm
  unfold Bg.val
  clear hx B0 hh
  go_enter Try.func6, Try.ntmps6
  go_wp2_with fail
  refine (awake_any _).mono ?_
  rintro e v1 ⟨rfl, B1⟩
  have hb1 : Below w.heap.size w v1 := onto HB0.out B1
  have hx1 := HX0.out.on (by simp) B1
  have k0 := hx1.c0
  have k1 := hx1.c1
  have k2 := hx1.c2
  have HB1 := Lib.hid hb1
  have HX1 := Lib.hid hx1
  have HWS : Hid (w.heap.size < v1.heap.size) := by have := B1.size; simp at this; exact this
  clear hb1 B1 HB0 hx1
  by_cases hn : x.n ≤ 100
  · have z1 : ¬ ((100 : Int) < (x.n : Int)) := by omega
    have CN := Lib.hid (new_any v1 x.cap x.high x.A x.n x.c x.l (HX.out.fs.on HB1.out) ⟨HX.out.cap, HX.out.high⟩ hn)
    go_wp2_with fail
    refine CN.out.mono ?_
    rintro e v2 ⟨p, mb, rfl, hP, B2⟩
    have hb2 := onto HB1.out B2
    have hx2 := HX1.out.on HWS.out B2
    have j0 := hx2.c0
    have j1 := hx2.c1
    have j2 := hx2.c2
    have CR := Lib.hid (rnew_any v2 x.cap x.high x.A x.n x.c x.l (HX.out.fs.on hb2) ⟨HX.out.cap, HX.out.high⟩ hn)
    have HB2 := Lib.hid hb2
    have HP := Lib.hid hP
    have HV12 : Hid (v1.heap.size ≤ v2.heap.size) := B2.size
    clear CN k0 k1 k2 hP B2 hb2 hx2
    cases hN : newOf x.cap x.high x.l with
    | none =>
      simp only [newV]
      rw [hN] at CR
      go_wp2_with fail
      refine CR.out.mono ?_
      rintro e v3 ⟨q, rfl, _, B3⟩
      simp only [newV]
      have HB3 := Lib.hid (onto HB2.out B3)
      clear B3 hN CR
      go_wp2
      go_ret
      exact ⟨rfl, HB3.out⟩
    | some d =>
      simp only [newV]
      rw [hN] at CR
      go_wp2_with fail
      refine CR.out.mono ?_
      rintro e v3 ⟨q, rfl, hR, B3⟩
      simp only [newV]
      obtain ⟨hPd, hp, hm⟩ := HP.out d hN
      obtain ⟨hR, hq⟩ := hR d rfl
      have hT : Tw w v3 p mb q d d := ⟨hPd.on B3, hR, by have := HB1.out.size; omega, by have := HB1.out.size; omega, by have := HB2.out.size; omega, onto HB2.out B3⟩
      obtain ⟨v, hRv⟩ := hR
      obtain ⟨A, c, hv, hF⟩ := hRv.fs
      have hfew := hRv.few
      have HT := Lib.hid hT
      have d2 := hRv.ok.two
      have dc := hRv.ok.cap
      have dh := hRv.ok.high
      clear hPd hp hm hq B3 hN CR j0 j1 j2 HP hT hF
      subst hv
      have HRV := Lib.hid hRv
      have HRFR : Hid (∀ w', Off (Mine p mb) v3 w' → Rf w' q (.slice A d.l.length c) d) := fun w' ho => rf_mine HT.out.po hRv ho
      clear hRv
      obtain ⟨m, hm⟩ : ∃ m, m = d.l.length := ⟨_, rfl⟩
      have HM := Lib.hid hm
      rw [← hm] at hfew HRFR HRV
      clear hm
      go_wp2_with fail
      go_loopw [9] (fun i wr => ∃ (k : Nat), k ≤ m ∧ i = .int .i64 (k : Int) ∧ Po wr p mb { d with l := after d.l hz k } ∧ Rf wr q (.slice A m c) d ∧ Below w.heap.size w wr) (fun i _ => m - (intOf i).toNat)
      case atStart => exact ⟨0, Nat.zero_le _, rfl, by rw [after_zero]; exact HT.out.po, HRV.out, HT.out.bel⟩
      case round =>
        obtain ⟨k, hk, rfl, hP, hR, hb⟩ := hrel
        have c2 := hR.c2
        have hFr := hR.fs
        obtain ⟨A', c', hv', hF⟩ := hFr
        rw [← HM.out] at hv' hF
        injection hv' with e1 _ e3
        subst e1 e3
        have hmc := hF.2.1
        have hmm := hF.2.2.1
        unfold maxLen at hmm
        have hokA := hP.ok
        by_cases hlt : k < m
        · have y1 : (k : Int) < (m : Int) := by omega
          obtain ⟨b, off, f, rfl, hbl, hf, hin, r0, r1⟩ := hF.get hlt
          by_cases hle : f.2 ≤ hz
          · have y2 : (f.2 : Int) ≤ (hz : Int) := by omega
            obtain ⟨i, hi1, hi2, hi3⟩ := after_first hf hle
            have hal : Pl.alloc { d with l := after d.l hz k } hz = { d with l := after d.l hz (k + 1) } := by unfold Pl.alloc; simp only [hi1, hi3]
            have hno : Pl.allocNo { d with l := after d.l hz k } hz = f.1 := by unfold Pl.allocNo; simp only [hi1]; rw [hi2]; rfl
            have hco : Pl.allocCode { d with l := after d.l hz k } hz = 0 := by unfold Pl.allocCode; simp only [hi1]
            have CA := Lib.hid (alloc_any wr p mb _ hz hP)
            rw [hal, hno, hco] at CA
            have HR := Lib.hid hR
            have HPk := Lib.hid hP
            have HB := Lib.hid hb
            have HFK := Lib.hid hf
            clear hf hin hbl hi1 hi2 hi3 hal hno hco hP hR hb hF hokA hle
            go_wp2_with fail
            refine CA.out.mono ?_
            rintro e w2 ⟨rfl, hP2, o2⟩
            have hR2 := rf_mine HPk.out HR.out o2
            have hb2 := off_below HB.out o2 HT.out.hp HT.out.hm
            have g2 := hR2.c2
            have hF2 := hR2.fs
            obtain ⟨A', c', hv', hF2⟩ := hF2
            rw [← HM.out] at hv' hF2
            injection hv' with e1 _ e3
            subst e1 e3
            obtain ⟨b', off', f', hA', hbl, hf', hin, r0', r1'⟩ := hF2.get hlt
            injection hA' with hA'
            injection hA' with hA1 hA2
            subst hA1 hA2
            have hff : f = f' := by
              rw [HFK.out] at hf'; injection hf'
            subst hff
            have y3 : (f.1 != f.1) = false := by simp
            have HS2 := Lib.hid (And.intro hP2 (And.intro hR2 hb2))
            clear hP2 hR2 hb2 hF2 hbl hf' hin r1' r0 r1 c2 o2
            go_wp2
            go_roundw
            case rel => exact ⟨k + 1, by omega, by go_num, HS2.out.1, HS2.out.2.1, HS2.out.2.2⟩
            case measure => simp [intOf]; omega
          · have y2 : ¬ (f.2 : Int) ≤ (hz : Int) := by omega
            rw [← after_stay hf hle] at hP
            have HS2 := Lib.hid (And.intro hP (And.intro hR hb))
            clear hf hin hbl hP hR hb hF hokA hle
            go_wp2
            go_roundw
            case rel => exact ⟨k + 1, by omega, by go_num, HS2.out.1, HS2.out.2.1, HS2.out.2.2⟩
            case measure => simp [intOf]; omega
        · have y1 : ¬ ((k : Int) < (m : Int)) := by omega
          have y1' : decide ((k : Int) < (m : Int)) = false := by simp; omega
          have hkm : k = m := by omega
          have hfi : Pl.first (after d.l hz k) hz = none := by rw [hkm, HM.out]; exact after_end
          have CA := Lib.hid (alloc_any wr p mb _ hz hP)
          have HR := Lib.hid hR
          have HPk := Lib.hid hP
          have HB := Lib.hid hb
          by_cases hcap : d.high = d.cap
          · have hno : Pl.allocNo { d with l := after d.l hz k } hz = 0 := by unfold Pl.allocNo; simp only [hfi]; rw [if_pos (by omega)]
            have hco : Pl.allocCode { d with l := after d.l hz k } hz = 2 := by unfold Pl.allocCode; simp only [hfi]; rw [if_pos (by omega)]
            rw [hno, hco] at CA
            have hbq : (d.high == d.cap) = true := by simpa using hcap
            clear hP hR hb hF hokA hno hco hfi hkm hcap
            go_wp2_with fail
            refine CA.out.mono ?_
            rintro e w2 ⟨rfl, hP2, o2⟩
            have hR2 := rf_mine HPk.out HR.out o2
            have HB2 := Lib.hid (off_below HB.out o2 HT.out.hp HT.out.hm)
            have g0 := hR2.c0
            have g1 := hR2.c1
            clear hP2 o2 hR2 c2
            go_wp2_with fail
            go_quiet (fail)
            all_goals
              go_wp2
              go_ret
              exact ⟨rfl, below_drewN HB2.out _⟩
          · have hno : Pl.allocNo { d with l := after d.l hz k } hz = d.high := by unfold Pl.allocNo; simp only [hfi]; rw [if_neg (by omega)]
            have hco : Pl.allocCode { d with l := after d.l hz k } hz = 0 := by unfold Pl.allocCode; simp only [hfi]; rw [if_neg (by omega)]
            have hal : (Pl.alloc { d with l := after d.l hz k } hz).high = d.high + 1 := by unfold Pl.alloc; simp only [hfi]; rw [if_neg (by omega)]
            rw [hno, hco] at CA
            have hbq : (d.high == d.cap) = false := by simpa using hcap
            have hw1 : IntKind.i64.wrap (d.high + 1) = d.high + 1 := IntWalk.i64_in _ ⟨by omega, by omega⟩
            have HAL := Lib.hid hal
            clear hP hR hb hF hokA hno hco hfi hkm hcap hal
            go_wp2_with fail
            refine CA.out.mono ?_
            rintro e w2 ⟨rfl, hP2, o2⟩
            have hR2 := rf_mine HPk.out HR.out o2
            have HB2 := Lib.hid (off_below HB.out o2 HT.out.hp HT.out.hm)
            have g0 := hR2.c0
            have g1 := hR2.c1
            have CH := Lib.hid (fun m m' => high_any ((w2.drewN m).drewN m') p mb _ ((hP2.drewN m).drewN m'))
            rw [HAL.out] at CH
            have e1 : (d.high == d.high) = true := by simp
            have e2 : (d.high + 1 == d.high + 1) = true := by simp
            clear hP2 o2 hR2 c2
            go_wp2_with fail
            go_quiet (fail)
            all_goals
              go_wp2_with fail
              go_region_held3 (fun w' => w'.cell? ⟨q, 1, none⟩ = some (.int .i64 d.high)) (first | assumption | exact g1 | go_keep) (first
                | (go_at_call 19; refine (CH.out _ 1).mono ?_; rintro e u1 ⟨rfl, rfl⟩))
              all_goals
                go_wp2
                go_ret
                exact ⟨rfl, below_drewN (below_drewN HB2.out _) 1⟩
  · have z1 : (100 : Int) < (x.n : Int) := by omega
    go_wp2
    go_ret
    exact ⟨rfl, HB1.out⟩

end Go.Proofs.Ytbfofhgnamheeaa.Pq
