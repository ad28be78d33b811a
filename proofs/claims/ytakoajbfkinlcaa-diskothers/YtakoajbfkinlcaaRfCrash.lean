/-
  The document's disk: Crash.
-/
import Derived.Test.YtakoajbfkinlcaaRfSync
import Derived.Deep.RegionWith
namespace Go.Proofs.Ytakoajbfkinlcaa
open Go.RowKit
set_option linter.unusedVariables false

set_option maxRecDepth 100000 in
set_option maxHeartbeats 2000000 in
theorem rcrash_any (w : World) (G : Gd) (d : Dk.Pd) (A : Option Addr) (n c : Nat) (keep : List Bool) (torn : Int) (h : Rfd w G d) (hk : Rd w A n c (keep.map Value.bool)) (hkb : 0 < n → Clear A G.own) (hm : d.waits.length < 1000) :
    Calls Try.prog 20 #[.pointer (some ⟨G.q, 0, none⟩), .slice A n c, .int .i64 torn] w fun e w' => ∃ G', e = .returned (.tuple #[]) ∧ Rfd w' G' (Dk.crashed d keep torn) ∧ Rtep w G w' G' := by
  obtain ⟨xs, hx⟩ := h.waits
  obtain ⟨A', cw, hwv, hwc, hwm⟩ := hx.form
  unfold maxLen at hwm
  have hkl : keep.length = n := by have := hk.1; simpa using this
  have hkm := hk.2.2.1
  have hkc := hk.2.1
  unfold maxLen at hkm
  have HW := Lib.hid hwv
  have HD := Lib.hid h
  have HK := Lib.hid hk
  have HKB := Lib.hid hkb
  clear hx hwv h hk hkb
  go_enter Try.func20, Try.ntmps20
  go_wp2_with fail
  go_loopw [6] (fun i wr => ∃ k : Nat, k ≤ d.waits.length ∧ i = .int .i64 (k : Int) ∧ Rmid w wr G (Dk.crTo d keep torn k)) (fun i _ => d.waits.length - (intOf i).toNat)
  case atStart => exact ⟨0, Nat.zero_le _, rfl, HD.out.mid⟩
  case round =>
    obtain ⟨k, hk, rfl, hM⟩ := hrel
    have hst := hM.str HD.out
    have c1 := cell_of_row wr _ 1 _ _ (0, 0) hst
    have c0 := cell_of_row wr _ 0 _ _ (0, 0) hst
    simp at c1 c0
    rw [HW.out] at c1
    by_cases hlt : k < d.waits.length
    · have z2 : (k : Int) < (d.waits.length : Int) := by omega
      by_cases hkn : k < n
      · obtain ⟨kb, ko, kv, rfl, hkv, ck⟩ := (HK.out.off hM.off fun b off e hb => HKB.out (by omega) b off e (.inr (.inl hb))).at_ (k := k) hkn
        obtain ⟨b, hb, rfl⟩ : ∃ b, keep[k]? = some b ∧ kv = .bool b := by
          rw [List.getElem?_map] at hkv
          cases hq : keep[k]? with
          | none => rw [hq] at hkv; cases hkv
          | some b => rw [hq] at hkv; injection hkv with hkv; exact ⟨b, rfl, hkv.symm⟩
        have hkp : Dk.kept keep k = b := by unfold Dk.kept; rw [List.getD_eq_getElem?_getD, hb]; rfl
        have y3 : (k : Int) < (n : Int) := by omega
        cases b with
        | false =>
          rw [← Dk.cr_stay hkp] at hM
          have HN := Lib.hid hM
          clear hM hkv hb hkp hst
          go_wp2
          go_roundw
          case rel => exact ⟨k + 1, by omega, by go_num, HN.out⟩
          case measure => simp [intOf]; omega
        | true =>
          obtain ⟨xs, hx⟩ := hM.waits HD.out
          obtain ⟨g, c', no, u, l, hv, hc', hw, hu, cn, cu⟩ := hx.get hlt
          rw [HW.out] at hv
          injection hv with hv _ hv2
          subst hv hv2
          obtain ⟨gu, ku, rfl, _, _, _⟩ := hu.form
          have hno : no < d.pages.length := HD.out.ins _ (List.mem_of_getElem? hw)
          obtain ⟨vs, hs⟩ := hM.safe
          have hno' : no < (Dk.crTo d keep torn k).length := by rw [Dk.crTo_len]; exact hno
          obtain ⟨gs, cs, us, ls, hsv, hcs, _, _, cus⟩ := hs.get hno'
          rw [Dk.crTo_len] at hsv hcs
          rw [hsv] at c0
          have hsf : wr.frozen? ⟨gs, no, none⟩ = false := by rw [hsv] at hs; exact hs.row.frozen no
          have z1 : (no : Int) < (d.pages.length : Int) := by omega
          have hM4 := (hM.put hsv no hu).below (Below.refl _ _).drew
          by_cases ht : (k : Int) = torn
          · have ht' : ((k : Int) == torn) = true := by simpa using ht
            have hst4 := Dk.cr_step (torn := torn) hw hkp
            have hl' : Dk.left_ torn k l = Pg.torn l := by unfold Dk.left_; rw [if_pos ht]
            rw [hl'] at hst4
            have HST := Lib.hid hst4
            have HM4 := Lib.hid hM4
            have HU := Lib.hid hu
            clear hx hs hM hst hkv hb hkp hst4 hl' hM4 hu
            subst ht
            go_wp2_with fail
            go_region
            generalize hw4 : (wr.setCell ⟨gs, no, none⟩ (.slice (some ⟨gu, 0, none⟩) 1024 ku)).drew = w4 at *
            clear c0 c1 cn cu cus hsf ck hw4
            have hst := HM4.out.str HD.out
            obtain ⟨xs4, hx4⟩ := HM4.out.waits HD.out
            obtain ⟨g', c', no', u', l', hv', _, hw', hu4, cn, cu⟩ := hx4.get hlt
            rw [HW.out] at hv'
            injection hv' with hv' _ hv2
            injection hv' with hv'
            injection hv' with hv'
            subst hv' hv2
            rw [hw] at hw'
            injection hw' with hw'
            injection hw' with hw1 hw2
            subst hw1 hw2
            obtain ⟨gu', ku', rfl, hbu, _, _⟩ := hu4.form
            obtain ⟨vs4, hs4⟩ := HM4.out.safe
            obtain ⟨gs', cs', us', ls', hsv', _, _, _, cus⟩ := hs4.get (k := no) (by rw [List.length_set]; exact hno')
            have hsv2 := hsv'
            rw [hsv] at hsv'
            injection hsv' with hsv' _ _
            injection hsv' with hsv'
            injection hsv' with hsv'
            subst hsv'
            have hsf : w4.frozen? ⟨gs, no, none⟩ = false := by rw [hsv2] at hs4; exact hs4.row.frozen no
            have c0 := cell_of_row w4 _ 0 _ _ (0, 0) hst
            have c1 := cell_of_row w4 _ 1 _ _ (0, 0) hst
            simp at c0 c1
            rw [HW.out] at c1
            rw [hsv] at c0
            have lq : G.q < w4.heap.size := HM4.out.lt HD.out (.inl rfl)
            have lg : g < w4.heap.size := own_lt hx4.own (by rw [HW.out]; rfl)
            have ls : gs < w4.heap.size := own_lt hs4.row.own (by rw [hsv]; rfl)
            have HBU := Lib.hid hbu
            have ngq : gs ≠ G.q := HD.out.q_sv (by rw [hsv]; rfl)
            have ngg : gs ≠ g := fun e => HD.out.sv_wv (k := gs) (by rw [hsv]; rfl) (by rw [HW.out, e]; rfl)
            clear hst hx4 hs4 hu4 hbu hw hsv2
            go_wp2_with fail
            go_region_held3 (fun w' => w'.cell? ⟨G.q, 0, none⟩ = some (.slice (some ⟨gs, 0, none⟩) d.pages.length cs) ∧ w'.cell? ⟨G.q, 1, none⟩ = some (.slice (some ⟨g, 0, none⟩) d.waits.length cw) ∧ w'.cell? ⟨g, k * 2, none⟩ = some (.int .i64 (no : Int)) ∧ w'.cell? ⟨g, k * 2 + 1, none⟩ = some (.slice (some ⟨gu', 0, none⟩) 1024 ku')) (first | assumption | exact ⟨c0, c1, cn, cu⟩ | exact S6 _ | go_keep)
              (first | (go_at_call 36; refine (rtorn_any _ _ _ _ (by exact HBU.out)).mono ?_; rintro e w5 ⟨gt, kt, rfl, P5, B5⟩; have d4 := (B5.cell (p := ⟨gs, no, none⟩) ls).trans cus; have d5 := (World.frozen?_of_block (a := ⟨gs, no, none⟩) (B5.block gs ls)).trans hsf; have S5 : (fun w' : World => w'.cell? ⟨G.q, 0, none⟩ = some (.slice (some ⟨gs, 0, none⟩) d.pages.length cs) ∧ w'.cell? ⟨G.q, 1, none⟩ = some (.slice (some ⟨g, 0, none⟩) d.waits.length cw) ∧ w'.cell? ⟨g, k * 2, none⟩ = some (.int .i64 (no : Int)) ∧ w'.cell? ⟨g, k * 2 + 1, none⟩ = some (.slice (some ⟨gu', 0, none⟩) 1024 ku')) w5 := ⟨(B5.cell (p := ⟨G.q, 0, none⟩) lq).trans c0, (B5.cell (p := ⟨G.q, 1, none⟩) lq).trans c1, (B5.cell (p := ⟨g, k * 2, none⟩) lg).trans cn, (B5.cell (p := ⟨g, k * 2 + 1, none⟩) lg).trans cu⟩; have S6 : ∀ v, (fun w' : World => w'.cell? ⟨G.q, 0, none⟩ = some (.slice (some ⟨gs, 0, none⟩) d.pages.length cs) ∧ w'.cell? ⟨G.q, 1, none⟩ = some (.slice (some ⟨g, 0, none⟩) d.waits.length cw) ∧ w'.cell? ⟨g, k * 2, none⟩ = some (.int .i64 (no : Int)) ∧ w'.cell? ⟨g, k * 2 + 1, none⟩ = some (.slice (some ⟨gu', 0, none⟩) 1024 ku')) (w5.setCell ⟨gs, no, none⟩ v) := fun v => ⟨(World.cell?_of_block (a := ⟨G.q, 0, none⟩) (heap_setCell_other w5 ⟨gs, no, none⟩ G.q v (fun e => ngq e.symm))).trans S5.1, (World.cell?_of_block (a := ⟨G.q, 1, none⟩) (heap_setCell_other w5 ⟨gs, no, none⟩ G.q v (fun e => ngq e.symm))).trans S5.2.1, (World.cell?_of_block (a := ⟨g, k * 2, none⟩) (heap_setCell_other w5 ⟨gs, no, none⟩ g v (fun e => ngg e.symm))).trans S5.2.2.1, (World.cell?_of_block (a := ⟨g, k * 2 + 1, none⟩) (heap_setCell_other w5 ⟨gs, no, none⟩ g v (fun e => ngg e.symm))).trans S5.2.2.2⟩))
            have HN : Hid (Rmid w (w5.setCell ⟨gs, no, none⟩ (.slice (some ⟨gt, 0, none⟩) 1024 kt)) G (Dk.crTo d keep (k : Int) (k + 1))) := by
              show Rmid _ _ _ _
              have := (HM4.out.below (((Below.refl w4.heap.size w4).drew).trans B5)).put hsv no P5
              rw [List.set_set] at this
              rw [HST.out]; exact this
            clear S5 S6 d4 d5 P5 B5 HM4 HST c0 c1 cn cu cus hsf
            go_wp2
            go_roundw
            case rel => exact ⟨k + 1, by omega, by go_num, HN.out⟩
            case measure => simp [intOf]; omega
          · have ht' : ((k : Int) == torn) = false := by simpa using ht
            have hst4 := Dk.cr_step (torn := torn) hw hkp
            have hl' : Dk.left_ torn k l = l := by unfold Dk.left_; rw [if_neg ht]
            rw [hl'] at hst4
            rw [← hst4] at hM4
            have HN := Lib.hid hM4
            clear hx hs hw hM hst hkv hb hkp hst4 hl' hM4 hu ht
            go_wp2_with fail
            go_region
            go_wp2
            go_roundw
            case rel => exact ⟨k + 1, by omega, by go_num, HN.out⟩
            case measure => simp [intOf]; omega
      · have hkp : Dk.kept keep k = false := by unfold Dk.kept; rw [List.getD_eq_getElem?_getD, List.getElem?_eq_none (by omega)]; rfl
        have y3 : decide ((k : Int) < (n : Int)) = false := by simp; omega
        have y4 : decide (k < n) = false := by simp; omega
        rw [← Dk.cr_stay hkp] at hM
        have HN := Lib.hid hM
        clear hM hkp hst
        go_wp2
        go_roundw
        case rel => exact ⟨k + 1, by omega, by go_num, HN.out⟩
        case measure => simp [intOf]; omega
    · have hk' : k = d.waits.length := by omega
      have hf : ¬ ((k : Int) < (d.waits.length : Int)) := by omega
      have c2 := cell_of_row wr _ 2 _ _ (0, 0) hst
      have c3 := cell_of_row wr _ 3 _ _ (0, 0) hst
      simp at c2 c3
      have f1 := frozen_of_row wr G.q 1 _ _ hst
      have f2 := frozen_of_row wr G.q 2 _ _ hst
      have f3 := frozen_of_row wr G.q 3 _ _ hst
      have s1 := (rstr_set hst (.slice none 0 0)).2.1
      have s2 := (rstr_set s1 (.int .i64 0)).2.2.1
      have s3 := (rstr_set s2 (.bool false)).2.2.2
      have hD := hM.done (e := { pages := Dk.crTo d keep torn k, waits := [], left := 0, down := false }) HD.out ((((Off.refl (fun k => k = G.q) wr).set (i := 1) (.slice none 0 0) rfl).set (i := 2) (.int .i64 0) rfl).set (i := 3) (.bool false) rfl) s3 rfl rfl (by show 0 < _; omega) (by rw [Dk.crTo_len]; exact HD.out.few)
      rw [hk'] at hD
      have HF := Lib.hid hD
      clear hM hlt hk' hst hD s1 s2 s3
      go_wp2
      go_end0
      first | exact ⟨_, rfl, HF.out.1, HF.out.2⟩ | exact ⟨rfl, _, HF.out.1, HF.out.2⟩ | exact ⟨_, HF.out.1, HF.out.2⟩

end Go.Proofs.Ytakoajbfkinlcaa
