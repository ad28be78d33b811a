/-
  PagerSets, walked.
-/
import Derived.Test.YtmcldkcmialfeaaPrAwake
import Derived.Test.YtmcldkcmialfeaaGrPl9
import Derived.Test.YtmcldkcmialfeaaPrLs
import Derived.Test.YtmcldkcmialfeaaSame
import Derived.Laws.MakeOwn
import Derived.Deep.CutBlock
namespace Go.Proofs.Ytmcldkcmialfeaa.Pr
open Go.RowKit
set_option linter.unusedVariables false

theorem run_make8 (r : Nat) (hr : r ≤ 1016) (W : World) :
    (Instr.makeSlice 22 (.int .i64 (r : Int)) (.int .i64 (r : Int))).run Try.prog W = .ok (.slice (some ⟨W.heap.size, 0, none⟩) r r) (W.alloc (.cells (bv (List.replicate r 0)).toArray 5)) := by
  obtain ⟨i0, hi, hz0, hz1, hz2⟩ := info_parts Try.info5
  have h := run_make (P := Try.prog) W 22 5 i0 (.int .u8 0) Try.underlying22 hi hz0 .i64 .i64 r r (by omega) (Int.le_refl _) (by rw [hz2]; omega) (by omega)
  rw [hz1] at h
  simp only [Int.toNat_natCast] at h
  rw [h, ← made_zero]
theorem bs_made (W : World) (r : Nat) (hr : r ≤ 1016) {W' : World} (h : W'.heap[W.heap.size]? = some (.cells (bv (List.replicate r 0)).toArray 5 (0, 0))) : Bs W' (some ⟨W.heap.size, 0, none⟩) r r (List.replicate r 0) := by
  have := Row.bs' (g := W.heap.size) (n := r) (l := List.replicate r 0) (w := W') h (fun x hx => by rw [List.eq_of_mem_replicate hx]; omega) List.length_replicate (by omega)
  exact this
theorem fill_parts {b : List Nat} (h : b.length ≤ 1016) : (Pg.fill b).take b.length = b ∧ (Pg.fill b).drop b.length = List.replicate (1016 - b.length) 0 := by
  unfold Pg.fill
  exact ⟨List.take_left, List.drop_left⟩

theorem made_at (w : World) (m : Nat) (o : Obj) : ((w.drewN m).alloc o).heap[w.heap.size]? = some o := heap_alloc_new (w.drewN m) o
theorem below_made (w : World) (m : Nat) (o : Obj) : Below w.heap.size w ((w.drewN m).alloc o) := (below_drewN (Below.refl _ w) m).alloc (Nat.le_refl _) o
theorem below_made2 (w : World) (m k : Nat) (o : Obj) : Below w.heap.size w (((w.drewN m).alloc o).drewN k) := below_drewN (below_made w m o) k
/-- A row of bytes from a place on. -/
theorem Row.cut_bs {w : World} {g n k : Nat} {l : List Nat} (h : Row w g l) (hlt : ∀ x ∈ l, x < 256) (hn : l.length = n) (hm : n ≤ 1000000) (hk : k ≤ n) : Bs w (some ⟨g, k, none⟩) (n - k) (n - k) (l.drop k) := by
  have hb := h.bs' hlt hn hm
  rcases Nat.lt_or_ge k n with hkn | hkn
  · have := hb.cut_far k hkn
    rwa [Nat.zero_add] at this
  · have : k = n := by omega
    subst this
    rw [Nat.sub_self, List.drop_eq_nil_of_le (by omega)]
    exact Bs.nil_ _ _ _ (Nat.zero_le _)

theorem tail_bs {w : World} {g k : Nat} {l : List Nat} (inst : Decidable (1016 = k)) (h : Row w g l) (hlt : ∀ x ∈ l, x < 256) (hn : l.length = 1016) (hk : k ≤ 1016) :
    Bs w (@ite _ (1016 = k) inst (some ⟨g, 0, none⟩) (some ⟨g, k, none⟩)) (1016 - k) (1016 - k) (l.drop k) := by
  by_cases h1 : 1016 = k
  · subst h1
    rw [List.drop_eq_nil_of_le (by omega)]
    exact Bs.nil_ _ _ _ (Nat.zero_le _)
  · rw [if_neg h1]
    exact Row.cut_bs h hlt hn (by omega) hk

set_option maxRecDepth 100000 in
set_option maxHeartbeats 1000000 in
theorem pagerSets_walk (w : World) (A : Option Addr) (n c : Nat) (ls : List (List Nat)) (H : Ls w A n c ls) (z : Nat) (hz : z < 256) (B : Option Addr) (m cB : Nat) (pay : List Nat) (HB : Bs w B m cB pay) :
    Calls Try.prog 5 #[.slice A n c, .int .u8 (z : Int), .slice B m cB] w fun e w' => e = .returned (.bool true) ∧ Below w.heap.size w w' := by
  have HL := Lib.hid H
  have HP := Lib.hid HB
  have hnc := H.2.1
  have hcm := H.2.2.1
  have hmc := HB.2.1
  have hcB := HB.2.2.1
  unfold maxLen at hcm hcB
  have HZ := Lib.hid hz
  clear H HB hz
  go_enter Try.func5, Try.ntmps5
  go_wp2_with fail
  refine (awake_any w).mono ?_
  rintro e w1 ⟨rfl, B1⟩
  have HB1 := Lib.hid B1
  clear B1
  by_cases h12 : (12 : Int) < (n : Int)
  · go_wp2
    go_ret
    exact ⟨rfl, HB1.out⟩
  by_cases h16 : (1016 : Int) < (m : Int)
  · go_wp2
    go_ret
    exact ⟨rfl, HB1.out⟩
  have C1 := Lib.hid (pnew w1 40 2 (by omega))
  go_wp2_with fail
  refine C1.out.mono ?_
  rintro e w2 ⟨p, mp, rfl, hP, hp1, hp2, B2⟩
  have HB2 := Lib.hid (onto HB1.out B2)
  have HPo := Lib.hid hP
  have C2 := Lib.hid (newD_any w2 40 40 (by omega))
  clear hP hp1 hp2 B2 C1 HB1
  go_wp2_with fail
  refine C2.out.mono ?_
  rintro e w3 ⟨Hh, rfl, hD, ho, B3⟩
  have hs2 := HB2.out.size
  have C3 := Lib.hid (gnew (S := fun _ => False) (wb := w) w3 Hh p mp (Dk.fresh 40) ⟨40, 2, []⟩ 1 0 hD (HPo.out.on B3) (by omega) (by omega) (fun k hk => .inr (Nat.le_trans hs2 (ho k hk))) (Off.of_below (onto HB2.out B3)))
  clear hD ho B3 C2 HPo HB2 hs2
  go_wp2_with fail
  refine C3.out.mono ?_
  rintro e w4 ⟨x, pp, rfl, hG, _⟩
  have hG0 : HasG (fun _ => False) w w4 x pp Hh.p (seqd (Dk.fresh 40) 40 1 0 []) := hG
  have HG := Lib.hid hG0
  clear hG hG0 C3
  go_wp2_with fail
  go_loopw [11] (fun i wr => ∃ k : Nat, k ≤ n ∧ i = .int .i64 (k : Int) ∧ HasG (fun _ => False) w wr x pp Hh.p (seqd (Dk.fresh 40) 40 1 0 (ls.take k)) ∧ ∀ b ∈ ls.take k, b.length ≤ 1016) (fun i _ => n - (intOf i).toNat)
  case atStart => exact ⟨0, Nat.zero_le _, rfl, by rw [List.take_zero]; exact HG.out, by simp⟩
  case round =>
    obtain ⟨k, hk, rfl, hG, hall⟩ := hrel
    by_cases hlt : k < n
    · have z1 : (k : Int) < (n : Int) := by omega
      obtain ⟨b, off, l, A', n', c', rfl, hl, hc, hbs⟩ := HL.out.get hG.below hlt
      have hbn := hbs.1
      have hbc := hbs.2.1
      have hbm := hbs.2.2.1
      unfold maxLen at hbm
      have HX := Lib.hid (And.intro hG (And.intro hall (And.intro hl hbs)))
      clear hG hall hl hbs
      by_cases hbig : (1016 : Int) < (n' : Int)
      · go_wp2
        go_ret
        exact ⟨rfl, HX.out.1.below⟩
      · obtain ⟨hG, hall, hl, hbs⟩ := HX.out
        have hlen : (ls.take k).length = k := by rw [List.length_take, HL.out.1]; omega
        have hcap : 2 + ((ls.take k).length : Int) < 40 := by rw [hlen]; omega
        have hl16 : l.length ≤ 1016 := by omega
        have CP := gput wr x pp Hh.p _ hG A' n' c' l (hbs.on hG.below) (Out.of_bs hbs)
        rw [seqd_put hcap hl16, (seqd_code hcap hl16).1] at CP
        have hta : ls.take (k + 1) = ls.take k ++ [l] := by rw [List.take_add_one, hl]; rfl
        rw [← hta] at CP
        have CP := Lib.hid CP
        have HT := Lib.hid (show ∀ b ∈ ls.take (k + 1), b.length ≤ 1016 by rw [hta]; intro b hb; rcases List.mem_append.1 hb with h | h; exact hall b h; simp at h; subst h; exact hl16)
        clear hG hall hl hbs HX hlen hcap hl16 hta
        go_wp2_with fail
        refine CP.out.mono ?_
        rintro e w5 ⟨rfl, hG⟩
        go_wp2
        go_roundw
        case rel => exact ⟨k + 1, by omega, by go_num, hG, HT.out⟩
        case measure => simp [intOf]; omega
    · have z1 : ¬ (k : Int) < (n : Int) := by omega
      have hkn : k = n := by omega
      subst hkn
      have hte : ls.take k = ls := by rw [← HL.out.1]; exact List.take_length
      rw [hte] at hG hall
      have HA := Lib.hid hall
      have HG := Lib.hid hG
      obtain ⟨q, hq⟩ : ∃ q : Nat, q = z % 14 := ⟨_, rfl⟩
      have hq14 : q < 14 := by omega
      have e1 : Int.tmod (z : Int) 14 = (q : Int) := by rw [Int.tmod_eq_emod_of_nonneg (by omega)]; omega
      have hz256 := HZ.out
      have e2 : wrap64 (2 + (wrap64 (z : Int)).tmod 14) = 2 + (q : Int) := by rw [IntWalk.wrap64_in (z : Int) ⟨by omega, by omega⟩, e1]; exact IntWalk.wrap64_in _ ⟨by omega, by omega⟩
      have E2 := Lib.hid e2
      clear e1 e2 hz256
      clear hall hG
      have hpl : pay.length = m := HP.out.1
      have hpl16 : pay.length ≤ 1016 := by omega
      have hln : ls.length = k := HL.out.1
      have CS := gset wr x pp Hh.p _ HG.out (2 + (q : Int)) (by unfold I64; omega) B m cB pay (HP.out.on HG.out.below)
      have hsc := seqd_set (d := Dk.fresh 40) (cap := 40) (gen := 1) (hz := 0) (ls := ls) (k := 2 + (q : Int)) (by omega) hpl16
      obtain ⟨sc, hsce⟩ : ∃ sc : Int, sc = setCode (seqd (Dk.fresh 40) 40 1 0 ls) (2 + (q : Int)) pay := ⟨_, rfl⟩
      rw [← hsce] at CS hsc
      have CS := Lib.hid CS
      have HSC := Lib.hid hsce
      have hcs : (sc = 0 ∧ 2 + (q : Int) < 2 + (k : Int)) ∨ (sc = 1 ∧ ¬ 2 + (q : Int) < 2 + (k : Int)) := by
        rw [hsc, hln]
        by_cases h : 2 + (q : Int) < 2 + (k : Int)
        · rw [if_pos h]; exact .inl ⟨rfl, h⟩
        · rw [if_neg h]; exact .inr ⟨rfl, h⟩
      have HQ := Lib.hid (And.intro hpl (And.intro hpl16 (And.intro hln hq)))
      have HQ14 := Lib.hid hq14
      clear hsce hsc hpl hpl16 hln hq
      have E4 : wrap64 (2 + (k : Int)) = 2 + (k : Int) := IntWalk.wrap64_in _ ⟨by omega, by omega⟩
      have hmk := fun (r : Nat) (hr : r ≤ 1016) (W : World) => run_make8 r hr W
      have HMK := Lib.hid hmk
      clear hmk
      have HCS := Lib.hid hcs
      clear hcs
      go_wp2_with fail
      rw [E2.out]
      refine CS.out.mono ?_
      rintro e w5 ⟨rfl, hG5⟩
      have HG5 := Lib.hid hG5
      clear hG5 CS HG
      go_upto_region 18 with fail
      go_cut [83] from 68 to 83 (fun v wx => v = .bool false ∧ HasG (fun _ => False) w wx x pp Hh.p (set (seqd (Dk.fresh 40) 40 1 0 ls) (2 + (q : Int)) pay))
      case first =>
        rcases HCS.out with ⟨rfl, hk2⟩ | ⟨rfl, hk2⟩
        · go_wp2_with fail
          go_meet
          exact ⟨rfl, HG5.out⟩
        · go_wp2_with fail
          go_meet
          exact ⟨by rw [decide_eq_false (by omega)], HG5.out⟩
      case rest =>
        obtain ⟨rfl, hG5⟩ := hcut
        have HG5 := Lib.hid hG5
        clear hG5
        go_wp2_with fail
        go_loopw [14, 15, 16, 17] (fun i o1 o2 o3 wr => ∃ j : Nat, j ≤ k ∧ i = .int .i64 (j : Int) ∧ HasG (fun _ => False) w wr x pp Hh.p (set (seqd (Dk.fresh 40) 40 1 0 ls) (2 + (q : Int)) pay)) (fun i _ _ _ _ => k - (intOf i).toNat)
        case atStart => exact ⟨0, Nat.zero_le _, rfl, HG5.out⟩
        case round =>
          obtain ⟨j, hj, rfl, hG⟩ := hrel
          by_cases hlt : j < k
          · have z1 : (j : Int) < (k : Int) := by omega
            obtain ⟨b, off, l, A', n', c', hA, hl, hc, hbs⟩ := HL.out.get hG.below hlt
            subst hA
            have hmem : l ∈ ls := List.mem_of_getElem? hl
            have hl16 : l.length ≤ 1016 := HA.out l hmem
            have hbn := hbs.1
            have hsl := set_look (a := seqd (Dk.fresh 40) 40 1 0 ls) (no := 2 + (q : Int)) (pay := pay) (2 + (j : Int))
            have hlk : look (seqd (Dk.fresh 40) 40 1 0 ls).l (2 + (j : Int)) = some (Pg.fill l) := by
              show look (pagesFrom 2 ls) (2 + (j : Int)) = _
              rw [look_pages, hl]; rfl
            have HG := Lib.hid hG
            have E5 := IntWalk.wrap64_in (2 + (j : Int)) ⟨by omega, by omega⟩
            have hm16 := HQ.out.2.1
            have hmp := HQ.out.1
            have hnb := hbs.2.1
            have hnm := hbs.2.2.1
            have hi : I64 (2 + (j : Int)) := by unfold I64; omega
            by_cases hjq : (j : Int) = (q : Int)
            rotate_left
            · have hsy : says (set (seqd (Dk.fresh 40) 40 1 0 ls) (2 + (q : Int)) pay) (2 + (j : Int)) = some (Pg.fill l) := says_fresh (by rw [hsl, if_neg (fun h => hjq (by omega))]; exact hlk)
              have CR := gread wr x pp Hh.p _ hG (2 + (j : Int)) hi
              rw [hsy] at CR
              have CR := Lib.hid CR
              have HBs := Lib.hid (hbs.on hG.below)
              obtain ⟨r, hr⟩ : ∃ r : Nat, r = 1016 - n' := ⟨_, rfl⟩
              have hmk := HMK.out r (by omega)
              have zsub : wrap64 (1016 - (n' : Int)) = (r : Int) := by rw [IntWalk.wrap64_in _ ⟨by omega, by omega⟩]; omega
              have zs2 : (1016 - (n' : Int)) = (r : Int) := by omega
              have zr : IntKind.i64.wrap (r : Int) = (r : Int) := IntWalk.i64_in _ ⟨by omega, by omega⟩
              have HR := Lib.hid hr
              clear hr
              have z16 : (n' : Int) ≤ 1016 := by omega
              have hne : ¬ (2 + (j : Int) = 2 + (q : Int)) := by omega
              have hbeq : ((2 + (j : Int)) == 2 + (q : Int)) = false := by simpa using hne
              have HW := Lib.hid (And.intro hbn hl16)
              have HMZ := Lib.hid hmk
              clear hmk
              clear hsl hlk hsy hG hbs hmem hl hbn hl16 hm16 hmp
              go_wp2_with fail
              refine CR.out.mono ?_
              rintro e w6 hs
              obtain ⟨g, rfl, hg, R6, hlb, B6⟩ := hs.of_some
              have hf := fill_parts (b := l) HW.out.2
              rw [HW.out.1] at hf
              have r1 := (R6.bs' hlb.2 hlb.1 (by omega)).first n' (by omega)
              rw [hf.1] at r1
              have CS1 := Lib.hid (fun (W : World) (bW : Below w6.heap.size w6 W) => same_eq W _ _ _ _ _ _ l (r1.on bW) ((HBs.out.on B6).on bW))
              have CS2 := Lib.hid (fun (W : World) (A2 : Option Addr) (n2 c2 : Nat) (h2 : Bs W A2 n2 c2 (List.replicate r 0)) (hW : W.heap[w6.heap.size]? = some (.cells (bv (List.replicate r 0)).toArray 5 (0, 0))) => same_eq W A2 _ n2 c2 _ _ (List.replicate r 0) h2 (bs_made w6 r (by rw [HR.out]; omega) hW))
              have HG6 := Lib.hid (HG.out.on B6)
              have CL := Lib.hid (fun (W : World) (bW : Below w6.heap.size w6 W) => HG6.out.on bW)
              rcases Nat.lt_or_ge n' 1016 with hfull | hfull
              · have r2 := Row.cut_bs R6 hlb.2 hlb.1 (by omega) (k := n') (by omega)
                rw [show (Pg.fill l).drop n' = List.replicate r 0 by rw [hf.2, HR.out]] at r2
                have R2 := Lib.hid (fun (W : World) (bW : Below w6.heap.size w6 W) => r2.on bW)
                have hne2 : ¬ 1016 = n' := by omega
                clear hs hg R6 hlb B6 hf r1 r2 CR HG HBs
                go_wp2_with fail
                go_region_held3 (fun _ => True) (first | trivial | assumption | go_keep) (first
                  | (have q9 := hmk; clear q9; go_at_call 14; refine (CS2.out _ _ _ _ (by with_reducible exact R2.out _ (below_made _ _ _)) (by with_reducible exact made_at _ _ _)).mono ?_; rintro e wB ⟨rfl, mB, rfl⟩)
                  | (go_at_call 14; have QS := CS1; clear CS1; refine (QS.out _ (by first | with_reducible exact below_drewN (Below.refl _ _) _ | with_reducible exact (Below.refl _ _).drew | with_reducible exact Below.refl _ _)).mono ?_; clear QS; rintro e wB ⟨rfl, mB, rfl⟩; have hmk := HMZ.out))
                all_goals
                  go_wp2
                  go_roundw
                  case rel => exact ⟨j + 1, by omega, by go_num, CL.out _ (by with_reducible exact below_made2 _ _ _ _)⟩
                  case measure => simp [intOf]; omega
              · obtain rfl : n' = 1016 := by omega
                obtain rfl : r = 0 := by omega
                have R2 := Lib.hid (fun (W : World) (A : Option Addr) => Bs.nil_ W A 0 (Nat.zero_le _))
                have HMZ := Lib.hid (show ∀ W : World, (Instr.makeSlice 22 (.int .i64 (0 : Int)) (.int .i64 (0 : Int))).run Try.prog W = .ok (.slice (some ⟨W.heap.size, 0, none⟩) 0 0) (W.alloc (.cells (bv (List.replicate 0 0)).toArray 5)) from HMZ.out)
                have zr0 : IntKind.i64.wrap 0 = 0 := rfl
                clear hs hg R6 hlb B6 hf r1 CR HG HBs zs2 zr zsub
                go_wp2_with fail
                go_region_held3 (fun _ => True) (first | trivial | assumption | go_keep) (first
                  | (have q9 := hmk; clear q9; go_at_call 14; refine (CS2.out _ _ _ _ (by exact R2.out _ _) (by exact made_at _ _ _)).mono ?_; rintro e wB ⟨rfl, mB, rfl⟩)
                  | (go_at_call 14; have QS := CS1; clear CS1; refine (QS.out _ (by first | with_reducible exact below_drewN (Below.refl _ _) _ | with_reducible exact (Below.refl _ _).drew | with_reducible exact Below.refl _ _)).mono ?_; clear QS; rintro e wB ⟨rfl, mB, rfl⟩; have hmk := HMZ.out))
                all_goals
                  go_wp2
                  go_roundw
                  case rel => exact ⟨j + 1, by omega, by go_num, CL.out _ (by with_reducible exact below_made2 _ _ _ _)⟩
                  case measure => simp [intOf]; omega
            · have hsy : says (set (seqd (Dk.fresh 40) 40 1 0 ls) (2 + (q : Int)) pay) (2 + (j : Int)) = some (Pg.fill pay) := says_fresh (by rw [hsl, if_pos ⟨by rw [← HSC.out]; rcases HCS.out with h | h; exact h.1; omega, by omega⟩])
              have CR := gread wr x pp Hh.p _ hG (2 + (j : Int)) hi
              rw [hsy] at CR
              have CR := Lib.hid CR
              have HBs := Lib.hid (HP.out.on hG.below)
              obtain ⟨r, hr⟩ : ∃ r : Nat, r = 1016 - m := ⟨_, rfl⟩
              have hmk := HMK.out r (by omega)
              have zsub : wrap64 (1016 - (m : Int)) = (r : Int) := by rw [IntWalk.wrap64_in _ ⟨by omega, by omega⟩]; omega
              have zs2 : (1016 - (m : Int)) = (r : Int) := by omega
              have zr : IntKind.i64.wrap (r : Int) = (r : Int) := IntWalk.i64_in _ ⟨by omega, by omega⟩
              have HR := Lib.hid hr
              clear hr
              have z16 : (m : Int) ≤ 1016 := by omega
              have hbeq : ((2 + (j : Int)) == 2 + (q : Int)) = true := by simpa using hjq
              clear hjq
              have HW := Lib.hid (And.intro hmp hm16)
              have HMZ := Lib.hid hmk
              clear hmk
              clear hsl hlk hsy hG hbs hmem hl hbn hl16 hm16 hmp
              go_wp2_with fail
              refine CR.out.mono ?_
              rintro e w6 hs
              obtain ⟨g, rfl, hg, R6, hlb, B6⟩ := hs.of_some
              have hf := fill_parts (b := pay) HW.out.2
              rw [HW.out.1] at hf
              have r1 := (R6.bs' hlb.2 hlb.1 (by omega)).first m (by omega)
              rw [hf.1] at r1
              have CS1 := Lib.hid (fun (W : World) (bW : Below w6.heap.size w6 W) => same_eq W _ _ _ _ _ _ pay (r1.on bW) ((HBs.out.on B6).on bW))
              have CS2 := Lib.hid (fun (W : World) (A2 : Option Addr) (n2 c2 : Nat) (h2 : Bs W A2 n2 c2 (List.replicate r 0)) (hW : W.heap[w6.heap.size]? = some (.cells (bv (List.replicate r 0)).toArray 5 (0, 0))) => same_eq W A2 _ n2 c2 _ _ (List.replicate r 0) h2 (bs_made w6 r (by rw [HR.out]; omega) hW))
              have HG6 := Lib.hid (HG.out.on B6)
              have CL := Lib.hid (fun (W : World) (bW : Below w6.heap.size w6 W) => HG6.out.on bW)
              rcases Nat.lt_or_ge m 1016 with hfull | hfull
              · have r2 := Row.cut_bs R6 hlb.2 hlb.1 (by omega) (k := m) (by omega)
                rw [show (Pg.fill pay).drop m = List.replicate r 0 by rw [hf.2, HR.out]] at r2
                have R2 := Lib.hid (fun (W : World) (bW : Below w6.heap.size w6 W) => r2.on bW)
                have hne2 : ¬ 1016 = m := by omega
                clear hs hg R6 hlb B6 hf r1 r2 CR HG HBs
                go_wp2_with fail
                go_region_held3 (fun _ => True) (first | trivial | assumption | go_keep) (first
                  | (have q9 := hmk; clear q9; go_at_call 14; refine (CS2.out _ _ _ _ (by with_reducible exact R2.out _ (below_made _ _ _)) (by with_reducible exact made_at _ _ _)).mono ?_; rintro e wB ⟨rfl, mB, rfl⟩)
                  | (go_at_call 14; have QS := CS1; clear CS1; refine (QS.out _ (by first | with_reducible exact below_drewN (Below.refl _ _) _ | with_reducible exact (Below.refl _ _).drew | with_reducible exact Below.refl _ _)).mono ?_; clear QS; rintro e wB ⟨rfl, mB, rfl⟩; have hmk := HMZ.out))
                all_goals
                  go_wp2
                  go_roundw
                  case rel => exact ⟨j + 1, by omega, by go_num, CL.out _ (by with_reducible exact below_made2 _ _ _ _)⟩
                  case measure => simp [intOf]; omega
              · have he : 1016 = m := by omega
                obtain rfl : r = 0 := by omega
                have zs2 : (1016 - (m : Int)) = 0 := by omega
                rw [he] at r1
                have CS1 := Lib.hid (fun (W : World) (bW : Below w6.heap.size w6 W) => same_eq W _ _ _ _ _ _ pay (r1.on bW) ((HBs.out.on B6).on bW))
                have R2 := Lib.hid (fun (W : World) (A : Option Addr) => Bs.nil_ W A 0 (Nat.zero_le _))
                have HMZ := Lib.hid (show ∀ W : World, (Instr.makeSlice 22 (.int .i64 (0 : Int)) (.int .i64 (0 : Int))).run Try.prog W = .ok (.slice (some ⟨W.heap.size, 0, none⟩) 0 0) (W.alloc (.cells (bv (List.replicate 0 0)).toArray 5)) from HMZ.out)
                have zr0 : IntKind.i64.wrap 0 = 0 := rfl
                clear hs hg R6 hlb B6 hf r1 CR HG HBs zr zsub
                go_wp2_with fail
                go_region_held3 (fun _ => True) (first | trivial | assumption | go_keep) (first
                  | (have q9 := hmk; clear q9; go_at_call 14; refine (CS2.out _ _ _ _ (by exact R2.out _ _) (by exact made_at _ _ _)).mono ?_; rintro e wB ⟨rfl, mB, rfl⟩)
                  | (go_at_call 14; have QS := CS1; clear CS1; refine (QS.out _ (by first | with_reducible exact below_drewN (Below.refl _ _) _ | with_reducible exact (Below.refl _ _).drew | with_reducible exact Below.refl _ _)).mono ?_; clear QS; rintro e wB ⟨rfl, mB, rfl⟩; have hmk := HMZ.out))
                all_goals
                  go_wp2
                  go_roundw
                  case rel => exact ⟨j + 1, by omega, by go_num, CL.out _ (by with_reducible exact below_made2 _ _ _ _)⟩
                  case measure => simp [intOf]; omega
          · have z1 : ¬ (j : Int) < (k : Int) := by omega
            have CF := Lib.hid (gfresh wr x pp Hh.p _ hG)
            have hll : (set (seqd (Dk.fresh 40) 40 1 0 ls) (2 + (q : Int)) pay).l.length = k := by
              rw [set_len]
              show (pagesFrom 2 ls).length = k
              rw [pagesFrom_len]; exact HQ.out.2.2.1
            rw [hll] at CF
            have HB := Lib.hid hG.below
            clear hll hG
            go_wp2_with fail
            refine CF.out.mono ?_
            rintro e w6 ⟨v, rfl, hO, hB6⟩
            obtain ⟨A6, c6, rfl, hc6, _⟩ := own_form hO
            have RS := Lib.hid (onto HB.out hB6)
            clear hO hB6 CF
            go_wp2
            go_ret
            exact ⟨rfl, RS.out⟩

end Go.Proofs.Ytmcldkcmialfeaa.Pr
