/-
  PagerKeeps, walked.
-/
import Derived.Test.YtmcldkcmialfeaaPrKeepM
import Derived.Test.YtmcldkcmialfeaaPrFull
import Derived.Test.YtmcldkcmialfeaaPrLs
import Derived.Test.YtmcldkcmialfeaaSame
import Derived.Deep.CutBlock
namespace Go.Proofs.Ytmcldkcmialfeaa.Pr
open Go.RowKit
set_option linter.unusedVariables false

theorem full_on (w : World) (A : Option Addr) (n c : Nat) (b : List Nat) (hb : Bs w A n c b) (z : Int) (m : Nat) (hm : (m : Int) = min (max z 0) 17000) (W : World) (bW : Below w.heap.size w W) :
    Calls Try.prog 10 #[.slice A n c, .int .i64 z] W fun e w' => e = .returned (.slice (some ⟨W.heap.size, 0, none⟩) m m) ∧ Row w' W.heap.size (full b m) ∧ Below W.heap.size W w' :=
  full_any W A n c b (hb.on bW) z m hm

theorem fill_parts {b : List Nat} (h : b.length ≤ 1016) : (Pg.fill b).take b.length = b ∧ (Pg.fill b).drop b.length = List.replicate (1016 - b.length) 0 := by
  unfold Pg.fill
  exact ⟨List.take_left, List.drop_left⟩
theorem rem12 (v : Nat) (hv : v < 256) : wrap64 ((wrap64 (v : Int)).tmod 12) = ((v % 12 : Nat) : Int) ∧ (wrap64 (v : Int)).tmod 12 = ((v % 12 : Nat) : Int) := by
  have e : (wrap64 (v : Int)).tmod 12 = ((v % 12 : Nat) : Int) := by
    rw [IntWalk.wrap64_in (v : Int) ⟨by omega, by omega⟩, Int.tmod_eq_emod_of_nonneg (by omega)]; rfl
  refine ⟨?_, e⟩
  rw [e]
  exact IntWalk.wrap64_in _ ⟨by omega, by omega⟩
theorem below_undrew {w w1 : World} {m : Nat} (h : Below (w.drewN m).heap.size (w.drewN m) w1) : Below w.heap.size w w1 := ⟨h.os, h.tape, h.output, h.size, h.block⟩
/-- One row's cell, wherever what was there stays. -/
theorem _root_.Go.Proofs.Ytmcldkcmialfeaa.Ls.at_ {w : World} {A : Option Addr} {n c : Nat} {ls : List (List Nat)} (h : Ls w A n c ls) {k : Nat} (hk : k < n) :
    ∃ b off l A' n' c', A = some ⟨b, off, none⟩ ∧ ls[k]? = some l ∧ Bs w A' n' c' l ∧ ∀ W, Below w.heap.size w W → W.cell? ⟨b, off + k, none⟩ = some (.slice A' n' c') := by
  obtain ⟨h1, h2, h3, h5⟩ := h
  obtain ⟨b, off, e, hlt, hc⟩ := h5 (by omega)
  have hl : ls[k]? = some ls[k] := List.getElem?_eq_getElem (by omega)
  obtain ⟨A', n', c', h6, h7, h8⟩ := hc k _ hl
  exact ⟨b, off, _, A', n', c', e, hl, h7, fun W hb => (hb.cell (p := ⟨b, off + k, none⟩) (by exact hlt)).trans h6⟩

set_option maxRecDepth 100000 in
set_option maxHeartbeats 2000000 in
theorem pagerKeeps_walk (w : World) (A : Option Addr) (n c : Nat) (ls : List (List Nat)) (H : Ls w A n c ls) (B : Option Addr) (m cB : Nat) (dr : List Nat) (HB : Bs w B m cB dr) (C : Option Addr) (n2 c2 : Nat) (ms : List (List Nat)) (H2 : Ls w C n2 c2 ms) :
    Calls Try.prog 4 #[.slice A n c, .slice B m cB, .slice C n2 c2] w fun e w' => e = .returned (.bool true) ∧ Below w.heap.size w w' := by
  have HL := Lib.hid H
  have HM := Lib.hid H2
  have HD := Lib.hid HB
  have hnc := H.2.1
  have hcm := H.2.2.1
  have hmc := HB.2.1
  have hcB := HB.2.2.1
  have hn2 := H2.2.1
  have hc2 := H2.2.2.1
  unfold maxLen at hcm hcB hc2
  clear H HB H2
  go_enter Try.func4, Try.ntmps4
  go_wp2_with fail
  refine (awake_any w).mono ?_
  rintro e w1 ⟨rfl, B1⟩
  have HB1 := Lib.hid B1
  clear B1
  by_cases h8 : (8 : Int) < (n : Int)
  · go_wp2
    go_ret
    exact ⟨rfl, HB1.out⟩
  by_cases h12 : (12 : Int) < (n2 : Int)
  · go_wp2
    go_ret
    exact ⟨rfl, HB1.out⟩
  by_cases h40 : (40 : Int) < (m : Int)
  · go_wp2
    go_ret
    exact ⟨rfl, HB1.out⟩
  have C1 := Lib.hid (pnew w1 30 2 (by omega))
  go_wp2_with fail
  refine C1.out.mono ?_
  rintro e w2 ⟨p, mp, rfl, hP, hp1, hp2, B2⟩
  have HB2 := Lib.hid (onto HB1.out B2)
  have HPo := Lib.hid hP
  have C2 := Lib.hid (newD_any w2 30 30 (by omega))
  clear hP hp1 hp2 B2 C1 HB1
  go_wp2_with fail
  refine C2.out.mono ?_
  rintro e w3 ⟨Hh, rfl, hD, ho, B3⟩
  have hs2 := HB2.out.size
  have C3 := Lib.hid (gnew (S := fun _ => False) (wb := w) w3 Hh p mp (Dk.fresh 30) ⟨30, 2, []⟩ 1 0 hD (HPo.out.on B3) (by omega) (by omega) (fun k hk => .inr (Nat.le_trans hs2 (ho k hk))) (Off.of_below (onto HB2.out B3)))
  clear hD ho B3 C2 HPo HB2 hs2
  go_wp2_with fail
  refine C3.out.mono ?_
  rintro e w4 ⟨x, pp, rfl, hG, _⟩
  have hG0 : HasG (fun _ => False) w w4 x pp Hh.p (seqd (Dk.fresh 30) 30 1 0 []) := hG
  have HG := Lib.hid hG0
  clear hG hG0 C3
  go_upto_block 0 with fail
  go_cut [11] from 49 to 66 (fun v wx => HasG (fun _ => False) w wx x pp Hh.p (seqd (Dk.fresh 30) 30 1 0 ls) ∧ ∀ b ∈ ls, b.length ≤ 1016)
  case first =>
    go_wp2_with fail
    go_loopw [11] (fun i wr => ∃ k : Nat, k ≤ n ∧ i = .int .i64 (k : Int) ∧ HasG (fun _ => False) w wr x pp Hh.p (seqd (Dk.fresh 30) 30 1 0 (ls.take k)) ∧ ∀ b ∈ ls.take k, b.length ≤ 1016) (fun i _ => n - (intOf i).toNat)
    case atStart => exact ⟨0, Nat.zero_le _, rfl, by rw [List.take_zero]; exact HG.out, by simp⟩
    case round =>
      obtain ⟨k, hk, rfl, hG, hall⟩ := hrel
      by_cases hlt : k < n
      · have z1 : (k : Int) < (n : Int) := by omega
        obtain ⟨b, off, l, A', n', c', rfl, hl, hc, hbs⟩ := HL.out.get hG.below hlt
        have hbn := hbs.1
        have hbc := hbs.2.1
        have hbm := hbs.2.2.1
        unfold maxLen at hbm
        have HX := Lib.hid (And.intro hG (And.intro hall (And.intro hl hbs)))
        clear hG hall hl hbs
        by_cases hbig : (1016 : Int) < (n' : Int)
        · go_wp2
          go_ret
          exact ⟨rfl, HX.out.1.below⟩
        · obtain ⟨hG, hall, hl, hbs⟩ := HX.out
          have hlen : (ls.take k).length = k := by rw [List.length_take, HL.out.1]; omega
          have hcap : 2 + ((ls.take k).length : Int) < 30 := by rw [hlen]; omega
          have hl16 : l.length ≤ 1016 := by omega
          have CP := gput wr x pp Hh.p _ hG A' n' c' l (hbs.on hG.below) (Out.of_bs hbs)
          rw [seqd_put hcap hl16, (seqd_code hcap hl16).1] at CP
          have hta : ls.take (k + 1) = ls.take k ++ [l] := by rw [List.take_add_one, hl]; rfl
          rw [← hta] at CP
          replace CP := Lib.hid CP
          have HT := Lib.hid (show ∀ b ∈ ls.take (k + 1), b.length ≤ 1016 by rw [hta]; intro b hb; rcases List.mem_append.1 hb with h | h; exact hall b h; simp at h; subst h; exact hl16)
          clear hG hall hl hbs HX hlen hcap hl16 hta
          go_wp2_with fail
          refine CP.out.mono ?_
          rintro e w5 ⟨rfl, hG⟩
          go_wp2
          go_roundw
          case rel => exact ⟨k + 1, by omega, by go_num, hG, HT.out⟩
          case measure => simp [intOf]; omega
      · have z1 : ¬ (k : Int) < (n : Int) := by omega
        have hte : ls.take k = ls := by rw [show k = n by omega, ← HL.out.1]; exact List.take_length
        rw [hte] at hG hall
        have HX := Lib.hid (And.intro hG hall)
        clear hG hall hte
        go_wp2
        go_meet
        exact HX.out
  case rest =>
    obtain ⟨hG, hall⟩ := hcut
    clear HG
    have hln : ls.length = n := HL.out.1
    have hfp : (Dk.fresh 30).pages.length = 30 := List.length_replicate
    obtain ⟨f1, f2, f3, f4, f5⟩ := keep_first (ls := ls) (by omega) hall (Dk.fresh 30) ⟨rfl, rfl⟩ hfp
    have CF := gflush _ x pp Hh.p _ hG (show (Dk.fresh 30).waits.length < 90000 from by decide)
    have e1 : flushCode (seqd (Dk.fresh 30) 30 1 0 ls) = 0 := f1
    rw [e1] at CF
    have hfd : (flush (seqd (Dk.fresh 30) 30 1 0 ls)).disk = (flushTo (Dk.fresh 30) (pagesFrom 2 ls)).1 := rfl
    have hfw : (flush (seqd (Dk.fresh 30) 30 1 0 ls)).disk.waits.length ≤ 8 := by rw [hfd, f4, hln]; show 0 + n ≤ 8; omega
    rw [← hfd] at f2 f3 f5
    replace CF := Lib.hid CF
    have HA := Lib.hid (And.intro hall (And.intro f2 (And.intro f3 f5)))
    have HW := Lib.hid hfw
    have HN := Lib.hid hln
    clear hG hall hln hfp f1 f2 f3 f4 f5 e1 hfd hfw
    go_wp2_with fail
    refine CF.out.mono ?_
    rintro e w5 ⟨rfl, hG5⟩
    obtain ⟨hall, f2, f3, f5⟩ := HA.out
    obtain ⟨y1, y2, y3, y4, y5⟩ := sync_calm f2 hG5.ins
    have CS := gsync w5 x pp Hh.p _ hG5 (by have := HW.out; omega)
    rw [y1] at CS
    replace CS := Lib.hid CS
    generalize hd1 : Dk.sync (flush (seqd (Dk.fresh 30) 30 1 0 ls)).disk = d1 at y2 y3 y4 y5 CS
    have hsy : ∀ (i : Nat) b, ls[i]? = some b → dsays d1 (2 + i) = some (Pg.fill b) := fun i b hb => by rw [y5]; exact f5 i b hb
    have HY := Lib.hid (And.intro y2 (And.intro (y3.trans f3) (And.intro y4 hsy)))
    have HA2 := Lib.hid hall
    clear y1 y2 y3 y4 y5 hsy hd1 hall f2 f3 f5 hG5 CF HA HW
    go_wp2_with fail
    refine CS.out.mono ?_
    rintro e w6 ⟨rfl, hG6⟩
    have hpl : (flush (seqd (Dk.fresh 30) 30 1 0 ls)).pool = ⟨30, 2 + (ls.length : Int), []⟩ := rfl
    have CPl := Lib.hid (gpool w6 x pp Hh.p _ hG6)
    obtain ⟨H6, mp6, hp6, hD6, hP6, ho6⟩ := hG6.parts
    have CN := gnew (S := fun _ => False) (wb := w) w6 H6 pp mp6 _ _ 2 1 hD6 hP6 (by omega) (by omega) ho6 hG6.off
    rw [hp6] at CN
    replace CN := Lib.hid CN
    clear hG6 hD6 hP6 ho6 CS hp6
    go_wp2_with fail
    refine CPl.out.mono ?_
    rintro e w7 ⟨rfl, rfl⟩
    clear CPl
    go_wp2_with fail
    refine CN.out.mono ?_
    rintro e w8 ⟨y, pq, rfl, hG8, _⟩
    have hDr : Dropping n d1 ⟨d1, (flush (seqd (Dk.fresh 30) 30 1 0 ls)).pool, 2, 1, []⟩ := by
      rw [hpl]
      exact ⟨rfl, rfl, rfl, rfl, by rw [HN.out], rfl, by simp⟩
    have HG8 := Lib.hid hG8
    have HDr := Lib.hid hDr
    clear hG8 hDr CN hpl
    go_upto_block 2 with fail
    go_cut [13] from 79 to 92 (fun v wx => ∃ a, HasG (fun _ => False) w wx y pq Hh.p a ∧ Putting n d1 a)
    case first =>
      go_wp2_with fail
      go_loopw [13] (fun i wr => ∃ (j : Nat) (a : Pa), j ≤ m ∧ i = .int .i64 (j : Int) ∧ HasG (fun _ => False) w wr y pq Hh.p a ∧ Dropping n d1 a) (fun i _ => m - (intOf i).toNat)
      case atStart => exact ⟨0, _, Nat.zero_le _, rfl, HG8.out, HDr.out⟩
      case round =>
        clear HG8 HDr
        obtain ⟨j, a, hj, rfl, hG, hDr⟩ := hrel
        by_cases hlt : j < m
        · have z2 : (j : Int) < (m : Int) := by omega
          obtain ⟨bd, offd, rfl, hbl, hcd⟩ := HD.out.2.2.2.2 (by omega)
          have hld := HD.out.1
          have hyv : dr[j]? = some dr[j] := List.getElem?_eq_getElem (by omega)
          generalize dr[j] = v at hyv
          have hv256 := HD.out.2.2.2.1 v (List.mem_of_getElem? hyv)
          have cB := (hG.below.cell (p := ⟨bd, offd + j, none⟩) (by exact hbl)).trans (hcd j v hyv)
          obtain ⟨q, hq⟩ : ∃ q : Nat, q = v % 12 := ⟨_, rfl⟩
          have hE := rem12 v hv256
          rw [← hq] at hE
          have hq12 : q < 12 := by rw [hq]; exact Nat.mod_lt _ (by decide)
          have HE := Lib.hid hE
          clear hE hq hv256
          have hqi : I64 (q : Int) := ⟨by omega, by omega⟩
          have CD := Lib.hid (gdrop wr y pq Hh.p a hG (q : Int) hqi)
          have HS := Lib.hid (hDr.step (q : Int))
          clear hG hDr hyv hcd hbl hld hqi
          go_wp2_with fail
          first
            | rw [HE.out.1]
            | rw [HE.out.2]
          refine CD.out.mono ?_
          rintro e w9 ⟨rfl, hG⟩
          go_wp2
          go_roundw
          case rel => exact ⟨j + 1, _, by omega, by go_num, hG, HS.out⟩
          case measure => simp [intOf]; omega
        · have z2 : ¬ (j : Int) < (m : Int) := by omega
          have HX := Lib.hid (And.intro hG (Putting.of hDr))
          clear hG hDr
          go_wp2
          go_meet
          exact ⟨_, HX.out⟩
    case rest =>
      obtain ⟨a1, hG, hPt⟩ := hcut
      have HG9 := Lib.hid (And.intro hG hPt)
      clear HG8 HDr hG hPt
      go_upto_block 4 with fail
      go_cut [14] from 93 to 111 (fun v wx => ∃ a, HasG (fun _ => False) w wx y pq Hh.p a ∧ Putting n d1 a)
      case first =>
        go_wp2_with fail
        go_loopw [14] (fun i wr => ∃ (j : Nat) (a : Pa), j ≤ n2 ∧ i = .int .i64 (j : Int) ∧ HasG (fun _ => False) w wr y pq Hh.p a ∧ Putting n d1 a) (fun i _ => n2 - (intOf i).toNat)
        case atStart => exact ⟨0, _, Nat.zero_le _, rfl, HG9.out.1, HG9.out.2⟩
        case round =>
          clear HG9
          obtain ⟨i, a2, hi, rfl, hG, hPt⟩ := hrel
          by_cases hlt2 : i < n2
          · have z3 : (i : Int) < (n2 : Int) := by omega
            obtain ⟨b, off, l, A', n', c', rfl, hl, hbs, hcc⟩ := HM.out.at_ hlt2
            have hc := hcc wr hG.below
            have hbn := hbs.1
            obtain ⟨r, hr⟩ : ∃ r : Nat, r = min n' 1000 := ⟨_, rfl⟩
            have CFl := Lib.hid (full_on wr A' n' c' l (hbs.on hG.below) (min (n' : Int) 1000) r (by omega))
            have hr16 : r ≤ 1000 := by omega
            have HWB := Lib.hid hG.below
            have CCL := Lib.hid hcc
            have CPu := Lib.hid (fun (W : World) (g : Nat) (bW : Below wr.heap.size wr W) (hR : Row W g (full l r)) => gput W y pq Hh.p a2 (hG.on bW) (some ⟨g, 0, none⟩) r r (full l r) (hR.bs' (full_lt hbs.2.2.2.1 r) (full_len l r) (by omega)) (Out.of_row hR 0 r))
            have HST := Lib.hid (hPt.step (full l r))
            clear hPt hbs hl hr hbn hG hcc
            go_wp2_with fail
            go_region_held3 (fun w' => w'.cell? ⟨b, off + i, none⟩ = some (.slice A' n' c')) (first | assumption | exact hc | go_keep) (first
              | (go_at_call 10; have QS := CFl; clear CFl; refine (QS.out _ (by first | with_reducible exact below_drewN (Below.refl _ _) _ | with_reducible exact (Below.refl _ _).drew)).mono ?_; clear QS; rintro e wA ⟨rfl, rA, bA⟩; have RA := Lib.hid rA; have BA := Lib.hid (show Below wr.heap.size wr wA from ⟨bA.os, bA.tape, bA.output, bA.size, bA.block⟩); have sA := CCL.out _ (HWB.out.trans (BA.out.mono HWB.out.size)); clear rA bA)
              | (go_at_call 19; have QS := CPu; clear CPu; refine (QS.out _ _ BA.out RA.out).mono ?_; clear QS; rintro e wB ⟨rfl, hG⟩; have HGB := Lib.hid hG; have sB : (fun w' : World => w'.cell? ⟨b, off + i, none⟩ = some (.slice A' n' c')) wB := CCL.out _ hG.below; clear hG))
            all_goals
              go_wp2
              go_roundw
              case rel => exact ⟨i + 1, _, by omega, by go_num, HGB.out, HST.out⟩
              case measure => simp [intOf]; omega
          · have z3 : ¬ (i : Int) < (n2 : Int) := by omega
            have HX := Lib.hid (And.intro hG hPt)
            clear hG hPt
            go_wp2
            go_meet
            exact ⟨_, HX.out⟩
      case rest =>
        obtain ⟨a2, hG, hPt⟩ := hcut
        clear HG9
        have hk2 := hG.ok
        obtain ⟨d1a, d1b, d1c, d1d⟩ := HY.out
        have hw0 : a2.disk.waits.length = 0 := by rw [hPt.disk, d1c]; rfl
        have CW := gwaiting _ y pq Hh.p a2 hG (by omega)
        rw [hw0] at CW
        obtain ⟨g1, g2, g3, g4⟩ := keep_last hPt hk2 d1a d1b d1c
        have HKL := Lib.hid (And.intro g1 (And.intro g2 (And.intro g3 g4)))
        replace CW := Lib.hid CW
        have HG3 := Lib.hid hG
        have HWW := Lib.hid hw0
        clear hk2 d1a d1b d1c d1d hw0 g1 g2 g3 g4 hPt hG
        go_wp2_with fail
        refine CW.out.mono ?_
        rintro e w10 ⟨A10, c10, rfl, _, b10⟩
        have CF2 := gflush w10 y pq Hh.p a2 (HG3.out.on b10) (by rw [HWW.out]; omega)
        rw [HKL.out.1] at CF2
        replace CF2 := Lib.hid CF2
        clear CW b10 HG3
        go_wp2_with fail
        refine CF2.out.mono ?_
        rintro e w11 ⟨rfl, hG11⟩
        have CW2 := Lib.hid (gwaiting w11 y pq Hh.p (flush a2) hG11 (by have := HKL.out.2.2.1; omega))
        have HG11 := Lib.hid hG11
        clear CF2 hG11
        go_wp2_with fail
        refine CW2.out.mono ?_
        rintro e w12 ⟨A12, c12, rfl, rd12, b12⟩
        have HG12 := Lib.hid (HG11.out.on b12)
        have HR12 := Lib.hid rd12
        clear CW2 b12 rd12 HG11
        obtain ⟨nw, hnw⟩ : ∃ nw, nw = (flush a2).disk.waits.length := ⟨_, rfl⟩
        rw [← hnw] at HR12 ⊢
        have HNW := Lib.hid hnw
        have hnw2 : nw ≤ 2048 := by rw [hnw]; exact HKL.out.2.2.1
        have E8 : wrap64 (2 + (n : Int)) = 2 + (n : Int) := IntWalk.wrap64_in _ ⟨by omega, by omega⟩
        clear hnw
        go_upto_block 6 with fail
        go_cut [16] from 121 to 134 (fun v wx => wx = w12)
        case first =>
          go_wp2_with fail
          go_loopw [16] (fun iv wr => ∃ j2 : Nat, j2 ≤ nw ∧ iv = .int .i64 (j2 : Int) ∧ wr = w12) (fun iv _ => nw - (intOf iv).toNat)
          case atStart => exact ⟨0, Nat.zero_le _, rfl, rfl⟩
          case round =>
            obtain ⟨j2, hj2, rfl, rfl⟩ := hrel
            by_cases hl3 : j2 < nw
            · have z4 : (j2 : Int) < (nw : Int) := by omega
              obtain ⟨hq1, hq2, hq3, hq4⟩ := HR12.out
              obtain ⟨bw, offw, rfl, hbl, hcell⟩ := hq4 (by omega)
              rw [nv_len] at hq1
              have hv0 : (Dk.nos (flush a2).disk)[j2]? = some (Dk.nos (flush a2).disk)[j2] := List.getElem?_eq_getElem (by omega)
              generalize (Dk.nos (flush a2).disk)[j2] = v at hv0
              have cw := hcell j2 (.int .i64 (v : Int)) (by unfold nv; rw [List.getElem?_map, hv0]; rfl)
              have hge := HKL.out.2.1 v (List.mem_of_getElem? hv0)
              have z6 : ¬ ((v : Int) < 2 + (n : Int)) := by omega
              clear hq1 hq2 hq3 hq4 hcell hv0 hge hbl
              go_wp2
              go_roundw
              case rel => exact ⟨j2 + 1, by omega, by go_num, trivial⟩
              case measure => simp [intOf]; omega
            · have z4 : ¬ (j2 : Int) < (nw : Int) := by omega
              go_wp2
              go_meet
              exact rfl
        case rest =>
          subst hcut
          go_wp2_with fail
          go_loopw [17, 18, 19] (fun iv o1 o2 wr => ∃ j3 : Nat, j3 ≤ n ∧ iv = .int .i64 (j3 : Int) ∧ HasG (fun _ => False) w wr y pq Hh.p (flush a2)) (fun iv _ _ _ => n - (intOf iv).toNat)
          case atStart => exact ⟨0, Nat.zero_le _, rfl, HG12.out⟩
          case round =>
            obtain ⟨j3, hj3, rfl, hG⟩ := hrel
            by_cases hl4 : j3 < n
            · have z5 : (j3 : Int) < (n : Int) := by omega
              obtain ⟨b, off, l, A', n', c', rfl, hl, hbs, hcc⟩ := HL.out.at_ hl4
              have hc := hcc _ hG.below
              have hl16 : l.length ≤ 1016 := HA2.out l (List.mem_of_getElem? hl)
              have hbn := hbs.1
              have hsy : says (flush a2) (2 + (j3 : Int)) = some (Pg.fill l) := by rw [HKL.out.2.2.2 j3 hl4]; exact HY.out.2.2.2 j3 l hl
              have CR := gread _ y pq Hh.p _ hG (2 + (j3 : Int)) (by unfold I64; omega)
              rw [hsy] at CR
              replace CR := Lib.hid CR
              have E9 := IntWalk.wrap64_in (2 + (j3 : Int)) ⟨by omega, by omega⟩
              have z16 : (n' : Int) ≤ 1016 := by omega
              have HBs := Lib.hid (hbs.on hG.below)
              have HGG := Lib.hid hG
              have CCL := Lib.hid hcc
              have HW16 := Lib.hid (And.intro hbn hl16)
              clear hsy hl hbs hcc hG hl16 hbn
              go_wp2_with fail
              refine CR.out.mono ?_
              rintro e w14 hs
              obtain ⟨g, rfl, hg, R6, hlb, B6⟩ := hs.of_some
              have hf := fill_parts (b := l) HW16.out.2
              rw [HW16.out.1] at hf
              have r1 := (R6.bs' hlb.2 hlb.1 (by omega)).first n' (by omega)
              rw [hf.1] at r1
              have CS1 := Lib.hid (fun (W : World) (bW : Below w14.heap.size w14 W) => same_eq W _ _ _ _ _ _ l (r1.on bW) ((HBs.out.on B6).on bW))
              have HG14 := Lib.hid (HGG.out.on B6)
              have cc14 := CCL.out _ HG14.out.below
              clear hs hg R6 hlb B6 hf r1 CR HGG HBs hc
              go_wp2_with fail
              go_region_held3 (fun w' => w'.cell? ⟨b, off + j3, none⟩ = some (.slice A' n' c')) (first | assumption | exact cc14 | go_keep) (first
                | (go_at_call 14; have QS := CS1; clear CS1; refine (QS.out _ (by first | with_reducible exact below_drewN (Below.refl _ _) _ | with_reducible exact (Below.refl _ _).drew)).mono ?_; clear QS; rintro e wB ⟨rfl, mB, rfl⟩; have sB : (fun w' : World => w'.cell? ⟨b, off + j3, none⟩ = some (.slice A' n' c')) ((w14.drewN 1).drewN mB) := cc14))
              all_goals
                go_wp2
                go_roundw
                case rel => exact ⟨j3 + 1, by omega, by go_num, HG14.out.on (by first | with_reducible exact below_drewN (below_drewN (Below.refl _ _) _) _ | with_reducible exact below_drewN (Below.refl _ _) _ | with_reducible exact (Below.refl _ _).drew)⟩
                case measure => simp [intOf]; omega
            · have z5 : ¬ (j3 : Int) < (n : Int) := by omega
              have RS := Lib.hid hG.below
              clear hG
              go_wp2
              go_ret
              exact ⟨rfl, RS.out⟩

end Go.Proofs.Ytmcldkcmialfeaa.Pr
