/-
  PagerChains, walked.
-/
import Derived.Test.YtmcldkcmialfeaaPrPutW
import Derived.Test.YtmcldkcmialfeaaPrAwake
import Derived.Test.YtmcldkcmialfeaaPrFull
import Derived.Test.YtmcldkcmialfeaaGrPool9
import Derived.Test.YtmcldkcmialfeaaSame
namespace Go.Proofs.Ytmcldkcmialfeaa.Pr
open Go.RowKit
set_option linter.unusedVariables false

theorem nosTo_len (m : Nat) : (nosTo m).length = m := by unfold nosTo; rw [List.length_map, List.length_range]
theorem nosTo_head {m : Nat} (h : 0 < m) : ((nosTo m).reverse)[0]? = some (headAt m) := by
  obtain ⟨k, rfl⟩ : ∃ k, m = k + 1 := ⟨m - 1, by omega⟩
  rw [nosTo_succ, List.reverse_append, headAt_succ]
  rfl
theorem own_cnt {w : World} {base e n : Nat} {v : Value} {l : List Int} (h : w.ownsRow base e 1 v n (zv l)) : n = l.length := by
  have := h.1
  rw [zv_len] at this
  omega
theorem fc_cnt {w : World} {base n : Nat} {v : Value} {l : List (F (List Nat))} (h : w.ownsRow base 3 1 v n (kc l)) : n = l.length := by
  have := h.1
  unfold kc at this
  rw [List.length_map] at this
  omega

set_option maxRecDepth 100000 in
set_option maxHeartbeats 800000 in
theorem pagerChains_walk (w : World) (A : Option Addr) (n c : Nat) (b : List Nat) (H : Bs w A n c b) (z : Nat) (hz : z < 65536) (o : Nat) (ho : o < 65536) :
    Calls Try.prog 3 #[.slice A n c, .int .u16 (z : Int), .int .u16 (o : Int)] w fun e w' => e = .returned (.bool true) ∧ Below w.heap.size w w' := by
  have HL := Lib.hid H
  have hnc := H.2.1
  have hcm := H.2.2.1
  have hlt := H.2.2.2.1
  unfold maxLen at hcm
  have HLT := Lib.hid hlt
  have wz : IntKind.i64.wrap (z : Int) = (z : Int) := IntWalk.i64_in _ ⟨by omega, by omega⟩
  have wo : IntKind.i64.wrap (o : Int) = (o : Int) := IntWalk.i64_in _ ⟨by omega, by omega⟩
  clear H hlt
  go_enter Try.func3, Try.ntmps3
  go_wp2_with fail
  refine (awake_any w).mono ?_
  rintro e w1 ⟨rfl, B1⟩
  have HB1 := Lib.hid B1
  clear B1
  by_cases h11 : (1100 : Int) < (n : Int)
  · go_wp2
    go_ret
    exact ⟨rfl, HB1.out⟩
  have C1 := Lib.hid (pnew w1 40 2 (by omega))
  go_wp2_with fail
  refine C1.out.mono ?_
  rintro e w2 ⟨p, mp, rfl, hP, hp1, hp2, B2⟩
  have HB2 := Lib.hid (onto HB1.out B2)
  have HPo := Lib.hid hP
  have C2 := Lib.hid (newD_any w2 40 40 (by omega))
  clear hP hp1 hp2 B2 C1 HB1
  go_wp2_with fail
  refine C2.out.mono ?_
  rintro e w3 ⟨Hh, rfl, hD, ho2, B3⟩
  have hs2 := HB2.out.size
  have C3 := Lib.hid (gnew (S := fun _ => False) (wb := w) w3 Hh p mp (Dk.fresh 40) ⟨40, 2, []⟩ 1 0 hD (HPo.out.on B3) (by omega) (by omega) (fun k hk => .inr (Nat.le_trans hs2 (ho2 k hk))) (Off.of_below (onto HB2.out B3)))
  clear hD ho2 B3 C2 HPo HB2 hs2
  go_wp2_with fail
  refine C3.out.mono ?_
  rintro e w4 ⟨x, pp, rfl, hG, _⟩
  have hG0 : HasG (fun _ => False) w w4 x pp Hh.p (seqd (Dk.fresh 40) 40 1 0 []) := hG
  have HG := Lib.hid hG0
  clear hG hG0 C3
  obtain ⟨m, hm⟩ : ∃ m : Nat, m = min z 17000 := ⟨_, rfl⟩
  have CF := Lib.hid (full_any w4 A n c b (HL.out.on HG.out.below) (z : Int) m (by omega))
  have HM := Lib.hid hm
  have hm17 : m ≤ 17000 := by omega
  clear hm
  go_wp2_with fail
  first
    | rw [wz]
    | skip
  refine CF.out.mono ?_
  rintro e w5 ⟨rfl, hR, hB5⟩
  have hvl : (full b m).length = m := full_len b m
  have hvlt := full_lt HLT.out m
  generalize full b m = v at hR hvl hvlt
  obtain ⟨S5, hN5, hS5, hT5⟩ := HG.out.since hB5
  have hbs5 := hR.bs' hvlt hvl (by omega)
  have CP := gputChain w5 x pp Hh.p _ hN5 (some ⟨w4.heap.size, 0, none⟩) m m v hbs5 (Out.of_row hR 0 m)
  have hng : ¬ S5 w4.heap.size := fun h => by have := hS5 _ h; omega
  have HR5 := Lib.hid (And.intro hbs5 hng)
  have HG5 := Lib.hid (And.intro (HG.out.on hB5) hT5)
  generalize w4.heap.size = g at CP HR5 ⊢
  clear hR hN5 hS5 hT5 hbs5 hng hB5 CF HG hvlt
  by_cases hbad : z < 1 ∨ 16384 < z
  · have hpc : putChain (seqd (Dk.fresh 40) 40 1 0 []) v = (seqd (Dk.fresh 40) 40 1 0 [], 0, 1) := if_pos (by have := HM.out; omega)
    rw [hpc] at CP
    replace CP := Lib.hid CP
    clear hpc
    go_wp2_with fail
    refine CP.out.mono ?_
    rintro e w6 ⟨rfl, hG6⟩
    have hG6 := HG5.out.1.back hG6 HG5.out.2
    have CFr := gfresh w6 x pp Hh.p _ hG6
    rw [show (seqd (Dk.fresh 40) 40 1 0 []).l.length = 0 from rfl] at CFr
    have HB6 := Lib.hid hG6.below
    replace CFr := Lib.hid CFr
    clear hG6 CP
    have hcond : (((z : Int) < 1) ∨ ¬ ((z : Int) < 1) ∧ decide ((z : Int) > 16384) = true) := by
      rcases hbad with h | h
      · exact .inl (by omega)
      · exact .inr ⟨by omega, by simp; omega⟩
    rcases hcond with h1 | ⟨h1, h2⟩
    · go_wp2_with fail
      refine CFr.out.mono ?_
      rintro e w7 ⟨vv, rfl, hO, hB7⟩
      obtain ⟨A7, c7, rfl, _, _⟩ := own_form hO
      have RS := Lib.hid (HB6.out.trans (hB7.mono HB6.out.size))
      clear hO hB7 CFr
      go_wp2
      go_ret
      exact ⟨rfl, RS.out⟩
    · go_wp2_with fail
      refine CFr.out.mono ?_
      rintro e w7 ⟨vv, rfl, hO, hB7⟩
      obtain ⟨A7, c7, rfl, _, _⟩ := own_form hO
      have RS := Lib.hid (HB6.out.trans (hB7.mono HB6.out.size))
      clear hO hB7 CFr
      go_wp2
      go_ret
      exact ⟨rfl, RS.out⟩
  · obtain rfl : z = m := by have := HM.out; omega
    have hv1 : 1 ≤ v.length := by omega
    have hv2 : v.length ≤ 16384 := by omega
    rw [putChain_all (Dk.fresh 40) hv1 hv2] at CP
    have E1 := chain_all (Dk.fresh 40) hv1 hv2
    have E2 := chain_other (Dk.fresh 40) hv1 hv2 (o : Int)
    have E3 := dropped (Dk.fresh 40) v
    have E4 : (seqd (Dk.fresh 40) 40 1 0 (pays v (many v.length))).l.length = many v.length := by
      show (pagesFrom 2 (pays v (many v.length))).length = _
      rw [pagesFrom_len, pays_len]
    have E5 : (nosTo (many v.length)).reverse.length = many v.length := by rw [List.length_reverse, nosTo_len]
    have E6 := nosTo_head (many_pos hv1)
    have E7 := head_small (many_le hv2)
    have q1 : IntKind.i64.wrap ((z : Int) + 1009) = (z : Int) + 1009 := IntWalk.i64_in _ ⟨by omega, by omega⟩
    have q2 : Int.tdiv ((z : Int) + 1009) 1010 = (many v.length : Int) := by
      rw [Int.tdiv_eq_ediv_of_nonneg (by omega), hvl]
      unfold many
      omega
    have hmp := many_pos hv1
    have hmn := many_le hv2
    generalize seqd (Dk.fresh 40) 40 1 0 (pays v (many v.length)) = a5 at CP E1 E2 E3 E4
    generalize headAt (many v.length) = hd at CP E1 E2 E6 E7
    generalize (nosTo (many v.length)).reverse = ps at E1 E3 E5 E6
    have E8 : (dropAll a5 ps).l.length = 0 ∧ (dropAll a5 ps).pool.l.length = many v.length ∧ (dropAll a5 ps).pool.high = 2 + (many v.length : Int) := ⟨by rw [E3.l]; rfl, E3.len, E3.high⟩
    clear E3
    generalize many v.length = mm at E4 E5 E8 q2 hmp hmn
    have q3 : IntKind.i64.wrap (mm : Int) = (mm : Int) := IntWalk.i64_in _ ⟨by omega, by omega⟩
    have q4 : IntKind.i64.wrap (2 + (mm : Int)) = 2 + (mm : Int) := IntWalk.i64_in _ ⟨by omega, by omega⟩
    rw [hvl] at E1 E2
    replace CP := Lib.hid CP
    have HE := Lib.hid (And.intro E1 (And.intro E2 (And.intro E4 (And.intro E5 (And.intro E6 (And.intro E7 (And.intro E8 (And.intro hmp hmn))))))))
    have HVL := Lib.hid hvl
    have z1 : ¬ ((z : Int) < 1) := by omega
    have z2 : decide ((z : Int) > 16384) = false := by simp; omega
    clear E1 E2 E4 E5 E6 E7 E8 hmp hmn hbad hv1 hv2 hvl HM hm17
    go_wp2_with fail
    refine CP.out.mono ?_
    rintro e w6 ⟨rfl, hG6⟩
    obtain ⟨E1, E2, E4, E5, E6, E7, E8, hmp, hmn⟩ := HE.out
    have hbs6 := HR5.out.1.off hG6.off fun _ b' off' e => by injection e with e; injection e with e1 _; exact e1 ▸ HR5.out.2
    have hG6 := HG5.out.1.back hG6 HG5.out.2
    have hdI : I64 hd := ⟨by omega, by omega⟩
    have CH := chain_any w6 x pp Hh.p a5 hG6 hd (z : Int) hdI ⟨by omega, by omega⟩
    rw [E1] at CH
    replace CH := Lib.hid CH
    have HB6 := Lib.hid hbs6
    have HG6 := Lib.hid hG6
    have HDI := Lib.hid hdI
    clear E1 E2 E4 E5 E6 E7 E8 hmp hmn hbs6 hG6 hdI CP HR5 HG5
    go_wp2_with fail
    refine CH.out.mono ?_
    rintro e w7 ⟨A7, n7, c7, B7, m7, d7, rfl, bs7, own7, nums7, bel7⟩
    dsimp only at bs7 own7
    obtain ⟨E1, E2, E4, E5, E6, E7, E8, hmp, hmn⟩ := HE.out
    obtain rfl : m7 = mm := by rw [own_cnt own7, E5]
    obtain rfl : z = n7 := by rw [← HVL.out]; exact bs7.1
    obtain ⟨g7, rfl, ck⟩ : ∃ g7, B7 = some ⟨g7, 0, none⟩ ∧ ∀ W, Below w7.heap.size w7 W → W.cell? ⟨g7, 0, none⟩ = some (.int .i64 hd) := by
      rcases own7.2 with ⟨_, h0⟩ | ⟨g7, cap, cur, hv, _, _⟩
      · omega
      · injection hv with h1 _ h3
        subst h1 h3
        refine ⟨g7, rfl, fun W hW => ?_⟩
        rw [(own_on own7 hW).cellAt 0 (by omega), zv, List.getElem?_map, E6]; rfl
    have hG7 := HG6.out.on bel7
    have CS := same_any w7 A7 (some ⟨g, 0, none⟩) z c7 z z v v bs7 (HB6.out.on bel7)
    rw [decide_eq_true rfl] at CS
    replace CS := Lib.hid CS
    have CFr := fun k => gfresh (w7.drewN k) x pp Hh.p a5 (hG7.drewN k)
    rw [E4] at CFr
    replace CFr := Lib.hid CFr
    have HCK := Lib.hid ck
    have HG7 := Lib.hid hG7
    have hm64 : m7 ≤ 17 := hmn
    have hm0 : (0 : Int) < (m7 : Int) := by omega
    clear E1 E2 E4 E5 E6 E7 E8 hmp hmn bs7 own7 nums7 bel7 ck hG7 CH HB6 HG6
    go_wp2_with (first
      | (go_at_call 14; refine CS.out.mono ?_; rintro e w8 ⟨rfl, k8, rfl⟩)
      | (go_at_call 12; refine (CFr.out _).mono ?_; rintro e w9 ⟨v9, rfl, o9, b9⟩; obtain ⟨A9, c9, rfl, _, _⟩ := own_form o9; have HB9 := Lib.hid (show Below w7.heap.size w7 w9 from ⟨b9.os, b9.tape, b9.output, b9.size, b9.block⟩); have c0 := HCK.out w9 HB9.out; clear o9 b9))
    have hG9 := HG7.out.on HB9.out
    have CO := Lib.hid (chain_any w9 x pp Hh.p a5 hG9 hd (o : Int) HDI.out ⟨by omega, by omega⟩)
    have HG9 := Lib.hid hG9
    clear hG9 CS CFr HCK HG7 HB9 c0
    refine CO.out.mono ?_
    rintro e w10 ⟨A10, n10, c10, B10, m10, d10, rfl, bs10, own10, nums10, bel10⟩
    obtain ⟨E1, E2, E4, E5, E6, E7, E8, hmp, hmn⟩ := HE.out
    obtain ⟨r, hr⟩ : ∃ r, (chain a5 hd (o : Int)).2.2 = r := ⟨_, rfl⟩
    rw [hr] at E2 ⊢
    obtain ⟨t, t1⟩ : ∃ t, ((o : Int) == (z : Int)) = t := ⟨_, rfl⟩
    have t2 : (r == 0) = t := by
      rw [← t1]
      by_cases h : r = 0
      · rw [E2.1 h, h]; simp
      · have h' : ¬ (o : Int) = (z : Int) := fun e => h (E2.2 e)
        rw [beq_eq_false_iff_ne.2 h, beq_eq_false_iff_ne.2 h']
    have t3 : (t != t) = false := by simp
    have hG10 := HG9.out.on bel10
    have CD := dropChain_any w10 x pp Hh.p a5 hG10 hd (z : Int) HDI.out ⟨by omega, by omega⟩
    rw [E1] at CD
    rw [if_pos rfl] at CD
    dsimp only at CD
    replace CD := Lib.hid CD
    clear E1 E2 E4 E5 E6 E7 E8 hmp hmn bs10 own10 nums10 bel10 hG10 HG9 CO hr
    go_wp2_with fail
    refine CD.out.mono ?_
    rintro e w11 ⟨rfl, hG11⟩
    obtain ⟨E1, E2, E4, E5, E6, E7, ⟨E8, E9, E10⟩, hmp, hmn⟩ := HE.out
    have CFr := gfresh w11 x pp Hh.p _ hG11
    rw [E8] at CFr
    replace CFr := Lib.hid CFr
    have HG11 := Lib.hid hG11
    have HE9 := Lib.hid (And.intro E9 E10)
    clear E1 E2 E4 E5 E6 E7 E8 E9 E10 hmp hmn hG11 CD HE t1 t2 t3
    go_wp2_with fail
    refine CFr.out.mono ?_
    rintro e w12 ⟨v12, rfl, o12, b12⟩
    obtain ⟨A12, c12, rfl, _, _⟩ := own_form o12
    have hG12 := HG11.out.on b12
    have CPl := Lib.hid (gpool w12 x pp Hh.p _ hG12)
    obtain ⟨H12, mp12, hp12, hD12, hP12, ho12⟩ := hG12.parts
    have CL := Pq.list_any w12 pp mp12 _ hP12
    rw [HE9.out.1] at CL
    replace CL := Lib.hid CL
    have HG12 := Lib.hid hG12
    clear hG12 hp12 hD12 hP12 ho12 o12 b12 CFr HG11
    go_wp2_with fail
    refine CPl.out.mono ?_
    rintro e w13 ⟨rfl, rfl⟩
    clear CPl
    go_wp2_with fail
    refine CL.out.mono ?_
    rintro e w13 ⟨v13, rfl, o13, b13⟩
    obtain ⟨A13, c13, rfl, _, _⟩ := Pq.own_form2 o13
    have hG13 := HG12.out.on b13
    have CPl := Lib.hid (gpool w13 x pp Hh.p _ hG13)
    obtain ⟨H13, mp13, hp13, hD13, hP13, ho13⟩ := hG13.parts
    have CHi := Pq.high_any w13 pp mp13 _ hP13
    rw [HE9.out.2] at CHi
    replace CHi := Lib.hid CHi
    have RS := Lib.hid hG13.below
    clear hG13 hp13 hD13 hP13 ho13 o13 b13 CL HG12
    go_wp2_with fail
    refine CPl.out.mono ?_
    rintro e w14 ⟨rfl, rfl⟩
    clear CPl
    go_wp2_with fail
    refine CHi.out.mono ?_
    rintro e w14 ⟨rfl, rfl⟩
    go_wp2
    go_ret
    exact ⟨rfl, RS.out⟩

end Go.Proofs.Ytmcldkcmialfeaa.Pr
