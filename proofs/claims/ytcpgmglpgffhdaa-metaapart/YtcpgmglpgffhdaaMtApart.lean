/-
  MetaApart: two metas say the same just if they are the same; what one says, with a byte turned, isn't that meta.
-/
import Derived.Test.YtcpgmglpgffhdaaMtTells
import Derived.Test.YtcpgmglpgffhdaaCrFour
import Derived.BigRegion
import Derived.BigQuiet
namespace Go.Proofs.Ytcpgmglpgffhdaa
open Go.RowKit
set_option linter.unusedVariables false

theorem full_turned {a : Mt.M} (ha : Mt.May a) {i x t : Nat} (hi : i < 24) (hx : (Mt.full a)[i]? = some x) (hxl : x < 256) (ht : t < 256) :
    (∃ y : Mt.M × Int, fromV ((Mt.full a).set i (x ^^^ t)) = .tuple #[.agg #[.int .u64 (y.1.gen : Int), .int .i64 y.1.high, .int .i64 y.1.root, .int .i64 y.1.free], .int .i64 y.2] ∧ ((y.2 = 0 ∧ y.1 = a) ↔ t = 0)) := by
  unfold fromV
  have hlen : i < (Mt.full a).length := by rw [Mt.full_len]; omega
  by_cases h0 : t = 0
  · subst h0
    have e : (Mt.full a).set i (x ^^^ 0) = Mt.full a := by
      rw [Nat.xor_zero]
      apply List.ext_getElem? 
      intro j
      rw [List.getElem?_set]
      split
      · rename_i h
        subst h
        rw [hx]
      · rfl
    rw [e, if_pos (Mt.says_full a ha), Mt.of_full a ha]
    exact ⟨(a, 0), rfl, by simp⟩
  · have hne : (Mt.full a).set i (x ^^^ t) ≠ Mt.full a := by
      intro e
      have h1 : ((Mt.full a).set i (x ^^^ t))[i]? = some (x ^^^ t) := List.getElem?_set_self hlen
      rw [e, hx] at h1
      injection h1 with h1
      have h2 : x ^^^ (x ^^^ t) = x ^^^ x := by rw [← h1]
      rw [← Nat.xor_assoc, Nat.xor_self, Nat.zero_xor] at h2
      exact h0 h2
    by_cases hs : Mt.Says ((Mt.full a).set i (x ^^^ t))
    · rw [if_pos hs]
      refine ⟨(Mt.of ((Mt.full a).set i (x ^^^ t)), 0), rfl, ⟨fun h => absurd ?_ hne, fun h => absurd h h0⟩⟩
      have h2 := hs.2.2
      rw [show Mt.of ((Mt.full a).set i (x ^^^ t)) = a from h.2] at h2
      exact h2.symm
    · rw [if_neg hs]
      exact ⟨(m0, 5), rfl, ⟨fun h => absurd h.1 (by show ¬ (5 : Int) = 0; decide), fun h => absurd h h0⟩⟩

set_option maxRecDepth 100000 in
set_option maxHeartbeats 2000000 in
theorem metaApart_walk (w : World) (a b : Mt.M) (t0 t1 : Nat) (ht0 : t0 < 256) (ht1 : t1 < 256) :
    Calls Try.prog 7 #[mv a, mv b, .agg #[.int .u8 (t0 : Int), .int .u8 (t1 : Int)]] w fun e w' => e = .returned (.bool true) ∧ Below w.heap.size w w' := by
  obtain ⟨i0, hi, hz0, hz1, hz2⟩ := info_parts Try.info5
  have B0 : Below w.heap.size w (w.alloc (.cells #[.int .u64 (a.gen : Int), .int .i64 a.high, .int .i64 a.root, .int .i64 a.free] 24)) := (Below.refl _ _).alloc (Nat.le_refl _) _
  have M0 := (Mb.new w a).alloc (.cells #[.int .u64 (b.gen : Int), .int .i64 b.high, .int .i64 b.root, .int .i64 b.free] 24)
  have N0 := Mb.new (w.alloc (.cells #[.int .u64 (a.gen : Int), .int .i64 a.high, .int .i64 a.root, .int .i64 a.free] 24)) b
  have B1 := B0.alloc B0.size (.cells #[.int .u64 (b.gen : Int), .int .i64 b.high, .int .i64 b.root, .int .i64 b.free] 24)
  have T0 := heap_alloc_new ((w.alloc (.cells #[.int .u64 (a.gen : Int), .int .i64 a.high, .int .i64 a.root, .int .i64 a.free] 24)).alloc (.cells #[.int .u64 (b.gen : Int), .int .i64 b.high, .int .i64 b.root, .int .i64 b.free] 24)) (.cells #[.int .u8 (t0 : Int), .int .u8 (t1 : Int)] 54)
  have B2 := B1.alloc B1.size (.cells #[.int .u8 (t0 : Int), .int .u8 (t1 : Int)] 54)
  have M2 := M0.alloc (.cells #[.int .u8 (t0 : Int), .int .u8 (t1 : Int)] 54)
  have N2 := N0.alloc (.cells #[.int .u8 (t0 : Int), .int .u8 (t1 : Int)] 54)
  rw [show (w.alloc (.cells #[.int .u64 (a.gen : Int), .int .i64 a.high, .int .i64 a.root, .int .i64 a.free] 24)).heap.size = w.heap.size + 1 by simp] at N2
  rw [show ((w.alloc (.cells #[.int .u64 (a.gen : Int), .int .i64 a.high, .int .i64 a.root, .int .i64 a.free] 24)).alloc (.cells #[.int .u64 (b.gen : Int), .int .i64 b.high, .int .i64 b.root, .int .i64 b.free] 24)).heap.size = w.heap.size + 1 + 1 by simp] at T0
  clear M0 N0 B0 B1
  unfold mv
  go_enter Try.func7, Try.ntmps7
  go_wp2_with fail
  obtain ⟨gt, hgt⟩ : ∃ gt, gt = w.heap.size + 1 + 1 := ⟨_, rfl⟩
  rw [← hgt]
  rw [← hgt] at T0
  obtain ⟨gb, hgb⟩ : ∃ gb, gb = w.heap.size + 1 := ⟨_, rfl⟩
  rw [← hgb]
  rw [← hgb] at N2
  obtain ⟨ga, hga⟩ : ∃ ga, ga = w.heap.size := ⟨_, rfl⟩
  rw [← hga]
  rw [← hga] at M2
  clear hgt hgb hga
  refine (awake_any _).mono ?_
  rintro e w1 ⟨rfl, b1⟩
  have M1 := Lib.hid (M2.on b1)
  have N1 := Lib.hid (N2.on b1)
  have T1 : Hid (w1.heap[gt]? = some (.cells #[.int .u8 (t0 : Int), .int .u8 (t1 : Int)] 54 (0, 0))) := (b1.block _ (Array.getElem?_eq_some_iff.1 T0).1).trans T0
  have B1 := Lib.hid (onto B2 b1)
  clear M2 N2 B2 T0 b1
  obtain ⟨a0, a1, a2, a3⟩ := M1.out.cells
  have C1 := Lib.hid (refMay_any w1 a)
  unfold mv at C1
  by_cases hA : Mt.May a
  · rw [decide_eq_true hA] at C1
    go_wp2_with fail
    refine C1.out.mono ?_
    rintro e w2 ⟨rfl, x2⟩
    obtain ⟨b0, b1, b2, b3⟩ := (N1.out.on x2).cells
    have R2 := Lib.hid x2
    have C2 := Lib.hid (refMay_any w2 b)
    unfold mv at C2
    clear a0 a1 a2 a3 x2 C1
    by_cases hB : Mt.May b
    · rw [decide_eq_true hB] at C2
      go_wp2_with fail
      refine C2.out.mono ?_
      rintro e w3 ⟨rfl, x3⟩
      have R3 := Lib.hid (onto R2.out x3)
      clear b0 b1 b2 b3 x3 C2 R2
      obtain ⟨a0, a1, a2, a3⟩ := (M1.out.on R3.out).cells
      have C3 := Lib.hid (pay_yes w3 a hA)
      have C4 := Lib.hid (fun W => pay_yes W b hB)
      have EQ := Lib.hid (fun W => mt_eq W a b)
      have DD : Hid (decide (Mt.pay a = Mt.pay b) = decide (a = b)) := by
        show _ = _
        rw [decide_eq_decide]
        exact ⟨fun h => Mt.pay_inj hA hB h, fun h => by rw [h]⟩
      have QL := Lib.hid (Mt.pay_len a)
      have QT := Lib.hid (Mt.pay_lt a)
      have PL := Lib.hid (Mt.pay_len b)
      have PT := Lib.hid (Mt.pay_lt b)
      have FL := Lib.hid (Mt.full_len a)
      have FT := Lib.hid (Mt.full_lt a)
      have FE : Hid (Mt.full a = Mt.pay a ++ List.replicate 992 0) := rfl
      obtain ⟨i, hi', hi24⟩ : ∃ i, t0 % 24 = i ∧ i < 24 := ⟨_, rfl, Nat.mod_lt _ (by omega)⟩
      obtain ⟨xb, hxb⟩ : ∃ xb, (Mt.full a)[i]? = some xb := ⟨_, List.getElem?_eq_getElem (by rw [Mt.full_len]; omega)⟩
      have hxl := Mt.full_lt a xb (List.mem_of_getElem? hxb)
      obtain ⟨y, hy, hyi⟩ := full_turned hA hi24 hxb hxl ht1
      obtain ⟨y1, y2⟩ := y
      simp only at hy hyi
      have HY := Lib.hid hy
      have HYI := Lib.hid hyi
      have HXB := Lib.hid hxb
      generalize Mt.full a = fu at *
      generalize Mt.pay a = pa at *
      generalize Mt.pay b = pb at *
      have HD : Hid (∀ W, (Op.equalIn 10000 24 (.agg #[.int .u64 (y1.gen : Int), .int .i64 y1.high, .int .i64 y1.root, .int .i64 y1.free]) (.agg #[.int .u64 (a.gen : Int), .int .i64 a.high, .int .i64 a.root, .int .i64 a.free])).run Try.prog W = .ok (decide (y1 = a)) W) := fun W => mt_eq W y1 a
      generalize decide (a = b) = D at *
      have hgd : Try.prog.eqGuardType Try.prog.depth 24 = false := by kernel_rfl
      have KS : Hid (∀ W, Below w1.heap.size w1 W → (W.cell? ⟨ga, 0, none⟩ = some (.int .u64 (a.gen : Int)) ∧ W.cell? ⟨ga, 1, none⟩ = some (.int .i64 a.high) ∧ W.cell? ⟨ga, 2, none⟩ = some (.int .i64 a.root) ∧ W.cell? ⟨ga, 3, none⟩ = some (.int .i64 a.free)) ∧ W.cell? ⟨gb, 0, none⟩ = some (.int .u64 (b.gen : Int)) ∧ W.cell? ⟨gb, 1, none⟩ = some (.int .i64 b.high) ∧ W.cell? ⟨gb, 2, none⟩ = some (.int .i64 b.root) ∧ W.cell? ⟨gb, 3, none⟩ = some (.int .i64 b.free)) := fun W hb => ⟨(M1.out.on hb).cells, (N1.out.on hb).cells⟩
      unfold mv at *
      clear hA hB hy hyi hxb
      go_wp2_with fail
      refine C3.out.mono ?_
      rintro e w4 ⟨A4, k4, rfl, O4, b4⟩
      have s4 := own_bs O4 QL.out QT.out
      have run : Below w1.heap.size w1 w4 := onto R3.out b4
      clear a0 a1 a2 a3 C3 O4 b4 R3
      have ks := KS.out w4 run
      have EQ' := EQ.out
      go_wp2_with fail
      go_region_held3 (fun w' => (w'.cell? ⟨ga, 0, none⟩ = some (.int .u64 (a.gen : Int)) ∧ w'.cell? ⟨ga, 1, none⟩ = some (.int .i64 a.high) ∧ w'.cell? ⟨ga, 2, none⟩ = some (.int .i64 a.root) ∧ w'.cell? ⟨ga, 3, none⟩ = some (.int .i64 a.free)) ∧ w'.cell? ⟨gb, 0, none⟩ = some (.int .u64 (b.gen : Int)) ∧ w'.cell? ⟨gb, 1, none⟩ = some (.int .i64 b.high) ∧ w'.cell? ⟨gb, 2, none⟩ = some (.int .i64 b.root) ∧ w'.cell? ⟨gb, 3, none⟩ = some (.int .i64 b.free)) (first | assumption | exact ks | exact KS.out _ run | go_keep) (first
        | (go_at_call 9; refine (C4.out _).mono ?_; rintro e w5 ⟨A5, k5, rfl, O5, b5⟩; have s5 := s4.on (show Below w4.heap.size w4 w5 from onto (below_drewN (Below.refl _ _) 1) b5); have t5 := own_bs O5 PL.out PT.out; replace run : Below w1.heap.size w1 w5 := onto (below_drewN run 1) b5)
        | (go_at_call 12; refine (same_any _ _ _ _ _ _ _ _ _ s5 t5).mono ?_; rintro e w6 ⟨rfl, mm, rfl⟩; rw [DD.out]))
      replace run := below_drewN run mm
      have s6 := s5.drewN mm
      have HR := Lib.hid run
      clear run s4 s5 t5 O5 ks
      generalize w5.drewN mm = w6 at *
      have O6 := World.ownsRow_made (base := w6.heap.size) (e := 5) (size := 1) w6 #[] 0 (Nat.le_refl _) (Nat.zero_le _) rfl
      have S6 := Lib.hid (s6.alloc (.cells #[] 5))
      have HO6 := Lib.hid O6
      have B6 : Below w6.heap.size w6 (w6.alloc (.cells #[] 5)) := (Below.refl _ _).alloc (Nat.le_refl _) _
      clear s6 O6
      go_wp2_with (first
        | (at_builtin; refine wpList_append_bs _ rfl _ _ 25 rfl w6.heap.size 5 i0 (.int .u8 0) Try.underlying25 hi hz0 hz1 hz2 rfl _ _ _ rfl HO6.out _ _ _ _ rfl S6.out (by omega) (by simp) ?_; intro v10 w10 O10 g10; have B10 : Below w6.heap.size w6 w10 := below_own B6 HO6.out g10 (by simp) (Nat.le_refl _))
        | (at_builtin; refine wpList_append_run _ rfl _ _ 25 3 rfl v10 (.int .i64 ((992 : Nat) : Int)) rfl rfl _ (run_append_zeros _ w6.heap.size 25 3 _ 5 i0 .i64 .i64 Try.underlying25 Try.underlying3 hi hz0 hz1 hz2 v10 (0 + 24) _ O10 992 (by omega) B10.size) ?_; rintro v11 w11 ⟨O11, g11⟩))
      have B11 : Below w6.heap.size w6 w11 := below_own B10 O10 g11 B10.size (Nat.le_refl _)
      simp only [Nat.zero_add, List.nil_append, bv_app] at O11
      rw [← FE.out] at O11
      obtain ⟨A11, k11, rfl, _, _⟩ := own_form O11
      obtain ⟨g11', hA11⟩ : ∃ g, A11 = some ⟨g, 0, none⟩ := by
        rcases O11.2 with ⟨hv, hn⟩ | ⟨g, cap, cur, hv, _⟩
        · simp at hn
        · injection hv with hv _ _; exact ⟨g, hv⟩
      subst hA11
      have R11 := onto HR.out B11
      have tt := (R11.block _ (Array.getElem?_eq_some_iff.1 T1.out).1).trans T1.out
      have e0 := cell_of_row w11 gt 0 _ _ (0, 0) tt
      have e1 := cell_of_row w11 gt 1 _ _ (0, 0) tt
      replace e0 : w11.cell? ⟨gt, 0, none⟩ = some (.int .u8 (t0 : Int)) := e0
      replace e1 : w11.cell? ⟨gt, 1, none⟩ = some (.int .u8 (t1 : Int)) := e1
      have hu : (bv fu)[i]? = some (.int .u8 (xb : Int)) := by simp [bv, HXB.out]
      have hc := (O11.cellAt i (by omega)).trans hu
      have hf := O11.frozenAt i
      have hS := O11.stored i (.int .u8 ((xb ^^^ t1 : Nat) : Int))
      rw [show (bv fu).set i (.int .u8 ((xb ^^^ t1 : Nat) : Int)) = bv (fu.set i (xb ^^^ t1)) by simp [bv, List.map_set]] at hS
      have hlo : w6.heap.size ≤ g11' := (O11.lt g11' rfl).1
      have hB12 := B11.grown hS.2 B11.size (fun j hj => by injection hj with hj; omega)
      have hHO := Lib.hid hS.1
      have HB12 := Lib.hid hB12
      have xe := xor_u8 hxl ht1
      have m1 : IntKind.i64.wrap (t0 : Int) = (t0 : Int) := by rw [IntKind.wrap_i64]; omega
      have m2 : Int.tmod (t0 : Int) 24 = (i : Int) := by rw [← hi']; rfl
      have z1 : (0 : Int) ≤ (i : Int) := by omega
      have z2 : (i : Int) < 1016 := by omega
      have ngt : ¬ (gt = g11') := by
        have h1 := (Array.getElem?_eq_some_iff.1 T1.out).1
        have h2 := HR.out.size
        omega
      have YL : Hid ((fu.set i (xb ^^^ t1)).length = 1016) := by show _ = _; rw [List.length_set, FL.out]
      have YT : Hid (∀ z ∈ fu.set i (xb ^^^ t1), z < 256) := by
        intro z hz
        rcases List.mem_or_eq_of_mem_set hz with h1 | h1
        · exact FT.out z h1
        · rw [h1]; exact Nat.xor_lt_two_pow (n := 8) hxl ht1
      clear hS hB12 hu O10 O11 g10 g11 B10 B6 hi'
      generalize xb ^^^ t1 = yb at *
      go_wp2
      go_region
      have q13 := own_bs hHO.out YL.out YT.out
      have R12 := HR.out.trans (HB12.out.mono HR.out.size)
      have CE := Lib.hid (mfrom_any (w11.setCell ⟨g11', i, none⟩ (.int .u8 (yb : Int))).drew _ _ _ _ q13.drew)
      rw [HY.out] at CE
      have HR12 := Lib.hid R12.drew
      clear e0 e1 hc hf tt R11 B11 R12 q13
      go_wp2_with fail
      refine CE.out.mono ?_
      rintro e w13 ⟨rfl, b13⟩
      have R13 := onto HR12.out b13
      obtain ⟨⟨c0, c1, c2, c3⟩, _⟩ := KS.out w13 R13
      have tt := (R13.block _ (Array.getElem?_eq_some_iff.1 T1.out).1).trans T1.out
      have e1 := cell_of_row w13 gt 1 _ _ (0, 0) tt
      replace e1 : w13.cell? ⟨gt, 1, none⟩ = some (.int .u8 (t1 : Int)) := e1
      have lgt : gt < w13.heap.size := (Array.getElem?_eq_some_iff.1 tt).1
      have lga : ga < w13.heap.size := Nat.lt_of_lt_of_le M1.out.lt R13.size
      have RE := Lib.hid (onto B1.out (R13.alloc R13.size (.cells #[.int .u64 (y1.gen : Int), .int .i64 y1.high, .int .i64 y1.root, .int .i64 y1.free] 24)))
      have hyi := HYI.out
      clear b13 CE R13 tt HR12
      by_cases h2 : y2 = 0
      · have g1 : (y2 == 0) = true := by simpa using h2
        by_cases h1 : y1 = a
        · have e3 := hyi.1 ⟨h2, h1⟩
          have ED := HD.out
          rw [decide_eq_true h1] at ED
          subst e3
          clear hyi h1 h2 HYI HY
          go_wp2_with fail
          go_quiet (fail)
          all_goals
            go_wp2
            go_ret
            exact ⟨rfl, below_drewN RE.out _⟩
        · have e3 : ¬ t1 = 0 := fun h => h1 (hyi.2 h).2
          have g3 : ((t1 : Int) == 0) = false := by rw [beq_eq_false_iff_ne]; omega
          have ED := HD.out
          rw [decide_eq_false h1] at ED
          clear hyi h1 h2 HYI HY e3
          go_wp2_with fail
          go_quiet (fail)
          all_goals
            go_wp2
            go_ret
            exact ⟨rfl, below_drewN RE.out _⟩
      · have g1 : (y2 == 0) = false := by simpa using h2
        have e3 : ¬ t1 = 0 := fun h => h2 (hyi.2 h).1
        have g3 : ((t1 : Int) == 0) = false := by rw [beq_eq_false_iff_ne]; omega
        clear hyi h2 HYI HY e3
        go_wp2_with fail
        go_quiet (fail)
        all_goals
          go_wp2
          go_ret
          exact ⟨rfl, below_drewN RE.out _⟩
    · rw [decide_eq_false hB] at C2
      go_wp2_with fail
      refine C2.out.mono ?_
      rintro e w3 ⟨rfl, x3⟩
      have R3 := Lib.hid (onto (onto B1.out R2.out) x3)
      clear b0 b1 b2 b3 x3 C2
      go_wp2
      go_ret
      exact ⟨rfl, R3.out⟩
  · rw [decide_eq_false hA] at C1
    go_wp2_with fail
    refine C1.out.mono ?_
    rintro e w2 ⟨rfl, x2⟩
    have B3 := Lib.hid (onto B1.out x2)
    clear a0 a1 a2 a3 x2 C1
    go_wp2
    go_ret
    exact ⟨rfl, B3.out⟩

end Go.Proofs.Ytcpgmglpgffhdaa
