/-
  PoolFrees: the walk.
-/
import Derived.Test.YtbfofhgnamheeaaPoAwake
import Derived.Test.YtbfofhgnamheeaaPoListW
import Derived.Test.YtbfofhgnamheeaaPoSame
import Derived.Test.YtbfofhgnamheeaaPoOpen
import Derived.Test.YtbfofhgnamheeaaPlMore
namespace Go.Proofs.Ytbfofhgnamheeaa.Pq
open Go.RowKit
set_option linter.unusedVariables false

/-- The beginning, boxed. -/
structure Bx (w : World) (g : Nat) (x : Bg) : Prop where
  c0 : w.cell? ⟨g, 0, none⟩ = some (.int .i64 x.cap)
  c1 : w.cell? ⟨g, 1, none⟩ = some (.int .i64 x.high)
  c2 : w.cell? ⟨g, 2, none⟩ = some (.slice x.A x.n x.c)
theorem bx_new (w : World) (x : Bg) (t : TypeId) : Bx (w.alloc (.cells #[.int .i64 x.cap, .int .i64 x.high, .slice x.A x.n x.c] t)) w.heap.size x := by
  have hn := heap_alloc_new w (.cells #[.int .i64 x.cap, .int .i64 x.high, .slice x.A x.n x.c] t)
  exact ⟨cell_of_row _ _ 0 _ _ (0, 0) hn, cell_of_row _ _ 1 _ _ (0, 0) hn, cell_of_row _ _ 2 _ _ (0, 0) hn⟩
theorem Bx.on {w w' : World} {g : Nat} {x : Bg} (h : Bx w g x) (hg : g < w.heap.size) (hb : Below w.heap.size w w') : Bx w' g x :=
  ⟨(hb.cell (p := ⟨g, 0, none⟩) hg).trans h.c0, (hb.cell (p := ⟨g, 1, none⟩) hg).trans h.c1, (hb.cell (p := ⟨g, 2, none⟩) hg).trans h.c2⟩
theorem off_below {w v v' : World} {p mb : Nat} (hb : Below w.heap.size w v) (ho : Off (Mine p mb) v v') (hp : w.heap.size ≤ p) (hm : w.heap.size ≤ mb) : Below w.heap.size w v' :=
  hb.trans (ho.below (B := w.heap.size) (by rintro k (rfl | rfl) <;> assumption) hb.size)

set_option maxRecDepth 100000 in
set_option maxHeartbeats 2000000 in
theorem poolFrees_walk (w : World) (x : Bg) (hx : x.Is w) (g : Nat) (hg : g < 18446744073709551616) :
    Calls Try.prog 7 #[x.val, .int .u64 (g : Int)] w fun e w' => e = .returned (.bool true) ∧ Below w.heap.size w w' := by
  have HX := Lib.hid hx
  have HG := Lib.hid hg
  have B0 := (Below.refl _ w).alloc (Nat.le_refl _) (.cells #[.int .i64 x.cap, .int .i64 x.high, .slice x.A x.n x.c] 24)
  have HB0 := Lib.hid B0
  have HX0 := Lib.hid (bx_new w x 24)
  have hnc := hx.fs.2.1
  have hcm := hx.fs.2.2.1
  unfold maxLen at hcm
  unfold Bg.val
  clear hx hg B0
  go_enter Try.func7, Try.ntmps7
  go_wp2_with fail
  refine (awake_any _).mono ?_
  rintro e v1 ⟨rfl, B1⟩
  have hb1 : Below w.heap.size w v1 := onto HB0.out B1
  have hx1 := HX0.out.on (by simp) B1
  have k0 := hx1.c0
  have k1 := hx1.c1
  have k2 := hx1.c2
  have HB1 := Lib.hid hb1
  clear hb1 B1 HB0 hx1
  by_cases hn : x.n ≤ 100
  · have z1 : ¬ ((100 : Int) < (x.n : Int)) := by omega
    have CN := Lib.hid (new_any v1 x.cap x.high x.A x.n x.c x.l (HX.out.fs.on HB1.out) ⟨HX.out.cap, HX.out.high⟩ hn)
    go_wp2_with fail
    refine CN.out.mono ?_
    rintro e v2 ⟨p, mb, rfl, hP, B2⟩
    clear CN k0 k1 k2
    cases hN : newOf x.cap x.high x.l with
    | none =>
      simp only [newV]
      have HB2 := Lib.hid (onto HB1.out B2)
      clear hP B2 hN
      go_wp2
      go_ret
      exact ⟨rfl, HB2.out⟩
    | some d =>
      obtain ⟨hP, hp, hm⟩ := hP d hN
      simp only [newV]
      have hp' : w.heap.size ≤ p ∧ w.heap.size ≤ mb := by have := HB1.out.size; omega
      have HS := Lib.hid hp'
      have HB2 := Lib.hid (onto HB1.out B2)
      have HP2 := Lib.hid hP
      have hfew := hP.few
      clear hP B2 hN hp hm hp' HB1
      -- List, High, Alloc
      go_wp2_with fail
      refine (list_any v2 p mb d HP2.out).mono ?_
      rintro e v3 ⟨was, rfl, O3, B3⟩
      obtain ⟨wA, wc, rfl, _, _⟩ := own_form2 O3
      have HP3 := Lib.hid (HP2.out.on B3)
      have HB3 := Lib.hid (onto HB2.out B3)
      clear O3 B3 HP2 HB2
      go_wp2_with fail
      refine (high_any v3 p mb d HP3.out).mono ?_
      rintro e v3' ⟨rfl, rfl⟩
      have hall : ∀ f ∈ d.l, f.2 ≤ 18446744073709551615 := fun f hf => by have := HP3.out.ok.gens f hf; omega
      have HA := Lib.hid hall
      have hdh := HP3.out.ok.high
      have hdc := HP3.out.ok.cap
      have hd2 := HP3.out.ok.two
      have CA := Lib.hid (alloc_any v3 p mb d 18446744073709551615 HP3.out)
      clear hall
      go_wp2_with fail
      refine CA.out.mono ?_
      rintro e v4 ⟨rfl, hP4, o4⟩
      have HB4 := Lib.hid (off_below HB3.out o4 HS.out.1 HS.out.2)
      have HP4 := Lib.hid hP4
      clear hP4 o4 CA
      by_cases hc : Pl.allocCode d 18446744073709551615 = 0
      · obtain ⟨q1, q2, q3, q4, q5⟩ := Pl.free_told HP3.out.ok HG.out hc
        have hnoI : I64 (Pl.allocNo d 18446744073709551615) := by
          obtain ⟨a, b, _⟩ := Pl.alloc_told HP3.out.ok hc
          have := HP4.out.ok.high; have := HP4.out.ok.cap
          unfold I64; omega
        have hah := HP4.out.ok.high
        have hac := HP4.out.ok.cap
        have CF1 := Lib.hid (free_any v4 p mb _ _ g HP4.out hnoI HG.out)
        rw [q1] at CF1
        have Q2 := Lib.hid q2
        have Q3 := Lib.hid q3
        have Q4 := Lib.hid q4
        have Q5 := Lib.hid q5
        have HI := Lib.hid hnoI
        rw [hc]
        generalize Pl.allocNo d 18446744073709551615 = no at *
        clear q1 q2 q3 q4 q5 hnoI hc hah hac HA
        go_wp2_with fail
        refine CF1.out.mono ?_
        rintro e v5 ⟨rfl, hP5, o5⟩
        have HB5 := Lib.hid (off_below HB4.out o5 HS.out.1 HS.out.2)
        have CF2 := Lib.hid (free_any v5 p mb _ no g hP5 HI.out HG.out)
        rw [Q2.out] at CF2
        have hfr : Pl.free (Pl.free (Pl.alloc d 18446744073709551615) no g) no g = Pl.free (Pl.alloc d 18446744073709551615) no g := by
          rw [Pl.free, Q2.out, if_neg (by decide)]
        rw [hfr] at CF2
        generalize hd2' : Pl.free (Pl.alloc d 18446744073709551615) no g = d2 at *
        clear hP5 o5 CF1 hfr HP4 HB4 Q2
        go_wp2_with fail
        refine CF2.out.mono ?_
        rintro e v6 ⟨rfl, hP6, o6⟩
        have HB6 := Lib.hid (off_below HB5.out o6 HS.out.1 HS.out.2)
        have HP6 := Lib.hid hP6
        clear hP6 o6 CF2 HB5
        go_wp2_with fail
        refine (list_any v6 p mb d2 HP6.out).mono ?_
        rintro e v7 ⟨vl, rfl, O7, B7⟩
        obtain ⟨lA, lc, rfl, _, _⟩ := own_form2 O7
        have HP7 := Lib.hid (HP6.out.on B7)
        have HB7 := Lib.hid (onto HB6.out B7)
        have hf2 := HP6.out.few
        clear O7 B7 HP6 HB6
        obtain ⟨n2, hn2⟩ : ∃ n2, n2 = d2.l.length := ⟨_, rfl⟩
        rw [← hn2] at hf2 ⊢
        have CH := Lib.hid (high_any v7 p mb d2 HP7.out)
        have CT := Lib.hid (trim_any v7 p mb d2 18446744073709551615 HP7.out)
        have h7 := HP7.out.ok.high
        have h7c := HP7.out.ok.cap
        have h72 := HP7.out.ok.two
        rcases Q5.out with ⟨a1, a2, a3⟩ | ⟨a1, a2, a3⟩
        · have z2 : (no == d.high) = true := by simpa using a1
          have z3 : ((n2 : Int) != (d.l.length : Int) + 1) = false := by rw [hn2, a2]; simp
          have z4 : (d2.high != d.high + 1) = false := by rw [Q4.out, a3]; simp
          have w0 : IntKind.i64.wrap ((d.l.length : Int) + 1) = (d.l.length : Int) + 1 := IntWalk.i64_in _ ⟨by omega, by omega⟩
          have w0' : IntKind.i64.wrap (d.high + 1) = d.high + 1 := IntWalk.i64_in _ ⟨by omega, by omega⟩
          clear a1 a2 a3 hn2 Q4 Q5 Q3 hd2'
          have HD2 := Lib.hid (And.intro h7 (And.intro h7c h72))
          clear h7 h7c h72
          go_wp2_with fail
          refine CH.out.mono ?_
          rintro e v7' ⟨rfl, rfl⟩
          go_wp2_with fail
          refine CT.out.mono ?_
          rintro e v8 ⟨rfl, hP8, o8⟩
          have HB8 := Lib.hid (off_below HB7.out o8 HS.out.1 HS.out.2)
          have HE := Lib.hid (Pl.trim_ends (hz := 18446744073709551615) _ (Nat.le_refl _) HP7.out.ok).1
          generalize hd3 : (Pl.trim d2 18446744073709551615).1 = d3 at *
          have HP8 := Lib.hid hP8
          clear hP8 o8 CT CH HP7 HB7
          go_wp2_with fail
          refine (list_any v8 p mb d3 HP8.out).mono ?_
          rintro e v9 ⟨vm, rfl, O9, B9⟩
          have HP9 := Lib.hid (HP8.out.on B9)
          have HB9 := Lib.hid (onto HB8.out B9)
          have hf3 := HP8.out.few
          obtain ⟨mA, mc, rfl, F9⟩ := fs_own O9 (in_ok HP8.out.ok)
          have HF9 := Lib.hid F9
          have h3h := HP8.out.ok.high
          have h3c := HP8.out.ok.cap
          have h32 := HP8.out.ok.two
          have hmc := F9.2.1
          have hmm := F9.2.2.1
          unfold maxLen at hmm
          clear O9 B9 HP8 HB8 F9
          obtain ⟨n3, hn3⟩ : ∃ n3, n3 = d3.l.length := ⟨_, rfl⟩
          have HN3 := Lib.hid hn3
          rw [← hn3] at hf3 hmc HF9 ⊢
          clear hn3
          by_cases h0 : n3 = 0
          · subst h0
            clear hmc hf3
            go_wp2_with fail
            go_quiet (fail)
            all_goals
              go_wp2
              go_ret
              exact ⟨rfl, below_drewN HB9.out _⟩
          · obtain ⟨j, hj⟩ : ∃ j, j = n3 - 1 := ⟨_, rfl⟩
            obtain ⟨b, off, f, rfl, hbl, hf, hin, r0, r1⟩ := HF9.out.get (k := j) (by omega)
            have hlast : f.1 ≠ d3.high - 1 := Pl.last_not HP9.out.ok (fun y hy => by have := HP9.out.ok.gens y hy; omega) HE.out (by rw [← HN3.out, ← hj]; exact hf)
            have zl : (f.1 != d3.high - 1) = true := by simpa using hlast
            have w1 : IntKind.i64.wrap ((n3 : Int) - 1) = ((j : Nat) : Int) := by rw [IntWalk.i64_in _ ⟨by omega, by omega⟩]; omega
            have w1' : (0 : Int) ≤ ((j : Nat) : Int) := by omega
            have w2 : j < n3 := by omega
            have w2' : (j : Int) < (n3 : Int) := by omega
            have w3 : IntKind.i64.wrap (d3.high - 1) = d3.high - 1 := IntWalk.i64_in _ ⟨by omega, by omega⟩
            have h0' : ((n3 : Int) == 0) = false := by rw [beq_eq_false_iff_ne]; omega
            have CH9 := Lib.hid (fun m => high_any (v9.drewN m) p mb d3 (HP9.out.drewN m))
            have CL9 := Lib.hid (fun m => list_any (v9.drewN m) p mb d3 (HP9.out.drewN m))
            have HR := Lib.hid r0
            clear hin hf hlast hj r1 HE
            go_wp2_with fail
            go_region_held3 (fun w' => w'.cell? ⟨b, off + j * 2, none⟩ = some (.int .i64 f.1)) (first | assumption | exact r0 | go_keep) (first
              | (go_at_call 19; refine (CH9.out 1).mono ?_; rintro e u1 ⟨rfl, rfl⟩)
              | (go_at_call 21; refine (CL9.out 1).mono ?_; rintro e u2 ⟨vq, rfl, O10, B10⟩; obtain ⟨qA, qc, rfl, F10⟩ := fs_own O10 (in_ok HP9.out.ok); have S2 : (fun w' : World => w'.cell? ⟨b, off + j * 2, none⟩ = some (.int .i64 f.1)) u2 := (B10.cell (p := ⟨b, off + j * 2, none⟩) hbl).trans HR.out)
              | (go_at_call 20; refine (sameF_any u2 _ _ _ _ _ _ d3.l d3.l ((HF9.out.drewN 1).on B10) F10).mono ?_; rintro e u3 ⟨rfl, m3, rfl⟩; rw [show decide (d3.l = d3.l) = true from by simp]))
            all_goals
              go_wp2
              go_ret
              exact ⟨rfl, onto (below_drewN HB9.out 1) (below_drewN B10 _)⟩
        · have z2 : (no == d.high) = false := by simpa using a1
          have z3 : ((n2 : Int) != (d.l.length : Int)) = false := by rw [hn2, a2]; simp
          have z4 : (d2.high != d.high) = false := by rw [Q4.out, a3]; simp
          clear a1 a2 a3 hn2 Q4 Q5 Q3 hd2'
          have HD2 := Lib.hid (And.intro h7 (And.intro h7c h72))
          clear h7 h7c h72
          go_wp2_with fail
          refine CH.out.mono ?_
          rintro e v7' ⟨rfl, rfl⟩
          go_wp2_with fail
          refine CT.out.mono ?_
          rintro e v8 ⟨rfl, hP8, o8⟩
          have HB8 := Lib.hid (off_below HB7.out o8 HS.out.1 HS.out.2)
          have HE := Lib.hid (Pl.trim_ends (hz := 18446744073709551615) _ (Nat.le_refl _) HP7.out.ok).1
          generalize hd3 : (Pl.trim d2 18446744073709551615).1 = d3 at *
          have HP8 := Lib.hid hP8
          clear hP8 o8 CT CH HP7 HB7
          go_wp2_with fail
          refine (list_any v8 p mb d3 HP8.out).mono ?_
          rintro e v9 ⟨vm, rfl, O9, B9⟩
          have HP9 := Lib.hid (HP8.out.on B9)
          have HB9 := Lib.hid (onto HB8.out B9)
          have hf3 := HP8.out.few
          obtain ⟨mA, mc, rfl, F9⟩ := fs_own O9 (in_ok HP8.out.ok)
          have HF9 := Lib.hid F9
          have h3h := HP8.out.ok.high
          have h3c := HP8.out.ok.cap
          have h32 := HP8.out.ok.two
          have hmc := F9.2.1
          have hmm := F9.2.2.1
          unfold maxLen at hmm
          clear O9 B9 HP8 HB8 F9
          obtain ⟨n3, hn3⟩ : ∃ n3, n3 = d3.l.length := ⟨_, rfl⟩
          have HN3 := Lib.hid hn3
          rw [← hn3] at hf3 hmc HF9 ⊢
          clear hn3
          by_cases h0 : n3 = 0
          · subst h0
            clear hmc hf3
            go_wp2_with fail
            go_quiet (fail)
            all_goals
              go_wp2
              go_ret
              exact ⟨rfl, below_drewN HB9.out _⟩
          · obtain ⟨j, hj⟩ : ∃ j, j = n3 - 1 := ⟨_, rfl⟩
            obtain ⟨b, off, f, rfl, hbl, hf, hin, r0, r1⟩ := HF9.out.get (k := j) (by omega)
            have hlast : f.1 ≠ d3.high - 1 := Pl.last_not HP9.out.ok (fun y hy => by have := HP9.out.ok.gens y hy; omega) HE.out (by rw [← HN3.out, ← hj]; exact hf)
            have zl : (f.1 != d3.high - 1) = true := by simpa using hlast
            have w1 : IntKind.i64.wrap ((n3 : Int) - 1) = ((j : Nat) : Int) := by rw [IntWalk.i64_in _ ⟨by omega, by omega⟩]; omega
            have w1' : (0 : Int) ≤ ((j : Nat) : Int) := by omega
            have w2 : j < n3 := by omega
            have w2' : (j : Int) < (n3 : Int) := by omega
            have w3 : IntKind.i64.wrap (d3.high - 1) = d3.high - 1 := IntWalk.i64_in _ ⟨by omega, by omega⟩
            have h0' : ((n3 : Int) == 0) = false := by rw [beq_eq_false_iff_ne]; omega
            have CH9 := Lib.hid (fun m => high_any (v9.drewN m) p mb d3 (HP9.out.drewN m))
            have CL9 := Lib.hid (fun m => list_any (v9.drewN m) p mb d3 (HP9.out.drewN m))
            have HR := Lib.hid r0
            clear hin hf hlast hj r1 HE
            go_wp2_with fail
            go_region_held3 (fun w' => w'.cell? ⟨b, off + j * 2, none⟩ = some (.int .i64 f.1)) (first | assumption | exact r0 | go_keep) (first
              | (go_at_call 19; refine (CH9.out 1).mono ?_; rintro e u1 ⟨rfl, rfl⟩)
              | (go_at_call 21; refine (CL9.out 1).mono ?_; rintro e u2 ⟨vq, rfl, O10, B10⟩; obtain ⟨qA, qc, rfl, F10⟩ := fs_own O10 (in_ok HP9.out.ok); have S2 : (fun w' : World => w'.cell? ⟨b, off + j * 2, none⟩ = some (.int .i64 f.1)) u2 := (B10.cell (p := ⟨b, off + j * 2, none⟩) hbl).trans HR.out)
              | (go_at_call 20; refine (sameF_any u2 _ _ _ _ _ _ d3.l d3.l ((HF9.out.drewN 1).on B10) F10).mono ?_; rintro e u3 ⟨rfl, m3, rfl⟩; rw [show decide (d3.l = d3.l) = true from by simp]))
            all_goals
              go_wp2
              go_ret
              exact ⟨rfl, onto (below_drewN HB9.out 1) (below_drewN B10 _)⟩
      · obtain ⟨e1, e2, e3, e4, e5⟩ := Pl.alloc_full hc
        have hl := Pl.none_empty e2 HA.out
        have hz0 : d.l.length = 0 := by rw [hl]; rfl
        rw [e1]
        clear hc e2 e3 e4 hl hfew
        go_wp2
        go_ret
        exact ⟨rfl, HB4.out⟩
  · have z1 : (100 : Int) < (x.n : Int) := by omega
    go_wp2
    go_ret
    exact ⟨rfl, HB1.out⟩

end Go.Proofs.Ytbfofhgnamheeaa.Pq
