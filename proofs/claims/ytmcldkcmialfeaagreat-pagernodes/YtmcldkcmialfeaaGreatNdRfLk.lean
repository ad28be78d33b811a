/-
  A chain's page: the document's Link and FromLink; short, big.
-/
import Derived.Test.YtmcldkcmialfeaaGreatGrNode9
import Derived.Test.YtmcldkcmialfeaaGreatMtNum
import Derived.Test.YtmcldkcmialfeaaGreatSame
namespace Go.Proofs.YtmcldkcmialfeaaGreat.Nn
open Go.RowKit
set_option linter.unusedVariables false

set_option maxRecDepth 100000 in
set_option maxHeartbeats 400000 in
theorem big_any (w : World) (v : Nat) (hv : v < 9223372036854775808) (k : Nat) (hk : k = 2 ∨ k = 4) :
    Calls Tryz.prog 63 #[.int .i64 (v : Int), .int .i64 (k : Int)] w fun e w' => (∃ A c, e = .returned (.slice A k c) ∧ Bs w' A k c (Nm.be k v)) ∧ Below w.heap.size w w' := by
  have HE : Hid (IntKind.u64.wrap (v : Int) = (v : Int)) := by show _ = _; exact IntWalk.u64_in _ ⟨by omega, by omega⟩
  have C := Lib.hid (fun W => refKey_any W v (by unfold L64; omega))
  go_enter Tryz.func63, Tryz.ntmps63
  go_wp2_with fail
  try rw [HE.out]
  refine (C.out _).mono ?_
  rintro e w1 ⟨A, c, rfl, hbs, hbel⟩
  obtain ⟨b, off, rfl, hlt, _⟩ := hbs.2.2.2.2 (by omega)
  have hc := hbs.2.1
  have hcm := hbs.2.2.1
  unfold maxLen at hcm
  have cut : ∀ j, j < 8 → Bs w1 (some ⟨b, off + j, none⟩) (8 - j) (c - j) (Nm.be (8 - j) v) := by
    intro j hj
    have h := hbs.cut_far j hj
    have e := be_drop j (8 - j) v
    rw [show j + (8 - j) = 8 by omega] at e
    rwa [e] at h
  have HB := Lib.hid hbel
  clear hbs hbel C
  rcases hk with rfl | rfl
  · have hr := Lib.hid (cut 6 (by omega))
    have hne : ¬ (c = 6) := by omega
    clear cut
    go_wp2
    go_ret
    exact ⟨⟨_, _, rfl, hr.out⟩, HB.out⟩
  · have hr := Lib.hid (cut 4 (by omega))
    have hne : ¬ (c = 4) := by omega
    clear cut
    go_wp2
    go_ret
    exact ⟨⟨_, _, rfl, hr.out⟩, HB.out⟩

set_option maxRecDepth 100000 in
set_option maxHeartbeats 400000 in
theorem short_any (w : World) (A : Option Addr) (n c : Nat) (l : List Nat) (h : Bs w A n c l) (k x y : Nat) (hx : l[k]? = some x) (hy : l[k + 1]? = some y) :
    Calls Tryz.prog 83 #[.slice A n c, .int .i64 (k : Int)] w fun e w' => e = .returned (.int .i64 ((256 * x + y : Nat) : Int)) ∧ ∃ m, w' = w.drewN m := by
  have hl := h.1
  have hk : k + 1 < n := by have := (List.getElem?_eq_some_iff.1 hy).1; omega
  have hcm := h.2.2.1
  have hnc := h.2.1
  unfold maxLen at hcm
  have hx256 := h.2.2.2.1 x (List.mem_of_getElem? hx)
  have hy256 := h.2.2.2.1 y (List.mem_of_getElem? hy)
  obtain ⟨b, off, rfl, _, hc⟩ := h.2.2.2.2 (by omega)
  have cx := hc k x hx
  have cy := hc (k + 1) y hy
  have j1 : (k : Int) < (n : Int) := by omega
  have j2 : (k : Int) + 1 < (n : Int) := by omega
  have w1 : IntKind.i64.wrap ((k : Int) + 1) = (k : Int) + 1 := IntWalk.i64_in _ ⟨by omega, by omega⟩
  have w2 : IntKind.i64.wrap (256 * (x : Int)) = 256 * (x : Int) := IntWalk.i64_in _ ⟨by omega, by omega⟩
  have w3 : IntKind.i64.wrap (256 * (x : Int) + (y : Int)) = 256 * (x : Int) + (y : Int) := IntWalk.i64_in _ ⟨by omega, by omega⟩
  have HE : Hid (((256 * x + y : Nat) : Int) = 256 * (x : Int) + (y : Int)) := by show _ = _; omega
  clear h hc hx hy
  go_enter Tryz.func83, Tryz.ntmps83
  go_wp2_with fail
  go_quiet (fail)
  go_wp2
  go_ret
  exact ⟨by rw [HE.out]; first | rfl | go_num, _, rfl⟩

set_option maxRecDepth 100000 in
set_option maxHeartbeats 1000000 in
theorem refLink_any (w : World) (next : Int) (A : Option Addr) (n c : Nat) (b : List Nat) (h : Bs w A n c b) :
    Calls Tryz.prog 32 #[.int .i64 next, .slice A n c] w fun e w' => (∃ A' n' c', e = .returned (.slice A' n' c') ∧ Bs w' A' n' c' (Nd.linkOf next b) ∧ w'.ownsRow w.heap.size 5 1 (.slice A' n' c') n' (bv (Nd.linkOf next b))) ∧ Below w.heap.size w w' := by
  obtain ⟨i0, hi, hz0, hz1, hz2⟩ := info_parts Tryz.info5
  have hl := h.1
  have hlt := h.2.2.2.1
  by_cases hm : Nd.LMay next b
  · rw [linkOf_yes hm]
    have HLT := Lib.hid (Nd.link_lt (next := next) hlt)
    have HLL := Lib.hid (Nd.link_len next b)
    obtain ⟨⟨m1, m2⟩, m3, m4⟩ := hm
    rw [hl] at m1 m2
    obtain ⟨z, rfl⟩ := Int.eq_ofNat_of_zero_le m3
    have d1 : decide ((n : Int) < 1) = false := by simp; omega
    have d2 : decide ((n : Int) > 1010) = false := by simp; omega
    have d3 : decide ((z : Int) < 0) = false := by simp
    have d4 : decide ((z : Int) > 2147483647) = false := by simp; omega
    have BA : Below w.heap.size w (w.alloc (.cells #[] 5)) := (Below.refl _ _).alloc (Nat.le_refl _) _
    have OA : (w.alloc (.cells #[] 5)).ownsRow w.heap.size 5 1 (.slice (some ⟨w.heap.size, 0, none⟩) 0 0) 0 (bv []) := World.ownsRow_made (base := w.heap.size) (e := 5) (size := 1) w #[] 0 (Nat.le_refl _) (Nat.zero_le _) rfl
    have C1 := Lib.hid (big_any (w.alloc (.cells #[] 5)) z (by omega) 4 (.inr rfl))
    have HS := Lib.hid h
    have hsA := BA.size
    clear h hlt
    go_enter Tryz.func32, Tryz.ntmps32
    go_wp2_with fail
    refine C1.out.mono ?_
    rintro e w1 ⟨⟨A1, c1, rfl, r1⟩, b1⟩
    have O1 := own_on OA b1
    have B1 := BA.trans (b1.mono hsA)
    have hs1 := B1.size
    clear C1 OA BA b1
    go_wp2_with (at_builtin; refine wpList_append_bs _ rfl _ _ 43 rfl w.heap.size 5 i0 (.int .u8 0) Tryz.underlying43 hi hz0 hz1 hz2 rfl _ _ _ rfl O1 _ _ _ _ rfl r1 (by omega) (by omega) ?_; intro v2 w2 O2 g2)
    have B2 := below_own B1 O1 g2 hs1 (Nat.le_refl _)
    have hs2 := B2.size
    have C3 := Lib.hid (big_any w2 n (by omega) 2 (.inl rfl))
    clear O1 g2 r1 B1
    refine C3.out.mono ?_
    rintro e w3 ⟨⟨A3, c3, rfl, r3⟩, b3⟩
    have O3 := own_on O2 b3
    have B3 := B2.trans (b3.mono hs2)
    have hs3 := B3.size
    have s3 := HS.out.below B3 (Nat.le_refl _)
    clear C3 O2 b3 B2
    go_wp2_with (first
      | (at_builtin; refine wpList_append_bs _ rfl (.tmp 24) (.tmp 27) 43 rfl w.heap.size 5 i0 (.int .u8 0) Tryz.underlying43 hi hz0 hz1 hz2 rfl _ _ _ rfl O3 _ _ _ _ rfl r3 (by omega) (by omega) ?_; intro v4 w4 O4 g4; have B4 := below_own B3 O3 g4 hs3 (Nat.le_refl _); have hs4 := B4.size; have s4 := HS.out.below B4 (Nat.le_refl _))
      | (at_builtin; refine wpList_append_bs _ rfl (.tmp 28) (.tmp 29) 43 rfl w.heap.size 5 i0 (.int .u8 0) Tryz.underlying43 hi hz0 hz1 hz2 rfl _ _ _ rfl O4 _ _ _ _ rfl s4 (by omega) (by omega) ?_; intro v5 w5 O5 g5; have B5 := below_own B4 O4 g5 hs4 (Nat.le_refl _)))
    have e1 : Nd.link (z : Int) b = [] ++ Nm.be 4 z ++ Nm.be 2 n ++ b := by unfold Nd.link; rw [hl]; simp [List.append_assoc]
    have e2 : 0 + 4 + 2 + n = (Nd.link (z : Int) b).length := by rw [HLL.out, hl]
    rw [bv_app, bv_app, bv_app, ← e1, e2] at O5
    obtain ⟨A5, c5, rfl, r5⟩ := Bs.of_own O5 HLT.out
    have RS := Lib.hid (And.intro r5 O5)
    clear O3 O4 O5 g4 g5 s3 s4 e1 e2 r5 B3 B4
    go_ret
    exact ⟨⟨_, _, _, rfl, RS.out⟩, B5⟩
  · rw [linkOf_no hm]
    have hP : ¬ ((1 ≤ n ∧ n ≤ 1010) ∧ 0 ≤ next ∧ next ≤ 2147483647) := by unfold Nd.LMay at hm; rwa [hl] at hm
    clear hm h hlt
    by_cases h1 : n < 1
    · have d1 : decide ((n : Int) < 1) = true := by simp; omega
      clear hP h1
      go_enter Tryz.func32, Tryz.ntmps32
      go_wp2
      go_ret
      exact ⟨⟨_, _, _, rfl, Bs.nil_ _ _ _ (Nat.zero_le _), World.ownsRow_nil _ _ _ _⟩, Below.refl _ _⟩
    · have d1 : decide ((n : Int) < 1) = false := by simp; omega
      by_cases h2 : 1010 < n
      · have d2 : decide ((n : Int) > 1010) = true := by simp; omega
        clear hP
        go_enter Tryz.func32, Tryz.ntmps32
        go_wp2
        go_ret
        exact ⟨⟨_, _, _, rfl, Bs.nil_ _ _ _ (Nat.zero_le _), World.ownsRow_nil _ _ _ _⟩, Below.refl _ _⟩
      · have d2 : decide ((n : Int) > 1010) = false := by simp; omega
        by_cases h3 : next < 0
        · have d3 : decide (next < 0) = true := by simpa using h3
          clear hP
          go_enter Tryz.func32, Tryz.ntmps32
          go_wp2
          go_ret
          exact ⟨⟨_, _, _, rfl, Bs.nil_ _ _ _ (Nat.zero_le _), World.ownsRow_nil _ _ _ _⟩, Below.refl _ _⟩
        · have d3 : decide (next < 0) = false := by simpa using h3
          have d4 : decide (next > 2147483647) = true := by simp; omega
          clear hP
          go_enter Tryz.func32, Tryz.ntmps32
          go_wp2
          go_ret
          exact ⟨⟨_, _, _, rfl, Bs.nil_ _ _ _ (Nat.zero_le _), World.ownsRow_nil _ _ _ _⟩, Below.refl _ _⟩
end Go.Proofs.YtmcldkcmialfeaaGreat.Nn
