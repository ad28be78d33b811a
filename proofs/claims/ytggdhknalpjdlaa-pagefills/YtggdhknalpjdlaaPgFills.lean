/-
  PageFills: what a page says, with bytes 0 behind, up to 1016, is the same page; what is handed in stays as it was.
-/
import Derived.Test.YtggdhknalpjdlaaPgAwake
import Derived.Test.YtggdhknalpjdlaaPgRef
import Derived.Test.YtggdhknalpjdlaaAppZero
namespace Go.Proofs.Ytggdhknalpjdlaa
open Go.RowKit
set_option linter.unusedVariables false

theorem page_begin {l : List Nat} (no : Nat) (h : l.length ≤ 1016) : (Pg.page no l).take l.length = l := by
  have e : (Pg.page no l).take l.length = ((Pg.page no l).take 1016).take l.length := by rw [List.take_take, Nat.min_eq_left h]
  rw [e, Pg.page_pay no h, Pg.fill_begin]

set_option maxRecDepth 100000 in
set_option maxHeartbeats 2000000 in
theorem pageFills_walk (w : World) (no : Nat) (A : Option Addr) (n c : Nat) (l : List Nat) (q : Nat) (hb : Bs w A n c l) (hno : no < 65536) (hq : q < 65536) :
    Calls Try.prog 5 #[.int .u16 (no : Int), .slice A n c, .int .u16 (q : Int)] w fun e w' => e = .returned (.bool true) ∧ Below w.heap.size w w' := by
  obtain ⟨i0, hi, hz0, hz1, hz2⟩ := info_parts Try.info5
  have hcm := hb.2.2.1
  have hnc := hb.2.1
  unfold maxLen at hcm
  go_enter Try.func5, Try.ntmps5
  go_wp2_with fail
  refine (awake_any _).mono ?_
  rintro e w1 ⟨rfl, b1⟩
  have s1 := hb.on b1
  by_cases hM : n ≤ 1016
  · have hl : l.length = n := hb.1
    have hlt := Lib.hid hb.2.2.2.1
    have HL := Lib.hid hl
    clear hb
    obtain ⟨d, hd⟩ : ∃ d, d = 1017 - n := ⟨_, rfl⟩
    have m1 : IntKind.i64.wrap (q : Int) = (q : Int) := by rw [IntKind.wrap_i64]; omega
    have m2 : IntKind.i64.wrap (1017 - (n : Int)) = (d : Int) := by rw [IntKind.wrap_i64]; omega
    have hnz : ¬ ((d : Int) = 0) := by omega
    have hrm : Int.tmod (q : Int) (d : Int) = ((q % d : Nat) : Int) := rfl
    have hrl : n + q % d ≤ 1016 := by have := Nat.mod_lt q (show 0 < d by omega); omega
    generalize q % d = r at hrm hrl
    have hnz' : ¬ (d = 0) := by omega
    clear hd
    have O0 := World.ownsRow_made (base := w1.heap.size) (e := 5) (size := 1) w1 #[] 0 (Nat.le_refl _) (Nat.zero_le _) rfl
    have HO0 := Lib.hid O0
    have S0 := Lib.hid (s1.alloc (.cells #[] 5))
    have B0 : Below w1.heap.size w1 (w1.alloc (.cells #[] 5)) := (Below.refl _ _).alloc (Nat.le_refl _) _
    clear O0 hl
    go_wp2_with fail
    go_region_law (first
      | (refine step_append_run rfl (.tmp 18) (.tmp 19) 22 22 rfl (.slice (some ⟨w1.heap.size, 0, none⟩) 0 0) (.slice A n c) (by simp [Act.eval]) (by simp [Act.eval]) _ (run_append_bs _ w1.heap.size 22 _ 5 i0 (.int .u8 0) Try.underlying22 hi hz0 hz1 hz2 rfl _ 0 [] (by exact HO0.out) A n c l (by exact S0.out) (by omega) (by simp)) ?_; rintro v2 w2 ⟨O2, g2⟩)
      | (refine step_append_run rfl (.tmp 20) (.tmp 26) 22 3 rfl v2 (.int .i64 (r : Int)) (by simp [Act.eval]) (by simp [Act.eval]) _ (run_append_zeros _ w1.heap.size 22 3 _ 5 i0 .i64 .i64 Try.underlying22 Try.underlying3 hi hz0 hz1 hz2 v2 (0 + n) _ (by exact O2) r (by omega) (Nat.le_trans (by simp) g2.size)) ?_; rintro v3 w3 ⟨O3, g3⟩))
    have B2 : Below w1.heap.size w1 w2 := below_own B0.drew HO0.out g2 (by simp) (Nat.le_refl _)
    have B3 : Below w1.heap.size w1 w3 := below_own B2 O2 g3 B2.size (Nat.le_refl _)
    simp only [Nat.zero_add, List.nil_append, bv_app] at O3
    obtain ⟨A3, c3, rfl, hc3, _⟩ := own_form O3
    have HLN : Hid (l.length ≤ 1016) := by show _ ≤ _; rw [HL.out]; exact hM
    have HM : Hid ((l ++ List.replicate r 0).length = n + r) := by show _ = _; rw [List.length_append, List.length_replicate, HL.out]
    have HMB : Hid (∀ x ∈ l ++ List.replicate r 0, x < 256) := by
      intro x hx
      rcases List.mem_append.1 hx with h1 | h1
      · exact hlt.out x h1
      · have := List.eq_of_mem_replicate h1; omega
    have HPG : Hid (Pg.page no (l ++ List.replicate r 0) = Pg.page no l) := by
      show _ = _
      rw [← Pg.page_fill no HLN.out, ← Pg.page_fill no (by rw [HM.out]; omega), Pg.fill_more l r (by rw [HL.out]; omega)]
    have HPT : Hid ((Pg.page no l).take n = l) := by show _ = _; rw [← HL.out]; exact page_begin no HLN.out
    have HPL : Hid (∀ x ∈ Pg.page no l, x < 256) := Pg.page_lt no hlt.out
    have HPN : Hid ((Pg.page no l).length = 1024) := Pg.page_len no HLN.out
    have m3 := own_bs O3 HM.out HMB.out
    have s3 := s1.on B3
    have B3' := onto b1 B3
    clear B0 HO0 S0 O2 g2 g3 B2 O3 s1 b1 B3 m1 m2 hnz hnz' hrm
    have O4 := Lib.hid (World.ownsRow_made (base := w3.heap.size) (e := 5) (size := 1) w3 #[] 0 (Nat.le_refl _) (Nat.zero_le _) rfl)
    have S4 := Lib.hid (s3.alloc (.cells #[] 5))
    have B4 : Below w3.heap.size w3 (w3.alloc (.cells #[] 5)) := (Below.refl _ _).alloc (Nat.le_refl _) _
    go_wp2_with (at_builtin; refine wpList_append_bs _ rfl _ _ 22 rfl w3.heap.size 5 i0 (.int .u8 0) Try.underlying22 hi hz0 hz1 hz2 rfl _ _ _ rfl O4.out _ _ _ _ rfl S4.out (by omega) (by simp) ?_; intro v5 w5 O5 g5)
    have b5 : Below w3.heap.size w3 w5 := below_own B4 O4.out g5 (by simp) (Nat.le_refl _)
    rw [Nat.zero_add, List.nil_append] at O5
    obtain ⟨A5, c5, rfl, hc5, _⟩ := own_form O5
    have o5 := own_bs O5 HL.out hlt.out
    have s5 := s3.on b5
    have m5 := m3.on b5
    have B5 := onto B3' b5
    clear O4 S4 B4 O5 g5 s3 m3 B3' b5
    refine (frame_any _ no _ _ _ _ o5 (by omega) hM).mono ?_
    rintro e w6 ⟨rfl, R6, b6⟩
    have o6 := o5.on b6
    have s6 := s5.on b6
    have m6 := m5.on b6
    have p6 := R6.bs' HPL.out HPN.out (by omega)
    have B6 := onto B5 b6
    clear o5 s5 m5 R6 B5 b6
    generalize w5.heap.size = g6 at *
    go_wp2_with fail
    refine (frame_any _ no _ _ _ _ m6 (by omega) (by omega)).mono ?_
    rintro e w7 ⟨rfl, R7, b7⟩
    rw [HPG.out] at R7
    have o7 := o6.on b7
    have s7 := s6.on b7
    have p7 := p6.on b7
    have q7 := R7.bs' HPL.out HPN.out (by omega)
    have B7 := onto B6 b7
    clear o6 s6 m6 p6 R7 B6 b7 HPG
    generalize w6.heap.size = g7 at *
    go_wp2_with fail
    refine (same_eq _ _ _ _ _ _ _ _ p7 q7).mono ?_
    rintro e w8 ⟨rfl, m8, rfl⟩
    have o8 := o7.drewN m8
    have s8 := s7.drewN m8
    have p8 := (p7.drewN m8).first n (by omega)
    have B8 := below_drewN B7 m8
    rw [HPT.out] at p8
    clear o7 s7 p7 q7 B7
    generalize w7.drewN m8 = w8 at *
    go_wp2_with fail
    refine (same_eq _ _ _ _ _ _ _ _ o8 s8).mono ?_
    rintro e w9 ⟨rfl, m9, rfl⟩
    have s9 := s8.drewN m9
    have p9 := p8.drewN m9
    have B9 := below_drewN B8 m9
    clear o8 s8 p8 B8
    generalize w8.drewN m9 = w9 at *
    have z1 : (n : Int) ≤ 1024 := by omega
    go_wp2_with fail
    refine (same_eq _ _ _ _ _ _ _ _ (by exact p9) s9).mono ?_
    rintro e w10 ⟨rfl, m10, rfl⟩
    have B10 := below_drewN B9 m10
    go_wp2
    go_ret
    exact ⟨rfl, B10⟩
  · go_wp2
    go_ret
    exact ⟨rfl, b1⟩

end Go.Proofs.Ytggdhknalpjdlaa
