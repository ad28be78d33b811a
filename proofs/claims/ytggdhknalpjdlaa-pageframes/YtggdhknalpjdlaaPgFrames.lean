/-
  PageFrames: what was framed is the document's page, is opened at its place alone, and torn it isn't.
-/
import Derived.Test.YtggdhknalpjdlaaPgAwake
import Derived.Test.YtggdhknalpjdlaaPgRefOpen
namespace Go.Proofs.Ytggdhknalpjdlaa
open Go.RowKit
set_option linter.unusedVariables false

/-- What is known of the page of a place. -/
theorem page_facts (no : Nat) (l : List Nat) (hno : no ≤ 2147483647) (hl : l.length ≤ 1016) (hlt : ∀ x ∈ l, x < 256) : ∃ pg, Hid (Pg.page no l = pg) ∧ Hid (∀ x ∈ pg, x < 256) ∧ Hid (pg.length = 1024) ∧
    Hid (∀ other : Int, Pg.Opens other pg ↔ other = (no : Int)) ∧ Hid (¬ Pg.Opens (no : Int) (Pg.torn pg)) ∧ Hid (∀ x ∈ Pg.torn pg, x < 256) ∧ Hid ((Pg.torn pg).length = 1024) :=
  ⟨_, rfl, Pg.page_lt no hlt, Pg.page_len no hl, fun other => Pg.page_opens hl hno other, Pg.torn_shut (Pg.page_lt no hlt) ((Pg.page_opens hl hno _).2 rfl), Pg.torn_lt (Pg.page_lt no hlt), (Pg.torn_len _).trans (Pg.page_len no hl)⟩

set_option maxRecDepth 100000 in
set_option maxHeartbeats 1000000 in
theorem pageFrames_walk (w : World) (no other : Int) (A : Option Addr) (n c : Nat) (l : List Nat) (hb : Bs w A n c l) :
    Calls Try.prog 3 #[.int .i64 no, .slice A n c, .int .i64 other] w fun e w' => e = .returned (.bool true) ∧ Below w.heap.size w w' := by
  have hcm := hb.2.2.1
  have hnc := hb.2.1
  unfold maxLen at hcm
  go_enter Try.func3, Try.ntmps3
  go_wp2_with fail
  refine (awake_any _).mono ?_
  rintro e w1 ⟨rfl, b1⟩
  have s1 := hb.on b1
  by_cases hM : n ≤ 2000
  · by_cases hV : (0 ≤ no ∧ no ≤ 2147483647) ∧ n ≤ 1016
    · obtain ⟨h0, hn⟩ := hV
      obtain ⟨k, rfl⟩ := Int.eq_ofNat_of_zero_le h0.1
      have hk : k ≤ 2147483647 := by omega
      obtain ⟨pg, HP, HLT, HLN, HO, HT, HTL, HTN⟩ := page_facts k l hk (by rw [hb.1]; exact hn) hb.2.2.2.1
      clear hb h0
      go_wp2_with fail
      refine (frame_any _ k _ _ _ _ s1 hk hn).mono ?_
      rintro e w2 ⟨rfl, R2, b2⟩
      rw [HP.out] at R2
      have s2 := s1.on b2
      have B2 := onto b1 b2
      have x2 := R2.bs' HLT.out HLN.out (by omega)
      clear s1 b1 b2 R2
      generalize w1.heap.size = g at *
      go_wp2_with fail
      refine (refFrame_any _ k _ _ _ _ s2 hk hn).mono ?_
      rintro e w3 ⟨A3, c3, rfl, y3, b3⟩
      rw [HP.out] at y3
      have x3 := x2.on b3
      have B3 := onto B2 b3
      clear s2 x2 b3 B2 HP
      have d1 : ((0 : Int) != 0) = false := rfl
      go_wp2_with fail
      refine (same_eq _ _ _ _ _ _ _ _ x3 y3).mono ?_
      rintro e w4 ⟨rfl, m, rfl⟩
      have x4 := x3.drewN m
      have B4 := below_drewN B3 m
      clear x3 y3 B3
      generalize w3.drewN m = w4 at *
      go_wp2_with fail
      refine (open_yes _ (k : Int) _ _ _ _ x4 ((HO.out _).2 rfl)).mono ?_
      rintro e w5 ⟨g5, hg5, rfl, R5, b5⟩
      have x5 := x4.on b5
      have B5 := onto B4 b5
      have z5 := R5.bs' (fun x hx => HLT.out x (List.mem_of_mem_take hx)) (n := 1016) (by rw [List.length_take, HLN.out]; omega) (by omega)
      clear x4 b5 B4 R5 hg5
      by_cases he : other = (k : Int)
      · subst he
        have d2 : ((k : Int) == (k : Int)) = true := by simp
        go_wp2_with fail
        refine (open_yes _ (k : Int) _ _ _ _ x5 ((HO.out _).2 rfl)).mono ?_
        rintro e w6 ⟨g6, hg6, rfl, R6, b6⟩
        have x6 := x5.on b6
        have z6 := z5.on b6
        have B6 := onto B5 b6
        clear x5 z5 b6 B5 R6 hg6
        go_wp2_with fail
        refine (torn_any _ _ _ _ _ x6 (by omega)).mono ?_
        rintro e w7 ⟨rfl, R7, b7⟩
        have x7 := x6.on b7
        have z7 := z6.on b7
        have B7 := onto B6 b7
        have t7 := R7.bs' HTL.out HTN.out (by omega)
        clear x6 z6 b7 B6 R7
        generalize w6.heap.size = g7 at *
        go_wp2_with fail
        refine (open_no _ (k : Int) _ _ _ _ t7 HT.out).mono ?_
        rintro e w8 ⟨rfl, b8⟩
        have x8 := (x7.on b8).first 1016 (by omega)
        have z8 := z7.on b8
        have B8 := onto B7 b8
        clear x7 z7 b8 B7 t7
        go_wp2_with fail
        refine (same_eq _ _ _ _ _ _ _ _ z8 (by exact x8)).mono ?_
        rintro e w9 ⟨rfl, m9, rfl⟩
        have B9 := below_drewN B8 m9
        go_wp2
        go_ret
        exact ⟨rfl, B9⟩
      · have d2 : (other == (k : Int)) = false := by simpa using he
        go_wp2_with fail
        refine (open_no _ other _ _ _ _ x5 (fun h => he ((HO.out _).1 h))).mono ?_
        rintro e w6 ⟨rfl, b6⟩
        have x6 := x5.on b6
        have z6 := z5.on b6
        have B6 := onto B5 b6
        clear x5 z5 b6 B5
        go_wp2_with fail
        refine (torn_any _ _ _ _ _ x6 (by omega)).mono ?_
        rintro e w7 ⟨rfl, R7, b7⟩
        have x7 := x6.on b7
        have z7 := z6.on b7
        have B7 := onto B6 b7
        have t7 := R7.bs' HTL.out HTN.out (by omega)
        clear x6 z6 b7 B6 R7
        generalize w6.heap.size = g7 at *
        go_wp2_with fail
        refine (open_no _ (k : Int) _ _ _ _ t7 HT.out).mono ?_
        rintro e w8 ⟨rfl, b8⟩
        have x8 := (x7.on b8).first 1016 (by omega)
        have z8 := z7.on b8
        have B8 := onto B7 b8
        clear x7 z7 b8 B7 t7
        go_wp2_with fail
        refine (same_eq _ _ _ _ _ _ _ _ z8 (by exact x8)).mono ?_
        rintro e w9 ⟨rfl, m9, rfl⟩
        have B9 := below_drewN B8 m9
        go_wp2
        go_ret
        exact ⟨rfl, B9⟩
    · go_wp2_with fail
      refine (frame_no _ no _ _ _ (by omega) hV).mono ?_
      rintro e w2 ⟨rfl, rfl⟩
      go_wp2_with fail
      refine (refFrame_no _ no _ _ _ hV).mono ?_
      rintro e w3 ⟨rfl, rfl⟩
      have d1 : ((1 : Int) != 1) = false := rfl
      go_wp2_with fail
      refine (same_eq _ none none 0 0 0 0 [] (Bs.nil_ _ _ _ (Nat.zero_le _)) (Bs.nil_ _ _ _ (Nat.zero_le _))).mono ?_
      rintro e w4 ⟨rfl, m, rfl⟩
      have B4 := below_drewN b1 m
      go_wp2
      go_ret
      exact ⟨rfl, B4⟩
  · go_wp2
    go_ret
    exact ⟨rfl, b1⟩

end Go.Proofs.Ytggdhknalpjdlaa
