/-
  A chain's page: the program's Link and FromLink.
-/
import Derived.Test.YtachclcpldnofaaNdJust
import Derived.Test.YtachclcpldnofaaNdLink
namespace Go.Proofs.Ytachclcpldnofaa.Nn
open Go.RowKit
set_option linter.unusedVariables false

theorem linkOf_yes {next : Int} {b : List Nat} (h : Nd.LMay next b) : Nd.linkOf next b = Nd.link next b := if_pos h
theorem linkOf_no {next : Int} {b : List Nat} (h : ¬ Nd.LMay next b) : Nd.linkOf next b = [] := if_neg h

set_option maxRecDepth 100000 in
set_option maxHeartbeats 1000000 in
theorem plink_any (w : World) (next : Int) (A : Option Addr) (n c : Nat) (b : List Nat) (h : Bs w A n c b) :
    Calls Try.prog 12 #[.int .i64 next, .slice A n c] w fun e w' => (∃ A' n' c', e = .returned (.slice A' n' c') ∧ Bs w' A' n' c' (Nd.linkOf next b)) ∧ Below w.heap.size w w' := by
  obtain ⟨i0, hi, hz0, hz1, hz2⟩ := info_parts Try.info5
  have hl := h.1
  have hlt := h.2.2.2.1
  by_cases hm : Nd.LMay next b
  · rw [linkOf_yes hm]
    have HLT := Lib.hid (Nd.link_lt (next := next) hlt)
    have HLL := Lib.hid (Nd.link_len next b)
    obtain ⟨⟨m1, m2⟩, m3, m4⟩ := hm
    rw [hl] at m1 m2
    obtain ⟨z, rfl⟩ := Int.eq_ofNat_of_zero_le m3
    have d1 : ((n : Int) == 0) = false := by simp; omega
    have d2 : decide ((n : Int) > 1010) = false := by simp; omega
    have d3 : decide ((z : Int) < 0) = false := by simp
    have d4 : decide ((z : Int) > 2147483647) = false := by simp; omega
    have C1 := Lib.hid (putNumber_any w w.heap.size (.slice none 0 0) [] 0 (World.ownsRow_nil _ _ _ _) (Nat.le_refl _) (by omega) z (by omega) 4 (.inr (.inr rfl)))
    have HS := Lib.hid h
    clear h hlt
    go_enter Try.func12, Try.ntmps12
    go_wp2_with fail
    refine C1.out.mono ?_
    rintro e w1 ⟨v1, rfl, O1, F1⟩
    have hs1 := F1.size
    have C2 := Lib.hid (putNumber_any w1 w.heap.size v1 _ _ O1 hs1 (by omega) n (by omega) 2 (.inr (.inl rfl)))
    clear C1 O1
    go_wp2_with fail
    refine C2.out.mono ?_
    rintro e w2 ⟨v2, rfl, O2, F2⟩
    have hs2 := F2.size
    have s2 := HS.out.below (F1.trans F2).below (Nat.le_refl _)
    clear C2
    go_wp2_with (at_builtin; refine wpList_append_bs _ rfl _ _ 22 rfl w.heap.size 5 i0 (.int .u8 0) Try.underlying22 hi hz0 hz1 hz2 rfl _ _ _ rfl O2 _ _ _ _ rfl s2 (by omega) (by omega) ?_; intro v3 w3 O3 g3)
    have F3 := (F1.trans F2).trans (Bf.of_own (e := 0) O2 g3 (by omega))
    have e1 : Nd.link (z : Int) b = [] ++ Nm.be 4 z ++ Nm.be 2 n ++ b := by unfold Nd.link; rw [hl]; simp [List.append_assoc]
    have e2 : 0 + 4 + 2 + n = (Nd.link (z : Int) b).length := by rw [HLL.out, hl]
    rw [bv_app, ← e1, e2] at O3
    obtain ⟨A3, c3, rfl, r3⟩ := Bs.of_own O3 HLT.out
    clear O2 O3 g3 s2 e1 e2
    go_ret
    exact ⟨⟨_, _, _, rfl, r3⟩, F3.below⟩
  · rw [linkOf_no hm]
    have hP : ¬ ((1 ≤ n ∧ n ≤ 1010) ∧ 0 ≤ next ∧ next ≤ 2147483647) := by unfold Nd.LMay at hm; rwa [hl] at hm
    clear hm h hlt
    by_cases h1 : n = 0
    · have d1 : ((n : Int) == 0) = true := by simp [h1]
      clear hP h1
      go_enter Try.func12, Try.ntmps12
      go_wp2
      go_ret
      exact ⟨⟨_, _, _, rfl, Bs.nil_ _ _ _ (Nat.zero_le _)⟩, Below.refl _ _⟩
    · have d1 : ((n : Int) == 0) = false := by simp [h1]
      by_cases h2 : 1010 < n
      · have d2 : decide ((n : Int) > 1010) = true := by simp; omega
        clear hP
        go_enter Try.func12, Try.ntmps12
        go_wp2
        go_ret
        exact ⟨⟨_, _, _, rfl, Bs.nil_ _ _ _ (Nat.zero_le _)⟩, Below.refl _ _⟩
      · have d2 : decide ((n : Int) > 1010) = false := by simp; omega
        by_cases h3 : next < 0
        · have d3 : decide (next < 0) = true := by simpa using h3
          clear hP
          go_enter Try.func12, Try.ntmps12
          go_wp2
          go_ret
          exact ⟨⟨_, _, _, rfl, Bs.nil_ _ _ _ (Nat.zero_le _)⟩, Below.refl _ _⟩
        · have d3 : decide (next < 0) = false := by simpa using h3
          have d4 : decide (next > 2147483647) = true := by simp; omega
          clear hP
          go_enter Try.func12, Try.ntmps12
          go_wp2
          go_ret
          exact ⟨⟨_, _, _, rfl, Bs.nil_ _ _ _ (Nat.zero_le _)⟩, Below.refl _ _⟩

/-- What is told of bytes as a chain's page. -/
def lz (b : List Nat) : Nat := if Nd.LSays b then Nd.lnext b else 0
def ll (b : List Nat) : List Nat := if Nd.LSays b then Nd.lbytes b else []
def lk (b : List Nat) : Nat := if Nd.LSays b then 0 else 5
theorem just_link {b : List Nat} (hb : b.length = 1016) (hlt : ∀ x ∈ b, x < 256) :
    Just b (Nd.linkOf ((Nd.nb 4 b).1 : Int) (Nd.tk (Nd.nb 2 (Nd.nb 4 b).2).1 (Nd.nb 2 (Nd.nb 4 b).2).2).1) ↔ Nd.LSays b := by
  have t4 : Nd.tk 4 b = (b.take 4, b.drop 4) := tk_long (by omega)
  have t2 : Nd.tk 2 (b.drop 4) = ((b.drop 4).take 2, b.drop 6) := by rw [tk_long (by rw [List.length_drop]; omega), List.drop_drop]
  have e4 : Nd.nb 4 b = (Nd.lnext b, b.drop 4) := by unfold Nd.nb; rw [t4]; rfl
  have e2 : Nd.nb 2 (b.drop 4) = (Nd.lcount b, b.drop 6) := by unfold Nd.nb; rw [t2]; rfl
  rw [e4]
  simp only
  rw [e2]
  simp only
  by_cases hc : Nd.lcount b ≤ 1010
  · rw [tk_long (by rw [List.length_drop]; omega)]
    simp only
    have e : (b.drop 6).take (Nd.lcount b) = Nd.lbytes b := rfl
    rw [e]
    by_cases hm : Nd.LMay (Nd.lnext b : Int) (Nd.lbytes b)
    · rw [linkOf_yes hm]
      have h1 := Nd.link_len (Nd.lnext b : Int) (Nd.lbytes b)
      have h2 := hm.1.2
      unfold Just Nd.LSays Nd.linkFull
      rw [hb, h1]
      exact ⟨fun x => ⟨rfl, hm, x.2.2.symm⟩, fun x => ⟨by omega, by omega, x.2.2.symm⟩⟩
    · rw [linkOf_no hm]
      unfold Just Nd.LSays
      simp [hm]
  · rw [tk_short (by rw [List.length_drop]; omega)]
    simp only
    have hm : ¬ Nd.LMay (Nd.lnext b : Int) [] := by unfold Nd.LMay; simp
    rw [linkOf_no hm]
    have : ¬ Nd.LSays b := fun h => by have := ((Nd.lsays_iff hb hlt).1 h).1.1.2; omega
    unfold Just
    simp [this]
theorem link_parts {b : List Nat} (hb : b.length = 1016) (h : Nd.LSays b) (hlt : ∀ x ∈ b, x < 256) : (Nd.nb 4 b).1 = Nd.lnext b ∧ (Nd.tk (Nd.nb 2 (Nd.nb 4 b).2).1 (Nd.nb 2 (Nd.nb 4 b).2).2).1 = Nd.lbytes b := by
  have t4 : Nd.tk 4 b = (b.take 4, b.drop 4) := tk_long (by omega)
  have t2 : Nd.tk 2 (b.drop 4) = ((b.drop 4).take 2, b.drop 6) := by rw [tk_long (by rw [List.length_drop]; omega), List.drop_drop]
  have e4 : Nd.nb 4 b = (Nd.lnext b, b.drop 4) := by unfold Nd.nb; rw [t4]; rfl
  have e2 : Nd.nb 2 (b.drop 4) = (Nd.lcount b, b.drop 6) := by unfold Nd.nb; rw [t2]; rfl
  rw [e4]
  simp only
  rw [e2]
  simp only
  have hc := ((Nd.lsays_iff hb hlt).1 h).1.1.2
  rw [tk_long (by rw [List.length_drop]; omega)]
  exact ⟨trivial, rfl⟩

set_option maxRecDepth 100000 in
set_option maxHeartbeats 1000000 in
theorem fromLink_any (w : World) (A : Option Addr) (n c : Nat) (b : List Nat) (h : Bs w A n c b) :
    Calls Try.prog 14 #[.slice A n c] w fun e w' => (∃ A' n' c', e = .returned (.tuple #[.int .i64 (lz b : Int), .slice A' n' c', .int .i64 (lk b : Int)]) ∧ Bs w' A' n' c' (ll b)) ∧ Below w.heap.size w w' := by
  have hb := h.1
  have hlt := h.2.2.2.1
  by_cases hn : n = 1016
  · subst hn
    obtain ⟨D, off, rfl, hD, _⟩ := h.2.2.2.2 (by omega)
    have HJ := Lib.hid (just_link hb hlt)
    have HPT := Lib.hid (fun hs => link_parts hb hs hlt)
    have rd0 : Rd (w.alloc (.cells #[.slice (some ⟨D, off, none⟩) 1016 c] 68)) w.heap.size D b :=
      ⟨⟨_, heap_alloc_new w _, ⟨_, _, _, rfl, h.alloc _, by omega⟩, fun k hk => by simpa [Value.ownBlock] using hk.symm⟩, by omega, by simp; omega⟩
    have C1 := Lib.hid (number_any _ _ _ _ rd0 4 (.inr (.inr rfl)))
    have B0 : Below w.heap.size w (w.alloc (.cells #[.slice (some ⟨D, off, none⟩) 1016 c] 68)) := (Below.refl _ _).alloc (Nat.le_refl _) _
    have HB0 := Lib.hid B0
    have HS := Lib.hid h
    have hz4 := (Nd.nb_lt (k := 4) hlt).1
    rw [Nd.p4] at hz4
    have hz2 := (Nd.nb_lt (k := 2) (Nd.nb_lt (k := 4) hlt).2).1
    rw [Nd.p2] at hz2
    have hs0 := B0.size
    clear h rd0 B0 hlt
    go_enter Try.func14, Try.ntmps14
    go_wp2_with fail
    refine C1.out.mono ?_
    rintro e w1 ⟨rfl, rd1, of1⟩
    have hg : ∀ k, At1 w.heap.size k → w.heap.size ≤ k := fun k hk => Nat.le_of_eq (Eq.symm hk)
    have B1 := HB0.out.trans (of1.below hg hs0)
    have hs1 := B1.size
    have C2 := Lib.hid (number_any _ _ _ _ rd1 2 (.inr (.inl rfl)))
    clear C1 rd1 of1 HB0
    go_wp2_with fail
    refine C2.out.mono ?_
    rintro e w2 ⟨rfl, rd2, of2⟩
    have B2 := B1.trans (of2.below hg hs1)
    have hs2 := B2.size
    have C3 := Lib.hid (take_any _ _ _ _ rd2 (Nd.nb 2 (Nd.nb 4 b).2).1 (by omega))
    clear C2 rd2 of2 B1
    go_wp2_with fail
    refine C3.out.mono ?_
    rintro e w3 ⟨v3, rfl, ⟨A3, n3, c3, rfl, r3, hn3⟩, _, _, of3⟩
    have B3 := B2.trans (of3.below hg hs2)
    have hs3 := B3.size
    have hl3 := (Nd.tk_len (Nd.nb 2 (Nd.nb 4 b).2).1 (Nd.nb 2 (Nd.nb 4 b).2).2).1
    have hn3' : n3 ≤ 100000 := by have := r3.1; omega
    generalize hpart : (Nd.tk (Nd.nb 2 (Nd.nb 4 b).2).1 (Nd.nb 2 (Nd.nb 4 b).2).2).1 = part at *
    have HP := Lib.hid hpart
    have C4 := Lib.hid (plink_any w3 ((Nd.nb 4 b).1 : Int) _ _ _ _ r3)
    have HR3 := Lib.hid r3
    clear C3 of3 B2 r3 hpart hl3
    go_wp2_with fail
    refine C4.out.mono ?_
    rintro e w4 ⟨⟨A4, n4, c4, rfl, r4⟩, b4⟩
    have B4 := B3.trans (b4.mono hs3)
    have C5 := Lib.hid (saysJust_any w4 _ _ _ _ _ _ _ _ (HS.out.below B4 (Nat.le_refl _)) r4 (by omega))
    have r3' := HR3.out.on b4
    clear C4 HR3 B3 r4 b4
    go_wp2_with fail
    refine C5.out.mono ?_
    rintro e w5 ⟨rfl, b5⟩
    have B5 := B4.trans (b5.mono B4.size)
    have r5 := r3'.on b5
    clear C5 r3' B4 b5
    by_cases hs : Nd.LSays b
    · have hp := HPT.out hs
      have hpl : 0 < n3 := by
        have h1 := hs.2.1.1.1
        rw [← hp.2] at h1
        have := r5.1
        omega
      have C6 := Lib.hid (clone_any w5 _ _ _ _ r5 hpl hn3')
      rw [decide_eq_true (HJ.out.2 hs)]
      have HE : Hid (lz b = (Nd.nb 4 b).1 ∧ ll b = part ∧ lk b = 0) := ⟨by unfold lz; rw [if_pos hs, hp.1], by unfold ll; rw [if_pos hs]; exact hp.2.symm, if_pos hs⟩
      clear r5 hp hs HJ HPT
      go_wp2_with fail
      refine C6.out.mono ?_
      rintro e w6 ⟨g6, c6, rfl, r6, _, _, b6⟩
      have B6 := B5.trans (b6.mono B5.size)
      clear C6 b6
      go_wp2
      go_ret3
      obtain ⟨h1, h2, h3⟩ := HE.out
      exact ⟨⟨_, _, _, by rw [h1, h3]; rfl, by rw [h2]; exact r6⟩, B6⟩
    · rw [decide_eq_false fun h' => hs (HJ.out.1 h')]
      have HE : Hid (lz b = 0 ∧ ll b = [] ∧ lk b = 5) := ⟨if_neg hs, if_neg hs, if_neg hs⟩
      clear r5 hs HJ HPT
      go_wp2
      go_ret3
      obtain ⟨h1, h2, h3⟩ := HE.out
      exact ⟨⟨_, _, _, by rw [h1, h3]; rfl, by rw [h2]; exact Bs.nil_ _ _ _ (Nat.zero_le _)⟩, B5⟩
  · have d : ((n : Int) != 1016) = true := by simp; omega
    have hs : ¬ Nd.LSays b := fun h' => hn (hb.symm.trans h'.1)
    have HE : Hid (lz b = 0 ∧ ll b = [] ∧ lk b = 5) := ⟨if_neg hs, if_neg hs, if_neg hs⟩
    clear h hs hlt
    go_enter Try.func14, Try.ntmps14
    go_wp2
    go_ret3
    obtain ⟨h1, h2, h3⟩ := HE.out
    exact ⟨⟨_, _, _, by rw [h1, h3]; rfl, by rw [h2]; exact Bs.nil_ _ _ _ (Nat.zero_le _)⟩, Below.refl _ _⟩
end Go.Proofs.Ytachclcpldnofaa.Nn
