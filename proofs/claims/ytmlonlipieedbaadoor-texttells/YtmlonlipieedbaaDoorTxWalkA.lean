/-
  TextRunes, TextMatches, TextTells: their walks.
-/
import Derived.Test.YtmlonlipieedbaaDoorTxAwake
namespace Go.Proofs.YtmlonlipieedbaaDoor
open Go.RowKit Go.Lib
set_option linter.unusedVariables false

theorem lt_bk (r : Int) (h : bkB r = true) : ltB r = false := by
  simp only [bkB, decide_eq_true_eq] at h
  simp only [ltB, decide_eq_false_iff_not]
  omega

set_option maxRecDepth 100000 in
set_option maxHeartbeats 400000 in
theorem textRunes_walk (r : Int) (w : World) (h0 : -2147483648 ≤ r) (h1 : r ≤ 2147483647) (hT : Tabs w) :
    Calls Tryd.prog 5 #[.int .i32 r] w fun e w' => e = .returned (.bool true) ∧ Below w.heap.size w w' := by
  have HT := Lib.hid hT
  clear hT
  have CL := Lib.hid (fun W => letter_any r W)
  have CB := Lib.hid (fun W => blank_any r W)
  have CL' := Lib.hid (fun W => refLetter_any r W)
  have CB' := Lib.hid (fun W => refBlank_any r W)
  cases hb : bkB r with
  | true =>
    have hl := lt_bk r hb
    rw [hb] at CB CB'
    rw [hl] at CL CL'
    clear hb hl
    go_enter Tryd.func5, Tryd.ntmps5
    go_wp2_with fail
    refine (awake_any _ HT.out).mono ?_
    rintro e w1 ⟨rfl, b1⟩
    go_wp2_with fail
    refine (CL.out _).mono ?_
    rintro e w2 ⟨rfl, b2⟩
    go_wp2_with fail
    refine (CL'.out _).mono ?_
    rintro e w2' ⟨rfl, rfl⟩
    go_wp2_with fail
    refine (CB.out _).mono ?_
    rintro e w3 ⟨rfl, b3⟩
    go_wp2_with fail
    refine (CB'.out _).mono ?_
    rintro e w3' ⟨rfl, rfl⟩
    go_wp2_with fail
    refine (CB.out _).mono ?_
    rintro e w4 ⟨rfl, b4⟩
    go_wp2_with fail
    refine (CL.out _).mono ?_
    rintro e w5 ⟨rfl, b5⟩
    go_wp2
    go_ret
    exact ⟨rfl, onto (onto (onto (onto b1 b2) b3) b4) b5⟩
  | false =>
    rw [hb] at CB CB'
    clear hb
    generalize ltB r = L at CL CL'
    have hLL : (L != L) = false := by simp
    go_enter Tryd.func5, Tryd.ntmps5
    go_wp2_with fail
    refine (awake_any _ HT.out).mono ?_
    rintro e w1 ⟨rfl, b1⟩
    go_wp2_with fail
    refine (CL.out _).mono ?_
    rintro e w2 ⟨rfl, b2⟩
    go_wp2_with fail
    refine (CL'.out _).mono ?_
    rintro e w2' ⟨rfl, rfl⟩
    go_wp2_with fail
    refine (CB.out _).mono ?_
    rintro e w3 ⟨rfl, b3⟩
    go_wp2_with fail
    refine (CB'.out _).mono ?_
    rintro e w3' ⟨rfl, rfl⟩
    go_wp2_with fail
    refine (CB.out _).mono ?_
    rintro e w4 ⟨rfl, b4⟩
    go_wp2
    go_ret
    exact ⟨rfl, onto (onto (onto b1 b2) b3) b4⟩

theorem mt_star (l : List UInt8) : mtB [42] l = true := by
  have e : Tx.sg (Tx.rns [42]) = [-1] := by decide +kernel
  unfold mtB
  rw [e]
  exact Tx.M_stars _

set_option maxRecDepth 100000 in
set_option maxHeartbeats 400000 in
theorem textMatches_walk (p s : ByteArray) (w : World) (hp : p.size ≤ maxLen) (hs : s.size ≤ maxLen) (hT : Tabs w) :
    Calls Tryd.prog 4 #[.string p, .string s] w fun e w' => e = .returned (.bool true) ∧ Below w.heap.size w w' := by
  unfold maxLen at hp hs
  have HT := Lib.hid hT
  clear hT
  by_cases h1 : 600 < p.size
  · have h1' : 600 < (p.size : Int) := by omega
    go_enter Tryd.func4, Tryd.ntmps4
    go_wp2_with fail
    refine (awake_any _ HT.out).mono ?_
    rintro e w1 ⟨rfl, b1⟩
    go_wp2
    go_ret
    exact ⟨rfl, b1⟩
  · have h1' : ¬ 600 < (p.size : Int) := by omega
    by_cases h2 : 600 < s.size
    · have h2' : 600 < (s.size : Int) := by omega
      go_enter Tryd.func4, Tryd.ntmps4
      go_wp2_with fail
      refine (awake_any _ HT.out).mono ?_
      rintro e w1 ⟨rfl, b1⟩
      go_wp2
      go_ret
      exact ⟨rfl, b1⟩
    · have h2' : ¬ 600 < (s.size : Int) := by omega
      have C1 := Lib.hid (fun W => match_any p s W (by omega) (by omega))
      have C2 := Lib.hid (fun W => refMatch_any p s W (by omega) (by omega))
      have C3 := Lib.hid (fun W => match_any ⟨#[42]⟩ s W (by decide) (by omega))
      rw [show mtB (ByteArray.mk #[42]).data.toList s.data.toList = true from mt_star _] at C3
      generalize mtB p.data.toList s.data.toList = L at C1 C2
      have hLL : (L == L) = true := by simp
      go_enter Tryd.func4, Tryd.ntmps4
      go_wp2_with fail
      refine (awake_any _ HT.out).mono ?_
      rintro e w1 ⟨rfl, b1⟩
      go_wp2_with fail
      refine (C1.out _).mono ?_
      rintro e w2 ⟨rfl, b2⟩
      go_wp2_with fail
      refine (C2.out _).mono ?_
      rintro e w3 ⟨rfl, b3⟩
      go_wp2_with fail
      refine (C3.out _).mono ?_
      rintro e w4 ⟨rfl, b4⟩
      go_wp2
      go_ret
      exact ⟨rfl, onto (onto (onto b1 b2) b3) b4⟩

set_option maxRecDepth 100000 in
set_option maxHeartbeats 400000 in
theorem textTells_walk (s : ByteArray) (n : Int) (w : World) (hs : s.size ≤ maxLen) (hn : n ≤ 9223372036854775807) (hT : Tabs w) :
    Calls Tryd.prog 3 #[.string s, .int .i64 n] w fun e w' => e = .returned (.bool true) ∧ Below w.heap.size w w' := by
  unfold maxLen at hs
  have HT := Lib.hid hT
  clear hT
  by_cases h1 : 600 < s.size
  · have h1' : 600 < (s.size : Int) := by omega
    go_enter Tryd.func3, Tryd.ntmps3
    go_wp2_with fail
    refine (awake_any _ HT.out).mono ?_
    rintro e w1 ⟨rfl, b1⟩
    go_wp2
    go_ret
    exact ⟨rfl, b1⟩
  · have h1' : ¬ 600 < (s.size : Int) := by omega
    have hz : s.size ≤ 1000000 := by omega
    have CR := Lib.hid (fun W hW => right_any s W hz hW)
    have CR' := Lib.hid (fun W => refRight_any s W hz)
    have CU := Lib.hid (fun W => refRunes_any s W hz)
    have CN := Lib.hid (fun W => len_any s W hz)
    have CC := Lib.hid (fun W => cut_any s n W hz hn)
    have CC' := Lib.hid (fun W => refCut_any s n W hz hn)
    have CW := Lib.hid (fun W => words_any s W hz)
    have CW' := Lib.hid (fun W => refWords_any s W hz)
    have CL := Lib.hid (fun W => lower_any s W hz)
    have CL' := Lib.hid (fun W => refLower_any s W hz)
    generalize rightB s.data.toList = R at CR CR'
    generalize Tx.rns s.data.toList = rs at CU
    generalize Tx.ats 0 (Tx.P s.data.toList) = at0 at CU
    generalize (Tx.P s.data.toList).length = N at CU CN
    generalize ba (Tx.cut s.data.toList n.toNat) = c at CC CC'
    generalize Tx.words s.data.toList = ws at CW CW'
    generalize ba (Tx.lower s.data.toList) = lo at CL CL'
    have e1 : (R == R) = true := by simp
    have e2 : ((N : Int) == (N : Int)) = true := by simp
    have e3 : (c.toList == c.toList) = true := by simp
    have e4 : (lo.toList == lo.toList) = true := by simp
    clear h1
    go_enter Tryd.func3, Tryd.ntmps3
    go_wp2_with fail
    refine (awake_any _ HT.out).mono ?_
    rintro e w1 ⟨rfl, b1⟩
    go_wp2_with fail
    refine (CU.out _).mono ?_
    rintro e w2 ⟨A1, k1, A2, k2, rfl, _, _, b2⟩
    have B2 := onto b1 b2
    have HT2 := Lib.hid (HT.out.below B2)
    clear b1 b2
    go_wp2_with fail
    refine (CR.out _ HT2.out).mono ?_
    rintro e w3 ⟨rfl, b3⟩
    go_wp2_with fail
    refine (CR'.out _).mono ?_
    rintro e w4 ⟨rfl, b4⟩
    go_wp2_with fail
    refine (CN.out _).mono ?_
    rintro e w5 ⟨rfl, b5⟩
    go_wp2_with fail
    refine (CC.out _).mono ?_
    rintro e w6 ⟨rfl, b6⟩
    go_wp2_with fail
    refine (CC'.out _).mono ?_
    rintro e w7 ⟨rfl, b7⟩
    have B7 := onto (onto (onto (onto (onto B2 b3) b4) b5) b6) b7
    clear b3 b4 b5 b6 b7 B2
    go_wp2_with fail
    refine (CW.out _).mono ?_
    rintro e w8 ⟨A, k, rfl, V, b8⟩
    go_wp2_with fail
    refine (CW'.out _).mono ?_
    rintro e w9 ⟨A', k', rfl, V', b9⟩
    have V8 := V.on b9
    have B9 := onto (onto B7 b8) b9
    clear b8 b9 B7 V
    go_wp2_with fail
    refine (refTexts_any _ _ _ _ _ _ _ ws ws V8 V').mono ?_
    rintro e w10 ⟨rfl, m, rfl⟩
    have B10 : Below w.heap.size w (w9.drewN m) := below_drewN B9 m
    rw [show decide (ws = ws) = true from by simp]
    clear V8 V' B9
    generalize w9.drewN m = w10 at B10 ⊢
    go_wp2_with fail
    refine (CL.out _).mono ?_
    rintro e w11 ⟨rfl, b11⟩
    go_wp2_with fail
    refine (CL'.out _).mono ?_
    rintro e w12 ⟨rfl, b12⟩
    go_wp2
    go_ret
    exact ⟨rfl, onto (onto B10 b11) b12⟩

end Go.Proofs.YtmlonlipieedbaaDoor
