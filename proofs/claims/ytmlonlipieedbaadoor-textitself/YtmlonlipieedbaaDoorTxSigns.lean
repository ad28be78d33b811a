/-
  The document's signs of a pattern.
-/
import Derived.Test.YtmlonlipieedbaaDoorTxRunes
import Derived.Test.YtmlonlipieedbaaDoorTxMarks
namespace Go.Proofs.YtmlonlipieedbaaDoor
open Go.RowKit Go.Lib
set_option linter.unusedVariables false

def SignsAt (t : List Nat) (k : Nat) (os : List Int) : Prop := os ++ Tx.sg (t.drop k) = Tx.sg t ∧ os.length ≤ k
theorem SignsAt.plain {t : List Nat} {k x : Nat} {os : List Int} (h : SignsAt t k os) (hx : t[k]? = some x) (h92 : x ≠ 92) : SignsAt t (k + 1) (os ++ [pl x]) := by
  obtain ⟨h1, h2⟩ := h
  rw [Tx.drop_at' hx, sg_plain _ _ h92] at h1
  exact ⟨by rw [← h1]; simp, by simp; omega⟩
theorem SignsAt.esc {t : List Nat} {k y : Nat} {os : List Int} (h : SignsAt t k os) (hx : t[k]? = some 92) (hy : t[k + 1]? = some y) : SignsAt t (k + 1 + 1) (os ++ [(y : Int)]) := by
  obtain ⟨h1, h2⟩ := h
  rw [Tx.drop_at' hx, Tx.drop_at' hy, sg_esc2] at h1
  exact ⟨by rw [← h1]; simp, by simp; omega⟩
theorem SignsAt.last {t : List Nat} {k : Nat} {os : List Int} (h : SignsAt t k os) (hx : t[k]? = some 92) (hy : t.length ≤ k + 1) : SignsAt t (k + 1) (os ++ [92]) := by
  obtain ⟨h1, h2⟩ := h
  rw [Tx.drop_at' hx, List.drop_eq_nil_of_le hy, sg_last] at h1
  exact ⟨by rw [List.drop_eq_nil_of_le hy, ← h1]; simp [Tx.sg], by simp; omega⟩
theorem pl_42 : pl 42 = -1 := rfl
theorem pl_63 : pl 63 = -2 := rfl
theorem pl_else {x : Nat} (h1 : x ≠ 42) (h2 : x ≠ 63) : pl x = (x : Int) := by unfold pl; rw [if_neg h1, if_neg h2]

set_option maxRecDepth 100000 in
set_option maxHeartbeats 1000000 in
theorem refSigns_any (s : ByteArray) (w : World) (hs : s.size ≤ 1000000) :
    Calls Tryd.prog 38 #[.string s] w fun e w' => ∃ A c, e = .returned (.slice A (Tx.sg (Tx.rns s.data.toList)).length c) ∧ Vs w' A (Tx.sg (Tx.rns s.data.toList)).length c (zv (Tx.sg (Tx.rns s.data.toList))) ∧ Below w.heap.size w w' := by
  obtain ⟨i0, hi, hz0, hz1, hz2⟩ := info_parts Tryd.info3
  have C := Lib.hid (refRunes_any s w hs)
  have hNl : (Tx.P s.data.toList).length ≤ 1000000 := by have h2 := Tx.P_len s.data.toList; rw [← size_eq] at h2; omega
  have HN := Lib.hid (Tx.rns_len s.data.toList)
  generalize (Tx.P s.data.toList).length = N at hNl C HN
  generalize Tx.ats 0 (Tx.P s.data.toList) = at0 at C
  generalize Tx.rns s.data.toList = t at C HN ⊢
  go_enter Tryd.func38, Tryd.ntmps38
  go_wp2_with (go_at_call 10; refine C.out.mono ?_; rintro e w1 ⟨A1, c1, A2, c2, rfl, V1, V2, hb⟩)
  clear V2 C
  go_loopw [5, 6] (fun out i wr => ∃ (k : Nat) (os : List Int), i = .int .i64 (k : Int) ∧ k ≤ N ∧ os.length ≤ k ∧ Hid (SignsAt t k os) ∧ wr.ownsRow w1.heap.size 3 1 out os.length (zv os) ∧ Below w1.heap.size w1 wr) (fun _ i _ => N - (RowKit.intOf i).toNat)
  case atStart => exact ⟨0, [], rfl, Nat.zero_le _, Nat.le_refl _, ⟨rfl, Nat.le_refl _⟩, World.ownsRow_nil _ _ _ _, Below.refl _ _⟩
  case round =>
    obtain ⟨k, os, rfl, hk, hok, H, hown, hbel⟩ := hrel
    have hsz := hbel.size
    by_cases hlt : k < N
    · obtain ⟨b, off, x, rfl, hx, cx⟩ := nv_at (V1.on hbel) hlt
      have HX := Lib.hid hx
      clear hx
      by_cases h92 : x = 92
      · subst h92
        by_cases hn : k + 1 < N
        · obtain ⟨b', off', y, hA, hy, cy⟩ := nv_at (V1.on hbel) hn
          injection hA with hA
          injection hA with hA1 hA2
          subst hA1 hA2
          have H2 := Lib.hid (H.out.esc HX.out hy)
          have hn1 : (k : Int) + 1 < (N : Int) := by omega
          clear hy
          go_wp2_with (at_builtin; refine wpList_append_lies _ rfl _ _ 23 rfl w1.heap.size 3 i0 (.int .i64 0) 1 8 Tryd.underlying23 hi hz0 hz1 hz2 rfl (by decide) _ _ _ rfl (hown.alloc _) ⟨wr.heap.size, 0, none⟩ 1 1 [.int .i64 (y : Int)] rfl rfl ?c1x0 (one_cell rfl) (by decide) ?c3x0 ?c4x0 ?c5x0 _ rfl ?_)
          case c3x0 => unfold maxLen; omega
          case c4x0 => omega
          case c5x0 => omega
          intro g cap w2 hown' hgrow hg hgl
          rw [← zv_snoc] at hown'
          have hbel1 := below_own (hbel.alloc hsz _) (hown.alloc _) hgrow (by simp; omega) (Nat.le_refl _)
          clear hown hgrow hbel hg
          go_wp2
          go_roundw
          case rel => exact ⟨k + 1 + 1, _, by go_num, by omega, by simp; omega, H2, by rw [List.length_append]; exact hown', hbel1⟩
          case measure => simp [RowKit.intOf]; omega
        · have H2 := Lib.hid (H.out.last HX.out (by rw [HN.out]; omega))
          have hn1 : ¬ (k : Int) + 1 < (N : Int) := by omega
          go_wp2_with (at_builtin; refine wpList_append_lies _ rfl _ _ 23 rfl w1.heap.size 3 i0 (.int .i64 0) 1 8 Tryd.underlying23 hi hz0 hz1 hz2 rfl (by decide) _ _ _ rfl (hown.alloc _) ⟨wr.heap.size, 0, none⟩ 1 1 [.int .i64 92] rfl rfl ?c1x1 (one_cell rfl) (by decide) ?c3x1 ?c4x1 ?c5x1 _ rfl ?_)
          case c3x1 => unfold maxLen; omega
          case c4x1 => omega
          case c5x1 => omega
          intro g cap w2 hown' hgrow hg hgl
          rw [← zv_snoc] at hown'
          have hbel1 := below_own (hbel.alloc hsz _) (hown.alloc _) hgrow (by simp; omega) (Nat.le_refl _)
          clear hown hgrow hbel hg
          go_wp2
          go_roundw
          case rel => exact ⟨k + 1, _, by go_num, by omega, by simp; omega, H2, by rw [List.length_append]; exact hown', hbel1⟩
          case measure => simp [RowKit.intOf]; omega
      · have H2 := Lib.hid (H.out.plain HX.out h92)
        have b0 : ((x : Int) == 92) = false := by simp; omega
        by_cases h42 : x = 42
        · subst h42
          rw [pl_42] at H2
          clear h92
          go_wp2_with (at_builtin; refine wpList_append_lies _ rfl _ _ 23 rfl w1.heap.size 3 i0 (.int .i64 0) 1 8 Tryd.underlying23 hi hz0 hz1 hz2 rfl (by decide) _ _ _ rfl (hown.alloc _) ⟨wr.heap.size, 0, none⟩ 1 1 [.int .i64 (-1)] rfl rfl ?c1x2 (one_cell rfl) (by decide) ?c3x2 ?c4x2 ?c5x2 _ rfl ?_)
          case c1x2 => exact cell_one _ _ _
          case c3x2 => unfold maxLen; omega
          case c4x2 => omega
          case c5x2 => simp; omega
          intro g cap w2 hown' hgrow hg hgl
          rw [← zv_snoc] at hown'
          have hbel1 := below_own (hbel.alloc hsz _) (hown.alloc _) hgrow (by simp; omega) (Nat.le_refl _)
          clear hown hgrow hbel hg
          go_wp2
          go_roundw
          case rel => exact ⟨k + 1, _, by go_num, by omega, by simp; omega, H2, by rw [List.length_append]; exact hown', hbel1⟩
          case measure => simp [RowKit.intOf]; omega
        · have b1 : ((x : Int) == 42) = false := by simp; omega
          by_cases h63 : x = 63
          · subst h63
            rw [pl_63] at H2
            clear h92 h42
            go_wp2_with (at_builtin; refine wpList_append_lies _ rfl _ _ 23 rfl w1.heap.size 3 i0 (.int .i64 0) 1 8 Tryd.underlying23 hi hz0 hz1 hz2 rfl (by decide) _ _ _ rfl (hown.alloc _) ⟨wr.heap.size, 0, none⟩ 1 1 [.int .i64 (-2)] rfl rfl ?c1x3 (one_cell rfl) (by decide) ?c3x3 ?c4x3 ?c5x3 _ rfl ?_)
            case c1x3 => exact cell_one _ _ _
            case c3x3 => unfold maxLen; omega
            case c4x3 => omega
            case c5x3 => simp; omega
            intro g cap w2 hown' hgrow hg hgl
            rw [← zv_snoc] at hown'
            have hbel1 := below_own (hbel.alloc hsz _) (hown.alloc _) hgrow (by simp; omega) (Nat.le_refl _)
            clear hown hgrow hbel hg
            go_wp2
            go_roundw
            case rel => exact ⟨k + 1, _, by go_num, by omega, by simp; omega, H2, by rw [List.length_append]; exact hown', hbel1⟩
            case measure => simp [RowKit.intOf]; omega
          · have b2 : ((x : Int) == 63) = false := by simp; omega
            rw [pl_else h42 h63] at H2
            clear h92 h42 h63
            go_wp2_with (at_builtin; refine wpList_append_lies _ rfl _ _ 23 rfl w1.heap.size 3 i0 (.int .i64 0) 1 8 Tryd.underlying23 hi hz0 hz1 hz2 rfl (by decide) _ _ _ rfl (hown.alloc _) ⟨wr.heap.size, 0, none⟩ 1 1 [.int .i64 (x : Int)] rfl rfl ?c1x4 (one_cell rfl) (by decide) ?c3x4 ?c4x4 ?c5x4 _ rfl ?_)
            case c1x4 => exact cell_one _ _ _
            case c3x4 => unfold maxLen; omega
            case c4x4 => omega
            case c5x4 => simp; omega
            intro g cap w2 hown' hgrow hg hgl
            rw [← zv_snoc] at hown'
            have hbel1 := below_own (hbel.alloc hsz _) (hown.alloc _) hgrow (by simp; omega) (Nat.le_refl _)
            clear hown hgrow hbel hg
            go_wp2
            go_roundw
            case rel => exact ⟨k + 1, _, by go_num, by omega, by simp; omega, H2, by rw [List.length_append]; exact hown', hbel1⟩
            case measure => simp [RowKit.intOf]; omega
    · have hE : os = Tx.sg t := by
        have := H.out.1
        rw [List.drop_eq_nil_of_le (by rw [HN.out]; omega)] at this
        simpa [Tx.sg] using this
      subst hE
      obtain ⟨A, c, rfl, V⟩ := Vs.of_own hown
      clear hown H
      go_wp2
      go_ret
      exact ⟨A, c, rfl, V, onto hb hbel⟩

end Go.Proofs.YtmlonlipieedbaaDoor
