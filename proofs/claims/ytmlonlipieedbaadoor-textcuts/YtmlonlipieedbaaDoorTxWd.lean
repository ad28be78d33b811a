/-
  The document's Words.
-/
import Derived.Test.YtmlonlipieedbaaDoorTxLower
namespace Go.Proofs.YtmlonlipieedbaaDoor
open Go.RowKit Go.Lib
set_option linter.unusedVariables false

def WordsTo (l : List UInt8) (k : Nat) (ws : List (List UInt8)) (o : List UInt8) : Prop := ws ++ Tx.wg o (l.drop k) = Tx.words l ∧ ws.length ≤ k
theorem drop_one {l : List UInt8} {k : Nat} {b : UInt8} (h : l[k]? = some b) : l.drop k = b :: l.drop (k + 1) := by
  obtain ⟨hk, e⟩ := List.getElem?_eq_some_iff.1 h
  rw [List.drop_eq_getElem_cons hk, e]
theorem WordsTo.blank0 {l : List UInt8} {k : Nat} {ws : List (List UInt8)} {b : UInt8} (h : WordsTo l k ws []) (hb : l[k]? = some b) (hbl : Tx.bl b = true) : WordsTo l (k + 1) ws [] := by
  obtain ⟨h1, h2⟩ := h
  rw [drop_one hb, Tx.wg_blank _ _ _ hbl, if_pos rfl, List.nil_append] at h1
  exact ⟨h1, by omega⟩
theorem WordsTo.blank1 {l : List UInt8} {k : Nat} {ws : List (List UInt8)} {o : List UInt8} {b : UInt8} (h : WordsTo l k ws o) (ho : o ≠ []) (hb : l[k]? = some b) (hbl : Tx.bl b = true) : WordsTo l (k + 1) (ws ++ [o]) [] := by
  obtain ⟨h1, h2⟩ := h
  rw [drop_one hb, Tx.wg_blank _ _ _ hbl, if_neg ho] at h1
  exact ⟨by rw [← h1]; simp, by simp; omega⟩
theorem WordsTo.more {l : List UInt8} {k : Nat} {ws : List (List UInt8)} {o : List UInt8} {b : UInt8} (h : WordsTo l k ws o) (hb : l[k]? = some b) (hbl : Tx.bl b = false) : WordsTo l (k + 1) ws (o ++ [b]) := by
  obtain ⟨h1, h2⟩ := h
  refine ⟨?_, by omega⟩
  rw [← h1, drop_one hb]
  have := Tx.wg_app [b] o (l.drop (k + 1)) (by intro x hx; simp at hx; subst hx; exact hbl)
  rw [← this]; rfl
theorem bl_bk (b : UInt8) : bkB (b.toNat : Int) = Tx.bl b := by
  unfold bkB Tx.bl
  rw [Bool.eq_iff_iff, Tx.blN_iff]; simp; omega

set_option maxRecDepth 100000 in
set_option maxHeartbeats 1000000 in
theorem refWords_any (s : ByteArray) (w : World) (hs : s.size ≤ 1000000) :
    Calls Tryd.prog 18 #[.string s] w fun e w' => ∃ A c, e = .returned (.slice A (Tx.words s.data.toList).length c) ∧ Vs w' A (Tx.words s.data.toList).length c (sv (Tx.words s.data.toList)) ∧ Below w.heap.size w w' := by
  obtain ⟨i0, hi, hz0, hz1, hz2⟩ := info_parts Tryd.info9
  go_enter Tryd.func18, Tryd.ntmps18
  go_wp2
  go_loopw [3, 4, 5] (fun out wd i wr => ∃ (k : Nat) (ws : List (List UInt8)) (o : ByteArray), i = .int .i64 (k : Int) ∧ k ≤ s.size ∧ wd = .string o ∧ o.size ≤ k ∧ ws.length ≤ k ∧ Hid (WordsTo s.data.toList k ws o.data.toList) ∧
      wr.ownsRow w.heap.size 9 1 out ws.length (sv ws) ∧ Below w.heap.size w wr) (fun _ _ i _ => s.size - (RowKit.intOf i).toNat)
  case atStart => exact ⟨0, [], ⟨#[]⟩, rfl, Nat.zero_le _, rfl, Nat.le_refl _, Nat.le_refl _, ⟨rfl, Nat.le_refl _⟩, World.ownsRow_nil _ _ _ _, Below.refl _ _⟩
  case round =>
    obtain ⟨k, ws, o, rfl, hk, rfl, ho, hwk, H, hown, hbel⟩ := hrel
    have hsz := hbel.size
    by_cases hlt : k < s.size
    · obtain ⟨b, hb⟩ : ∃ b, s[k]'hlt = b := ⟨_, rfl⟩
      have hat := s_at hlt
      rw [hb] at hat
      have hbi : (((s[k]'hlt).toNat : Nat) : Int) = (b.toNat : Int) := by rw [hb]
      have hb256 : b.toNat < 256 := b.toNat_lt
      have HAT := Lib.hid hat
      clear hat hb
      have hbk := bl_bk b
      cases hbl : Tx.bl b with
      | true =>
        rw [hbl] at hbk
        by_cases hoe : o.data.toList = []
        · have hoz : o = ⟨#[]⟩ := by rw [← ba_list o, hoe]; rfl
          subst hoz
          have H2 := Lib.hid (WordsTo.blank0 H.out HAT.out hbl)
          clear hbl hoe
          go_wp2_with (go_at_call 26; refine (refBlank_any _ _).mono ?_; rintro e w' ⟨rfl, rfl⟩; rw [hbk])
          go_roundw
          case rel => exact ⟨k + 1, ws, ⟨#[]⟩, by go_num, by omega, rfl, Nat.zero_le _, by omega, H2, hown, hbel⟩
          case measure => simp [RowKit.intOf]; omega
        · have H2 := Lib.hid (WordsTo.blank1 H.out hoe HAT.out hbl)
          have hoe2 : o.toList ≠ [] := by rw [ByteArray.toList_eq]; exact hoe
          have hob : o.toList.isEmpty = false := by cases h : o.toList with | nil => exact absurd h hoe2 | cons _ _ => rfl
          have hoc : (o.toList == []) = false := by cases h : o.toList with | nil => exact absurd h hoe2 | cons _ _ => rfl
          have HOE := Lib.hid hoe
          clear hbl hoe
          go_wp2_with (first
            | (go_at_call 26; refine (refBlank_any _ _).mono ?_; rintro e w' ⟨rfl, rfl⟩; rw [hbk])
            | (at_builtin; refine wpList_append_lies _ rfl _ _ 30 rfl w.heap.size 9 i0 (.string ⟨#[]⟩) 1 16 Tryd.underlying30 hi hz0 hz1 hz2 rfl (by decide) _ _ _ rfl (hown.alloc _) ⟨wr.heap.size, 0, none⟩ 1 1 [.string o] rfl rfl ?c1 (one_cell rfl) (by decide) ?c3 ?c4 ?c5 _ rfl ?_))
          case c1 => exact cell_one _ _ _
          case c3 => unfold maxLen; omega
          case c4 => omega
          case c5 => simp; omega
          intro g cap w1 hown' hgrow hg hgl
          have e : sv ws ++ [.string o] = sv (ws ++ [o.data.toList]) := by rw [sv_snoc, ba_list]
          rw [e] at hown'
          have hbel1 := below_own (hbel.alloc hsz _) (hown.alloc _) hgrow (by simp; omega) (Nat.le_refl _)
          clear hown hgrow hbel hg e
          go_wp2
          go_roundw
          case rel => exact ⟨k + 1, _, ⟨#[]⟩, by go_num, by omega, rfl, Nat.zero_le _, by simp; omega, H2, by rw [List.length_append]; exact hown', hbel1⟩
          case measure => simp [RowKit.intOf]; omega
      | false =>
        rw [hbl] at hbk
        have H2 : Hid (WordsTo s.data.toList (k + 1) ws (o ++ s.extract k (k + 1)).data.toList) := by
          have := WordsTo.more H.out HAT.out hbl
          have e : (s.extract k (k + 1)).data.toList = [b] := by
            rw [extract_data, Nat.add_sub_cancel_left, drop_one HAT.out]; rfl
          rw [app_data, e]; exact this
        have hsz2 : (o ++ s.extract k (k + 1)).size ≤ k + 1 := by
          rw [ByteArray.size_append, size_eq (s.extract k (k + 1)), extract_data, List.length_take]; omega
        have hes : (s.extract k (k + 1)).size ≤ 1 := by rw [size_eq, extract_data, List.length_take]; omega
        clear hbl
        go_wp2_with (go_at_call 26; refine (refBlank_any _ _).mono ?_; rintro e w' ⟨rfl, rfl⟩; rw [hbk])
        go_roundw
        case rel => exact ⟨k + 1, ws, _, by go_num, by omega, rfl, hsz2, by omega, H2, hown, hbel⟩
        case measure => simp [RowKit.intOf]; omega
    · have hd : s.data.toList.drop k = [] := List.drop_eq_nil_of_le (by rw [← size_eq]; omega)
      have hw := H.out.1
      rw [hd, Tx.wg_nil] at hw
      by_cases hoe : o.data.toList = []
      · rw [if_pos hoe, List.append_nil] at hw
        have hoz : o = ⟨#[]⟩ := by rw [← ba_list o, hoe]; rfl
        subst hoz
        subst hw
        obtain ⟨A, c, rfl, V⟩ := Vs.of_own hown
        clear hown H hd hoe
        go_wp2
        go_ret
        exact ⟨A, c, rfl, V, hbel⟩
      · rw [if_neg hoe] at hw
        have hoe2 : o.toList ≠ [] := by rw [ByteArray.toList_eq]; exact hoe
        have hob : o.toList.isEmpty = false := by cases h : o.toList with | nil => exact absurd h hoe2 | cons _ _ => rfl
        have hoc : (o.toList == []) = false := by cases h : o.toList with | nil => exact absurd h hoe2 | cons _ _ => rfl
        have HW := Lib.hid hw
        clear hw hd H hoe
        go_wp2_with (at_builtin; refine wpList_append_lies _ rfl _ _ 30 rfl w.heap.size 9 i0 (.string ⟨#[]⟩) 1 16 Tryd.underlying30 hi hz0 hz1 hz2 rfl (by decide) _ _ _ rfl (hown.alloc _) ⟨wr.heap.size, 0, none⟩ 1 1 [.string o] rfl rfl ?c1 (one_cell rfl) (by decide) ?c3 ?c4 ?c5 _ rfl ?_)
        case c1 => exact cell_one _ _ _
        case c3 => unfold maxLen; omega
        case c4 => omega
        case c5 => simp; omega
        intro g cap w1 hown' hgrow hg hgl
        have e : sv ws ++ [.string o] = sv (ws ++ [o.data.toList]) := by rw [sv_snoc, ba_list]
        rw [e, HW.out] at hown'
        have hbel1 := below_own (hbel.alloc hsz _) (hown.alloc _) hgrow (by simp; omega) (Nat.le_refl _)
        have hl : ws.length + 1 = (Tx.words s.data.toList).length := by rw [← HW.out]; simp
        rw [hl] at hown'
        have HL := Lib.hid hl
        obtain ⟨A, c, hv, V⟩ := Vs.of_own hown'
        have HV := Lib.hid hv
        clear hown hgrow hbel hg e hown' hl hv
        go_wp2
        go_ret
        exact ⟨A, c, by rw [← HV.out, ← HL.out]; rfl, V, hbel1⟩

end Go.Proofs.YtmlonlipieedbaaDoor
