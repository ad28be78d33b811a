/-
  The document's Runes: the runes of a text, and where each begins; Utf, Right and Cut by it.
-/
import Derived.Test.YtmlonlipieedbaaDoorTxBase
import Derived.Test.YtmlonlipieedbaaDoorTxRune
namespace Go.Proofs.YtmlonlipieedbaaDoor
open Go.RowKit Go.Lib
set_option linter.unusedVariables false

/-- What is told of the runes from place pos on. -/
def RunesTo (l : List UInt8) (pos : Nat) (R A : List Nat) : Prop := R ++ Tx.rns (l.drop pos) = Tx.rns l ∧ A ++ Tx.ats pos (Tx.P (l.drop pos)) = Tx.ats 0 (Tx.P l) ∧ R.length = A.length ∧ R.length ≤ pos
theorem RunesTo.step {s : ByteArray} {pos : Nat} {R A : List Nat} (h : RunesTo s.data.toList pos R A) (hp : pos < s.size) :
    RunesTo s.data.toList (pos + (Utf8.decode s pos).2) (R ++ [(Utf8.decode s pos).1]) (A ++ [pos]) := by
  obtain ⟨h1, h2, h3, h4⟩ := h
  have := wd_le hp
  refine ⟨?_, ?_, by simp [h3], by simp; omega⟩
  · rw [← h1]; unfold Tx.rns; rw [P_at hp]; simp
  · rw [← h2, P_at hp]; simp [Tx.ats]
theorem RunesTo.ends {s : ByteArray} {pos : Nat} {R A : List Nat} (h : RunesTo s.data.toList pos R A) (hp : ¬ pos < s.size) : R = Tx.rns s.data.toList ∧ A = Tx.ats 0 (Tx.P s.data.toList) := by
  obtain ⟨h1, h2, _, _⟩ := h
  rw [P_end hp] at h2
  unfold Tx.rns at h1
  rw [P_end hp] at h1
  exact ⟨by simpa [Tx.rns] using h1, by simpa [Tx.ats] using h2⟩
theorem dec_ext (s : ByteArray) (pos : Nat) : decodeL (s.extract pos s.size).data.toList = Utf8.decode s pos := by
  rw [ext_list, decodeL_drop]

set_option maxRecDepth 100000 in
set_option maxHeartbeats 1000000 in
theorem refRunes_any (s : ByteArray) (w : World) (hs : s.size ≤ 1000000) :
    Calls Tryd.prog 10 #[.string s] w fun e w' => ∃ A1 c1 A2 c2, e = .returned (.tuple #[.slice A1 (Tx.P s.data.toList).length c1, .slice A2 (Tx.P s.data.toList).length c2]) ∧
      Vs w' A1 (Tx.P s.data.toList).length c1 (nv (Tx.rns s.data.toList)) ∧ Vs w' A2 (Tx.P s.data.toList).length c2 (nv (Tx.ats 0 (Tx.P s.data.toList))) ∧ Below w.heap.size w w' := by
  obtain ⟨i0, hi, hz0, hz1, hz2⟩ := info_parts Tryd.info3
  go_enter Tryd.func10, Tryd.ntmps10
  go_wp2
  go_loopw [4, 5, 6] (fun out at_ i wr => ∃ (pos : Nat) (R A : List Nat), i = .int .i64 (pos : Int) ∧ pos ≤ s.size ∧ R.length ≤ pos ∧ A.length ≤ pos ∧ Hid (RunesTo s.data.toList pos R A) ∧
      wr.ownsRow w.heap.size 3 1 out R.length (nv R) ∧ wr.ownsRow w.heap.size 3 1 at_ A.length (nv A) ∧ Sep out at_ ∧ Below w.heap.size w wr) (fun _ _ i _ => s.size - (RowKit.intOf i).toNat)
  case atStart => exact ⟨0, [], [], rfl, Nat.zero_le _, Nat.le_refl _, Nat.le_refl _, ⟨by simp, by simp, rfl, Nat.le_refl _⟩, World.ownsRow_nil _ _ _ _, World.ownsRow_nil _ _ _ _, .inl rfl, Below.refl _ _⟩
  case round =>
    obtain ⟨pos, R, A, rfl, hps, hRp, hAp, H, hown, hown2, hsep, hbel⟩ := hrel
    have hsz := hbel.size
    by_cases hp : pos < s.size
    · have hwd := wd_le hp
      have H' := Lib.hid (H.out.step hp)
      have hx := Lib.ext_size s pos
      have hxl : 0 < (s.extract pos s.size).size := by rw [hx]; omega
      have hxu : (s.extract pos s.size).size ≤ 1000000 := by rw [hx]; omega
      clear hx H
      have C : Hid (∀ W : World, Calls Tryd.prog 28 #[.string (s.extract pos s.size)] W fun e w' => e = .returned (.tuple #[.int .i64 ((Utf8.decode s pos).1 : Int), .int .i64 ((Utf8.decode s pos).2 : Int)]) ∧ W = w') := fun W => by
        have := refRune_any (s.extract pos s.size) W hxu hxl
        rw [dec_ext] at this; exact this
      clear hxl hxu
      obtain ⟨r, hr⟩ : ∃ r, (Utf8.decode s pos).1 = r := ⟨_, rfl⟩
      obtain ⟨k, hk⟩ : ∃ k, (Utf8.decode s pos).2 = k := ⟨_, rfl⟩
      rw [hr, hk] at C H'
      rw [hk] at hwd
      clear hr hk
      go_wp2_with (first
        | (go_at_call 28; refine (C.out _).mono ?_; rintro e w' ⟨rfl, rfl⟩)
        | (at_builtin; refine wpList_append_lies _ rfl _ _ 23 rfl w.heap.size 3 i0 (.int .i64 0) 1 8 Tryd.underlying23 hi hz0 hz1 hz2 rfl (by decide) _ _ _ rfl (hown.alloc _) ⟨wr.heap.size, 0, none⟩ 1 1 [.int .i64 (r : Int)] rfl rfl ?c1 (one_cell rfl) (by decide) ?c3 ?c4 ?c5 _ rfl ?_))
      case c1 => exact cell_one _ _ _
      case c3 => unfold maxLen; omega
      case c4 => omega
      case c5 => simp; omega
      intro g cap w1 hown' hgrow hg hgl
      rw [← nv_snoc] at hown'
      have hown2a := (hown2.alloc (.cells #[.int .i64 (r : Int)] 3)).kept hgrow hsep.flip
      have hbel1 := below_own (hbel.alloc hsz _) (hown.alloc _) hgrow (by simp; omega) (Nat.le_refl _)
      have hsep1 := hsep.push (n := R.length + 1) (cap := cap) hg (fun k hk => by have := (hown2.lt k hk).2; simp; omega)
      have hsz1 := hbel1.size
      have HG := Lib.hid hg
      clear hown hown2 hgrow hbel hsep hg
      go_wp2_with (at_builtin; refine wpList_append_lies _ rfl _ _ 23 rfl w.heap.size 3 i0 (.int .i64 0) 1 8 Tryd.underlying23 hi hz0 hz1 hz2 rfl (by decide) _ _ _ rfl (hown2a.alloc _) ⟨w1.heap.size, 0, none⟩ 1 1 [.int .i64 (pos : Int)] rfl rfl ?c11 (one_cell rfl) (by decide) ?c13 ?c14 ?c15 _ rfl ?_)
      case c11 => exact cell_one _ _ _
      case c13 => unfold maxLen; omega
      case c14 => omega
      case c15 => simp; omega
      intro g2 cap2 w2 hown2' hgrow2 hg2 hgl2
      rw [← nv_snoc] at hown2'
      have hown1b := (hown'.alloc (.cells #[.int .i64 (pos : Int)] 3)).kept hgrow2 hsep1
      have hbel2 := below_own (hbel1.alloc hsz1 _) (hown2a.alloc _) hgrow2 (by simp; omega) (Nat.le_refl _)
      have hsep2 := (hsep1.flip.push (n := A.length + 1) (cap := cap2) hg2 (fun k hk => by have := (hown'.lt k hk).2; simp; omega)).flip
      have hk1 : pos + k ≤ s.size := hwd.2.1
      have hk0 : 1 ≤ k := hwd.1
      clear hown' hown2a hgrow2 hbel1 hsep1 hg2 HG
      go_wp2
      go_roundw
      case rel => exact ⟨pos + k, R ++ [r], A ++ [pos], by go_num, hk1, by simp; omega, by simp; omega, H', by rw [List.length_append]; exact hown1b, by rw [List.length_append]; exact hown2', hsep2, hbel2⟩
      case measure => simp [RowKit.intOf]; omega
    · obtain ⟨eR, eA⟩ := H.out.ends hp
      have F1 : ∃ A1 c1, _ ∧ _ := Vs.of_own hown
      have F2 : ∃ A1 c1, _ ∧ _ := Vs.of_own hown2
      have L1 : R.length = (Tx.P s.data.toList).length := by rw [eR, Tx.rns_len]
      have L2 : A.length = (Tx.P s.data.toList).length := by rw [eA, Tx.ats_len]
      obtain ⟨A1, c1, rfl, V1⟩ := F1
      obtain ⟨A2, c2, rfl, V2⟩ := F2
      rw [L1, eR] at V1
      rw [L2, eA] at V2
      have HL1 := Lib.hid L1
      have HL2 := Lib.hid L2
      clear hown hown2 eR eA L1 L2 H
      go_wp2
      go_ret2
      exact ⟨A1, c1, A2, c2, by rw [← HL2.out]; simp only [HL1.out, HL2.out]; rfl, V1, V2, hbel⟩

def utfB (l : List UInt8) : Bool := validD l
set_option maxRecDepth 100000 in
set_option maxHeartbeats 1000000 in
theorem refUtf_any (s : ByteArray) (w : World) (hs : s.size ≤ 1000000) :
    Calls Tryd.prog 27 #[.string s] w fun e w' => e = .returned (.bool (validD s.data.toList)) ∧ w = w' := by
  go_enter Tryd.func27, Tryd.ntmps27
  go_wp2
  go_loop [3] (fun i => ∃ (pos : Nat), i = .int .i64 (pos : Int) ∧ pos ≤ s.size ∧ Hid (validD s.data.toList = validD (s.data.toList.drop pos))) (fun i => s.size - (RowKit.intOf i).toNat)
  case atStart => exact ⟨0, rfl, Nat.zero_le _, by show _ = _; rw [List.drop_zero]⟩
  case round =>
    obtain ⟨pos, rfl, hps, H⟩ := hrel
    by_cases hp : pos < s.size
    · have hwd := wd_le hp
      have hx := Lib.ext_size s pos
      have hxl : 0 < (s.extract pos s.size).size := by rw [hx]; omega
      have hxu : (s.extract pos s.size).size ≤ 1000000 := by rw [hx]; omega
      have hst := validD_step _ (ne_drop hp)
      rw [decodeL_drop, List.drop_drop] at hst
      have C : Hid (∀ W : World, Calls Tryd.prog 28 #[.string (s.extract pos s.size)] W fun e w' => e = .returned (.tuple #[.int .i64 ((Utf8.decode s pos).1 : Int), .int .i64 ((Utf8.decode s pos).2 : Int)]) ∧ W = w') := fun W => by
        have := refRune_any (s.extract pos s.size) W hxu hxl
        rw [dec_ext] at this; exact this
      clear hxl hxu hx
      obtain ⟨r, hr⟩ : ∃ r, (Utf8.decode s pos).1 = r := ⟨_, rfl⟩
      obtain ⟨k, hk⟩ : ∃ k, (Utf8.decode s pos).2 = k := ⟨_, rfl⟩
      rw [hr, hk] at C hst
      rw [hk] at hwd
      clear hr hk
      by_cases hr : r = 65533
      · have b1 : ((r : Int) == 65533) = true := by simp; omega
        by_cases hk : k = 1
        · have b2 : ((k : Int) == 1) = true := by simp; omega
          have HF : Hid (validD s.data.toList = false) := by show _ = _; rw [H.out, hst, if_pos ⟨hr, hk⟩]
          clear hst hr hk
          go_wp2_with (go_at_call 28; refine (C.out _).mono ?_; rintro e w' ⟨rfl, rfl⟩)
          go_ret
          exact ⟨by rw [HF.out]; rfl, rfl⟩
        · have b2 : ((k : Int) == 1) = false := by simp; omega
          have HF : Hid (validD s.data.toList = validD (s.data.toList.drop (pos + k))) := by show _ = _; rw [H.out, hst, if_neg (by omega)]
          have hk1 : pos + k ≤ s.size := hwd.2.1
          clear hst hr hk
          go_wp2_with (go_at_call 28; refine (C.out _).mono ?_; rintro e w' ⟨rfl, rfl⟩)
          go_round
          case rel => exact ⟨pos + k, by go_num, hk1, HF⟩
          case measure => simp [RowKit.intOf]; omega
      · have b1 : ((r : Int) == 65533) = false := by simp; omega
        have HF : Hid (validD s.data.toList = validD (s.data.toList.drop (pos + k))) := by show _ = _; rw [H.out, hst, if_neg (by omega)]
        have hk1 : pos + k ≤ s.size := hwd.2.1
        clear hst hr
        go_wp2_with (go_at_call 28; refine (C.out _).mono ?_; rintro e w' ⟨rfl, rfl⟩)
        go_round
        case rel => exact ⟨pos + k, by go_num, hk1, HF⟩
        case measure => simp [RowKit.intOf]; omega
    · have HF : Hid (validD s.data.toList = true) := by
        show _ = _
        rw [H.out, List.drop_eq_nil_of_le (by rw [← size_eq]; omega)]; rfl
      go_wp2
      go_ret
      exact ⟨by rw [HF.out]; rfl, rfl⟩

end Go.Proofs.YtmlonlipieedbaaDoor
