/-
  Words: what stands between blanks.
-/
import Derived.Test.YtmlonlipieedbaaDoorTxWdC
import Derived.Test.YtmlonlipieedbaaDoorTxLetter
namespace Go.Proofs.YtmlonlipieedbaaDoor
open Go.RowKit Go.Lib
set_option linter.unusedVariables false

theorem Wst.on {B : Nat} {s : ByteArray} {g : Nat} {ws : List (List UInt8)} {W W' : World} (h : Wst B s g ws W) (hb : Below W.heap.size W W') : Wst B s g ws W' := by
  obtain ⟨h1, h2, h3, out, h4, hown⟩ := h
  exact ⟨h1.on hb, h2.on hb, Nat.le_trans h3 hb.size, out, h4.on hb, own_below hown hb⟩
theorem Wst.iterAt {B : Nat} {s : ByteArray} {g : Nat} {ws : List (List UInt8)} {W : World} (h : Wst B s g ws W) (pos : Nat) : Wst B s g ws (W.iterAt (B + 3) s pos) := by
  obtain ⟨h1, h2, h3, out, h4, hown⟩ := h
  exact ⟨h1.iterAt (by omega) _ _, h2.iterAt (by omega) _ _, by rw [iterAt_size]; exact h3, out, h4.iterAt (by omega) _ _, own_iterAt hown (by omega)⟩
def WordsAt (s : ByteArray) (g pos : Nat) (ws : List (List UInt8)) : Prop := ws ++ Tx.wg (s.extract g pos).data.toList (s.data.toList.drop pos) = Tx.words s.data.toList ∧ ws.length ≤ pos
theorem ext_nil (s : ByteArray) (g pos : Nat) (h : ¬ g < pos) : (s.extract g pos).data.toList = [] := by
  rw [extract_data, show pos - g = 0 by omega, List.take_zero]
theorem ext_cons (s : ByteArray) (g pos : Nat) (h : g < pos) (hp : pos ≤ s.size) : (s.extract g pos).data.toList ≠ [] := by
  intro e
  have := congrArg List.length e
  rw [extract_data, List.length_take, List.length_drop, ← size_eq, List.length_nil] at this
  omega
theorem WordsAt.blank {s : ByteArray} {g pos : Nat} {ws : List (List UInt8)} (h : WordsAt s g pos ws) (hp : pos < s.size) (hr : Tx.blN (Utf8.decode s pos).1 = true) : (Utf8.decode s pos).2 = 1 ∧ WordsAt s (pos + 1) (pos + 1) (endW s g pos ws) := by
  obtain ⟨h1, h2⟩ := h
  have st := Tx.bl_step _ (ne_drop hp) (by rw [decodeL_drop]; exact hr)
  rw [decodeL_drop] at st
  obtain ⟨e1, b, e2, hb⟩ := st
  rw [List.drop_drop] at e2
  refine ⟨e1, ?_, ?_⟩
  · rw [ext_nil s (pos + 1) (pos + 1) (by omega), ← h1, e2, Tx.wg_blank _ _ _ hb]
    unfold endW
    by_cases hg : g < pos
    · rw [if_pos hg, if_neg (ext_cons s g pos hg (by omega))]; simp
    · rw [if_neg hg, if_pos (ext_nil s g pos hg)]; simp
  · unfold endW
    split
    · simp; omega
    · omega
theorem WordsAt.more {s : ByteArray} {g pos : Nat} {ws : List (List UInt8)} (h : WordsAt s g pos ws) (hg : g ≤ pos) (hp : pos < s.size) (hr : Tx.blN (Utf8.decode s pos).1 = false) : WordsAt s g (pos + (Utf8.decode s pos).2) ws := by
  obtain ⟨h1, h2⟩ := h
  have nb := Tx.nb_take _ (ne_drop hp) (by rw [decodeL_drop]; exact hr)
  rw [decodeL_drop] at nb
  refine ⟨?_, by omega⟩
  rw [← h1]
  congr 1
  have a := Tx.wg_app _ (s.extract g pos).data.toList (s.data.toList.drop (pos + (Utf8.decode s pos).2)) nb
  rw [← List.drop_drop, List.take_append_drop] at a
  rw [a]
  congr 1
  · rw [extract_data, extract_data]
    have e : pos + (Utf8.decode s pos).2 - g = (pos - g) + (Utf8.decode s pos).2 := by omega
    rw [e, List.take_add, List.drop_drop, show g + (pos - g) = pos by omega]
  · rw [List.drop_drop]
theorem WordsAt.ends {s : ByteArray} {g pos : Nat} {ws : List (List UInt8)} (h : WordsAt s g pos ws) (hp : pos = s.size) : endW s g s.size ws = Tx.words s.data.toList := by
  obtain ⟨h1, h2⟩ := h
  subst hp
  rw [← h1, List.drop_eq_nil_of_le (by rw [← size_eq]; exact Nat.le_refl _), Tx.wg_nil]
  unfold endW
  by_cases hg : g < s.size
  · rw [if_pos hg, if_neg (ext_cons s g _ hg (Nat.le_refl _))]
  · rw [if_neg hg, if_pos (ext_nil s g _ hg)]; simp
theorem bk_bl (n : Nat) : bkB (n : Int) = Tx.blN n := by
  unfold bkB
  rw [Bool.eq_iff_iff, Tx.blN_iff]; simp; omega

set_option maxRecDepth 100000 in
set_option maxHeartbeats 1000000 in
theorem words_any (s : ByteArray) (w : World) (hs : s.size ≤ 1000000) :
    Calls Tryd.prog 17 #[.string s] w fun e w' => ∃ A c, e = .returned (.slice A (Tx.words s.data.toList).length c) ∧ Vs w' A (Tx.words s.data.toList).length c (sv (Tx.words s.data.toList)) ∧ Below w.heap.size w w' := by
  have hmf : ∀ (fn : Fn) (first cap : Array Value) (w : World), (Instr.makeFunc fn first cap).run Tryd.prog w = .ok (.func fn first cap) w := fun _ _ _ _ => rfl
  go_enter Tryd.func17, Tryd.ntmps17
  go_wp2
  go_loopw [] (fun wr => ∃ (pos g : Nat) (ws : List (List UInt8)), wr.heap[w.heap.size + 3]? = some (.stringIter s pos) ∧ pos ≤ s.size ∧ g ≤ pos ∧ ws.length ≤ pos ∧ Hid (Wst w.heap.size s g ws wr) ∧ Hid (WordsAt s g pos ws) ∧ Below w.heap.size w wr) (fun wr => s.size - wr.iterPos (w.heap.size + 3))
  case atStart =>
    refine ⟨0, 0, [], ?_, Nat.zero_le _, Nat.le_refl _, Nat.le_refl _, ?_, ⟨?_, Nat.le_refl _⟩, ?_⟩
    · have := World.iter_heap (((w.alloc (.cells #[.string s] 9)).alloc (.cells #[.slice none 0 0] 30)).alloc (.cells #[.int .i64 0] 3)) s 0
      simpa using this
    · refine ⟨?_, ?_, ?_, .slice none 0 0, ?_, World.ownsRow_nil _ _ _ _⟩
      · exact (((Var.new w _ _).alloc _).alloc _).alloc _
      · exact (Var.fresh ((w.alloc (.cells #[.string s] 9)).alloc (.cells #[.slice none 0 0] 30)) _ _ (by simp)).alloc _
      · simp [World.iter]
      · exact ((Var.fresh (w.alloc (.cells #[.string s] 9)) _ _ (by simp)).alloc _).alloc _
    · rw [ext_nil s 0 0 (by omega)]; rfl
    · exact ((((Below.refl _ w).alloc (Nat.le_refl _) _).alloc (by simp) _).alloc (by simp; omega) _).alloc (by simp; omega) _
  case round =>
    obtain ⟨pos, g, ws, hit, hps, hgp, hwp, HW, HA, hbel⟩ := hrel
    have hipos : wr.iterPos (w.heap.size + 3) = pos := by unfold World.iterPos; rw [hit]
    by_cases hp : pos < s.size
    · have hnx : ∀ ty, (Instr.next (.pointer (some ⟨w.heap.size + 1 + 1 + 1, 0, none⟩)) true ty).run Tryd.prog wr = _ := fun ty => run_next_any_at wr (w.heap.size + 3) s pos ty hit hp
      have hwd := wd_le hp
      have hit2 := iterAt_heap wr (w.heap.size + 3) s pos (pos + (Utf8.decode s pos).2) hit
      have HW2 := Lib.hid (HW.out.iterAt (pos + (Utf8.decode s pos).2))
      have hbel2 := below_iterAt hbel (k := w.heap.size + 3) (by omega) s (pos + (Utf8.decode s pos).2)
      have hbk := bk_bl (Utf8.decode s pos).1
      generalize hW1 : wr.iterAt (w.heap.size + 3) s (pos + (Utf8.decode s pos).2) = W1 at hnx hit2 HW2 hbel2
      clear hit hbel HW
      cases hr : Tx.blN (Utf8.decode s pos).1 with
      | true =>
        rw [hr] at hbk
        obtain ⟨e1, hA⟩ := HA.out.blank hp hr
        rw [e1] at hit2
        have HA2 := Lib.hid hA
        clear hr hA HA e1 hW1
        go_wp2_with (first
          | (go_at_call 25; refine (blank_any _ _).mono ?_; rintro e w2 ⟨rfl, hb2⟩; rw [hbk])
          | (go_at_call 31; refine (endWord_any w.heap.size s g pos ws _ (HW2.out.on hb2) hs (by omega) (by omega)).mono ?_; rintro e w3 ⟨rfl, hW3, hl3⟩))
        have hit3 : w3.heap[w.heap.size + 3]? = some (.stringIter s (pos + 1)) := hl3.2.trans (iter_below hit2 hb2)
        have hbel3 : Below w.heap.size w w3 := (hbel2.trans (hb2.mono hbel2.size)).trans hl3.1
        have HW3 := Lib.hid hW3
        clear hit2 hbel2 HW2 hb2 hW3 hl3
        go_roundw
        case rel => exact ⟨pos + 1, pos + 1, endW s g pos ws, hit3, by omega, Nat.le_refl _, HA2.out.2, HW3, HA2, hbel3⟩
        case measure =>
          have : w3.iterPos (w.heap.size + 3) = pos + 1 := by unfold World.iterPos; rw [hit3]
          omega
      | false =>
        rw [hr] at hbk
        have HA2 := Lib.hid (HA.out.more hgp hp hr)
        clear hr HA hW1
        go_wp2_with (go_at_call 25; refine (blank_any _ _).mono ?_; rintro e w2 ⟨rfl, hb2⟩; rw [hbk])
        have hit3 := iter_below hit2 hb2
        have hbel3 : Below w.heap.size w w2 := hbel2.trans (hb2.mono hbel2.size)
        have HW3 := Lib.hid (HW2.out.on hb2)
        clear hit2 hbel2 HW2 hb2
        go_roundw
        case rel => exact ⟨pos + (Utf8.decode s pos).2, g, ws, hit3, hwd.2.1, by omega, by omega, HW3, HA2, hbel3⟩
        case measure =>
          have : w2.iterPos (w.heap.size + 3) = pos + (Utf8.decode s pos).2 := by unfold World.iterPos; rw [hit3]
          omega
    · have hnx : ∀ ty, (Instr.next (.pointer (some ⟨w.heap.size + 1 + 1 + 1, 0, none⟩)) true ty).run Tryd.prog wr = _ := fun ty => run_next_end_at wr (w.heap.size + 3) s pos ty hit hp
      have HE := Lib.hid (HA.out.ends (by omega))
      have cs := HW.out.1.cell
      clear hit HA hipos
      go_wp2_with (go_at_call 31; refine (endWord_any w.heap.size s g s.size ws _ HW.out hs (Nat.le_refl _) (by omega)).mono ?_; rintro e w3 ⟨rfl, hW3, hl3⟩; obtain ⟨_, _, _, out, hv, hown⟩ := hW3; have co := hv.cell; rw [HE.out] at hown; have F := Lib.hid (Vs.of_own hown); clear hown hv)
      have hbel3 : Below w.heap.size w w3 := hbel.trans hl3.1
      go_ret
      obtain ⟨A, c, rfl, V⟩ := F.out
      exact ⟨A, c, rfl, V, hbel3⟩

end Go.Proofs.YtmlonlipieedbaaDoor
