/-
  Words: its closure, which ends a word.
-/
import Derived.Test.YtmlonlipieedbaaDoorTxCell
import Derived.Test.YtmlonlipieedbaaDoorTxWd
import Derived.Deep.RegionLaw
namespace Go.Proofs.YtmlonlipieedbaaDoor
open Go.RowKit Go.Lib
set_option linter.unusedVariables false

/-- The call's own variables: the text, the words so far, where the next one begins; their rows lie from block B + 4 on. -/
def Wst (B : Nat) (s : ByteArray) (g : Nat) (ws : List (List UInt8)) (W : World) : Prop :=
  Var W B 9 (.string s) ∧ Var W (B + 2) 3 (.int .i64 (g : Int)) ∧ B + 4 ≤ W.heap.size ∧
  ∃ out, Var W (B + 1) 30 out ∧ W.ownsRow (B + 4) 9 1 out ws.length (sv ws)
/-- What the closure leaves: Below B, and the iterator's block. -/
def Wleft (B : Nat) (W w' : World) : Prop := Below B W w' ∧ w'.heap[B + 3]? = W.heap[B + 3]?
def endW (s : ByteArray) (g e : Nat) (ws : List (List UInt8)) : List (List UInt8) := if g < e then ws ++ [(s.extract g e).data.toList] else ws

theorem wst_done {B : Nat} {s : ByteArray} {g e : Nat} {ws : List (List UInt8)} {W X w1 : World} {out : Value} {gg cap : Nat} (h1 : Var W B 9 (.string s)) (h2 : Var W (B + 2) 3 (.int .i64 (g : Int))) (h3 : B + 4 ≤ W.heap.size)
    (h4 : Var W (B + 1) 30 out) (hown : W.ownsRow (B + 4) 9 1 out ws.length (sv ws)) (hX : Below W.heap.size W X)
    (hown1 : w1.ownsRow (B + 4) 9 1 (.slice (some ⟨gg, 0, none⟩) (ws.length + 1) cap) (ws.length + 1) (sv ws ++ [.string (s.extract g e)])) (hgrow : X.grownBy w1 out.ownBlock) (hge : g < e) :
    Wst B s (e + 1) (endW s g e ws) ((w1.setCell ⟨B + 1, 0, none⟩ (.slice (some ⟨gg, 0, none⟩) (ws.length + 1) cap)).setCell ⟨B + 2, 0, none⟩ (.int .i64 ((e : Int) + 1))) ∧
    Wleft B W ((w1.setCell ⟨B + 1, 0, none⟩ (.slice (some ⟨gg, 0, none⟩) (ws.length + 1) cap)).setCell ⟨B + 2, 0, none⟩ (.int .i64 ((e : Int) + 1))) ∧
    Var (w1.setCell ⟨B + 1, 0, none⟩ (.slice (some ⟨gg, 0, none⟩) (ws.length + 1) cap)) (B + 2) 3 (.int .i64 (g : Int)) := by
  have o := own_below hown hX
  have hsz := hX.size
  have v1 := (h1.on hX).own o hgrow (by omega)
  have v2 := (h2.on hX).own o hgrow (by omega)
  have v4 := (h4.on hX).own o hgrow (by omega)
  have hsv : sv ws ++ [.string (s.extract g e)] = sv (endW s g e ws) := by
    unfold endW; rw [if_pos hge, sv_snoc, ba_list]
  have hl : ws.length + 1 = (endW s g e ws).length := by unfold endW; rw [if_pos hge]; simp
  have v2' := v2.far (p := ⟨B + 1, 0, none⟩) (by show B + 2 ≠ B + 1; omega) (.slice (some ⟨gg, 0, none⟩) (ws.length + 1) cap)
  refine ⟨⟨?_, ?_, ?_, .slice (some ⟨gg, 0, none⟩) (ws.length + 1) cap, ?_, ?_⟩, ⟨?_, ?_⟩, v2'⟩
  · exact (v1.far (p := ⟨B + 1, 0, none⟩) (by show B ≠ B + 1; omega) _).far (p := ⟨B + 2, 0, none⟩) (by show B ≠ B + 2; omega) _
  · have := v2'.set (.int .i64 ((e : Int) + 1))
    have e1 : ((e + 1 : Nat) : Int) = (e : Int) + 1 := by omega
    rw [e1]; exact this
  · have := hgrow.size
    simp; omega
  · exact (v4.set _).far (p := ⟨B + 2, 0, none⟩) (by show B + 1 ≠ B + 2; omega) _
  · rw [← hsv, ← hl]
    exact own_set (own_set hown1 (p := ⟨B + 1, 0, none⟩) (by show B + 1 < B + 4; omega) _) (p := ⟨B + 2, 0, none⟩) (by show B + 2 < B + 4; omega) _
  · have b1 : Below B W w1 := (hX.mono (by omega)).grown hgrow (by omega) (fun k hk => by have := (o.lt k hk).1; omega)
    exact (b1.setCell (p := ⟨B + 1, 0, none⟩) (by show B ≤ B + 1; omega) _).setCell (p := ⟨B + 2, 0, none⟩) (by show B ≤ B + 2; omega) _
  · rw [Below.heap_setCell _ _ _ _ (by show B + 3 ≠ B + 2; omega), Below.heap_setCell _ _ _ _ (by show B + 3 ≠ B + 1; omega), hgrow.block (B + 3) (by omega) (fun e => by have := (o.lt _ e.symm).1; omega), hX.block (B + 3) (by omega)]
theorem wst_same {B : Nat} {s : ByteArray} {g e : Nat} {ws : List (List UInt8)} {W : World} (h : Wst B s g ws W) (hge : ¬ g < e) :
    Wst B s (e + 1) (endW s g e ws) (W.setCell ⟨B + 2, 0, none⟩ (.int .i64 ((e : Int) + 1))) ∧ Wleft B W (W.setCell ⟨B + 2, 0, none⟩ (.int .i64 ((e : Int) + 1))) := by
  obtain ⟨h1, h2, h3, out, h4, hown⟩ := h
  have e2 : endW s g e ws = ws := if_neg hge
  rw [e2]
  refine ⟨⟨h1.far (p := ⟨B + 2, 0, none⟩) (by show B ≠ B + 2; omega) _, ?_, by simp; omega, out, h4.far (p := ⟨B + 2, 0, none⟩) (by show B + 1 ≠ B + 2; omega) _, own_set hown (p := ⟨B + 2, 0, none⟩) (by show B + 2 < B + 4; omega) _⟩,
    (Below.refl B W).setCell (p := ⟨B + 2, 0, none⟩) (by show B ≤ B + 2; omega) _, Below.heap_setCell _ _ _ _ (by show B + 3 ≠ B + 2; omega)⟩
  have := h2.set (.int .i64 ((e : Int) + 1))
  have e1 : ((e + 1 : Nat) : Int) = (e : Int) + 1 := by omega
  rw [e1]; exact this

set_option maxRecDepth 100000 in
set_option maxHeartbeats 1000000 in
theorem endWord_any (B : Nat) (s : ByteArray) (g e : Nat) (ws : List (List UInt8)) (W : World) (h : Wst B s g ws W) (hs : s.size ≤ 1000000) (he : e ≤ s.size) (hw : ws.length ≤ 1000000) :
    Calls Tryd.prog 31 #[.int .i64 (e : Int), .pointer (some ⟨B + 2, 0, none⟩), .pointer (some ⟨B + 1, 0, none⟩), .pointer (some ⟨B, 0, none⟩)] W fun r w' => r = .returned (.tuple #[]) ∧ Wst B s (e + 1) (endW s g e ws) w' ∧ Wleft B W w' := by
  obtain ⟨h1, h2, h3, out, h4, hown⟩ := h
  obtain ⟨i0, hi, hz0, hz1, hz2⟩ := info_parts Tryd.info9
  have c1 := h1.cell
  have c2 := h2.cell
  have c3 := h4.cell
  have f2 := h2.free
  have f4 := h4.free
  by_cases hge : g < e
  · have HE : Hid (endW s g e ws = ws ++ [(s.extract g e).data.toList]) := if_pos hge
    have x1 : (g : Int) < (e : Int) := by omega
    have x2 : (0 : Int) ≤ (g : Int) := by omega
    have x3 : (g : Int) ≤ (e : Int) := by omega
    have x4 : (e : Int) ≤ (s.size : Int) := by omega
    have a4 : ∀ o, (W.alloc o).cell? ⟨B + 1, 0, none⟩ = some out := fun o => (h4.alloc o).cell
    go_enter Tryd.func31, Tryd.ntmps31
    go_wp2_with fail
    go_region_law (refine step_append_lies _ rfl (.tmp 8) (.tmp 13) 30 rfl (B + 4) 9 i0 (.string ⟨#[]⟩) 1 16 Tryd.underlying30 hi hz0 hz1 hz2 rfl (by decide) out ws.length (sv ws) (by simp [Act.eval]) (by exact hown.alloc _) ⟨W.heap.size, 0, none⟩ 1 1 [.string (s.extract g e)] (by simp [Act.eval]) rfl (by exact cell_one _ _ _) (one_cell rfl) (by decide) (by unfold maxLen; omega) (by omega) (by simp; omega) (W.heap.size + 1) (by simp) ?_; intro gg cap w1 hown1 hgrow hat hlt; have V4 : Var w1 (B + 1) 30 out := Var.own (by exact h4.alloc _) (by exact hown.alloc _) hgrow (by omega); have c4' := V4.cell; have f4' := V4.free)
    all_goals
      obtain ⟨D1, D2, D3⟩ := wst_done (e := e) h1 h2 h3 h4 hown (by first | exact ((Below.refl _ W).alloc (Nat.le_refl _) _) | exact ((Below.refl _ W).alloc (Nat.le_refl _) _).drew) hown1 hgrow hge
      have d1 := D3.cell
      have d2 := D3.free
      have E1 := Lib.hid D1
      have E2 := Lib.hid D2
      clear D1 D2 D3 V4 c4' f4' hown1 hgrow hat hown h1 h2 h4 c1 c2 c3 f2 f4 a4
      go_wp2
      go_end0
      exact ⟨rfl, E1, E2⟩
  · have hn : ¬ (g : Int) < (e : Int) := by omega
    obtain ⟨D1, D2⟩ := wst_same (e := e) ⟨h1, h2, h3, out, h4, hown⟩ hge
    have E1 := Lib.hid D1
    have E2 := Lib.hid D2
    clear D1 D2
    go_enter Tryd.func31, Tryd.ntmps31
    go_wp2
    go_end0
    exact ⟨rfl, E1, E2⟩

end Go.Proofs.YtmlonlipieedbaaDoor
