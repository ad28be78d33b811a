/-
  Match's own variables, and its closure, which goes back to the last row of any runes.
-/
import Derived.Test.YtmlonlipieedbaaDoorTxMarksOf
import Derived.Deep.LoopGhost
import Derived.RegionTactic
namespace Go.Proofs.YtmlonlipieedbaaDoor
open Go.RowKit Go.Lib
set_option linter.unusedVariables false

/-- The mark, the rune, the last row, and what lies behind it, each in a block of its own. -/
def Mst (H : Nat) (W : World) (m a r b : Int) : Prop :=
  Var W H 3 (.int .i64 m) ∧ Var W (H + 1) 3 (.int .i64 a) ∧ Var W (H + 1 + 1) 3 (.int .i64 r) ∧ Var W (H + 1 + 1 + 1) 3 (.int .i64 b)
section
variable {H : Nat} {W W' : World} {m a r b : Int}
theorem Mst.on (h : Mst H W m a r b) (hb : Below W.heap.size W W') : Mst H W' m a r b := ⟨h.1.on hb, h.2.1.on hb, h.2.2.1.on hb, h.2.2.2.on hb⟩
theorem Mst.drewN (h : Mst H W m a r b) (n : Nat) : Mst H (W.drewN n) m a r b := h
theorem Mst.drew (h : Mst H W m a r b) : Mst H W.drew m a r b := h
theorem Mst.setM (h : Mst H W m a r b) (v : Int) : Mst H (W.setCell ⟨H, 0, none⟩ (.int .i64 v)) v a r b :=
  ⟨h.1.set _, h.2.1.far (p := ⟨H, 0, none⟩) (by show H + 1 ≠ H; omega) _, h.2.2.1.far (p := ⟨H, 0, none⟩) (by show H + 1 + 1 ≠ H; omega) _, h.2.2.2.far (p := ⟨H, 0, none⟩) (by show H + 1 + 1 + 1 ≠ H; omega) _⟩
theorem Mst.setA (h : Mst H W m a r b) (v : Int) : Mst H (W.setCell ⟨H + 1, 0, none⟩ (.int .i64 v)) m v r b :=
  ⟨h.1.far (p := ⟨H + 1, 0, none⟩) (by show H ≠ H + 1; omega) _, h.2.1.set _, h.2.2.1.far (p := ⟨H + 1, 0, none⟩) (by show H + 1 + 1 ≠ H + 1; omega) _, h.2.2.2.far (p := ⟨H + 1, 0, none⟩) (by show H + 1 + 1 + 1 ≠ H + 1; omega) _⟩
theorem Mst.setR (h : Mst H W m a r b) (v : Int) : Mst H (W.setCell ⟨H + 1 + 1, 0, none⟩ (.int .i64 v)) m a v b :=
  ⟨h.1.far (p := ⟨H + 1 + 1, 0, none⟩) (by show H ≠ H + 1 + 1; omega) _, h.2.1.far (p := ⟨H + 1 + 1, 0, none⟩) (by show H + 1 ≠ H + 1 + 1; omega) _, h.2.2.1.set _, h.2.2.2.far (p := ⟨H + 1 + 1, 0, none⟩) (by show H + 1 + 1 + 1 ≠ H + 1 + 1; omega) _⟩
theorem Mst.setB (h : Mst H W m a r b) (v : Int) : Mst H (W.setCell ⟨H + 1 + 1 + 1, 0, none⟩ (.int .i64 v)) m a r v :=
  ⟨h.1.far (p := ⟨H + 1 + 1 + 1, 0, none⟩) (by show H ≠ H + 1 + 1 + 1; omega) _, h.2.1.far (p := ⟨H + 1 + 1 + 1, 0, none⟩) (by show H + 1 ≠ H + 1 + 1 + 1; omega) _, h.2.2.1.far (p := ⟨H + 1 + 1 + 1, 0, none⟩) (by show H + 1 + 1 ≠ H + 1 + 1 + 1; omega) _, h.2.2.2.set _⟩
theorem Mst.lt (h : Mst H W m a r b) : H + 4 ≤ W.heap.size := h.2.2.2.lt
end
theorem goBack_no (H : Nat) (W : World) (m a b : Int) (h : Mst H W m a (-1) b) :
    Calls Tryd.prog 35 #[.pointer (some ⟨H + 1 + 1, 0, none⟩), .pointer (some ⟨H + 1 + 1 + 1, 0, none⟩), .pointer (some ⟨H, 0, none⟩), .pointer (some ⟨H + 1, 0, none⟩)] W fun e w' => e = .returned (.bool false) ∧ W = w' := by
  have c := h.2.2.1.cell
  clear h
  go_enter Tryd.func35, Tryd.ntmps35
  go_wp2
  go_ret
  exact ⟨rfl, rfl⟩

set_option maxRecDepth 100000 in
set_option maxHeartbeats 1000000 in
theorem goBack_yes (H : Nat) (W : World) (m a : Int) (r b : Nat) (hr : r ≤ 1000000) (hb : b ≤ 1000000) (h : Mst H W m a (r : Int) (b : Int)) :
    Calls Tryd.prog 35 #[.pointer (some ⟨H + 1 + 1, 0, none⟩), .pointer (some ⟨H + 1 + 1 + 1, 0, none⟩), .pointer (some ⟨H, 0, none⟩), .pointer (some ⟨H + 1, 0, none⟩)] W
      fun e w' => e = .returned (.bool true) ∧ Mst H w' ((r : Int) + 1) ((b : Int) + 1) (r : Int) ((b : Int) + 1) ∧ Below H W w' := by
  have HM := Lib.hid h
  have c3 := h.2.2.1.cell
  have c4 := h.2.2.2.cell
  have f4 := h.2.2.2.free
  have h1 := Lib.hid (h.setB ((b : Int) + 1))
  clear h
  go_enter Tryd.func35, Tryd.ntmps35
  go_wp2
  have d1 := h1.out.1.cell
  have d2 := h1.out.2.1.cell
  have d3 := h1.out.2.2.1.cell
  have d4 := h1.out.2.2.2.cell
  have f1 := h1.out.1.free
  have f2 := h1.out.2.1.free
  have hbel : Below H W (W.setCell ⟨H + 1 + 1 + 1, 0, none⟩ (.int .i64 ((b : Int) + 1))) := (Below.refl H W).setCell (p := ⟨H + 1 + 1 + 1, 0, none⟩) (by show H ≤ H + 1 + 1 + 1; omega) _
  clear c3 c4 f4 HM
  generalize W.setCell ⟨H + 1 + 1 + 1, 0, none⟩ (.int .i64 ((b : Int) + 1)) = W1 at h1 d1 d2 d3 d4 f1 f2 hbel ⊢
  have e1 : ∀ v, (W1.setCell ⟨H, 0, none⟩ (.int .i64 v)).cell? ⟨H + 1, 0, none⟩ = some (.int .i64 a) := fun v => (h1.out.setM v).2.1.cell
  have e2 : ∀ v, (W1.setCell ⟨H, 0, none⟩ (.int .i64 v)).cell? ⟨H + 1 + 1 + 1, 0, none⟩ = some (.int .i64 ((b : Int) + 1)) := fun v => (h1.out.setM v).2.2.2.cell
  have e3 : ∀ v, (W1.setCell ⟨H + 1, 0, none⟩ (.int .i64 v)).cell? ⟨H, 0, none⟩ = some (.int .i64 m) := fun v => (h1.out.setA v).1.cell
  have e4 : ∀ v, (W1.setCell ⟨H + 1, 0, none⟩ (.int .i64 v)).cell? ⟨H + 1 + 1, 0, none⟩ = some (.int .i64 (r : Int)) := fun v => (h1.out.setA v).2.2.1.cell
  go_region
  all_goals
    go_wp2
    go_ret
    refine ⟨rfl, ?_, ?_⟩
    · exact ((h1.out.drewN _).setM _).setA _
    · exact ((below_drewN hbel _).setCell (p := ⟨H, 0, none⟩) (Nat.le_refl _) _).setCell (p := ⟨H + 1, 0, none⟩) (by show H ≤ H + 1; omega) _

end Go.Proofs.YtmlonlipieedbaaDoor
