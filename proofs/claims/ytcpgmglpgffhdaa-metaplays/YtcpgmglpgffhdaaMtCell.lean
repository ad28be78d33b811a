/-
  A meta's four cells: written over, read back as a result's block.
-/
import Derived.Test.YtcpgmglpgffhdaaMtPay
namespace Go.Proofs.Ytcpgmglpgffhdaa
open Go.RowKit
set_option linter.unusedVariables false

def m0 : Mt.M := ⟨0, 0, 0, 0⟩
/-- A block of four cells that says the meta m. -/
def Mb (w : World) (g : Nat) (m : Mt.M) : Prop := w.heap[g]? = some (.cells #[.int .u64 (m.gen : Int), .int .i64 m.high, .int .i64 m.root, .int .i64 m.free] 24 (0, 0))
/-- Four cells of a block, one behind the other. -/
def set4 (w : World) (g : Nat) (b0 b1 b2 b3 : Value) : World := (((w.setCell ⟨g, 0, none⟩ b0).setCell ⟨g, 1, none⟩ b1).setCell ⟨g, 2, none⟩ b2).setCell ⟨g, 3, none⟩ b3
theorem set4_at {w : World} {g t : Nat} {a0 a1 a2 a3 : Value} (h : w.heap[g]? = some (.cells #[a0, a1, a2, a3] t (0, 0))) (b0 b1 b2 b3 : Value) : (set4 w g b0 b1 b2 b3).heap[g]? = some (.cells #[b0, b1, b2, b3] t (0, 0)) := by
  unfold set4
  simp [World.setCell, Array.getElem?_modify, h]
theorem set4_below {B g : Nat} {w w' : World} (h : Below B w w') (hg : B ≤ g) (b0 b1 b2 b3 : Value) : Below B w (set4 w' g b0 b1 b2 b3) :=
  (((h.setCell (p := ⟨g, 0, none⟩) hg _).setCell (p := ⟨g, 1, none⟩) hg _).setCell (p := ⟨g, 2, none⟩) hg _).setCell (p := ⟨g, 3, none⟩) hg _
theorem Mb.cells {w : World} {g : Nat} {m : Mt.M} (h : Mb w g m) : w.cell? ⟨g, 0, none⟩ = some (.int .u64 (m.gen : Int)) ∧ w.cell? ⟨g, 1, none⟩ = some (.int .i64 m.high) ∧ w.cell? ⟨g, 2, none⟩ = some (.int .i64 m.root) ∧ w.cell? ⟨g, 3, none⟩ = some (.int .i64 m.free) := mt_cells h
theorem Mb.lt {w : World} {g : Nat} {m : Mt.M} (h : Mb w g m) : g < w.heap.size := (Array.getElem?_eq_some_iff.1 h).1
theorem Mb.on {w w' : World} {g : Nat} {m : Mt.M} (h : Mb w g m) (hb : Below w.heap.size w w') : Mb w' g m := (hb.block g h.lt).trans h
theorem Mb.below {w w' : World} {B g : Nat} {m : Mt.M} (h : Mb w g m) (hb : Below B w w') (hg : g < B) : Mb w' g m := (hb.block g hg).trans h
theorem Mb.new (w : World) (m : Mt.M) : Mb (w.alloc (.cells #[.int .u64 (m.gen : Int), .int .i64 m.high, .int .i64 m.root, .int .i64 m.free] 24)) w.heap.size m := heap_alloc_new w _
theorem Mb.drew {w : World} {g : Nat} {m : Mt.M} (h : Mb w g m) : Mb w.drew g m := h
theorem Mb.drewN {w : World} {g : Nat} {m : Mt.M} (h : Mb w g m) (k : Nat) : Mb (w.drewN k) g m := h
theorem Mb.alloc {w : World} {g : Nat} {m : Mt.M} (h : Mb w g m) (o : Obj) : Mb (w.alloc o) g m := h.on ((Below.refl _ _).alloc (Nat.le_refl _) _)
theorem Mb.free {w : World} {g : Nat} {m : Mt.M} (h : Mb w g m) (i : Nat) : w.frozen? ⟨g, i, none⟩ = false := frozen_of_row w g i _ _ h
theorem Mb.set {w : World} {g : Nat} {m : Mt.M} (h : Mb w g m) (x : Mt.M) : Mb (set4 w g (.int .u64 (x.gen : Int)) (.int .i64 x.high) (.int .i64 x.root) (.int .i64 x.free)) g x := set4_at h _ _ _ _
theorem Mb.far {w : World} {g k : Nat} {m : Mt.M} (h : Mb w g m) (hk : g ≠ k) (b0 b1 b2 b3 : Value) : Mb (set4 w k b0 b1 b2 b3) g m := by
  unfold Mb set4
  rw [Below.heap_setCell _ _ _ _ hk, Below.heap_setCell _ _ _ _ hk, Below.heap_setCell _ _ _ _ hk, Below.heap_setCell _ _ _ _ hk]; exact h
theorem alloc_lt (w : World) (o : Obj) : w.heap.size < (w.alloc o).heap.size := by simp
theorem pad4_take {l : List Nat} (h : 4 ≤ l.length) : pad4 l = l.take 4 := by
  unfold pad4
  rw [show 4 - l.length = 0 from by omega, List.replicate_zero, List.append_nil]

end Go.Proofs.Ytcpgmglpgffhdaa
