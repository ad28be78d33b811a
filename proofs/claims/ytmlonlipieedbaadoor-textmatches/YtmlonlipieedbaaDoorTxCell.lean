/-
  Variables of the call's own, each one cell in a block of its own.
-/
import Derived.Test.YtmlonlipieedbaaDoorTxBase
namespace Go.Proofs.YtmlonlipieedbaaDoor
open Go.RowKit Go.Lib
set_option linter.unusedVariables false

/-- Block g is one cell of type t that holds v. -/
def Var (w : World) (g : Nat) (t : TypeId) (v : Value) : Prop := w.heap[g]? = some (.cells #[v] t (0, 0))
section
variable {w w' : World} {g : Nat} {t : TypeId} {v : Value}
theorem Var.lt (h : Var w g t v) : g < w.heap.size := (Array.getElem?_eq_some_iff.1 h).1
theorem Var.cell (h : Var w g t v) : w.cell? ⟨g, 0, none⟩ = some v := by
  unfold Var at h
  simp [World.cell?, h]
theorem Var.free (h : Var w g t v) : w.frozen? ⟨g, 0, none⟩ = false := by
  unfold Var at h
  simp [World.frozen?, h]
theorem Var.new (w : World) (t : TypeId) (v : Value) : Var (w.alloc (.cells #[v] t)) w.heap.size t v := heap_alloc_new w _
theorem Var.fresh (w : World) (t : TypeId) (v : Value) {g : Nat} (h : w.heap.size = g) : Var (w.alloc (.cells #[v] t)) g t v := by subst h; exact Var.new w t v
theorem Var.alloc (h : Var w g t v) (o : Obj) : Var (w.alloc o) g t v := (Below.heap_alloc w o g h.lt).trans h
theorem Var.drew (h : Var w g t v) : Var w.drew g t v := h
theorem Var.drewN (h : Var w g t v) (n : Nat) : Var (w.drewN n) g t v := h
theorem Var.set (h : Var w g t v) (u : Value) : Var (w.setCell ⟨g, 0, none⟩ u) g t u := by
  unfold Var at h ⊢
  simp [World.setCell, Array.getElem?_modify, h]
theorem Var.far (h : Var w g t v) {p : Addr} (hp : g ≠ p.block) (u : Value) : Var (w.setCell p u) g t v := (Below.heap_setCell w p u g hp).trans h
theorem Var.below {B : Nat} (h : Var w g t v) (hb : Below B w w') (hg : g < B) : Var w' g t v := (hb.block g hg).trans h
theorem Var.on (h : Var w g t v) (hb : Below w.heap.size w w') : Var w' g t v := h.below hb h.lt
theorem Var.grown {row : Option Nat} (h : Var w g t v) (hb : w.grownBy w' row) (hg : some g ≠ row) : Var w' g t v := (hb.block g h.lt hg).trans h
theorem Var.own {base e size n : Nat} {u : Value} {xs : List Value} (h : Var w g t v) (hown : w.ownsRow base e size u n xs) (hb : w.grownBy w' u.ownBlock) (hg : g < base) : Var w' g t v :=
  h.grown hb (fun e => by have := (hown.lt g e.symm).1; omega)
theorem Var.iterAt (h : Var w g t v) {k : Nat} (hk : g ≠ k) (s : ByteArray) (pos : Nat) : Var (w.iterAt k s pos) g t v := (iterAt_other w k g s pos hk).trans h
end
theorem own_set {w : World} {base e size n : Nat} {v : Value} {xs : List Value} (h : w.ownsRow base e size v n xs) {p : Addr} (hp : p.block < base) (u : Value) : (w.setCell p u).ownsRow base e size v n xs := by
  refine ⟨h.1, ?_⟩
  rcases h.2 with hn | ⟨g, cap, cur, hv, hbg, hg, rest⟩
  · exact .inl hn
  · exact .inr ⟨g, cap, cur, hv, hbg, (Below.heap_setCell w p u g (by omega)).trans hg, rest⟩
theorem own_drewN {w : World} {base e size n : Nat} {v : Value} {xs : List Value} (h : w.ownsRow base e size v n xs) (m : Nat) : (w.drewN m).ownsRow base e size v n xs := h
theorem own_drew {w : World} {base e size n : Nat} {v : Value} {xs : List Value} (h : w.ownsRow base e size v n xs) : w.drew.ownsRow base e size v n xs := h
/-- All blocks below B but three are as they were. -/
def But (B x y z : Nat) (w w' : World) : Prop := w'.os = w.os ∧ w'.tape = w.tape ∧ w'.output = w.output ∧ w.heap.size ≤ w'.heap.size ∧ ∀ i, i < B → i ≠ x → i ≠ y → i ≠ z → w'.heap[i]? = w.heap[i]?

end Go.Proofs.YtmlonlipieedbaaDoor
