/-
  The document's Pay: what its two halves share.
-/
import Derived.Test.YtmcldkcmialfeaaGreatNdRfMay
import Derived.Test.YtmcldkcmialfeaaGreatNdRfLk
namespace Go.Proofs.YtmcldkcmialfeaaGreat.Nn
open Go.RowKit
set_option linter.unusedVariables false

theorem bs_lit1 (w : World) (x : Nat) (hx : x < 256) : Bs (w.alloc (.cells #[.int .u8 (x : Int)] 5)) (some ⟨w.heap.size, 0, none⟩) 1 1 [x] := by
  have hn := heap_alloc_new w (.cells #[.int .u8 (x : Int)] 5)
  refine ⟨rfl, Nat.le_refl _, by unfold maxLen; omega, by simpa using hx, fun _ => ⟨w.heap.size, 0, rfl, by simp, fun j y hy => ?_⟩⟩
  have hj : j = 0 := by have := (List.getElem?_eq_some_iff.1 hy).1; simp at this; exact this
  subst hj
  simp at hy
  subst hy
  have c0 := cell_of_row _ _ 0 _ _ (0, 0) hn
  rw [Nat.add_zero, c0]; rfl
theorem bs_lit2 (w : World) : Bs (w.alloc (.cells #[.int .u8 0, .int .u8 0] 5)) (some ⟨w.heap.size, 0, none⟩) 2 2 [0, 0] := by
  have hn := heap_alloc_new w (.cells #[.int .u8 0, .int .u8 0] 5)
  refine ⟨rfl, Nat.le_refl _, by unfold maxLen; omega, by simp, fun _ => ⟨w.heap.size, 0, rfl, by simp, fun j y hy => ?_⟩⟩
  have hj : j < 2 := by have := (List.getElem?_eq_some_iff.1 hy).1; simpa using this
  rcases (by omega : j = 0 ∨ j = 1) with rfl | rfl
  · simp at hy; subst hy
    have c0 := cell_of_row _ _ 0 _ _ (0, 0) hn
    rw [Nat.add_zero, c0]; rfl
  · simp at hy; subst hy
    have c0 := cell_of_row _ _ 1 _ _ (0, 0) hn
    rw [c0]; rfl
theorem own_lit1 (w : World) (x : Nat) : (w.alloc (.cells #[.int .u8 (x : Int)] 5)).ownsRow w.heap.size 5 1 (.slice (some ⟨w.heap.size, 0, none⟩) 1 1) 1 (bv [x]) :=
  World.ownsRow_lit (base := w.heap.size) (e := 5) (size := 1) w #[.int .u8 (x : Int)] 1 (Nat.le_refl _) (by unfold maxLen; omega) rfl

theorem own_base {w : World} {B B' e size n : Nat} {v : Value} {xs : List Value} (h : w.ownsRow B' e size v n xs) (hB : B ≤ B') : w.ownsRow B e size v n xs :=
  ⟨h.1, h.2.imp id (fun ⟨g, cap, cur, a, b, c⟩ => ⟨g, cap, cur, a, Nat.le_trans hB b, c⟩)⟩
theorem cellR_notB (cs : Array Value) : ¬ IsB (.cells cs 125 (0, 0)) := by
  rintro ⟨_, h⟩
  injection h with _ h
  cases h
theorem bf_undrew {base : Nat} {w w' : World} {m : Nat} (h : Bf base (w.drewN m) w') : Bf base w w' := ⟨⟨h.below.os, h.below.tape, h.below.output, h.below.size, h.below.block⟩, h.kept⟩
theorem bf_app {base n : Nat} {w w' : World} {o : Obj} {v : Value} {xs : List Value} (hown : w.ownsRow base 5 1 v n xs) (h : ((w.alloc o).drew).grownBy w' v.ownBlock) (hb : base ≤ w.heap.size) : Bf base w w' := by
  have h' : (w.alloc o).grownBy w' v.ownBlock := ⟨h.os, h.tape, h.output, h.size, h.block⟩
  exact ((Bf.refl base w).alloc hb o).trans (Bf.of_own (e := 0) (hown.alloc o) h' (by simp; omega))

theorem bf_app' {base n : Nat} {w w' : World} {o : Obj} {v : Value} {xs : List Value} (hown : w.ownsRow base 5 1 v n xs) (h : (w.alloc o).grownBy w' v.ownBlock) (hb : base ≤ w.heap.size) : Bf base w w' :=
  ((Bf.refl base w).alloc hb o).trans (Bf.of_own (e := 0) (hown.alloc o) h (by simp; omega))


/-- Two bytes 0, just written down. -/
def Lt (w : World) (k : Nat) : Prop := w.heap[k]? = some (.cells #[.int .u8 0, .int .u8 0] 5 (0, 0))
/-- A row of bytes under way: all that was there and isn't one is as it was. -/
structure Pst (base : Nat) (a w : World) (v : Value) (n : Nat) (l : List Nat) : Prop where
  f : Bf base a w
  own : w.ownsRow base 5 1 v n (bv l)
  le : base ≤ w.heap.size
section
variable {base n m c k : Nat} {a w w' : World} {v v' : Value} {l r : List Nat} {A : Option Addr}
theorem Lt.new (h : w.heap.size = k) : Lt (w.alloc (.cells #[.int .u8 0, .int .u8 0] 5)) k := by subst h; exact heap_alloc_new _ _
theorem Lt.drew (h : Lt w k) : Lt w.drew k := h
theorem Lt.bs (z : Lt w k) : Bs w (some ⟨k, 0, none⟩) 2 2 [0, 0] := by
  unfold Lt at z
  refine ⟨rfl, Nat.le_refl _, by unfold maxLen; omega, by simp, fun _ => ⟨k, 0, rfl, (Array.getElem?_eq_some_iff.1 z).1, fun j y hy => ?_⟩⟩
  have hj : j < 2 := by have := (List.getElem?_eq_some_iff.1 hy).1; simpa using this
  rcases (by omega : j = 0 ∨ j = 1) with rfl | rfl
  · simp at hy; subst hy
    have c0 := cell_of_row _ _ 0 _ _ (0, 0) z
    rw [Nat.add_zero, c0]; rfl
  · simp at hy; subst hy
    have c0 := cell_of_row _ _ 1 _ _ (0, 0) z
    rw [c0]; rfl
theorem bs_drew (h : Bs w A n c l) : Bs w.drew A n c l := h.on ((Below.refl _ _).drew)
theorem Pst.alloc {o : Obj} (h : Pst base a w v n l) : Pst base a (w.alloc o) v n l := ⟨h.f.trans (Bf.of_below ((Below.refl _ _).alloc (Nat.le_refl _) o) h.le), h.own.alloc o, by have := h.le; simp; omega⟩
theorem Pst.drew (h : Pst base a w v n l) : Pst base a w.drew v n l := ⟨h.f.trans (Bf.of_below ((Below.refl _ _).drew) h.le), own_on h.own ((Below.refl _ _).drew), h.le⟩
theorem Pst.call (h : Pst base a w v n l) (b : Below w.heap.size w w') : Pst base a w' v n l ∧ ∀ k, Lt w k → Lt w' k :=
  ⟨⟨h.f.trans (Bf.of_below b h.le), own_on h.own b, Nat.le_trans h.le b.size⟩, fun k z => (b.block k (Array.getElem?_eq_some_iff.1 z).1).trans z⟩
theorem lit_far (h : w.ownsRow base 5 1 v n (bv l)) (hn : 2 < n) (z : Lt w k) : v.ownBlock ≠ some k := by
  intro e
  rcases h.2 with ⟨hv, h0⟩ | ⟨g, cap, cur, hv, _, hg, hnc, hcm, hcs, ht⟩
  · rw [hv] at e; cases e
  · rw [hv] at e
    injection e with e
    subst e
    unfold Lt at z
    rw [z] at hg
    injection hg with hg
    injection hg with hg _ _
    have h2 : cur.size = 2 := by rw [← hg]; rfl
    omega
theorem Pst.run (h : Pst base a w v n l) (hr : Bs w A m c r) (hn : 2 < n) (hsum : n + m ≤ 1000000) (ty : TypeId) :
    ∃ v' w', (Builtin.append_ #[43, 43] ty #[v, .slice A m c]).run Tryz.prog w = .ok v' w' ∧ (Pst base a w' v' (n + m) (l ++ r) ∧ ∀ k, Lt w k → Lt w' k) := by
  obtain ⟨i0, hi, hz0, hz1, hz2⟩ := info_parts Tryz.info5
  obtain ⟨v', w', h1, h2, h3⟩ := run_append_bs (P := Tryz.prog) w base 43 ty 5 i0 (.int .u8 0) Tryz.underlying43 hi hz0 hz1 hz2 rfl v n _ h.own A m c r hr hsum h.le
  exact ⟨v', w', h1, ⟨h.f.trans (Bf.of_own (e := 0) h.own h3 h.le), by rw [← bv_app]; exact h2, Nat.le_trans h.le h3.size⟩, fun k z => (h3.block k (Array.getElem?_eq_some_iff.1 z).1 (fun e => lit_far h.own hn z e.symm)).trans z⟩
/-- Two cells of a struct that isn't a row of bytes. -/
theorem Pst.two {g : Nat} {a0 a1 a2 a3 : Value} (h : Pst base a w v n l) (z : a.heap[g]? = some (.cells #[a0, a1, a2, a3] 125 (0, 0))) : w.cell? ⟨g, 2, none⟩ = some a2 ∧ w.cell? ⟨g, 3, none⟩ = some a3 :=
  (four_cells (h.f.kept _ _ z (cellR_notB _))).2.2
def Kp (a w : World) : Prop := ∃ base v n l, Pst base a w v n l
theorem Kp.drew (h : Kp a w) : Kp a w.drew := by obtain ⟨_, _, _, _, h⟩ := h; exact ⟨_, _, _, _, h.drew⟩
theorem Kp.alloc {o : Obj} (h : Kp a w) : Kp a (w.alloc o) := by obtain ⟨_, _, _, _, h⟩ := h; exact ⟨_, _, _, _, h.alloc⟩
theorem Kp.two {g : Nat} {a0 a1 a2 a3 : Value} (h : Kp a w) (z : a.heap[g]? = some (.cells #[a0, a1, a2, a3] 125 (0, 0))) : w.cell? ⟨g, 2, none⟩ = some a2 ∧ w.cell? ⟨g, 3, none⟩ = some a3 := by
  obtain ⟨_, _, _, _, h⟩ := h; exact h.two z
theorem Pst.kp (h : Pst base a w v n l) : Kp a w := ⟨_, _, _, _, h⟩
theorem Pst.big (h : Pst base a w v n l) (x : Nat) (hx : x < 9223372036854775808) (j : Nat) (hj : j = 2 ∨ j = 4) :
    Calls Tryz.prog 63 #[.int .i64 (x : Int), .int .i64 (j : Int)] w fun e w' => (∃ A c, e = .returned (.slice A j c) ∧ Bs w' A j c (Nm.be j x)) ∧ Pst base a w' v n l ∧ ∀ k, Lt w k → Lt w' k :=
  (big_any w x hx j hj).mono fun _ _ h' => ⟨h'.1, h.call h'.2⟩
end
end Go.Proofs.YtmcldkcmialfeaaGreat.Nn
