/-
  Frames by a set of blocks; two rows that go along.
-/
import Derived.Test.YtbhahihgojhcmaaPgRow
import Derived.Maps.OwnSet
import Derived.Deep.AppendLies
import Derived.Deep.RegionLaw
import Derived.Deep.RegionHeld3
namespace Go.Proofs.Ytbhahihgojhcmaa
open Go.RowKit
set_option linter.unusedVariables false

/-- w' is w but for the blocks of S, and new ones. -/
structure Off (S : Nat → Prop) (w w' : World) : Prop where
  os : w'.os = w.os
  tape : w'.tape = w.tape
  output : w'.output = w.output
  size : w.heap.size ≤ w'.heap.size
  block : ∀ k, k < w.heap.size → ¬ S k → w'.heap[k]? = w.heap[k]?
section
variable {S S' : Nat → Prop} {w w1 w2 : World}
theorem Off.refl (S : Nat → Prop) (w : World) : Off S w w := ⟨rfl, rfl, rfl, Nat.le_refl _, fun _ _ _ => rfl⟩
theorem Off.trans' (h : Off S w w1) (h2 : Off S' w1 w2) (hs : ∀ k, S' k → S k ∨ w.heap.size ≤ k) : Off S w w2 :=
  ⟨h2.os.trans h.os, h2.tape.trans h.tape, h2.output.trans h.output, Nat.le_trans h.size h2.size, fun k hk hn => (h2.block k (Nat.lt_of_lt_of_le hk h.size) (fun hk' => by rcases hs k hk' with a | a; exact hn a; omega)).trans (h.block k hk hn)⟩
theorem Off.trans (h : Off S w w1) (h2 : Off S w1 w2) : Off S w w2 := h.trans' h2 fun _ => .inl
theorem Off.mono (h : Off S' w w1) (hs : ∀ k, S' k → S k ∨ w.heap.size ≤ k) : Off S w w1 := (Off.refl S w).trans' h hs
theorem Off.of_below (h : Below w.heap.size w w1) : Off S w w1 := ⟨h.os, h.tape, h.output, h.size, fun k hk _ => h.block k hk⟩
theorem Off.of_grown {row : Option Nat} (h : w.grownBy w1 row) (hs : ∀ k, row = some k → S k) : Off S w w1 := ⟨h.os, h.tape, h.output, h.size, fun k hk hn => h.block k hk (fun e => hn (hs k e.symm))⟩
theorem Off.drewN (h : Off S w w1) (m : Nat) : Off S w (w1.drewN m) := ⟨h.os, h.tape, h.output, h.size, h.block⟩
theorem Off.drew (h : Off S w w1) : Off S w w1.drew := ⟨h.os, h.tape, h.output, h.size, h.block⟩
theorem Off.alloc (h : Off S w w1) (o : Obj) : Off S w (w1.alloc o) := h.trans (Off.of_below ((Below.refl _ _).alloc (Nat.le_refl _) _))
theorem Off.set (h : Off S w w1) {p i : Nat} (v : Value) (hp : S p) : Off S w (w1.setCell ⟨p, i, none⟩ v) :=
  h.trans ⟨rfl, rfl, rfl, by simp [World.setCell], fun k _ hn => heap_setCell_other w1 _ k v (fun e => hn (by rw [e]; exact hp))⟩
theorem Off.below (h : Off S w w1) {B : Nat} (hS : ∀ k, S k → B ≤ k) (hB : B ≤ w.heap.size) : Below B w w1 := ⟨h.os, h.tape, h.output, h.size, fun k hk => h.block k (by omega) (fun hk' => by have := hS k hk'; omega)⟩
theorem Off.at_ (h : Off S w w1) {k : Nat} {o : Obj} (hk : w.heap[k]? = some o) (hn : ¬ S k) : w1.heap[k]? = some o := (h.block k (Array.getElem?_eq_some_iff.1 hk).1 hn).trans hk
theorem Off.own (h : Off S w w1) {base e size n : Nat} {v : Value} {xs : List Value} (ho : w.ownsRow base e size v n xs) (hn : ∀ k, v.ownBlock = some k → ¬ S k) : w1.ownsRow base e size v n xs := by
  refine ⟨ho.1, ?_⟩
  rcases ho.2 with h0 | ⟨g, cap, cur, hv, hb, hg, hr⟩
  · exact .inl h0
  · exact .inr ⟨g, cap, cur, hv, hb, h.at_ hg (hn g (by rw [hv]; rfl)), hr⟩
end
theorem own_lt {w : World} {base e size n : Nat} {v : Value} {xs : List Value} (h : w.ownsRow base e size v n xs) {k : Nat} (hk : v.ownBlock = some k) : k < w.heap.size := (h.lt k hk).2
/-- A row's block bears its type. -/
theorem own_type {w : World} {base e size n : Nat} {v : Value} {xs : List Value} (h : w.ownsRow base e size v n xs) {k : Nat} (hk : v.ownBlock = some k) : ∃ cs, w.heap[k]? = some (.cells cs e (0, 0)) := by
  rcases h.2 with ⟨hv, _⟩ | ⟨g, cap, cur, hv, _, hg, _⟩
  · rw [hv] at hk; cases hk
  · rw [hv] at hk; injection hk with hk; subst hk; exact ⟨_, hg⟩

/-- Two rows, of one length, each of the first going with its fellow of the second. -/
structure Along {α β : Type} (R : α → β → Prop) (xs : List α) (ys : List β) : Prop where
  len : xs.length = ys.length
  at_ : ∀ (i : Nat) (x : α) (y : β), xs[i]? = some x → ys[i]? = some y → R x y
section
variable {α β : Type} {R R' : α → β → Prop} {xs : List α} {ys : List β}
theorem Along.mono (h : Along R xs ys) (hr : ∀ x y, R x y → R' x y) : Along R' xs ys := ⟨h.len, fun i x y hx hy => hr x y (h.at_ i x y hx hy)⟩
theorem Along.nil_ : Along R ([] : List α) ([] : List β) := ⟨rfl, fun i x y hx => by simp at hx⟩
theorem Along.snoc (h : Along R xs ys) {x : α} {y : β} (hr : R x y) : Along R (xs ++ [x]) (ys ++ [y]) := by
  refine ⟨by simp [h.len], fun i a b ha hb => ?_⟩
  rcases Nat.lt_trichotomy i xs.length with hi | hi | hi
  · rw [List.getElem?_append_left hi] at ha
    rw [List.getElem?_append_left (by rw [← h.len]; exact hi)] at hb
    exact h.at_ i a b ha hb
  · subst hi
    rw [List.getElem?_append_right (Nat.le_refl _)] at ha
    rw [List.getElem?_append_right (by rw [h.len]; exact Nat.le_refl _), h.len] at hb
    simp at ha hb
    subst ha hb
    exact hr
  · rw [List.getElem?_eq_none (by simp; omega)] at ha; cases ha
theorem Along.set (h : Along R xs ys) (j : Nat) {x : α} {y : β} (hr : R x y) : Along R (xs.set j x) (ys.set j y) := by
  refine ⟨by simp [h.len], fun i a b ha hb => ?_⟩
  rw [List.getElem?_set] at ha hb
  split at ha
  · rename_i he
    rw [if_pos he] at hb
    split at ha
    · split at hb
      · injection ha with ha; injection hb with hb; subst ha hb; exact hr
      · cases hb
    · cases ha
  · rename_i he
    rw [if_neg he] at hb
    exact h.at_ i a b ha hb
theorem Along.get (h : Along R xs ys) {i : Nat} (hi : i < ys.length) : ∃ x y, xs[i]? = some x ∧ ys[i]? = some y ∧ R x y := by
  have hx : i < xs.length := by rw [h.len]; exact hi
  exact ⟨_, _, List.getElem?_eq_getElem hx, List.getElem?_eq_getElem hi, h.at_ i _ _ (List.getElem?_eq_getElem hx) (List.getElem?_eq_getElem hi)⟩
end

end Go.Proofs.Ytbhahihgojhcmaa
