/-
  Frames by a set of blocks; what a page's value reads as; rows of pairs.
-/
import Derived.Test.YtcpgmglpgffhdaaPgCopy
import Derived.Test.YtcpgmglpgffhdaaDkMath
import Derived.Maps.OwnSet
import Derived.Deep.AppendLies
import Derived.Deep.RegionLaw
import Derived.Deep.RegionHeld3
namespace Go.Proofs.Ytcpgmglpgffhdaa
open Go.RowKit
set_option linter.unusedVariables false

/-- w' is w but for the blocks of S, and new ones. -/
structure Off (S : Nat → Prop) (w w' : World) : Prop where
  os : w'.os = w.os
  tape : w'.tape = w.tape
  output : w'.output = w.output
  size : w.heap.size ≤ w'.heap.size
  block : ∀ k, k < w.heap.size → ¬ S k → w'.heap[k]? = w.heap[k]?
section
variable {S S' : Nat → Prop} {w w1 w2 : World}
theorem Off.refl (S : Nat → Prop) (w : World) : Off S w w := ⟨rfl, rfl, rfl, Nat.le_refl _, fun _ _ _ => rfl⟩
theorem Off.trans' (h : Off S w w1) (h2 : Off S' w1 w2) (hs : ∀ k, S' k → S k ∨ w.heap.size ≤ k) : Off S w w2 :=
  ⟨h2.os.trans h.os, h2.tape.trans h.tape, h2.output.trans h.output, Nat.le_trans h.size h2.size, fun k hk hn => (h2.block k (Nat.lt_of_lt_of_le hk h.size) (fun hk' => by rcases hs k hk' with a | a; exact hn a; omega)).trans (h.block k hk hn)⟩
theorem Off.trans (h : Off S w w1) (h2 : Off S w1 w2) : Off S w w2 := h.trans' h2 fun _ => .inl
theorem Off.mono (h : Off S' w w1) (hs : ∀ k, S' k → S k ∨ w.heap.size ≤ k) : Off S w w1 := (Off.refl S w).trans' h hs
theorem Off.of_below (h : Below w.heap.size w w1) : Off S w w1 := ⟨h.os, h.tape, h.output, h.size, fun k hk _ => h.block k hk⟩
theorem Off.of_grown {row : Option Nat} (h : w.grownBy w1 row) (hs : ∀ k, row = some k → S k) : Off S w w1 := ⟨h.os, h.tape, h.output, h.size, fun k hk hn => h.block k hk (fun e => hn (hs k e.symm))⟩
theorem Off.drewN (h : Off S w w1) (m : Nat) : Off S w (w1.drewN m) := ⟨h.os, h.tape, h.output, h.size, h.block⟩
theorem Off.drew (h : Off S w w1) : Off S w w1.drew := ⟨h.os, h.tape, h.output, h.size, h.block⟩
theorem Off.alloc (h : Off S w w1) (o : Obj) : Off S w (w1.alloc o) := h.trans (Off.of_below ((Below.refl _ _).alloc (Nat.le_refl _) _))
theorem Off.set (h : Off S w w1) {p i : Nat} (v : Value) (hp : S p) : Off S w (w1.setCell ⟨p, i, none⟩ v) :=
  h.trans ⟨rfl, rfl, rfl, by simp [World.setCell], fun k _ hn => heap_setCell_other w1 _ k v (fun e => hn (by rw [e]; exact hp))⟩
theorem Off.below (h : Off S w w1) {B : Nat} (hS : ∀ k, S k → B ≤ k) (hB : B ≤ w.heap.size) : Below B w w1 := ⟨h.os, h.tape, h.output, h.size, fun k hk => h.block k (by omega) (fun hk' => by have := hS k hk'; omega)⟩
theorem Off.at_ (h : Off S w w1) {k : Nat} {o : Obj} (hk : w.heap[k]? = some o) (hn : ¬ S k) : w1.heap[k]? = some o := (h.block k (Array.getElem?_eq_some_iff.1 hk).1 hn).trans hk
theorem Off.own (h : Off S w w1) {base e size n : Nat} {v : Value} {xs : List Value} (ho : w.ownsRow base e size v n xs) (hn : ∀ k, v.ownBlock = some k → ¬ S k) : w1.ownsRow base e size v n xs := by
  refine ⟨ho.1, ?_⟩
  rcases ho.2 with h0 | ⟨g, cap, cur, hv, hb, hg, hr⟩
  · exact .inl h0
  · exact .inr ⟨g, cap, cur, hv, hb, h.at_ hg (hn g (by rw [hv]; rfl)), hr⟩
end
theorem own_lt {w : World} {base e size n : Nat} {v : Value} {xs : List Value} (h : w.ownsRow base e size v n xs) {k : Nat} (hk : v.ownBlock = some k) : k < w.heap.size := (h.lt k hk).2
/-- A row's block bears its type. -/
theorem own_type {w : World} {base e size n : Nat} {v : Value} {xs : List Value} (h : w.ownsRow base e size v n xs) {k : Nat} (hk : v.ownBlock = some k) : ∃ cs, w.heap[k]? = some (.cells cs e (0, 0)) := by
  rcases h.2 with ⟨hv, _⟩ | ⟨g, cap, cur, hv, _, hg, _⟩
  · rw [hv] at hk; cases hk
  · rw [hv] at hk; injection hk with hk; subst hk; exact ⟨_, hg⟩

/-- The value v is a page's bytes l, in a block of bytes. -/
structure PgV (w : World) (v : Value) (l : List Nat) : Prop where
  len : l.length = 1024
  lt : ∀ x ∈ l, x < 256
  own : w.ownsRow 0 5 1 v 1024 (bv l)
/-- .. or none, for a page of zeros. -/
def SfV (w : World) (v : Value) (l : List Nat) : Prop := (v = .slice none 0 0 ∧ l = List.replicate 1024 0) ∨ PgV w v l
/-- No block of S is a row of bytes. -/
def Free (S : Nat → Prop) (w : World) : Prop := ∀ k cs m, S k → w.heap[k]? ≠ some (.cells cs 5 m)
section
variable {S : Nat → Prop} {w w1 : World} {v : Value} {l : List Nat}
theorem PgV.off (h : PgV w v l) (ho : Off S w w1) (hf : Free S w) : PgV w1 v l :=
  ⟨h.len, h.lt, ho.own h.own fun k hk hs => by obtain ⟨cs, hc⟩ := own_type h.own hk; exact hf k _ _ hs hc⟩
theorem SfV.off (h : SfV w v l) (ho : Off S w w1) (hf : Free S w) : SfV w1 v l := h.imp id fun h => h.off ho hf
theorem PgV.on (h : PgV w v l) (hb : Below w.heap.size w w1) : PgV w1 v l := ⟨h.len, h.lt, own_on h.own hb⟩
theorem SfV.on (h : SfV w v l) (hb : Below w.heap.size w w1) : SfV w1 v l := h.imp id fun h => h.on hb
theorem PgV.form (h : PgV w v l) : ∃ g c, v = .slice (some ⟨g, 0, none⟩) 1024 c ∧ Bs w (some ⟨g, 0, none⟩) 1024 c l ∧ 1024 ≤ c ∧ c ≤ maxLen := by
  rcases h.own.2 with ⟨_, h0⟩ | ⟨g, cap, cur, hv, _, hg, h1, h2, _⟩
  · cases h0
  · subst hv
    exact ⟨g, cap, rfl, own_bs h.own h.len h.lt, h1, h2⟩
theorem PgV.of_row {g : Nat} (h : Row w g l) (hn : l.length = 1024) (hl : ∀ x ∈ l, x < 256) : PgV w (.slice (some ⟨g, 0, none⟩) 1024 1024) l :=
  ⟨hn, hl, h.own (Nat.zero_le _) hn (by unfold maxLen; omega)⟩
theorem SfV.len (h : SfV w v l) : l.length = 1024 := by
  rcases h with ⟨_, rfl⟩ | h
  · exact List.length_replicate
  · exact h.len
theorem SfV.lt (h : SfV w v l) : ∀ x ∈ l, x < 256 := by
  rcases h with ⟨_, rfl⟩ | h
  · intro x hx; have := List.eq_of_mem_replicate hx; omega
  · exact h.lt
/-- A slice of bytes which, filled up with zeros, is the page. -/
theorem SfV.src (h : SfV w v l) : ∃ A n c l0, v = .slice A n c ∧ Bs w A n c l0 ∧ n ≤ 1024 ∧ l0 ++ List.replicate (1024 - n) 0 = l := by
  rcases h with ⟨rfl, rfl⟩ | h
  · exact ⟨none, 0, 0, [], rfl, Bs.nil_ _ _ _ (by unfold maxLen; omega), by omega, by rw [List.nil_append, Nat.sub_zero]⟩
  · obtain ⟨g, c, rfl, hb, _⟩ := h.form
    exact ⟨_, _, _, l, rfl, hb, Nat.le_refl _, by rw [Nat.sub_self, List.replicate_zero, List.append_nil]⟩
theorem PgV.one (h : PgV w v l) : v.oneCell' = true := by obtain ⟨g, c, rfl, _⟩ := h.form; rfl
theorem SfV.one (h : SfV w v l) : v.oneCell' = true := by
  rcases h with ⟨rfl, _⟩ | h
  · rfl
  · exact h.one
end

/-- Two rows, of one length, each of the first going with its fellow of the second. -/
structure Along {α β : Type} (R : α → β → Prop) (xs : List α) (ys : List β) : Prop where
  len : xs.length = ys.length
  at_ : ∀ (i : Nat) (x : α) (y : β), xs[i]? = some x → ys[i]? = some y → R x y
section
variable {α β : Type} {R R' : α → β → Prop} {xs : List α} {ys : List β}
theorem Along.mono (h : Along R xs ys) (hr : ∀ x y, R x y → R' x y) : Along R' xs ys := ⟨h.len, fun i x y hx hy => hr x y (h.at_ i x y hx hy)⟩
theorem Along.nil_ : Along R ([] : List α) ([] : List β) := ⟨rfl, fun i x y hx => by simp at hx⟩
theorem Along.snoc (h : Along R xs ys) {x : α} {y : β} (hr : R x y) : Along R (xs ++ [x]) (ys ++ [y]) := by
  refine ⟨by simp [h.len], fun i a b ha hb => ?_⟩
  rcases Nat.lt_trichotomy i xs.length with hi | hi | hi
  · rw [List.getElem?_append_left hi] at ha
    rw [List.getElem?_append_left (by rw [← h.len]; exact hi)] at hb
    exact h.at_ i a b ha hb
  · subst hi
    rw [List.getElem?_append_right (Nat.le_refl _)] at ha
    rw [List.getElem?_append_right (by rw [h.len]; exact Nat.le_refl _), h.len] at hb
    simp at ha hb
    subst ha hb
    exact hr
  · rw [List.getElem?_eq_none (by simp; omega)] at ha; cases ha
theorem Along.set (h : Along R xs ys) (j : Nat) {x : α} {y : β} (hr : R x y) : Along R (xs.set j x) (ys.set j y) := by
  refine ⟨by simp [h.len], fun i a b ha hb => ?_⟩
  rw [List.getElem?_set] at ha hb
  split at ha
  · rename_i he
    rw [if_pos he] at hb
    split at ha
    · split at hb
      · injection ha with ha; injection hb with hb; subst ha hb; exact hr
      · cases hb
    · cases ha
  · rename_i he
    rw [if_neg he] at hb
    exact h.at_ i a b ha hb
theorem Along.get (h : Along R xs ys) {i : Nat} (hi : i < ys.length) : ∃ x y, xs[i]? = some x ∧ ys[i]? = some y ∧ R x y := by
  have hx : i < xs.length := by rw [h.len]; exact hi
  exact ⟨_, _, List.getElem?_eq_getElem hx, List.getElem?_eq_getElem hi, h.at_ i _ _ (List.getElem?_eq_getElem hx) (List.getElem?_eq_getElem hi)⟩
end

/-- Writes as cells: two each. -/
def wc (xs : List (Nat × Value)) : List Value := xs.flatMap fun x => [.int .i64 (x.1 : Int), x.2]
theorem wc_snoc (l : List (Nat × Value)) (no : Nat) (v : Value) : wc (l ++ [(no, v)]) = wc l ++ [.int .i64 (no : Int), v] := by simp [wc]
theorem wc_len (l : List (Nat × Value)) : (wc l).length = l.length * 2 := by
  induction l with
  | nil => rfl
  | cons x l ih => simp [wc] at *; omega
theorem wc_at : ∀ (l : List (Nat × Value)) (j : Nat) (x : Nat × Value), l[j]? = some x → (wc l)[j * 2]? = some (.int .i64 (x.1 : Int)) ∧ (wc l)[j * 2 + 1]? = some x.2
  | [], j, x, h => by simp at h
  | y :: l, 0, x, h => by
    simp at h; subst h
    exact ⟨rfl, rfl⟩
  | y :: l, j + 1, x, h => by
    have := wc_at l j x (by simpa using h)
    have e : (j + 1) * 2 = j * 2 + 1 + 1 := by omega
    rw [e]
    exact this
/-- A row of writes, and what they say. -/
structure Ws (w : World) (t : TypeId) (v : Value) (ws : List (Nat × List Nat)) (xs : List (Nat × Value)) : Prop where
  own : w.ownsRow 0 t 2 v ws.length (wc xs)
  along : Along (fun (x : Nat × Value) (y : Nat × List Nat) => x.1 = y.1 ∧ PgV w x.2 y.2) xs ws
section
variable {w w1 : World} {t : TypeId} {v : Value} {ws : List (Nat × List Nat)} {xs : List (Nat × Value)}
theorem Ws.form (h : Ws w t v ws xs) : ∃ A c, v = .slice A ws.length c ∧ ws.length ≤ c ∧ c ≤ maxLen := by
  rcases h.own.2 with ⟨hv, h0⟩ | ⟨g, cap, cur, hv, _, _, h1, h2, _⟩
  · rw [h0]; exact ⟨_, _, hv, Nat.le_refl _, Nat.zero_le _⟩
  · exact ⟨_, _, hv, h1, h2⟩
theorem Ws.get (h : Ws w t v ws xs) {k : Nat} (hk : k < ws.length) : ∃ g c no u l, v = .slice (some ⟨g, 0, none⟩) ws.length c ∧ ws.length ≤ c ∧ ws[k]? = some (no, l) ∧ PgV w u l ∧
    w.cell? ⟨g, k * 2, none⟩ = some (.int .i64 (no : Int)) ∧ w.cell? ⟨g, k * 2 + 1, none⟩ = some u := by
  obtain ⟨x, y, hx, hy, he, hp⟩ := h.along.get hk
  have ho := h.own
  rcases ho.2 with ⟨_, h0⟩ | ⟨g, cap, cur, hv, _, hg, h1, h2, hcs, htk⟩
  · omega
  · subst hv
    have a := wc_at xs k x hx
    have c0 := (ho.cellAt (k * 2) (by omega)).trans a.1
    have c1 := (ho.cellAt (k * 2 + 1) (by omega)).trans a.2
    rw [he] at c0
    exact ⟨g, cap, y.1, x.2, y.2, rfl, h1, hy, hp, c0, c1⟩
theorem Ws.off {S : Nat → Prop} (h : Ws w t v ws xs) (ho : Off S w w1) (hf : Free S w) (hn : ∀ k, v.ownBlock = some k → ¬ S k) : Ws w1 t v ws xs :=
  ⟨ho.own h.own hn, h.along.mono fun x y hr => ⟨hr.1, hr.2.off ho hf⟩⟩
theorem Ws.on (h : Ws w t v ws xs) (hb : Below w.heap.size w w1) : Ws w1 t v ws xs :=
  h.off (S := fun _ => False) (Off.of_below hb) (fun _ _ _ h => h.elim) fun _ _ h => h
end
/-- A row of pages, and what they say. -/
structure Ss (w : World) (v : Value) (ps : List (List Nat)) (vs : List Value) : Prop where
  own : w.ownsRow 0 25 1 v ps.length vs
  along : Along (SfV w) vs ps
section
variable {w w1 : World} {v : Value} {ps : List (List Nat)} {vs : List Value}
theorem Ss.form (h : Ss w v ps vs) : ∃ A c, v = .slice A ps.length c ∧ ps.length ≤ c ∧ c ≤ maxLen := own_form h.own
theorem Ss.get (h : Ss w v ps vs) {k : Nat} (hk : k < ps.length) : ∃ g c u l, v = .slice (some ⟨g, 0, none⟩) ps.length c ∧ ps.length ≤ c ∧ ps[k]? = some l ∧ SfV w u l ∧ w.cell? ⟨g, k, none⟩ = some u := by
  obtain ⟨x, y, hx, hy, hp⟩ := h.along.get hk
  have ho := h.own
  rcases ho.2 with ⟨_, h0⟩ | ⟨g, cap, cur, hv, _, hg, h1, h2, hcs, htk⟩
  · omega
  · subst hv
    have c0 := (ho.cellAt k (by omega)).trans hx
    exact ⟨g, cap, x, y, rfl, h1, hy, hp, c0⟩
theorem Ss.off {S : Nat → Prop} (h : Ss w v ps vs) (ho : Off S w w1) (hf : Free S w) (hn : ∀ k, v.ownBlock = some k → ¬ S k) : Ss w1 v ps vs :=
  ⟨ho.own h.own hn, h.along.mono fun x y hr => hr.off ho hf⟩
theorem Ss.on (h : Ss w v ps vs) (hb : Below w.heap.size w w1) : Ss w1 v ps vs :=
  h.off (S := fun _ => False) (Off.of_below hb) (fun _ _ _ h => h.elim) fun _ _ h => h
/-- One page is set. -/
theorem Ss.put {g n c : Nat} (h : Ss w (.slice (some ⟨g, 0, none⟩) n c) ps vs) (k : Nat) {u : Value} {l : List Nat} (hu : SfV w u l) : Ss (w.setCell ⟨g, k, none⟩ u) (.slice (some ⟨g, 0, none⟩) n c) (ps.set k l) (vs.set k u) := by
  have hn : n = ps.length := by
    obtain ⟨A, c', hv, _⟩ := h.form
    injection hv
  subst hn
  have s := h.own.stored k u
  have hfree : Free (fun j => j = g) w := by
    intro j cs m hj hh
    subst hj
    obtain ⟨cs', hc⟩ := own_type h.own (k := j) rfl
    rw [hc] at hh; simp at hh
  have ho : Off (fun j => j = g) w (w.setCell ⟨g, k, none⟩ u) := Off.of_grown s.2 (fun j hj => by injection hj with hj; exact hj.symm)
  refine ⟨by rw [List.length_set]; exact s.1, ?_⟩
  exact (h.along.mono fun x y hr => hr.off ho hfree).set k (hu.off ho hfree)
theorem Ss.frozen {g n c : Nat} (h : Ss w (.slice (some ⟨g, 0, none⟩) n c) ps vs) (k : Nat) : w.frozen? ⟨g, k, none⟩ = false := by
  have hn : n = ps.length := by
    obtain ⟨A, c', hv, _⟩ := h.form
    injection hv
  subst hn
  exact h.own.frozenAt k
end

end Go.Proofs.Ytcpgmglpgffhdaa
