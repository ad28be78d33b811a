/-
  Rows of cells, of keys and of kids, as the memory has them.
-/
/-
  The program's bytes, one behind the other: putNumber, putKey, putCell, begin; the document's big.
-/
/-
  Which of two rows of bytes comes first: the document's Less, bytes.Compare; which rows are one: bytes.Equal, bytes.HasPrefix; bytes.Clone.
-/
/-
  A cell's bytes behind others (putCell), how a page begins (begin), how long a cell is and whether it may be.
-/
/-
  The program's reader: take, number, key, cell, ended; bytes.Clone.
-/
/-
  bytes.Clone; whether a page's bytes are these, and then 0.
-/
/-
  A chain's page: the program's Link and FromLink.
-/
import Derived.Test.YtmcldkcmialfeaaOffB
import Derived.Test.YtmcldkcmialfeaaAppZero
import Derived.Test.YtmcldkcmialfeaaGrPl9
import Derived.Test.YtmcldkcmialfeaaNbKey
import Derived.Test.YtmcldkcmialfeaaBase
import Derived.Test.YtmcldkcmialfeaaCrText
import Derived.Test.YtmcldkcmialfeaaPgRow
import Derived.Lib.BytesEntry
import Derived.Laws.Externs
import Derived.Laws.Strings
import Derived.Deep.RegionHeld3
import Derived.Test.YtmcldkcmialfeaaNbFour
namespace Go.Proofs.Ytmcldkcmialfeaa
open Go.RowKit
set_option linter.unusedVariables false

theorem bs_off {S : Nat → Prop} {w w' : World} {A : Option Addr} {n c : Nat} {l : List Nat} (h : Bs w A n c l) (ho : Off S w w') (hn : ∀ a, A = some a → ¬ S a.block) : Bs w' A n c l := by
  obtain ⟨h1, h2, h3, h4, h5⟩ := h
  refine ⟨h1, h2, h3, h4, fun hp => ?_⟩
  obtain ⟨b, off, e, hlt, hc⟩ := h5 hp
  have hk : w'.heap[b]? = w.heap[b]? := ho.block b hlt (hn _ e)
  refine ⟨b, off, e, Nat.lt_of_lt_of_le hlt ho.size, fun j x hx => ?_⟩
  have := hc j x hx
  unfold World.cell? at *
  simp only at *
  rw [hk]
  exact this
namespace Nn
def I64 (z : Int) : Prop := -9223372036854775808 ≤ z ∧ z ≤ 9223372036854775807
/-- The slice value '.slice A n c' of elements of s cells each reads as the cells vs. -/
def Rw (w : World) (A : Option Addr) (n c s : Nat) (vs : List Value) : Prop :=
  vs.length = n * s ∧ n ≤ c ∧ c ≤ maxLen ∧
  (0 < n → ∃ b off, A = some ⟨b, off, none⟩ ∧ b < w.heap.size ∧ ∀ (j : Nat) (v : Value), vs[j]? = some v → w.cell? ⟨b, off + j, none⟩ = some v)
section
variable {w w' : World} {A : Option Addr} {n c s : Nat} {vs : List Value}
theorem Rw.off {S : Nat → Prop} (h : Rw w A n c s vs) (ho : Off S w w') (hn : ∀ a, A = some a → ¬ S a.block) : Rw w' A n c s vs := by
  obtain ⟨h1, h2, h3, h5⟩ := h
  refine ⟨h1, h2, h3, fun hp => ?_⟩
  obtain ⟨b, off, e, hlt, hc⟩ := h5 hp
  have hk : w'.heap[b]? = w.heap[b]? := ho.block b hlt (hn _ e)
  refine ⟨b, off, e, Nat.lt_of_lt_of_le hlt ho.size, fun j x hx => ?_⟩
  have := hc j x hx
  unfold World.cell? at *
  simp only at *
  rw [hk]
  exact this
theorem Rw.on (h : Rw w A n c s vs) (hb : Below w.heap.size w w') : Rw w' A n c s vs := h.off (S := fun _ => False) (Off.of_below hb) fun _ _ h => h
theorem Rw.nil_ (w : World) (A : Option Addr) (c s : Nat) (hc : c ≤ maxLen) : Rw w A 0 c s [] := ⟨by simp, Nat.zero_le _, hc, fun h => absurd h (by omega)⟩
theorem Rw.of_own {base e : Nat} {v : Value} (hs : 0 < s) (h : w.ownsRow base e s v n vs) : ∃ A c, v = .slice A n c ∧ Rw w A n c s vs := by
  rcases h.2 with ⟨hv, h0⟩ | ⟨g, cap, cur, hv, _, hg, hnc, hcm, hcs, ht⟩
  · subst h0
    have : vs = [] := List.eq_nil_of_length_eq_zero (by have := h.1; omega)
    subst this
    exact ⟨none, 0, hv, Rw.nil_ _ _ _ _ (by unfold maxLen; omega)⟩
  · refine ⟨_, _, hv, h.1, hnc, hcm, fun _ => ⟨g, 0, rfl, (Array.getElem?_eq_some_iff.1 hg).1, fun j x hx => ?_⟩⟩
    subst hv
    have hj : j < vs.length := (List.getElem?_eq_some_iff.1 hx).1
    rw [Nat.zero_add]
    exact (h.cellAt j (by have := h.1; omega)).trans hx
theorem Rw.get (h : Rw w A n c s vs) (hn : 0 < n) : ∃ b off, A = some ⟨b, off, none⟩ ∧ b < w.heap.size ∧ ∀ (j : Nat) (v : Value), vs[j]? = some v → w.cell? ⟨b, off + j, none⟩ = some v := h.2.2.2 hn
theorem Rw.sub {b off : Nat} (h : Rw w (some ⟨b, off, none⟩) n c s vs) (k m : Nat) (hk : k + m ≤ n) : Rw w (some ⟨b, off + k * s, none⟩) m (c - k) s ((vs.drop (k * s)).take (m * s)) := by
  obtain ⟨h1, h2, h3, h5⟩ := h
  have hle : (k + m) * s ≤ n * s := Nat.mul_le_mul_right s hk
  rw [Nat.add_mul] at hle
  refine ⟨by rw [List.length_take, List.length_drop]; omega, by omega, by omega, fun hm => ?_⟩
  obtain ⟨b', off', e, hlt, hc⟩ := h5 (by omega)
  injection e with e
  injection e with e1 e2
  subst e1 e2
  refine ⟨_, _, rfl, hlt, fun j x hx => ?_⟩
  rw [List.getElem?_take] at hx
  split at hx
  · rw [List.getElem?_drop] at hx
    rw [Nat.add_assoc]
    exact hc _ x hx
  · cases hx
theorem Rw.news {b off : Nat} (h : Rw w (some ⟨b, off, none⟩) n c s vs) : ∀ (j : Nat) (u : Value), vs[j]? = some u → w.cell? ((⟨b, off, none⟩ : Addr).add j) = some u := by
  obtain ⟨h1, _, _, h5⟩ := h
  intro j u hu
  have hj : j < vs.length := (List.getElem?_eq_some_iff.1 hu).1
  have hn : 0 < n := by
    rcases Nat.eq_zero_or_pos n with h0 | h0
    · subst h0; omega
    · exact h0
  obtain ⟨b', off', hh, _, hc⟩ := h5 hn
  injection hh with hh
  injection hh with hb ho
  subst hb ho
  have hcj := hc j u hu
  by_cases hj0 : j = 0
  · subst hj0; simpa [Addr.add] using hcj
  · simpa [Addr.add, hj0] using hcj
end
/-- A value that is a slice of bytes, and not too great. -/
def SlV (w : World) (v : Value) (l : List Nat) : Prop := ∃ A n c, v = .slice A n c ∧ Bs w A n c l ∧ n ≤ 140737488355328
theorem SlV.on {w w' : World} {v : Value} {l : List Nat} (h : SlV w v l) (hb : Below w.heap.size w w') : SlV w' v l := by
  obtain ⟨A, n, c, e, hs, hc⟩ := h
  exact ⟨A, n, c, e, hs.on hb, hc⟩
theorem SlV.off {S : Nat → Prop} {w w' : World} {v : Value} {l : List Nat} (h : SlV w v l) (ho : Off S w w') (hn : ∀ k, v.ownBlock = some k → ¬ S k) : SlV w' v l := by
  obtain ⟨A, n, c, rfl, hs, hc⟩ := h
  exact ⟨A, n, c, rfl, bs_off hs ho fun a ha => hn _ (by rw [ha]; rfl), hc⟩
theorem SlV.nil_ (w : World) : SlV w (.slice none 0 0) [] := ⟨none, 0, 0, rfl, Bs.nil_ _ _ _ (Nat.zero_le _), by omega⟩
/-- What stands in a cell's four places. -/
structure CV where
  k : Value
  i : Value
  s : Int
  h : Int
def CV.vs (x : CV) : List Value := [x.k, x.i, .int .i64 x.s, .int .i64 x.h]
def cc (xs : List CV) : List Value := xs.flatMap CV.vs
theorem cc_app (a b : List CV) : cc (a ++ b) = cc a ++ cc b := by simp [cc]
theorem cc_one (x : CV) : cc [x] = x.vs := by simp [cc]
theorem cc_len : ∀ l : List CV, (cc l).length = l.length * 4
  | [] => rfl
  | x :: l => by have := cc_len l; simp [cc, CV.vs] at *; omega
theorem cc_at : ∀ (l : List CV) (j : Nat) (x : CV), l[j]? = some x → (cc l)[j * 4]? = some x.k ∧ (cc l)[j * 4 + 1]? = some x.i ∧ (cc l)[j * 4 + 2]? = some (.int .i64 x.s) ∧ (cc l)[j * 4 + 3]? = some (.int .i64 x.h)
  | [], j, x, h => by simp at h
  | y :: l, 0, x, h => by
    simp at h; subst h
    exact ⟨rfl, rfl, rfl, rfl⟩
  | y :: l, j + 1, x, h => by
    have := cc_at l j x (by simpa using h)
    have e : (j + 1) * 4 = j * 4 + 1 + 1 + 1 + 1 := by omega
    rw [e]
    exact this
theorem cc_part : ∀ (l : List CV) (k : Nat) (x : CV), l[k]? = some x → ((cc l).drop (k * 4)).take (1 * 4) = cc [x]
  | [], k, x, h => by simp at h
  | y :: l, 0, x, h => by
    simp at h; subst h
    simp [cc, CV.vs]
  | y :: l, k + 1, x, h => by
    have := cc_part l k x (by simpa using h)
    have e : (cc (y :: l)).drop ((k + 1) * 4) = (cc l).drop (k * 4) := by
      show (y.vs ++ cc l).drop _ = _
      rw [show (k + 1) * 4 = y.vs.length + k * 4 by simp [CV.vs]; omega, ← List.drop_drop, List.drop_left]
    rw [e]; exact this
/-- The four places say the cell. -/
structure CR (w : World) (x : CV) (c : Nd.Cell) : Prop where
  k : SlV w x.k c.key
  i : SlV w x.i c.inl
  s : x.s = c.size
  h : x.h = c.head
  sb : I64 c.size
  hb : I64 c.head
theorem CR.on {w w' : World} {x : CV} {c : Nd.Cell} (h : CR w x c) (hb : Below w.heap.size w w') : CR w' x c := ⟨h.k.on hb, h.i.on hb, h.s, h.h, h.sb, h.hb⟩
theorem CR.off {S : Nat → Prop} {w w' : World} {x : CV} {c : Nd.Cell} (h : CR w x c) (ho : Off S w w') (hk : ∀ k, x.k.ownBlock = some k → ¬ S k) (hi : ∀ k, x.i.ownBlock = some k → ¬ S k) : CR w' x c := ⟨h.k.off ho hk, h.i.off ho hi, h.s, h.h, h.sb, h.hb⟩
theorem SlV.one {w : World} {v : Value} {l : List Nat} (h : SlV w v l) : v.oneCell' = true := by obtain ⟨A, n, c, rfl, _⟩ := h; rfl
theorem CR.one {w : World} {x : CV} {c : Nd.Cell} (h : CR w x c) : ∀ u ∈ x.vs, u.oneCell' = true := by
  intro u hu
  simp [CV.vs] at hu
  rcases hu with rfl | rfl | rfl | rfl
  · exact h.k.one
  · exact h.i.one
  · rfl
  · rfl
/-- A slice of cells. -/
def Cs (w : World) (A : Option Addr) (n c : Nat) (cs : List Nd.Cell) : Prop := ∃ xs, Rw w A n c 4 (cc xs) ∧ Along (CR w) xs cs
theorem Cs.on {w w' : World} {A : Option Addr} {n c : Nat} {cs : List Nd.Cell} (h : Cs w A n c cs) (hb : Below w.heap.size w w') : Cs w' A n c cs := by
  obtain ⟨xs, h1, h2⟩ := h
  exact ⟨xs, h1.on hb, h2.mono fun x y h => h.on hb⟩
theorem Cs.len {w : World} {A : Option Addr} {n c : Nat} {cs : List Nd.Cell} (h : Cs w A n c cs) : cs.length = n := by
  obtain ⟨xs, h1, h2⟩ := h
  have := h1.1
  rw [cc_len] at this
  have := h2.len
  omega
theorem Cs.get {w : World} {A : Option Addr} {n c : Nat} {cs : List Nd.Cell} (h : Cs w A n c cs) {k : Nat} (hk : k < n) : ∃ b off x y, A = some ⟨b, off, none⟩ ∧ b < w.heap.size ∧ cs[k]? = some y ∧ CR w x y ∧
    w.cell? ⟨b, off + k * 4, none⟩ = some x.k ∧ w.cell? ⟨b, off + k * 4 + 1, none⟩ = some x.i ∧ w.cell? ⟨b, off + k * 4 + 2, none⟩ = some (.int .i64 x.s) ∧ w.cell? ⟨b, off + k * 4 + 3, none⟩ = some (.int .i64 x.h) := by
  have hl := h.len
  obtain ⟨xs, h1, h2⟩ := h
  obtain ⟨x, y, hx, hy, hr⟩ := h2.get (i := k) (by omega)
  obtain ⟨b, off, e, hlt, hc⟩ := h1.get (by omega)
  obtain ⟨a1, a2, a3, a4⟩ := cc_at xs k x hx
  exact ⟨b, off, x, y, e, hlt, hy, hr, hc _ _ a1, hc _ _ a2, hc _ _ a3, hc _ _ a4⟩
theorem Cs.sub {w : World} {b off n c : Nat} {cs : List Nd.Cell} (h : Cs w (some ⟨b, off, none⟩) n c cs) {k : Nat} {y : Nd.Cell} (hy : cs[k]? = some y) : Cs w (some ⟨b, off + k * 4, none⟩) 1 (c - k) [y] := by
  have hl := h.len
  obtain ⟨xs, h1, h2⟩ := h
  have hk : k < cs.length := (List.getElem?_eq_some_iff.1 hy).1
  obtain ⟨x, y', hx, hy', hr⟩ := h2.get hk
  have : y' = y := by rw [hy] at hy'; injection hy' with hy'; exact hy'.symm
  subst this
  refine ⟨[x], ?_, Along.nil_.snoc hr⟩
  have := h1.sub k 1 (by omega)
  rwa [cc_part xs k x hx] at this
/-- A slice of rows of bytes. -/
def Ks (w : World) (A : Option Addr) (n c : Nat) (ks : List (List Nat)) : Prop := ∃ xs, Rw w A n c 1 xs ∧ Along (SlV w) xs ks
theorem Ks.on {w w' : World} {A : Option Addr} {n c : Nat} {ks : List (List Nat)} (h : Ks w A n c ks) (hb : Below w.heap.size w w') : Ks w' A n c ks := by
  obtain ⟨xs, h1, h2⟩ := h
  exact ⟨xs, h1.on hb, h2.mono fun x y h => h.on hb⟩
theorem Ks.len {w : World} {A : Option Addr} {n c : Nat} {ks : List (List Nat)} (h : Ks w A n c ks) : ks.length = n := by
  obtain ⟨xs, h1, h2⟩ := h
  have := h1.1
  have := h2.len
  omega
theorem Ks.get {w : World} {A : Option Addr} {n c : Nat} {ks : List (List Nat)} (h : Ks w A n c ks) {k : Nat} (hk : k < n) : ∃ b off A' n' c' y, A = some ⟨b, off, none⟩ ∧ b < w.heap.size ∧ ks[k]? = some y ∧ w.cell? ⟨b, off + k, none⟩ = some (.slice A' n' c') ∧ Bs w A' n' c' y ∧ n' ≤ 140737488355328 := by
  have hl := h.len
  obtain ⟨xs, h1, h2⟩ := h
  obtain ⟨x, y, hx, hy, A', n', c', rfl, hr, hc'⟩ := h2.get (i := k) (by omega)
  obtain ⟨b, off, e, hlt, hc⟩ := h1.get (by omega)
  exact ⟨b, off, A', n', c', y, e, hlt, hy, hc _ _ hx, hr, hc'⟩
theorem Ks.sub {w : World} {b off n c : Nat} {ks : List (List Nat)} (h : Ks w (some ⟨b, off, none⟩) n c ks) {k : Nat} {y : List Nat} (hy : ks[k]? = some y) : Ks w (some ⟨b, off + k, none⟩) 1 (c - k) [y] := by
  have hl := h.len
  obtain ⟨xs, h1, h2⟩ := h
  have hk : k < ks.length := (List.getElem?_eq_some_iff.1 hy).1
  obtain ⟨x, y', hx, hy', hr⟩ := h2.get hk
  have : y' = y := by rw [hy] at hy'; injection hy' with hy'; exact hy'.symm
  subst this
  refine ⟨[x], ?_, Along.nil_.snoc hr⟩
  have := h1.sub k 1 (by omega)
  rw [Nat.mul_one, Nat.mul_one] at this
  have e : (xs.drop k).take 1 = [x] := by
    rw [List.drop_eq_getElem_cons (List.getElem?_eq_some_iff.1 hx).1, (List.getElem?_eq_some_iff.1 hx).2]; rfl
  rwa [e] at this
/-- A slice of numbers. -/
def iv (l : List Int) : List Value := l.map fun z => .int .i64 z
def Is (w : World) (A : Option Addr) (n c : Nat) (l : List Int) : Prop := Rw w A n c 1 (iv l) ∧ ∀ z ∈ l, I64 z
theorem Is.on {w w' : World} {A : Option Addr} {n c : Nat} {l : List Int} (h : Is w A n c l) (hb : Below w.heap.size w w') : Is w' A n c l := ⟨h.1.on hb, h.2⟩
theorem Is.len {w : World} {A : Option Addr} {n c : Nat} {l : List Int} (h : Is w A n c l) : l.length = n := by
  have := h.1.1
  simp [iv] at this
  exact this
theorem Is.get {w : World} {A : Option Addr} {n c : Nat} {l : List Int} (h : Is w A n c l) {k : Nat} (hk : k < n) : ∃ b off z, A = some ⟨b, off, none⟩ ∧ b < w.heap.size ∧ l[k]? = some z ∧ I64 z ∧ w.cell? ⟨b, off + k, none⟩ = some (.int .i64 z) := by
  have hl := h.len
  obtain ⟨h1, h2⟩ := h
  obtain ⟨b, off, e, hlt, hc⟩ := h1.get (by omega)
  have hkl : k < l.length := by omega
  have hz := List.getElem?_eq_getElem hkl
  exact ⟨b, off, l[k], e, hlt, hz, h2 _ (List.getElem_mem hkl), hc _ _ (by simp [iv, hz])⟩
/-- A leaf in memory. -/
def LeafAt (w : World) (g : Nat) (cs : List Nd.Cell) : Prop := g < w.heap.size ∧ ∃ A n c, w.cell? ⟨g, 0, none⟩ = some (.slice A n c) ∧ Cs w A n c cs
/-- A branch in memory. -/
def BranchAt (w : World) (g : Nat) (ks : List (List Nat)) (ps : List Int) : Prop := g < w.heap.size ∧ ∃ A n c A' n' c', w.cell? ⟨g, 0, none⟩ = some (.slice A n c) ∧ w.cell? ⟨g, 1, none⟩ = some (.slice A' n' c') ∧ Ks w A n c ks ∧ Is w A' n' c' ps
theorem LeafAt.on {w w' : World} {g : Nat} {cs : List Nd.Cell} (h : LeafAt w g cs) (hb : Below w.heap.size w w') : LeafAt w' g cs := by
  obtain ⟨hg, A, n, c, h1, h2⟩ := h
  exact ⟨Nat.lt_of_lt_of_le hg hb.size, A, n, c, (hb.cell (p := ⟨g, 0, none⟩) (by exact hg)).trans h1, h2.on hb⟩
theorem BranchAt.on {w w' : World} {g : Nat} {ks : List (List Nat)} {ps : List Int} (h : BranchAt w g ks ps) (hb : Below w.heap.size w w') : BranchAt w' g ks ps := by
  obtain ⟨hg, A, n, c, A', n', c', h1, h2, h3, h4⟩ := h
  exact ⟨Nat.lt_of_lt_of_le hg hb.size, A, n, c, A', n', c', (hb.cell (p := ⟨g, 0, none⟩) (by exact hg)).trans h1, (hb.cell (p := ⟨g, 1, none⟩) (by exact hg)).trans h2, h3.on hb, h4.on hb⟩
theorem LeafAt.drewN {w : World} {g : Nat} {cs : List Nd.Cell} (h : LeafAt w g cs) (m : Nat) : LeafAt (w.drewN m) g cs := h.on (below_drewN (Below.refl _ _) m)
theorem BranchAt.drewN {w : World} {g : Nat} {ks : List (List Nat)} {ps : List Int} (h : BranchAt w g ks ps) (m : Nat) : BranchAt (w.drewN m) g ks ps := h.on (below_drewN (Below.refl _ _) m)
/-- A cell as a value. -/
def CV.v (x : CV) : Value := .agg #[x.k, x.i, .int .i64 x.s, .int .i64 x.h]
/-- What is answered lies in a new block of bytes. -/
def NewB (w w' : World) (A : Option Addr) : Prop := ∀ b off, A = some ⟨b, off, none⟩ → w.heap.size ≤ b ∧ ∃ cs m, w'.heap[b]? = some (.cells cs 5 m)
theorem NewB.of_own {w' : World} {base n : Nat} {v : Value} {xs : List Value} (h : w'.ownsRow base 5 1 v n xs) : ∀ b off, (match v with | .slice A _ _ => A | _ => none) = some ⟨b, off, none⟩ → base ≤ b ∧ ∃ cs m, w'.heap[b]? = some (.cells cs 5 m) := by
  intro b off hv
  rcases h.2 with ⟨rfl, _⟩ | ⟨g, cap, cur, rfl, hg, hc, _⟩
  · cases hv
  · injection hv with hv
    injection hv with hv
    subst hv
    exact ⟨hg, _, _, hc⟩

theorem NewB.low {w1 w w' : World} {A : Option Addr} (h : NewB w w' A) (hs : w1.heap.size ≤ w.heap.size) : NewB w1 w' A := fun b off e => ⟨Nat.le_trans hs (h b off e).1, (h b off e).2⟩
/-- The leaf stands, whatever is done to blocks below B. -/
def LeafOver (B : Nat) (w : World) (g : Nat) (cs : List Nd.Cell) : Prop := ∀ (S : Nat → Prop) (w' : World), Off S w w' → (∀ k, S k → k < B) → LeafAt w' g cs
def BranchOver (B : Nat) (w : World) (g : Nat) (ks : List (List Nat)) (ps : List Int) : Prop := ∀ (S : Nat → Prop) (w' : World), Off S w w' → (∀ k, S k → k < B) → BranchAt w' g ks ps
section
variable {B B' g : Nat} {w w1 : World} {cs : List Nd.Cell} {ks : List (List Nat)} {ps : List Int}
theorem LeafOver.at_ (h : LeafOver B w g cs) : LeafAt w g cs := h (fun _ => False) w (Off.refl _ _) fun _ h => h.elim
theorem LeafOver.on (h : LeafOver B w g cs) (hb : Below w.heap.size w w1) : LeafOver B w1 g cs := fun S w' ho hS => h S w' ((Off.of_below hb).trans ho) hS
theorem LeafOver.low (h : LeafOver B w g cs) (hB : B' ≤ B) : LeafOver B' w g cs := fun S w' ho hS => h S w' ho fun k hk => Nat.lt_of_lt_of_le (hS k hk) hB
theorem BranchOver.at_ (h : BranchOver B w g ks ps) : BranchAt w g ks ps := h (fun _ => False) w (Off.refl _ _) fun _ h => h.elim
theorem BranchOver.on (h : BranchOver B w g ks ps) (hb : Below w.heap.size w w1) : BranchOver B w1 g ks ps := fun S w' ho hS => h S w' ((Off.of_below hb).trans ho) hS
theorem BranchOver.low (h : BranchOver B w g ks ps) (hB : B' ≤ B) : BranchOver B' w g ks ps := fun S w' ho hS => h S w' ho fun k hk => Nat.lt_of_lt_of_le (hS k hk) hB
end
end Nn
end Go.Proofs.Ytmcldkcmialfeaa
namespace Go.Proofs.Ytmcldkcmialfeaa.Nn
open Go.RowKit
set_option linter.unusedVariables false

/-- A row of bytes. -/
def IsB (o : Obj) : Prop := ∃ cs, o = .cells cs 5 (0, 0)
/-- Of what there was, only rows of bytes from base on are touched. -/
structure Bf (base : Nat) (w w' : World) : Prop where
  below : Below base w w'
  kept : ∀ (k : Nat) (o : Obj), w.heap[k]? = some o → ¬ IsB o → w'.heap[k]? = some o
section
variable {base : Nat} {w w1 w2 : World}
theorem Bf.refl (base : Nat) (w : World) : Bf base w w := ⟨Below.refl _ _, fun _ _ h _ => h⟩
theorem Bf.trans (h : Bf base w w1) (h2 : Bf base w1 w2) : Bf base w w2 := ⟨h.below.trans h2.below, fun k o h0 hn => h2.kept k o (h.kept k o h0 hn) hn⟩
theorem Bf.of_below (h : Below w.heap.size w w1) (hb : base ≤ w.heap.size) : Bf base w w1 := ⟨h.mono hb, fun k o h0 _ => (h.block k (Array.getElem?_eq_some_iff.1 h0).1).trans h0⟩
theorem Bf.of_own {e n : Nat} {v : Value} {xs : List Value} (hown : w.ownsRow base 5 1 v n xs) (h : w.grownBy w1 v.ownBlock) (hb : base ≤ w.heap.size) : Bf base w w1 := by
  refine ⟨below_own (Below.refl _ _) hown h hb (Nat.le_refl _), fun k o h0 hn => ?_⟩
  refine (h.block k (Array.getElem?_eq_some_iff.1 h0).1 fun e => hn ?_).trans h0
  obtain ⟨cs, hc⟩ := own_type hown e.symm
  rw [hc] at h0
  injection h0 with h0
  exact ⟨cs, h0.symm⟩
theorem Bf.alloc (h : Bf base w w1) (hb : base ≤ w.heap.size) (o : Obj) : Bf base w (w1.alloc o) := h.trans (Bf.of_below ((Below.refl _ _).alloc (Nat.le_refl _) o) (Nat.le_trans hb h.below.size))
theorem Bf.size (h : Bf base w w1) : w.heap.size ≤ w1.heap.size := h.below.size
end
theorem be_drop (a k v : Nat) : (Nm.be (a + k) v).drop a = Nm.be k v := by
  induction a with
  | zero => simp
  | succ a ih => rw [show a + 1 + k = (a + k) + 1 by omega, be_cons, List.drop_succ_cons, ih]

set_option maxRecDepth 100000 in
set_option maxHeartbeats 400000 in
theorem putNumber_any (w : World) (base : Nat) (v : Value) (xs : List Nat) (n : Nat) (hown : w.ownsRow base 5 1 v n (bv xs)) (hbase : base ≤ w.heap.size) (hn : n ≤ 100000) (m : Nat) (hm : m < 4294967296) (k : Nat) (hk : k = 1 ∨ k = 2 ∨ k = 4) :
    Calls Try.prog 45 #[v, .int .i64 (m : Int), .int .i64 (k : Int)] w fun e w' => ∃ v', e = .returned v' ∧ w'.ownsRow base 5 1 v' (n + k) (bv (xs ++ Nm.be k m)) ∧ Bf base w w' := by
  obtain ⟨i0, hi, hz0, hz1, hz2⟩ := info_parts Try.info5
  have HE : Hid (IntKind.u32.wrap (m : Int) = (m : Int)) := by
    show _ = _
    rw [IntKind.wrap_u32]; omega
  have C := Lib.hid (fun W => put32_any W m hm)
  have HO := Lib.hid hown
  clear hown
  have hk4 : (k : Int) ≤ 4 := by omega
  have hk0 : (1 : Int) ≤ (k : Int) := by omega
  go_enter Try.func45, Try.ntmps45
  go_wp2_with fail
  try rw [HE.out]
  refine (C.out _).mono ?_
  rintro e w1 ⟨A, c, rfl, hbs, hbel⟩
  obtain ⟨b, off, rfl, hlt, _⟩ := hbs.2.2.2.2 (by omega)
  have hc4 := hbs.2.1
  have hcm := hbs.2.2.1
  unfold maxLen at hcm
  have O1 := own_on HO.out hbel
  have HB := Lib.hid hbel
  have hsz := hbel.size
  have cut : ∀ j, j < 4 → Bs w1 (some ⟨b, off + j, none⟩) (4 - j) (c - j) (Nm.be (4 - j) m) := by
    intro j hj
    have h := hbs.cut_far j hj
    have e := be_drop j (4 - j) m
    rw [show j + (4 - j) = 4 by omega] at e
    rwa [e] at h
  have h0 := hbs
  clear hbs hbel
  rcases hk with rfl | rfl | rfl
  · have hr := cut 3 (by omega)
    have hne : ¬ (c = 3) := by omega
    clear cut h0
    go_wp2_with (at_builtin; refine wpList_append_bs _ rfl _ _ 22 rfl base 5 i0 (.int .u8 0) Try.underlying22 hi hz0 hz1 hz2 rfl _ _ _ rfl O1 _ _ _ _ rfl hr (by omega) (by omega) ?_; intro v2 w2 O2 g2)
    go_ret
    rw [bv_app] at O2
    exact ⟨_, rfl, O2, (Bf.of_below HB.out hbase).trans (Bf.of_own (e := 0) O1 g2 (by omega))⟩
  · have hr := cut 2 (by omega)
    have hne : ¬ (c = 2) := by omega
    clear cut h0
    go_wp2_with (at_builtin; refine wpList_append_bs _ rfl _ _ 22 rfl base 5 i0 (.int .u8 0) Try.underlying22 hi hz0 hz1 hz2 rfl _ _ _ rfl O1 _ _ _ _ rfl hr (by omega) (by omega) ?_; intro v2 w2 O2 g2)
    go_ret
    rw [bv_app] at O2
    exact ⟨_, rfl, O2, (Bf.of_below HB.out hbase).trans (Bf.of_own (e := 0) O1 g2 (by omega))⟩
  · clear cut
    go_wp2_with (at_builtin; refine wpList_append_bs _ rfl _ _ 22 rfl base 5 i0 (.int .u8 0) Try.underlying22 hi hz0 hz1 hz2 rfl _ _ _ rfl O1 _ _ _ _ rfl h0 (by omega) (by omega) ?_; intro v2 w2 O2 g2)
    go_ret
    rw [bv_app] at O2
    exact ⟨_, rfl, O2, (Bf.of_below HB.out hbase).trans (Bf.of_own (e := 0) O1 g2 (by omega))⟩


end Go.Proofs.Ytmcldkcmialfeaa.Nn
namespace Go.Proofs.Ytmcldkcmialfeaa
open Go.RowKit
set_option linter.unusedVariables false

theorem drop_from {l : List Nat} {k x : Nat} (h : l[k]? = some x) : l.drop k = x :: l.drop (k + 1) := by
  obtain ⟨hk, rfl⟩ := List.getElem?_eq_some_iff.1 h
  exact List.drop_eq_getElem_cons hk
theorem lex_nil_left (l : List Nat) : Nm.lexLess [] l = decide (0 < l.length) := by cases l <;> simp [Nm.lexLess]
theorem lex_nil_right (l : List Nat) : Nm.lexLess l [] = false := by cases l <;> simp [Nm.lexLess]
theorem lex_cons_ne {x y : Nat} (r s : List Nat) (h : x ≠ y) : Nm.lexLess (x :: r) (y :: s) = decide (x < y) := by simp [Nm.lexLess, h]
theorem lex_cons_eq (x : Nat) (r s : List Nat) : Nm.lexLess (x :: r) (x :: s) = Nm.lexLess r s := by simp [Nm.lexLess]



theorem lex_cmp : ∀ (la lb : List Nat), (∀ x ∈ la, x < 256) → (∀ x ∈ lb, x < 256) → decide (Lib.compareBytes (Lib.bytesOf (la.map Int.ofNat)) (Lib.bytesOf (lb.map Int.ofNat)) < 0) = Nm.lexLess la lb
  | [], [], _, _ => by simp [Lib.bytesOf, Lib.compareBytes, Nm.lexLess]
  | [], y :: s, _, _ => by simp [Lib.bytesOf, Lib.compareBytes, Nm.lexLess]
  | x :: r, [], _, _ => by simp [Lib.bytesOf, Lib.compareBytes, Nm.lexLess]
  | x :: r, y :: s, h1, h2 => by
    have hx := h1 x (by simp)
    have hy := h2 y (by simp)
    have ih := lex_cmp r s (fun z hz => h1 z (by simp [hz])) (fun z hz => h2 z (by simp [hz]))
    have e : ∀ a b : Nat, a < 256 → b < 256 → ((Int.ofNat a).toNat.toUInt8 < (Int.ofNat b).toNat.toUInt8 ↔ a < b) := by
      intro a b ha hb
      rw [UInt8.lt_iff_toNat_lt]
      simp [Nat.toUInt8, UInt8.toNat_ofNat']
      omega
    have u : ∀ (z : Nat) (l : List Nat), Lib.bytesOf ((z :: l).map Int.ofNat) = (Int.ofNat z).toNat.toUInt8 :: Lib.bytesOf (l.map Int.ofNat) := fun z l => by simp [Lib.bytesOf]
    rw [u, u, Lib.compareBytes, Nm.lexLess]
    by_cases h : x < y
    · rw [if_pos ((e x y hx hy).2 h), if_neg (by omega)]
      simp [h]
    · rw [if_neg (fun h' => h ((e x y hx hy).1 h'))]
      by_cases h3 : y < x
      · rw [if_pos ((e y x hy hx).2 h3), if_neg (by omega)]
        simp [h]
      · rw [if_neg (fun h' => h3 ((e y x hy hx).1 h')), if_pos (by omega)]
        exact ih
theorem load_bs {P : Program} {w : World} {A : Option Addr} {n c : Nat} {l : List Nat} (h : Bs w A n c l) : (Extern.Bytes.bytesOf (.slice A n c)).run P w = .ok ⟨(Lib.bytesOf (l.map Int.ofNat)).toArray⟩ w := by
  obtain ⟨h1, h2, h3, h4, h5⟩ := h
  match A, h5 with
  | none, h5 =>
    have hn : n = 0 := by
      rcases Nat.eq_zero_or_pos n with h | h
      · exact h
      · obtain ⟨_, _, e, _⟩ := h5 h; cases e
    subst hn
    obtain rfl : l = [] := List.eq_nil_of_length_eq_zero h1
    rfl
  | some a, h5 =>
    have := Lib.run_loadBytesX (P := P) w (l.map Int.ofNat) a .empty (fun j v hj => by
      rw [List.getElem?_map] at hj
      cases hx : l[j]? with
      | none => rw [hx] at hj; cases hj
      | some x =>
        rw [hx] at hj
        simp only [Option.map_some, Option.some.injEq] at hj
        subst hj
        have hjl := (List.getElem?_eq_some_iff.1 hx).1
        obtain ⟨b, off, e, hlt, hc⟩ := h5 (by omega)
        injection e with e
        subst e
        have hplain : (⟨b, off, none⟩ : Addr).add j = ⟨b, off + j, none⟩ := by unfold Addr.add; split <;> simp_all
        rw [hplain]
        exact hc j x hx)
    rw [List.length_map, h1] at this
    show (Extern.Bytes.loadBytes a n .empty).run P w = _
    rw [this]
    congr 1
    apply ByteArray.ext
    simp [ByteArray.empty, ByteArray.emptyWithCapacity]
    rfl
set_option maxRecDepth 100000 in
theorem equal_any (w : World) (A A' : Option Addr) (n c n' c' : Nat) (la lb : List Nat) (ha : Bs w A n c la) (hb : Bs w A' n' c' lb) :
    Calls Try.prog 89 #[.slice A n c, .slice A' n' c'] w fun e w' => e = .returned (.bool (decide (la = lb))) ∧ w = w' := by
  have t1 := ha.text (P := Try.prog) 22 9 5 Try.underlying22 Try.underlying5 Try.underlying9
  have t2 := hb.text (P := Try.prog) 22 9 5 Try.underlying22 Try.underlying5 Try.underlying9
  have HE : Hid (((txt la).toList == (txt lb).toList) = decide (la = lb)) := by
    show _ = _
    rw [Bool.eq_iff_iff]
    simp only [beq_iff_eq, decide_eq_true_eq]
    refine ⟨fun h => txt_inj ha.2.2.2.1 hb.2.2.2.1 ?_, fun h => by rw [h]⟩
    apply ByteArray.ext
    rw [ByteArray.toList_eq, ByteArray.toList_eq] at h
    exact Array.toList_inj.1 h
  generalize decide (la = lb) = D at HE ⊢
  generalize txt la = ta at *
  generalize txt lb = tb at *
  clear ha hb
  go_enter Try.func89, Try.ntmps89
  go_wp2
  go_ret
  exact ⟨by rw [← HE.out]; rfl, rfl⟩
set_option maxRecDepth 100000 in
theorem hasPrefix_any (w : World) (A A' : Option Addr) (n c n' c' : Nat) (la lb : List Nat) (ha : Bs w A n c la) (hb : Bs w A' n' c' lb) :
    Calls Try.prog 88 #[.slice A n c, .slice A' n' c'] w fun e w' => e = .returned (.bool (decide (n' ≤ n ∧ la.take n' = lb))) ∧ w = w' := by
  have hm := ha.2.2.1
  have hm' := hb.2.2.1
  have hc := ha.2.1
  have hc' := hb.2.1
  unfold maxLen at hm hm'
  by_cases h : n' ≤ n
  · have C := Lib.hid (equal_any w _ _ _ _ _ _ _ _ (ha.first n' h) hb)
    rw [show decide (n' ≤ n ∧ la.take n' = lb) = decide (la.take n' = lb) from by simp [h]]
    generalize decide (la.take n' = lb) = D at C ⊢
    have d : decide ((n : Int) ≥ (n' : Int)) = true := by simp; omega
    clear ha hb
    go_enter Try.func88, Try.ntmps88
    go_wp2_with fail
    refine C.out.mono ?_
    rintro e w1 ⟨rfl, rfl⟩
    go_wp2
    go_ret
    exact ⟨rfl, rfl⟩
  · rw [show decide (n' ≤ n ∧ la.take n' = lb) = false from by simp [h]]
    have d : decide ((n : Int) ≥ (n' : Int)) = false := by simp; omega
    clear ha hb
    go_enter Try.func88, Try.ntmps88
    go_wp2
    go_ret
    exact ⟨rfl, rfl⟩
end Go.Proofs.Ytmcldkcmialfeaa
namespace Go.Proofs.Ytmcldkcmialfeaa.Nn
open Go.RowKit
set_option linter.unusedVariables false

theorem four_cells {w : World} {g t : Nat} {a0 a1 a2 a3 : Value} (h : w.heap[g]? = some (.cells #[a0, a1, a2, a3] t (0, 0))) : w.cell? ⟨g, 0, none⟩ = some a0 ∧ w.cell? ⟨g, 1, none⟩ = some a1 ∧ w.cell? ⟨g, 2, none⟩ = some a2 ∧ w.cell? ⟨g, 3, none⟩ = some a3 :=
  ⟨cell_of_row w g 0 _ _ (0, 0) h, cell_of_row w g 1 _ _ (0, 0) h, cell_of_row w g 2 _ _ (0, 0) h, cell_of_row w g 3 _ _ (0, 0) h⟩
theorem one_plain {c : Nd.Cell} (h : c.size = 0) : Nd.one c = c.key.length :: c.key ++ Nm.be 2 c.inl.length ++ c.inl := by
  unfold Nd.one Nd.val; rw [if_pos h]; simp [List.append_assoc]
theorem one_chain {c : Nd.Cell} (h : c.size ≠ 0) : Nd.one c = c.key.length :: c.key ++ Nm.be 2 c.size.toNat ++ Nm.be 4 c.head.toNat ++ Nm.be 2 0 := by
  unfold Nd.one Nd.val; rw [if_neg h]
  have e : Nm.be 2 0 = [0, 0] := by decide
  rw [e]; simp [List.append_assoc]


end Go.Proofs.Ytmcldkcmialfeaa.Nn
namespace Go.Proofs.Ytmcldkcmialfeaa.Nn
open Go.RowKit
set_option linter.unusedVariables false

/-- v lies in the block D, or nowhere. -/
def InD (D : Nat) (v : Value) : Prop := ∀ k, v.ownBlock = some k → k = D
theorem InD.nil_ (D : Nat) : InD D (.slice none 0 0) := fun k h => by cases h
/-- The reader at g has yet to read r, which lies in D. -/
structure Rd (w : World) (g D : Nat) (r : List Nat) : Prop where
  at_ : ∃ v, w.heap[g]? = some (.cells #[v] 105 (0, 0)) ∧ SlV w v r ∧ InD D v
  ne : D ≠ g
  dlt : D < w.heap.size
theorem Rd.off {S : Nat → Prop} {w w' : World} {g D : Nat} {r : List Nat} (h : Rd w g D r) (ho : Off S w w') (hg : ¬ S g) (hD : ¬ S D) : Rd w' g D r := by
  obtain ⟨⟨v, h1, h2, h3⟩, hne, hd⟩ := h
  exact ⟨⟨v, ho.at_ h1 hg, h2.off ho (fun k hk => by rw [h3 k hk]; exact hD), h3⟩, hne, Nat.lt_of_lt_of_le hd ho.size⟩
theorem Rd.on {w w' : World} {g D : Nat} {r : List Nat} (h : Rd w g D r) (hb : Below w.heap.size w w') : Rd w' g D r := h.off (S := fun _ => False) (Off.of_below hb) (fun h => h) (fun h => h)
theorem Rd.lt {w : World} {g D : Nat} {r : List Nat} (h : Rd w g D r) : g < w.heap.size := by obtain ⟨⟨v, h1, _⟩, _, _⟩ := h; exact (Array.getElem?_eq_some_iff.1 h1).1
theorem Rd.bytes {w : World} {g D : Nat} {r : List Nat} (h : Rd w g D r) : ∀ x ∈ r, x < 256 := by obtain ⟨⟨v, _, ⟨_, _, _, _, hb, _⟩, _⟩, _, _⟩ := h; exact hb.2.2.2.1
def At1 (g : Nat) : Nat → Prop := fun k => k = g
theorem set1 {w : World} {g t : Nat} {v0 : Value} (h : w.heap[g]? = some (.cells #[v0] t (0, 0))) (v : Value) : (w.setCell ⟨g, 0, none⟩ v).heap[g]? = some (.cells #[v] t (0, 0)) ∧ Off (At1 g) w (w.setCell ⟨g, 0, none⟩ v) := by
  refine ⟨?_, (Off.refl _ _).set v rfl⟩
  have := heap_setCell_same w g 0 #[v0] t v h
  simpa using this
theorem tk_short {n : Nat} {r : List Nat} (h : r.length < n) : Nd.tk n r = ([], []) := by unfold Nd.tk; rw [if_pos h]
theorem tk_long {n : Nat} {r : List Nat} (h : n ≤ r.length) : Nd.tk n r = (r.take n, r.drop n) := by unfold Nd.tk; rw [if_neg (by omega)]

/-- What is cut off at the front. -/
theorem bs_drop {w : World} {b off n c : Nat} {l : List Nat} (h : Bs w (some ⟨b, off, none⟩) n c l) (k : Nat) (hk : k ≤ n) : Bs w (if c = k then some ⟨b, off, none⟩ else some ⟨b, off + k, none⟩) (n - k) (c - k) (l.drop k) := by
  by_cases hn : k < n
  · have := h.2.1
    rw [if_neg (by omega)]
    exact h.cut_far k hn
  · have hkn : k = n := by omega
    have e : l.drop k = [] := List.drop_eq_nil_of_le (by rw [h.1]; omega)
    rw [e, show n - k = 0 by omega]
    exact Bs.nil_ _ _ _ (by have := h.2.2.1; omega)
theorem bs_front {w : World} {A : Option Addr} {n c : Nat} {l : List Nat} (h : Bs w A n c l) (k : Nat) (hk : k ≤ n) : Bs w A k k (l.take k) := by
  obtain ⟨h1, h2, h3, h4, h5⟩ := h.first k hk
  exact ⟨h1, Nat.le_refl _, by omega, h4, h5⟩

set_option maxRecDepth 100000 in
set_option maxHeartbeats 1000000 in
theorem take_any (w : World) (g D : Nat) (r : List Nat) (h : Rd w g D r) (m : Nat) (hm : m ≤ 100000) :
    Calls Try.prog 63 #[.pointer (some ⟨g, 0, none⟩), .int .i64 (m : Int)] w fun e w' => ∃ v, e = .returned v ∧ SlV w' v (Nd.tk m r).1 ∧ InD D v ∧ Rd w' g D (Nd.tk m r).2 ∧ Off (At1 g) w w' := by
  obtain ⟨⟨v0, hg, ⟨A, n, c, rfl, hb, hc⟩, hin⟩, hne, hdl⟩ := h
  have hn := hb.1
  have hnc := hb.2.1
  have c0 := cell_of_row w g 0 _ _ (0, 0) hg
  have fz := frozen_of_row w g 0 _ _ hg
  simp at c0
  have S1 := Lib.hid (fun v => set1 hg v)
  have HNE := Lib.hid hne
  have HIN := Lib.hid hin
  have HB := Lib.hid hb
  clear hb hg hne hin
  by_cases hlt : n < m
  · rw [tk_short (by omega)]
    have d : decide ((m : Int) > (n : Int)) = true := by simp; omega
    go_enter Try.func63, Try.ntmps63
    go_wp2
    go_ret
    obtain ⟨q1, q2⟩ := S1.out (.slice none 0 0)
    exact ⟨_, rfl, SlV.nil_ _, InD.nil_ _, ⟨⟨_, q1, SlV.nil_ _, InD.nil_ _⟩, HNE.out, Nat.lt_of_lt_of_le hdl q2.size⟩, q2⟩
  · rw [tk_long (by omega)]
    have d : decide ((m : Int) > (n : Int)) = false := by simp; omega
    have hmn : (m : Int) ≤ (n : Int) := by omega
    have hmc : (m : Int) ≤ (c : Int) := by omega
    have hncz : (n : Int) ≤ (c : Int) := by omega
    match A with
    | none =>
      have hn0 : n = 0 := by
        rcases Nat.eq_zero_or_pos n with h | h
        · exact h
        · obtain ⟨_, _, e, _⟩ := HB.out.2.2.2.2 h; cases e
      obtain rfl : m = 0 := by omega
      subst hn0
      go_enter Try.func63, Try.ntmps63
      go_wp2
      go_ret
      have hr0 : r = [] := List.eq_nil_of_length_eq_zero hn
      subst hr0
      obtain ⟨q1, q2⟩ := S1.out (.slice none 0 c)
      exact ⟨_, rfl, SlV.nil_ _, InD.nil_ _, ⟨⟨_, q1, ⟨none, 0, c, rfl, Bs.nil_ _ _ _ HB.out.2.2.1, hc⟩, fun k h => by cases h⟩, HNE.out, Nat.lt_of_lt_of_le hdl q2.size⟩, q2⟩
    | some a =>
      rcases Nat.eq_zero_or_pos n with hn0 | hn0
      · obtain rfl : m = 0 := by omega
        subst hn0
        go_enter Try.func63, Try.ntmps63
        go_wp2
        go_ret
        have hr0 : r = [] := List.eq_nil_of_length_eq_zero hn
        subst hr0
        obtain ⟨q1, q2⟩ := S1.out (.slice (some a) 0 c)
        refine ⟨_, rfl, ⟨some a, 0, 0, rfl, Bs.nil_ _ _ _ (Nat.zero_le _), by omega⟩, fun k h => HIN.out k h, ⟨⟨_, q1, ⟨some a, 0, c, rfl, Bs.nil_ _ _ _ HB.out.2.2.1, hc⟩, fun k h => HIN.out k h⟩, HNE.out, Nat.lt_of_lt_of_le hdl q2.size⟩, q2⟩
      · obtain ⟨b, off, e, _, _⟩ := HB.out.2.2.2.2 hn0
        injection e with e
        subst e
        have P1 := Lib.hid (bs_front HB.out m (by omega))
        have P2 := Lib.hid (bs_drop HB.out m (by omega))
        by_cases hcm : c = m
        · rw [if_pos hcm, show c - m = 0 by omega] at P2
          go_enter Try.func63, Try.ntmps63
          go_wp2
          go_ret
          obtain ⟨q1, q2⟩ := S1.out (.slice (some ⟨b, off, none⟩) (n - m) 0)
          have hD : ∀ a : Addr, some (⟨b, off, none⟩ : Addr) = some a → ¬ At1 g a.block := fun a e => by
            injection e with e
            subst e
            intro e
            exact HNE.out ((HIN.out b rfl).symm.trans e)
          exact ⟨_, rfl, ⟨_, _, _, rfl, bs_off P1.out q2 hD, by omega⟩, fun k h => HIN.out k h, ⟨⟨_, q1, ⟨_, _, _, rfl, bs_off P2.out q2 hD, by omega⟩, fun k h => HIN.out k h⟩, HNE.out, Nat.lt_of_lt_of_le hdl q2.size⟩, q2⟩
        · rw [if_neg hcm] at P2
          go_enter Try.func63, Try.ntmps63
          go_wp2
          go_ret
          obtain ⟨q1, q2⟩ := S1.out (.slice (some ⟨b, off + m, none⟩) (n - m) (c - m))
          have hD : ∀ (o : Nat) (a : Addr), some (⟨b, o, none⟩ : Addr) = some a → ¬ At1 g a.block := fun o a e => by
            injection e with e
            subst e
            intro e
            exact HNE.out ((HIN.out b rfl).symm.trans e)
          exact ⟨_, rfl, ⟨_, _, _, rfl, bs_off P1.out q2 (hD _), by omega⟩, fun k h => HIN.out k h, ⟨⟨_, q1, ⟨_, _, _, rfl, bs_off P2.out q2 (hD _), by omega⟩, fun k h => HIN.out k h⟩, HNE.out, Nat.lt_of_lt_of_le hdl q2.size⟩, q2⟩

theorem fromBe_snoc0 (l : List Nat) (j : Nat) : Nm.fromBe (l ++ List.replicate j 0) = Nm.fromBe l * 256 ^ j := by
  induction j with
  | zero => simp
  | succ j ih => rw [List.replicate_succ', ← List.append_assoc, Nm.fromBe_snoc, ih, Nat.pow_succ, Nat.mul_assoc]; rfl
theorem nb_get {k : Nat} {r : List Nat} (hk : k = 1 ∨ k = 2 ∨ k = 4) : Nm.fromBe (pad4 (Nd.tk k r).1) / 2 ^ (8 * (4 - k)) = (Nd.nb k r).1 := by
  have hp : (2 : Nat) ^ (8 * (4 - k)) = 256 ^ (4 - k) := by rw [Nat.pow_mul]
  unfold Nd.nb
  by_cases h : r.length < k
  · rw [tk_short h]
    have : Nm.fromBe (pad4 []) = 0 := by decide
    rw [this]; simp [Nm.fromBe]
  · rw [tk_long (by omega)]
    unfold pad4
    have hl : (r.take k).length = k := by rw [List.length_take]; omega
    rw [List.take_of_length_le (by rw [hl]; omega), hl, fromBe_snoc0, hp, Nat.mul_div_cancel _ (Nat.pow_pos (by omega))]

set_option maxRecDepth 100000 in
set_option maxHeartbeats 1000000 in
theorem number_any (w : World) (g D : Nat) (r : List Nat) (h : Rd w g D r) (k : Nat) (hk : k = 1 ∨ k = 2 ∨ k = 4) :
    Calls Try.prog 62 #[.pointer (some ⟨g, 0, none⟩), .int .i64 (k : Int)] w fun e w' => e = .returned (.int .i64 ((Nd.nb k r).1 : Int)) ∧ Rd w' g D (Nd.nb k r).2 ∧ Off (At1 g) w w' := by
  have C1 := Lib.hid (take_any w g D r h k (by omega))
  have hlt0 := (Nd.nb_lt (k := k) h.bytes).1
  have hlt : (Nd.nb k r).1 < 4294967296 := Nat.lt_of_lt_of_le hlt0 (by rw [← Nd.p4]; exact Nat.pow_le_pow_right (by omega) (by omega))
  have HG := Lib.hid (nb_get (r := r) hk)
  have e2 : (Nd.nb k r).2 = (Nd.tk k r).2 := rfl
  rw [e2]
  clear hlt0 e2 h
  go_enter Try.func62, Try.ntmps62
  go_wp2_with fail
  refine C1.out.mono ?_
  rintro e w1 ⟨v, rfl, ⟨A, n, c, rfl, hb, _⟩, hin, hrd, hof⟩
  have C2 := Lib.hid (get32_any w1 A n c _ hb)
  have HRD := Lib.hid hrd
  have HOF := Lib.hid hof
  have hlt4 := fromBe4_lt _ hb.2.2.2.1
  generalize Nm.fromBe (pad4 (Nd.tk k r).1) = z at *
  clear hb hin hrd hof C1
  go_wp2_with fail
  refine C2.out.mono ?_
  rintro e w2 ⟨rfl, b2⟩
  have RS := Lib.hid (And.intro (HRD.out.on b2) (HOF.out.trans (Off.of_below (S := At1 g) b2)))
  clear C2 b2 HRD HOF
  rcases hk with rfl | rfl | rfl
  · have h : z / 16777216 = _ := HG.out
    have h2 : (z : Int) / 16777216 = (((Nd.nb 1 r).1 : Nat) : Int) := by rw [← h]; omega
    have H2 := Lib.hid h2
    clear h h2 HG
    go_wp2
    go_ret
    exact ⟨by rw [← H2.out]; rfl, RS.out⟩
  · have h : z / 65536 = _ := HG.out
    have h2 : (z : Int) / 65536 = (((Nd.nb 2 r).1 : Nat) : Int) := by rw [← h]; omega
    have H2 := Lib.hid h2
    clear h h2 HG
    go_wp2
    go_ret
    exact ⟨by rw [← H2.out]; rfl, RS.out⟩
  · have h : z / 1 = _ := HG.out
    have h2 : (z : Int) = (((Nd.nb 4 r).1 : Nat) : Int) := by rw [← h]; omega
    have H2 := Lib.hid h2
    clear h h2 HG
    go_wp2
    go_ret
    exact ⟨by rw [← H2.out]; simp, RS.out⟩


end Go.Proofs.Ytmcldkcmialfeaa.Nn
namespace Go.Proofs.Ytmcldkcmialfeaa.Nn
open Go.RowKit
set_option linter.unusedVariables false

set_option maxRecDepth 100000 in
set_option maxHeartbeats 400000 in
theorem clone_any (w : World) (A : Option Addr) (n c : Nat) (l : List Nat) (h : Bs w A n c l) (hn : 0 < n) (hn9 : n ≤ 100000) :
    Calls Try.prog 65 #[.slice A n c] w fun e w' => ∃ g' c', e = .returned (.slice (some ⟨g', 0, none⟩) n c') ∧ Bs w' (some ⟨g', 0, none⟩) n c' l ∧ w.heap.size ≤ g' ∧ g' < w'.heap.size ∧ Below w.heap.size w w' := by
  obtain ⟨i0, hi, hz0, hz1, hz2⟩ := info_parts Try.info5
  obtain ⟨b, off, rfl, hlt, _⟩ := h.2.2.2.2 hn
  have HL := Lib.hid h.1
  have HLT := Lib.hid h.2.2.2.1
  have O0 := World.ownsRow_made (base := w.heap.size) (e := 5) (size := 1) w #[] 0 (Nat.le_refl _) (Nat.zero_le _) rfl
  have S0 := h.alloc (.cells #[] 5)
  have B0 : Below w.heap.size w (w.alloc (.cells #[] 5)) := (Below.refl _ _).alloc (Nat.le_refl _) _
  have hnil := fun W => Lib.run_eql_slice_nil (P := Try.prog) W 22 5 (some ⟨b, off, none⟩) n c 0 0 Try.underlying22
  clear h
  go_enter Try.func65, Try.ntmps65
  go_wp2_with (at_builtin; refine wpList_append_bs _ rfl _ _ 22 rfl w.heap.size 5 i0 (.int .u8 0) Try.underlying22 hi hz0 hz1 hz2 rfl _ _ _ rfl O0 _ _ _ _ rfl S0 (by omega) (by simp) ?_; intro v2 w2 O2 g2)
  have B2 := below_own B0 O0 g2 (by simp) (Nat.le_refl _)
  rw [Nat.zero_add, List.nil_append] at O2
  have hown := O2
  rcases hown.2 with ⟨_, h0⟩ | ⟨g', cap, cur, rfl, hb, hg, _⟩
  · omega
  · have R := own_bs O2 HL.out HLT.out
    clear O0 S0 B0 O2 g2 hown
    go_ret
    exact ⟨g', cap, rfl, R, hb, (Array.getElem?_eq_some_iff.1 hg).1, B2⟩

theorem just_iff {b t : List Nat} (h : t.length ≤ b.length) (h1 : b.take t.length = t) : b.drop t.length = List.replicate (b.length - t.length) 0 ↔ b = t ++ List.replicate (b.length - t.length) 0 := by
  constructor
  · intro h2
    conv => lhs; rw [← List.take_append_drop t.length b, h1, h2]
  · intro h2
    have := congrArg (List.drop t.length) h2
    rw [List.drop_left] at this
    exact this
theorem made_zero (m : Nat) : madeCells (Value.int .u8 0).cells m = (bv (List.replicate m 0)).toArray := by
  apply Array.ext
  · simp [madeCells, bv]
  · intro i h1 h2
    simp [madeCells, Value.cells, Nat.mod_one, bv]
/-- Bytes that are these, and then 0. -/
def Just (b t : List Nat) : Prop := 0 < t.length ∧ t.length ≤ b.length ∧ b = t ++ List.replicate (b.length - t.length) 0
instance (b t : List Nat) : Decidable (Just b t) := inferInstanceAs (Decidable (_ ∧ _))

set_option maxRecDepth 100000 in
set_option maxHeartbeats 2000000 in
theorem saysJust_any (w : World) (A A' : Option Addr) (n c n' c' : Nat) (b t : List Nat) (ha : Bs w A n c b) (hb : Bs w A' n' c' t) (hn9 : n ≤ 100000) :
    Calls Try.prog 64 #[.slice A n c, .slice A' n' c'] w fun e w' => e = .returned (.bool (decide (Just b t))) ∧ Below w.heap.size w w' := by
  obtain ⟨i0, hi, hz0, hz1, hz2⟩ := info_parts Try.info5
  have hl := ha.1
  have hl' := hb.1
  have hc := ha.2.1
  have hc9 := ha.2.2.1
  have hc9' := hb.2.2.1
  have hcc' := hb.2.1
  unfold maxLen at hc9 hc9'
  have CP := Lib.hid (fun (W : World) (hW : Below w.heap.size w W) => hasPrefix_any W A A' n c n' c' b t (ha.on hW) (hb.on hW))
  have BD := Lib.hid (fun m => below_drewN (Below.refl w.heap.size w) m)
  by_cases h0 : n' = 0
  · have d0 : decide ((n' : Int) > 0) = false := by simp; omega
    have e : decide (Just b t) = false := by rw [decide_eq_false_iff_not]; unfold Just; omega
    have HE := Lib.hid e
    clear e ha hb
    go_enter Try.func64, Try.ntmps64
    go_wp2_with fail
    go_quiet (fail)
    go_wp2
    go_ret
    exact ⟨by rw [HE.out]; rfl, BD.out _⟩
  · have d0 : decide ((n' : Int) > 0) = true := by simp; omega
    by_cases h1 : n' ≤ n ∧ b.take n' = t
    · obtain ⟨h1, h2⟩ := h1
      have E := Lib.hid (just_iff (b := b) (t := t) (by omega) (by rw [hl']; exact h2))
      have hd1 : decide (n' ≤ n ∧ b.take n' = t) = true := decide_eq_true ⟨h1, h2⟩
      rw [hd1] at CP
      obtain ⟨bb, off, rfl, hlt, _⟩ := ha.2.2.2.2 (by omega)
      have HE : Hid (decide (Just b t) = decide (b.drop n' = List.replicate (n - n') 0)) := by
        show _ = _
        have e := E.out
        rw [hl, hl'] at e
        rw [decide_eq_decide]
        unfold Just
        rw [hl, hl', e]
        exact ⟨fun h => h.2.2, fun h => ⟨by omega, by omega, h⟩⟩
      have HD := Lib.hid (bs_drop ha n' h1)
      obtain ⟨m, rfl⟩ : ∃ m, n = n' + m := ⟨n - n', by omega⟩
      rw [show n' + m - n' = m by omega] at HD HE
      have hm9 : m ≤ 100000 := by omega
      have hpos : 0 < n' := by omega
      have b1 : (n' : Int) ≤ (n' : Int) + (m : Int) := by omega
      have b2 : (n' : Int) + (m : Int) ≤ (c : Int) := by omega
      have hmk : ∀ W : World, (Instr.makeSlice 22 (.int .i64 (m : Int)) (.int .i64 (m : Int))).run Try.prog W = .ok (.slice (some ⟨W.heap.size, 0, none⟩) m m) (W.alloc (.cells (bv (List.replicate m 0)).toArray 5)) := by
        intro W
        have h := run_make (P := Try.prog) W 22 5 i0 (.int .u8 0) Try.underlying22 hi hz0 .i64 .i64 (m : Int) (m : Int) (by omega) (Int.le_refl _) (by rw [hz2]; omega) (by omega)
        rw [h, hz1]
        simp only [Int.toNat_natCast, Nat.mul_one]
        rw [made_zero]
      have hw1 : IntKind.i64.wrap ((n' : Int) + (m : Int) - (n' : Int)) = (m : Int) := by rw [IntWalk.i64_in _ ⟨by omega, by omega⟩]; omega
      have ZB : ∀ W : World, Bs (W.alloc (.cells (bv (List.replicate m 0)).toArray 5)) (some ⟨W.heap.size, 0, none⟩) m m (List.replicate m 0) := by
        intro W
        have h : Row (W.alloc (.cells (bv (List.replicate m 0)).toArray 5)) W.heap.size (List.replicate m 0) := heap_alloc_new W _
        have := h.bs (fun x hx => by have := List.eq_of_mem_replicate hx; omega) (by rw [List.length_replicate]; unfold maxLen; omega)
        rwa [List.length_replicate] at this
      have HZB := Lib.hid ZB
      clear E hd1 h2 ha hb ZB
      by_cases hcn : c = n'
      · subst hcn
        have hbd : b.drop c = [] := List.drop_eq_nil_of_le (by omega)
        rw [hbd] at HE
        have CQ := Lib.hid (equal_any ((w.alloc (.cells (bv (List.replicate m 0)).toArray 5)).drew) _ _ _ _ _ _ _ _ (Bs.nil_ _ (some ⟨bb, off, none⟩) 0 (Nat.zero_le _)) (Bs.drew (HZB.out w)))
        have BA : Hid (Below w.heap.size w ((w.alloc (.cells (bv (List.replicate m 0)).toArray 5)).drew)) := ((Below.refl w.heap.size w).alloc (Nat.le_refl _) _).drew
        generalize (bv (List.replicate m 0)).toArray = ZC at *
        generalize decide ([] = List.replicate m 0) = DD at *
        clear HD hbd
        clear HZB
        go_enter Try.func64, Try.ntmps64
        go_wp2_with fail
        go_region_held3 (fun _ => True) (trivial) (first
          | (go_at_call 88; refine (CP.out _ (by first | exact below_drewN (Below.refl _ _) _ | exact Below.refl _ _ | assumption)).mono ?_; rintro e w2 ⟨rfl, rfl⟩)
          | (go_at_call 89; refine CQ.out.mono ?_; rintro e w2 ⟨rfl, rfl⟩))
        all_goals
          go_wp2
          go_ret
          exact ⟨by rw [HE.out]; rfl, BA.out⟩
      · rw [if_neg hcn] at HD
        have CQ := Lib.hid (equal_any ((w.alloc (.cells (bv (List.replicate m 0)).toArray 5)).drew) _ _ _ _ _ _ _ _ (Bs.drew (Bs.alloc HD.out _)) (Bs.drew (HZB.out w)))
        have BA : Hid (Below w.heap.size w ((w.alloc (.cells (bv (List.replicate m 0)).toArray 5)).drew)) := ((Below.refl w.heap.size w).alloc (Nat.le_refl _) _).drew
        generalize (bv (List.replicate m 0)).toArray = ZC at *
        generalize decide (b.drop n' = List.replicate m 0) = DD at *
        clear HZB
        go_enter Try.func64, Try.ntmps64
        go_wp2_with fail
        go_region_held3 (fun _ => True) (trivial) (first
          | (go_at_call 88; refine (CP.out _ (by first | exact below_drewN (Below.refl _ _) _ | exact Below.refl _ _ | assumption)).mono ?_; rintro e w2 ⟨rfl, rfl⟩)
          | (go_at_call 89; refine CQ.out.mono ?_; rintro e w2 ⟨rfl, rfl⟩))
        all_goals
          go_wp2
          go_ret
          exact ⟨by rw [HE.out]; rfl, BA.out⟩
    · have e : decide (Just b t) = false := by
        rw [decide_eq_false_iff_not]
        rintro ⟨_, h3, h4⟩
        refine h1 ⟨by omega, ?_⟩
        rw [h4, ← hl', List.take_left]
      have HE := Lib.hid e
      rw [decide_eq_false h1] at CP
      clear e h1 ha hb
      go_enter Try.func64, Try.ntmps64
      go_wp2_with fail
      have hpos : 0 < n' := by omega
      go_quiet ((first | (go_at_call 88; exact Calls.quiet_of_same ((CP.out _ (by first | exact below_drewN (Below.refl _ _) _ | exact Below.refl _ _)).mono fun _ _ h => ⟨h.1, h.2.symm⟩))))
      go_wp2
      go_ret
      exact ⟨by rw [HE.out]; rfl, BD.out _⟩
end Go.Proofs.Ytmcldkcmialfeaa.Nn
namespace Go.Proofs.Ytmcldkcmialfeaa.Nn
open Go.RowKit
set_option linter.unusedVariables false

theorem linkOf_yes {next : Int} {b : List Nat} (h : Nd.LMay next b) : Nd.linkOf next b = Nd.link next b := if_pos h
theorem linkOf_no {next : Int} {b : List Nat} (h : ¬ Nd.LMay next b) : Nd.linkOf next b = [] := if_neg h

set_option maxRecDepth 100000 in
set_option maxHeartbeats 1000000 in
theorem plink_new (w : World) (next : Int) (A : Option Addr) (n c : Nat) (b : List Nat) (h : Bs w A n c b) :
    Calls Try.prog 29 #[.int .i64 next, .slice A n c] w fun e w' => (∃ A' n' c', e = .returned (.slice A' n' c') ∧ Bs w' A' n' c' (Nd.linkOf next b) ∧ NewB w w' A') ∧ Below w.heap.size w w' := by
  obtain ⟨i0, hi, hz0, hz1, hz2⟩ := info_parts Try.info5
  have hl := h.1
  have hlt := h.2.2.2.1
  by_cases hm : Nd.LMay next b
  · rw [linkOf_yes hm]
    have HLT := Lib.hid (Nd.link_lt (next := next) hlt)
    have HLL := Lib.hid (Nd.link_len next b)
    obtain ⟨⟨m1, m2⟩, m3, m4⟩ := hm
    rw [hl] at m1 m2
    obtain ⟨z, rfl⟩ := Int.eq_ofNat_of_zero_le m3
    have d1 : ((n : Int) == 0) = false := by simp; omega
    have d2 : decide ((n : Int) > 1010) = false := by simp; omega
    have d3 : decide ((z : Int) < 0) = false := by simp
    have d4 : decide ((z : Int) > 2147483647) = false := by simp; omega
    have C1 := Lib.hid (putNumber_any w w.heap.size (.slice none 0 0) [] 0 (World.ownsRow_nil _ _ _ _) (Nat.le_refl _) (by omega) z (by omega) 4 (.inr (.inr rfl)))
    have HS := Lib.hid h
    clear h hlt
    go_enter Try.func29, Try.ntmps29
    go_wp2_with fail
    refine C1.out.mono ?_
    rintro e w1 ⟨v1, rfl, O1, F1⟩
    have hs1 := F1.size
    have C2 := Lib.hid (putNumber_any w1 w.heap.size v1 _ _ O1 hs1 (by omega) n (by omega) 2 (.inr (.inl rfl)))
    clear C1 O1
    go_wp2_with fail
    refine C2.out.mono ?_
    rintro e w2 ⟨v2, rfl, O2, F2⟩
    have hs2 := F2.size
    have s2 := HS.out.below (F1.trans F2).below (Nat.le_refl _)
    clear C2
    go_wp2_with (at_builtin; refine wpList_append_bs _ rfl _ _ 22 rfl w.heap.size 5 i0 (.int .u8 0) Try.underlying22 hi hz0 hz1 hz2 rfl _ _ _ rfl O2 _ _ _ _ rfl s2 (by omega) (by omega) ?_; intro v3 w3 O3 g3)
    have F3 := (F1.trans F2).trans (Bf.of_own (e := 0) O2 g3 (by omega))
    have e1 : Nd.link (z : Int) b = [] ++ Nm.be 4 z ++ Nm.be 2 n ++ b := by unfold Nd.link; rw [hl]; simp [List.append_assoc]
    have e2 : 0 + 4 + 2 + n = (Nd.link (z : Int) b).length := by rw [HLL.out, hl]
    rw [bv_app, ← e1, e2] at O3
    have HN := Lib.hid (NewB.of_own O3)
    obtain ⟨A3, c3, rfl, r3⟩ := Bs.of_own O3 HLT.out
    clear O2 O3 g3 s2 e1 e2
    go_ret
    exact ⟨⟨_, _, _, rfl, r3, fun b off h => HN.out b off (by rw [h])⟩, F3.below⟩
  · rw [linkOf_no hm]
    have hP : ¬ ((1 ≤ n ∧ n ≤ 1010) ∧ 0 ≤ next ∧ next ≤ 2147483647) := by unfold Nd.LMay at hm; rwa [hl] at hm
    clear hm h hlt
    by_cases h1 : n = 0
    · have d1 : ((n : Int) == 0) = true := by simp [h1]
      clear hP h1
      go_enter Try.func29, Try.ntmps29
      go_wp2
      go_ret
      exact ⟨⟨_, _, _, rfl, Bs.nil_ _ _ _ (Nat.zero_le _), fun b off h => by cases h⟩, Below.refl _ _⟩
    · have d1 : ((n : Int) == 0) = false := by simp [h1]
      by_cases h2 : 1010 < n
      · have d2 : decide ((n : Int) > 1010) = true := by simp; omega
        clear hP
        go_enter Try.func29, Try.ntmps29
        go_wp2
        go_ret
        exact ⟨⟨_, _, _, rfl, Bs.nil_ _ _ _ (Nat.zero_le _), fun b off h => by cases h⟩, Below.refl _ _⟩
      · have d2 : decide ((n : Int) > 1010) = false := by simp; omega
        by_cases h3 : next < 0
        · have d3 : decide (next < 0) = true := by simpa using h3
          clear hP
          go_enter Try.func29, Try.ntmps29
          go_wp2
          go_ret
          exact ⟨⟨_, _, _, rfl, Bs.nil_ _ _ _ (Nat.zero_le _), fun b off h => by cases h⟩, Below.refl _ _⟩
        · have d3 : decide (next < 0) = false := by simpa using h3
          have d4 : decide (next > 2147483647) = true := by simp; omega
          clear hP
          go_enter Try.func29, Try.ntmps29
          go_wp2
          go_ret
          exact ⟨⟨_, _, _, rfl, Bs.nil_ _ _ _ (Nat.zero_le _), fun b off h => by cases h⟩, Below.refl _ _⟩

theorem plink_any (w : World) (next : Int) (A : Option Addr) (n c : Nat) (b : List Nat) (h : Bs w A n c b) :
    Calls Try.prog 29 #[.int .i64 next, .slice A n c] w fun e w' => (∃ A' n' c', e = .returned (.slice A' n' c') ∧ Bs w' A' n' c' (Nd.linkOf next b)) ∧ Below w.heap.size w w' :=
  (plink_new w next A n c b h).mono fun e w' ⟨⟨A', n', c', h1, h2, _⟩, h3⟩ => ⟨⟨A', n', c', h1, h2⟩, h3⟩

/-- What is told of bytes as a chain's page. -/
def lz (b : List Nat) : Nat := if Nd.LSays b then Nd.lnext b else 0
def ll (b : List Nat) : List Nat := if Nd.LSays b then Nd.lbytes b else []
def lk (b : List Nat) : Nat := if Nd.LSays b then 0 else 5
theorem just_link {b : List Nat} (hb : b.length = 1016) (hlt : ∀ x ∈ b, x < 256) :
    Just b (Nd.linkOf ((Nd.nb 4 b).1 : Int) (Nd.tk (Nd.nb 2 (Nd.nb 4 b).2).1 (Nd.nb 2 (Nd.nb 4 b).2).2).1) ↔ Nd.LSays b := by
  have t4 : Nd.tk 4 b = (b.take 4, b.drop 4) := tk_long (by omega)
  have t2 : Nd.tk 2 (b.drop 4) = ((b.drop 4).take 2, b.drop 6) := by rw [tk_long (by rw [List.length_drop]; omega), List.drop_drop]
  have e4 : Nd.nb 4 b = (Nd.lnext b, b.drop 4) := by unfold Nd.nb; rw [t4]; rfl
  have e2 : Nd.nb 2 (b.drop 4) = (Nd.lcount b, b.drop 6) := by unfold Nd.nb; rw [t2]; rfl
  rw [e4]
  simp only
  rw [e2]
  simp only
  by_cases hc : Nd.lcount b ≤ 1010
  · rw [tk_long (by rw [List.length_drop]; omega)]
    simp only
    have e : (b.drop 6).take (Nd.lcount b) = Nd.lbytes b := rfl
    rw [e]
    by_cases hm : Nd.LMay (Nd.lnext b : Int) (Nd.lbytes b)
    · rw [linkOf_yes hm]
      have h1 := Nd.link_len (Nd.lnext b : Int) (Nd.lbytes b)
      have h2 := hm.1.2
      unfold Just Nd.LSays Nd.linkFull
      rw [hb, h1]
      exact ⟨fun x => ⟨rfl, hm, x.2.2.symm⟩, fun x => ⟨by omega, by omega, x.2.2.symm⟩⟩
    · rw [linkOf_no hm]
      unfold Just Nd.LSays
      simp [hm]
  · rw [tk_short (by rw [List.length_drop]; omega)]
    simp only
    have hm : ¬ Nd.LMay (Nd.lnext b : Int) [] := by unfold Nd.LMay; simp
    rw [linkOf_no hm]
    have : ¬ Nd.LSays b := fun h => by have := ((Nd.lsays_iff hb hlt).1 h).1.1.2; omega
    unfold Just
    simp [this]
theorem link_parts {b : List Nat} (hb : b.length = 1016) (h : Nd.LSays b) (hlt : ∀ x ∈ b, x < 256) : (Nd.nb 4 b).1 = Nd.lnext b ∧ (Nd.tk (Nd.nb 2 (Nd.nb 4 b).2).1 (Nd.nb 2 (Nd.nb 4 b).2).2).1 = Nd.lbytes b := by
  have t4 : Nd.tk 4 b = (b.take 4, b.drop 4) := tk_long (by omega)
  have t2 : Nd.tk 2 (b.drop 4) = ((b.drop 4).take 2, b.drop 6) := by rw [tk_long (by rw [List.length_drop]; omega), List.drop_drop]
  have e4 : Nd.nb 4 b = (Nd.lnext b, b.drop 4) := by unfold Nd.nb; rw [t4]; rfl
  have e2 : Nd.nb 2 (b.drop 4) = (Nd.lcount b, b.drop 6) := by unfold Nd.nb; rw [t2]; rfl
  rw [e4]
  simp only
  rw [e2]
  simp only
  have hc := ((Nd.lsays_iff hb hlt).1 h).1.1.2
  rw [tk_long (by rw [List.length_drop]; omega)]
  exact ⟨trivial, rfl⟩

set_option maxRecDepth 100000 in
set_option maxHeartbeats 1000000 in
theorem fromLink_any (w : World) (A : Option Addr) (n c : Nat) (b : List Nat) (h : Bs w A n c b) :
    Calls Try.prog 49 #[.slice A n c] w fun e w' => (∃ A' n' c', e = .returned (.tuple #[.int .i64 (lz b : Int), .slice A' n' c', .int .i64 (lk b : Int)]) ∧ Bs w' A' n' c' (ll b)) ∧ Below w.heap.size w w' := by
  have hb := h.1
  have hlt := h.2.2.2.1
  by_cases hn : n = 1016
  · subst hn
    obtain ⟨D, off, rfl, hD, _⟩ := h.2.2.2.2 (by omega)
    have HJ := Lib.hid (just_link hb hlt)
    have HPT := Lib.hid (fun hs => link_parts hb hs hlt)
    have rd0 : Rd (w.alloc (.cells #[.slice (some ⟨D, off, none⟩) 1016 c] 105)) w.heap.size D b :=
      ⟨⟨_, heap_alloc_new w _, ⟨_, _, _, rfl, h.alloc _, by omega⟩, fun k hk => by simpa [Value.ownBlock] using hk.symm⟩, by omega, by simp; omega⟩
    have C1 := Lib.hid (number_any _ _ _ _ rd0 4 (.inr (.inr rfl)))
    have B0 : Below w.heap.size w (w.alloc (.cells #[.slice (some ⟨D, off, none⟩) 1016 c] 105)) := (Below.refl _ _).alloc (Nat.le_refl _) _
    have HB0 := Lib.hid B0
    have HS := Lib.hid h
    have hz4 := (Nd.nb_lt (k := 4) hlt).1
    rw [Nd.p4] at hz4
    have hz2 := (Nd.nb_lt (k := 2) (Nd.nb_lt (k := 4) hlt).2).1
    rw [Nd.p2] at hz2
    have hs0 := B0.size
    clear h rd0 B0 hlt
    go_enter Try.func49, Try.ntmps49
    go_wp2_with fail
    refine C1.out.mono ?_
    rintro e w1 ⟨rfl, rd1, of1⟩
    have hg : ∀ k, At1 w.heap.size k → w.heap.size ≤ k := fun k hk => Nat.le_of_eq (Eq.symm hk)
    have B1 := HB0.out.trans (of1.below hg hs0)
    have hs1 := B1.size
    have C2 := Lib.hid (number_any _ _ _ _ rd1 2 (.inr (.inl rfl)))
    clear C1 rd1 of1 HB0
    go_wp2_with fail
    refine C2.out.mono ?_
    rintro e w2 ⟨rfl, rd2, of2⟩
    have B2 := B1.trans (of2.below hg hs1)
    have hs2 := B2.size
    have C3 := Lib.hid (take_any _ _ _ _ rd2 (Nd.nb 2 (Nd.nb 4 b).2).1 (by omega))
    clear C2 rd2 of2 B1
    go_wp2_with fail
    refine C3.out.mono ?_
    rintro e w3 ⟨v3, rfl, ⟨A3, n3, c3, rfl, r3, hn3⟩, _, _, of3⟩
    have B3 := B2.trans (of3.below hg hs2)
    have hs3 := B3.size
    have hl3 := (Nd.tk_len (Nd.nb 2 (Nd.nb 4 b).2).1 (Nd.nb 2 (Nd.nb 4 b).2).2).1
    have hn3' : n3 ≤ 100000 := by have := r3.1; omega
    generalize hpart : (Nd.tk (Nd.nb 2 (Nd.nb 4 b).2).1 (Nd.nb 2 (Nd.nb 4 b).2).2).1 = part at *
    have HP := Lib.hid hpart
    have C4 := Lib.hid (plink_any w3 ((Nd.nb 4 b).1 : Int) _ _ _ _ r3)
    have HR3 := Lib.hid r3
    clear C3 of3 B2 r3 hpart hl3
    go_wp2_with fail
    refine C4.out.mono ?_
    rintro e w4 ⟨⟨A4, n4, c4, rfl, r4⟩, b4⟩
    have B4 := B3.trans (b4.mono hs3)
    have C5 := Lib.hid (saysJust_any w4 _ _ _ _ _ _ _ _ (HS.out.below B4 (Nat.le_refl _)) r4 (by omega))
    have r3' := HR3.out.on b4
    clear C4 HR3 B3 r4 b4
    go_wp2_with fail
    refine C5.out.mono ?_
    rintro e w5 ⟨rfl, b5⟩
    have B5 := B4.trans (b5.mono B4.size)
    have r5 := r3'.on b5
    clear C5 r3' B4 b5
    by_cases hs : Nd.LSays b
    · have hp := HPT.out hs
      have hpl : 0 < n3 := by
        have h1 := hs.2.1.1.1
        rw [← hp.2] at h1
        have := r5.1
        omega
      have C6 := Lib.hid (clone_any w5 _ _ _ _ r5 hpl hn3')
      rw [decide_eq_true (HJ.out.2 hs)]
      have HE : Hid (lz b = (Nd.nb 4 b).1 ∧ ll b = part ∧ lk b = 0) := ⟨by unfold lz; rw [if_pos hs, hp.1], by unfold ll; rw [if_pos hs]; exact hp.2.symm, if_pos hs⟩
      clear r5 hp hs HJ HPT
      go_wp2_with fail
      refine C6.out.mono ?_
      rintro e w6 ⟨g6, c6, rfl, r6, _, _, b6⟩
      have B6 := B5.trans (b6.mono B5.size)
      clear C6 b6
      go_wp2
      go_ret3
      obtain ⟨h1, h2, h3⟩ := HE.out
      exact ⟨⟨_, _, _, by rw [h1, h3]; rfl, by rw [h2]; exact r6⟩, B6⟩
    · rw [decide_eq_false fun h' => hs (HJ.out.1 h')]
      have HE : Hid (lz b = 0 ∧ ll b = [] ∧ lk b = 5) := ⟨if_neg hs, if_neg hs, if_neg hs⟩
      clear r5 hs HJ HPT
      go_wp2
      go_ret3
      obtain ⟨h1, h2, h3⟩ := HE.out
      exact ⟨⟨_, _, _, by rw [h1, h3]; rfl, by rw [h2]; exact Bs.nil_ _ _ _ (Nat.zero_le _)⟩, B5⟩
  · have d : ((n : Int) != 1016) = true := by simp; omega
    have hs : ¬ Nd.LSays b := fun h' => hn (hb.symm.trans h'.1)
    have HE : Hid (lz b = 0 ∧ ll b = [] ∧ lk b = 5) := ⟨if_neg hs, if_neg hs, if_neg hs⟩
    clear h hs hlt
    go_enter Try.func49, Try.ntmps49
    go_wp2
    go_ret3
    obtain ⟨h1, h2, h3⟩ := HE.out
    exact ⟨⟨_, _, _, by rw [h1, h3]; rfl, by rw [h2]; exact Bs.nil_ _ _ _ (Nat.zero_le _)⟩, Below.refl _ _⟩
end Go.Proofs.Ytmcldkcmialfeaa.Nn
