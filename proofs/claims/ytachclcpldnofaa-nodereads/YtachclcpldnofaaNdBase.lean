/-
  Rows of cells, of keys and of kids, as the memory has them.
-/
import Derived.Test.YtachclcpldnofaaOffB
import Derived.Test.YtachclcpldnofaaAppZero
import Derived.Test.YtachclcpldnofaaNdMay
namespace Go.Proofs.Ytachclcpldnofaa
open Go.RowKit
set_option linter.unusedVariables false

theorem bs_off {S : Nat → Prop} {w w' : World} {A : Option Addr} {n c : Nat} {l : List Nat} (h : Bs w A n c l) (ho : Off S w w') (hn : ∀ a, A = some a → ¬ S a.block) : Bs w' A n c l := by
  obtain ⟨h1, h2, h3, h4, h5⟩ := h
  refine ⟨h1, h2, h3, h4, fun hp => ?_⟩
  obtain ⟨b, off, e, hlt, hc⟩ := h5 hp
  have hk : w'.heap[b]? = w.heap[b]? := ho.block b hlt (hn _ e)
  refine ⟨b, off, e, Nat.lt_of_lt_of_le hlt ho.size, fun j x hx => ?_⟩
  have := hc j x hx
  unfold World.cell? at *
  simp only at *
  rw [hk]
  exact this
namespace Nn
def I64 (z : Int) : Prop := -9223372036854775808 ≤ z ∧ z ≤ 9223372036854775807
/-- The slice value '.slice A n c' of elements of s cells each reads as the cells vs. -/
def Rw (w : World) (A : Option Addr) (n c s : Nat) (vs : List Value) : Prop :=
  vs.length = n * s ∧ n ≤ c ∧ c ≤ maxLen ∧
  (0 < n → ∃ b off, A = some ⟨b, off, none⟩ ∧ b < w.heap.size ∧ ∀ (j : Nat) (v : Value), vs[j]? = some v → w.cell? ⟨b, off + j, none⟩ = some v)
section
variable {w w' : World} {A : Option Addr} {n c s : Nat} {vs : List Value}
theorem Rw.off {S : Nat → Prop} (h : Rw w A n c s vs) (ho : Off S w w') (hn : ∀ a, A = some a → ¬ S a.block) : Rw w' A n c s vs := by
  obtain ⟨h1, h2, h3, h5⟩ := h
  refine ⟨h1, h2, h3, fun hp => ?_⟩
  obtain ⟨b, off, e, hlt, hc⟩ := h5 hp
  have hk : w'.heap[b]? = w.heap[b]? := ho.block b hlt (hn _ e)
  refine ⟨b, off, e, Nat.lt_of_lt_of_le hlt ho.size, fun j x hx => ?_⟩
  have := hc j x hx
  unfold World.cell? at *
  simp only at *
  rw [hk]
  exact this
theorem Rw.on (h : Rw w A n c s vs) (hb : Below w.heap.size w w') : Rw w' A n c s vs := h.off (S := fun _ => False) (Off.of_below hb) fun _ _ h => h
theorem Rw.nil_ (w : World) (A : Option Addr) (c s : Nat) (hc : c ≤ maxLen) : Rw w A 0 c s [] := ⟨by simp, Nat.zero_le _, hc, fun h => absurd h (by omega)⟩
theorem Rw.of_own {base e : Nat} {v : Value} (hs : 0 < s) (h : w.ownsRow base e s v n vs) : ∃ A c, v = .slice A n c ∧ Rw w A n c s vs := by
  rcases h.2 with ⟨hv, h0⟩ | ⟨g, cap, cur, hv, _, hg, hnc, hcm, hcs, ht⟩
  · subst h0
    have : vs = [] := List.eq_nil_of_length_eq_zero (by have := h.1; omega)
    subst this
    exact ⟨none, 0, hv, Rw.nil_ _ _ _ _ (by unfold maxLen; omega)⟩
  · refine ⟨_, _, hv, h.1, hnc, hcm, fun _ => ⟨g, 0, rfl, (Array.getElem?_eq_some_iff.1 hg).1, fun j x hx => ?_⟩⟩
    subst hv
    have hj : j < vs.length := (List.getElem?_eq_some_iff.1 hx).1
    rw [Nat.zero_add]
    exact (h.cellAt j (by have := h.1; omega)).trans hx
theorem Rw.get (h : Rw w A n c s vs) (hn : 0 < n) : ∃ b off, A = some ⟨b, off, none⟩ ∧ b < w.heap.size ∧ ∀ (j : Nat) (v : Value), vs[j]? = some v → w.cell? ⟨b, off + j, none⟩ = some v := h.2.2.2 hn
theorem Rw.sub {b off : Nat} (h : Rw w (some ⟨b, off, none⟩) n c s vs) (k m : Nat) (hk : k + m ≤ n) : Rw w (some ⟨b, off + k * s, none⟩) m (c - k) s ((vs.drop (k * s)).take (m * s)) := by
  obtain ⟨h1, h2, h3, h5⟩ := h
  have hle : (k + m) * s ≤ n * s := Nat.mul_le_mul_right s hk
  rw [Nat.add_mul] at hle
  refine ⟨by rw [List.length_take, List.length_drop]; omega, by omega, by omega, fun hm => ?_⟩
  obtain ⟨b', off', e, hlt, hc⟩ := h5 (by omega)
  injection e with e
  injection e with e1 e2
  subst e1 e2
  refine ⟨_, _, rfl, hlt, fun j x hx => ?_⟩
  rw [List.getElem?_take] at hx
  split at hx
  · rw [List.getElem?_drop] at hx
    rw [Nat.add_assoc]
    exact hc _ x hx
  · cases hx
theorem Rw.news {b off : Nat} (h : Rw w (some ⟨b, off, none⟩) n c s vs) : ∀ (j : Nat) (u : Value), vs[j]? = some u → w.cell? ((⟨b, off, none⟩ : Addr).add j) = some u := by
  obtain ⟨h1, _, _, h5⟩ := h
  intro j u hu
  have hj : j < vs.length := (List.getElem?_eq_some_iff.1 hu).1
  have hn : 0 < n := by
    rcases Nat.eq_zero_or_pos n with h0 | h0
    · subst h0; omega
    · exact h0
  obtain ⟨b', off', hh, _, hc⟩ := h5 hn
  injection hh with hh
  injection hh with hb ho
  subst hb ho
  have hcj := hc j u hu
  by_cases hj0 : j = 0
  · subst hj0; simpa [Addr.add] using hcj
  · simpa [Addr.add, hj0] using hcj
end
/-- A value that is a slice of bytes, and not too great. -/
def SlV (w : World) (v : Value) (l : List Nat) : Prop := ∃ A n c, v = .slice A n c ∧ Bs w A n c l ∧ n ≤ 140737488355328
theorem SlV.on {w w' : World} {v : Value} {l : List Nat} (h : SlV w v l) (hb : Below w.heap.size w w') : SlV w' v l := by
  obtain ⟨A, n, c, e, hs, hc⟩ := h
  exact ⟨A, n, c, e, hs.on hb, hc⟩
theorem SlV.off {S : Nat → Prop} {w w' : World} {v : Value} {l : List Nat} (h : SlV w v l) (ho : Off S w w') (hn : ∀ k, v.ownBlock = some k → ¬ S k) : SlV w' v l := by
  obtain ⟨A, n, c, rfl, hs, hc⟩ := h
  exact ⟨A, n, c, rfl, bs_off hs ho fun a ha => hn _ (by rw [ha]; rfl), hc⟩
theorem SlV.nil_ (w : World) : SlV w (.slice none 0 0) [] := ⟨none, 0, 0, rfl, Bs.nil_ _ _ _ (Nat.zero_le _), by omega⟩
/-- What stands in a cell's four places. -/
structure CV where
  k : Value
  i : Value
  s : Int
  h : Int
def CV.vs (x : CV) : List Value := [x.k, x.i, .int .i64 x.s, .int .i64 x.h]
def cc (xs : List CV) : List Value := xs.flatMap CV.vs
theorem cc_app (a b : List CV) : cc (a ++ b) = cc a ++ cc b := by simp [cc]
theorem cc_one (x : CV) : cc [x] = x.vs := by simp [cc]
theorem cc_len : ∀ l : List CV, (cc l).length = l.length * 4
  | [] => rfl
  | x :: l => by have := cc_len l; simp [cc, CV.vs] at *; omega
theorem cc_at : ∀ (l : List CV) (j : Nat) (x : CV), l[j]? = some x → (cc l)[j * 4]? = some x.k ∧ (cc l)[j * 4 + 1]? = some x.i ∧ (cc l)[j * 4 + 2]? = some (.int .i64 x.s) ∧ (cc l)[j * 4 + 3]? = some (.int .i64 x.h)
  | [], j, x, h => by simp at h
  | y :: l, 0, x, h => by
    simp at h; subst h
    exact ⟨rfl, rfl, rfl, rfl⟩
  | y :: l, j + 1, x, h => by
    have := cc_at l j x (by simpa using h)
    have e : (j + 1) * 4 = j * 4 + 1 + 1 + 1 + 1 := by omega
    rw [e]
    exact this
theorem cc_part : ∀ (l : List CV) (k : Nat) (x : CV), l[k]? = some x → ((cc l).drop (k * 4)).take (1 * 4) = cc [x]
  | [], k, x, h => by simp at h
  | y :: l, 0, x, h => by
    simp at h; subst h
    simp [cc, CV.vs]
  | y :: l, k + 1, x, h => by
    have := cc_part l k x (by simpa using h)
    have e : (cc (y :: l)).drop ((k + 1) * 4) = (cc l).drop (k * 4) := by
      show (y.vs ++ cc l).drop _ = _
      rw [show (k + 1) * 4 = y.vs.length + k * 4 by simp [CV.vs]; omega, ← List.drop_drop, List.drop_left]
    rw [e]; exact this
/-- The four places say the cell. -/
structure CR (w : World) (x : CV) (c : Nd.Cell) : Prop where
  k : SlV w x.k c.key
  i : SlV w x.i c.inl
  s : x.s = c.size
  h : x.h = c.head
  sb : I64 c.size
  hb : I64 c.head
theorem CR.on {w w' : World} {x : CV} {c : Nd.Cell} (h : CR w x c) (hb : Below w.heap.size w w') : CR w' x c := ⟨h.k.on hb, h.i.on hb, h.s, h.h, h.sb, h.hb⟩
theorem CR.off {S : Nat → Prop} {w w' : World} {x : CV} {c : Nd.Cell} (h : CR w x c) (ho : Off S w w') (hk : ∀ k, x.k.ownBlock = some k → ¬ S k) (hi : ∀ k, x.i.ownBlock = some k → ¬ S k) : CR w' x c := ⟨h.k.off ho hk, h.i.off ho hi, h.s, h.h, h.sb, h.hb⟩
theorem SlV.one {w : World} {v : Value} {l : List Nat} (h : SlV w v l) : v.oneCell' = true := by obtain ⟨A, n, c, rfl, _⟩ := h; rfl
theorem CR.one {w : World} {x : CV} {c : Nd.Cell} (h : CR w x c) : ∀ u ∈ x.vs, u.oneCell' = true := by
  intro u hu
  simp [CV.vs] at hu
  rcases hu with rfl | rfl | rfl | rfl
  · exact h.k.one
  · exact h.i.one
  · rfl
  · rfl
/-- A slice of cells. -/
def Cs (w : World) (A : Option Addr) (n c : Nat) (cs : List Nd.Cell) : Prop := ∃ xs, Rw w A n c 4 (cc xs) ∧ Along (CR w) xs cs
theorem Cs.on {w w' : World} {A : Option Addr} {n c : Nat} {cs : List Nd.Cell} (h : Cs w A n c cs) (hb : Below w.heap.size w w') : Cs w' A n c cs := by
  obtain ⟨xs, h1, h2⟩ := h
  exact ⟨xs, h1.on hb, h2.mono fun x y h => h.on hb⟩
theorem Cs.len {w : World} {A : Option Addr} {n c : Nat} {cs : List Nd.Cell} (h : Cs w A n c cs) : cs.length = n := by
  obtain ⟨xs, h1, h2⟩ := h
  have := h1.1
  rw [cc_len] at this
  have := h2.len
  omega
theorem Cs.get {w : World} {A : Option Addr} {n c : Nat} {cs : List Nd.Cell} (h : Cs w A n c cs) {k : Nat} (hk : k < n) : ∃ b off x y, A = some ⟨b, off, none⟩ ∧ b < w.heap.size ∧ cs[k]? = some y ∧ CR w x y ∧
    w.cell? ⟨b, off + k * 4, none⟩ = some x.k ∧ w.cell? ⟨b, off + k * 4 + 1, none⟩ = some x.i ∧ w.cell? ⟨b, off + k * 4 + 2, none⟩ = some (.int .i64 x.s) ∧ w.cell? ⟨b, off + k * 4 + 3, none⟩ = some (.int .i64 x.h) := by
  have hl := h.len
  obtain ⟨xs, h1, h2⟩ := h
  obtain ⟨x, y, hx, hy, hr⟩ := h2.get (i := k) (by omega)
  obtain ⟨b, off, e, hlt, hc⟩ := h1.get (by omega)
  obtain ⟨a1, a2, a3, a4⟩ := cc_at xs k x hx
  exact ⟨b, off, x, y, e, hlt, hy, hr, hc _ _ a1, hc _ _ a2, hc _ _ a3, hc _ _ a4⟩
theorem Cs.sub {w : World} {b off n c : Nat} {cs : List Nd.Cell} (h : Cs w (some ⟨b, off, none⟩) n c cs) {k : Nat} {y : Nd.Cell} (hy : cs[k]? = some y) : Cs w (some ⟨b, off + k * 4, none⟩) 1 (c - k) [y] := by
  have hl := h.len
  obtain ⟨xs, h1, h2⟩ := h
  have hk : k < cs.length := (List.getElem?_eq_some_iff.1 hy).1
  obtain ⟨x, y', hx, hy', hr⟩ := h2.get hk
  have : y' = y := by rw [hy] at hy'; injection hy' with hy'; exact hy'.symm
  subst this
  refine ⟨[x], ?_, Along.nil_.snoc hr⟩
  have := h1.sub k 1 (by omega)
  rwa [cc_part xs k x hx] at this
/-- A slice of rows of bytes. -/
def Ks (w : World) (A : Option Addr) (n c : Nat) (ks : List (List Nat)) : Prop := ∃ xs, Rw w A n c 1 xs ∧ Along (SlV w) xs ks
theorem Ks.on {w w' : World} {A : Option Addr} {n c : Nat} {ks : List (List Nat)} (h : Ks w A n c ks) (hb : Below w.heap.size w w') : Ks w' A n c ks := by
  obtain ⟨xs, h1, h2⟩ := h
  exact ⟨xs, h1.on hb, h2.mono fun x y h => h.on hb⟩
theorem Ks.len {w : World} {A : Option Addr} {n c : Nat} {ks : List (List Nat)} (h : Ks w A n c ks) : ks.length = n := by
  obtain ⟨xs, h1, h2⟩ := h
  have := h1.1
  have := h2.len
  omega
theorem Ks.get {w : World} {A : Option Addr} {n c : Nat} {ks : List (List Nat)} (h : Ks w A n c ks) {k : Nat} (hk : k < n) : ∃ b off A' n' c' y, A = some ⟨b, off, none⟩ ∧ b < w.heap.size ∧ ks[k]? = some y ∧ w.cell? ⟨b, off + k, none⟩ = some (.slice A' n' c') ∧ Bs w A' n' c' y ∧ n' ≤ 140737488355328 := by
  have hl := h.len
  obtain ⟨xs, h1, h2⟩ := h
  obtain ⟨x, y, hx, hy, A', n', c', rfl, hr, hc'⟩ := h2.get (i := k) (by omega)
  obtain ⟨b, off, e, hlt, hc⟩ := h1.get (by omega)
  exact ⟨b, off, A', n', c', y, e, hlt, hy, hc _ _ hx, hr, hc'⟩
theorem Ks.sub {w : World} {b off n c : Nat} {ks : List (List Nat)} (h : Ks w (some ⟨b, off, none⟩) n c ks) {k : Nat} {y : List Nat} (hy : ks[k]? = some y) : Ks w (some ⟨b, off + k, none⟩) 1 (c - k) [y] := by
  have hl := h.len
  obtain ⟨xs, h1, h2⟩ := h
  have hk : k < ks.length := (List.getElem?_eq_some_iff.1 hy).1
  obtain ⟨x, y', hx, hy', hr⟩ := h2.get hk
  have : y' = y := by rw [hy] at hy'; injection hy' with hy'; exact hy'.symm
  subst this
  refine ⟨[x], ?_, Along.nil_.snoc hr⟩
  have := h1.sub k 1 (by omega)
  rw [Nat.mul_one, Nat.mul_one] at this
  have e : (xs.drop k).take 1 = [x] := by
    rw [List.drop_eq_getElem_cons (List.getElem?_eq_some_iff.1 hx).1, (List.getElem?_eq_some_iff.1 hx).2]; rfl
  rwa [e] at this
/-- A slice of numbers. -/
def iv (l : List Int) : List Value := l.map fun z => .int .i64 z
def Is (w : World) (A : Option Addr) (n c : Nat) (l : List Int) : Prop := Rw w A n c 1 (iv l) ∧ ∀ z ∈ l, I64 z
theorem Is.on {w w' : World} {A : Option Addr} {n c : Nat} {l : List Int} (h : Is w A n c l) (hb : Below w.heap.size w w') : Is w' A n c l := ⟨h.1.on hb, h.2⟩
theorem Is.len {w : World} {A : Option Addr} {n c : Nat} {l : List Int} (h : Is w A n c l) : l.length = n := by
  have := h.1.1
  simp [iv] at this
  exact this
theorem Is.get {w : World} {A : Option Addr} {n c : Nat} {l : List Int} (h : Is w A n c l) {k : Nat} (hk : k < n) : ∃ b off z, A = some ⟨b, off, none⟩ ∧ b < w.heap.size ∧ l[k]? = some z ∧ I64 z ∧ w.cell? ⟨b, off + k, none⟩ = some (.int .i64 z) := by
  have hl := h.len
  obtain ⟨h1, h2⟩ := h
  obtain ⟨b, off, e, hlt, hc⟩ := h1.get (by omega)
  have hkl : k < l.length := by omega
  have hz := List.getElem?_eq_getElem hkl
  exact ⟨b, off, l[k], e, hlt, hz, h2 _ (List.getElem_mem hkl), hc _ _ (by simp [iv, hz])⟩
/-- A leaf in memory. -/
def LeafAt (w : World) (g : Nat) (cs : List Nd.Cell) : Prop := g < w.heap.size ∧ ∃ A n c, w.cell? ⟨g, 0, none⟩ = some (.slice A n c) ∧ Cs w A n c cs
/-- A branch in memory. -/
def BranchAt (w : World) (g : Nat) (ks : List (List Nat)) (ps : List Int) : Prop := g < w.heap.size ∧ ∃ A n c A' n' c', w.cell? ⟨g, 0, none⟩ = some (.slice A n c) ∧ w.cell? ⟨g, 1, none⟩ = some (.slice A' n' c') ∧ Ks w A n c ks ∧ Is w A' n' c' ps
theorem LeafAt.on {w w' : World} {g : Nat} {cs : List Nd.Cell} (h : LeafAt w g cs) (hb : Below w.heap.size w w') : LeafAt w' g cs := by
  obtain ⟨hg, A, n, c, h1, h2⟩ := h
  exact ⟨Nat.lt_of_lt_of_le hg hb.size, A, n, c, (hb.cell (p := ⟨g, 0, none⟩) (by exact hg)).trans h1, h2.on hb⟩
theorem BranchAt.on {w w' : World} {g : Nat} {ks : List (List Nat)} {ps : List Int} (h : BranchAt w g ks ps) (hb : Below w.heap.size w w') : BranchAt w' g ks ps := by
  obtain ⟨hg, A, n, c, A', n', c', h1, h2, h3, h4⟩ := h
  exact ⟨Nat.lt_of_lt_of_le hg hb.size, A, n, c, A', n', c', (hb.cell (p := ⟨g, 0, none⟩) (by exact hg)).trans h1, (hb.cell (p := ⟨g, 1, none⟩) (by exact hg)).trans h2, h3.on hb, h4.on hb⟩
theorem LeafAt.drewN {w : World} {g : Nat} {cs : List Nd.Cell} (h : LeafAt w g cs) (m : Nat) : LeafAt (w.drewN m) g cs := h.on (below_drewN (Below.refl _ _) m)
theorem BranchAt.drewN {w : World} {g : Nat} {ks : List (List Nat)} {ps : List Int} (h : BranchAt w g ks ps) (m : Nat) : BranchAt (w.drewN m) g ks ps := h.on (below_drewN (Below.refl _ _) m)
/-- A cell as a value. -/
def CV.v (x : CV) : Value := .agg #[x.k, x.i, .int .i64 x.s, .int .i64 x.h]
end Nn
end Go.Proofs.Ytachclcpldnofaa
