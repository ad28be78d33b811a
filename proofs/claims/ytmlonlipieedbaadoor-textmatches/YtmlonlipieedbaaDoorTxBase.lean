/-
  What a slice of one-cell values reads as; rows of the call's own, beside one another and beside an iterator.
-/
import Derived.Test.YtmlonlipieedbaaDoorTxLen
import Derived.Deep.AppendLies
import Derived.Lib.OthersKept
import Derived.Deep.RegionWith
import Derived.Deep.RegionHeld3
namespace Go.Proofs.YtmlonlipieedbaaDoor
open Go.RowKit Go.Lib
set_option linter.unusedVariables false

/-- The slice value '.slice A n c' reads as the values l. -/
def Vs (w : World) (A : Option Addr) (n c : Nat) (l : List Value) : Prop :=
  l.length = n ∧ n ≤ c ∧ c ≤ maxLen ∧
  (0 < n → ∃ b off, A = some ⟨b, off, none⟩ ∧ b < w.heap.size ∧ ∀ (j : Nat) (v : Value), l[j]? = some v → w.cell? ⟨b, off + j, none⟩ = some v)
section
variable {w w' : World} {A : Option Addr} {n c : Nat} {l : List Value}
theorem Vs.on (h : Vs w A n c l) (hb : Below w.heap.size w w') : Vs w' A n c l := by
  obtain ⟨h1, h2, h3, h5⟩ := h
  refine ⟨h1, h2, h3, fun hn => ?_⟩
  obtain ⟨b, off, e, hlt, hc⟩ := h5 hn
  exact ⟨b, off, e, Nat.lt_of_lt_of_le hlt hb.size, fun j x hx => (hb.cell (p := ⟨b, off + j, none⟩) (by exact hlt)).trans (hc j x hx)⟩
theorem Vs.drewN (h : Vs w A n c l) (m : Nat) : Vs (w.drewN m) A n c l := h
theorem Vs.nil_ (w : World) (A : Option Addr) (c : Nat) (hc : c ≤ maxLen) : Vs w A 0 c [] := ⟨rfl, Nat.zero_le _, hc, fun h => absurd h (by omega)⟩
theorem Vs.at_ (h : Vs w A n c l) {k : Nat} (hk : k < n) : ∃ b off v, A = some ⟨b, off, none⟩ ∧ l[k]? = some v ∧ w.cell? ⟨b, off + k, none⟩ = some v := by
  obtain ⟨h1, h2, h3, h5⟩ := h
  obtain ⟨b, off, e, hlt, hc⟩ := h5 (by omega)
  have hl : k < l.length := by omega
  exact ⟨b, off, l[k], e, List.getElem?_eq_getElem hl, hc k _ (List.getElem?_eq_getElem hl)⟩
theorem Vs.of_own {base e : Nat} {v : Value} (h : w.ownsRow base e 1 v n l) : ∃ A c, v = .slice A n c ∧ Vs w A n c l := by
  have hl : l.length = n := by have := h.1; omega
  rcases h.2 with ⟨hv, h0⟩ | ⟨g, cap, cur, hv, _, hg, hnc, hcm, _, _⟩
  · subst h0
    exact ⟨none, 0, hv, hl, Nat.le_refl _, Nat.zero_le _, fun h => absurd h (by omega)⟩
  · refine ⟨_, _, hv, hl, hnc, hcm, fun _ => ⟨g, 0, rfl, ?_, fun j x hx => ?_⟩⟩
    · rcases Nat.lt_or_ge g w.heap.size with hlt | hge
      · exact hlt
      · rw [Array.getElem?_eq_none hge] at hg; cases hg
    · have := h.cells (g := g) (by rw [hv]; rfl) j x hx
      by_cases hj : j = 0
      · subst hj; simpa [Addr.add] using this
      · simpa [Addr.add, hj] using this
end
theorem onto {w w1 w2 : World} (h : Below w.heap.size w w1) (h2 : Below w1.heap.size w1 w2) : Below w.heap.size w w2 := h.trans (h2.mono h.size)
theorem below_drewN {B : Nat} {a w : World} (h : Below B a w) (n : Nat) : Below B a (w.drewN n) := ⟨h.os, h.tape, h.output, h.size, h.block⟩
theorem below_own {B base e size n : Nat} {a w w' : World} {v : Value} {xs : List Value} (h : Below B a w) (hown : w.ownsRow base e size v n xs) (hg : w.grownBy w' v.ownBlock) (hB : B ≤ w.heap.size) (hb : B ≤ base) : Below B a w' :=
  h.grown hg hB fun k hk => Nat.le_trans hb (hown.lt k hk).1
theorem own_iterAt {w : World} {base e size n : Nat} {v : Value} {xs : List Value} (h : w.ownsRow base e size v n xs) {k : Nat} {s : ByteArray} {pos : Nat} (hk : k < base) : (w.iterAt k s pos).ownsRow base e size v n xs := by
  refine ⟨h.1, ?_⟩
  rcases h.2 with hn | ⟨g, cap, cur, hv, hbg, hg, rest⟩
  · exact .inl hn
  · exact .inr ⟨g, cap, cur, hv, hbg, (iterAt_other w k g s pos (by omega)).trans hg, rest⟩
theorem iter_grown {w w' : World} {base e size n : Nat} {v : Value} {xs : List Value} {k : Nat} {o : Obj} (hk : w.heap[k]? = some o) (hown : w.ownsRow base e size v n xs) (hg : w.grownBy w' v.ownBlock) (hb : k < base) : w'.heap[k]? = some o := by
  have hlt : k < w.heap.size := (Array.getElem?_eq_some_iff.1 hk).1
  rw [hg.block k hlt (fun e => by have := (hown.lt k e.symm).1; omega)]; exact hk
theorem iter_below {w w' : World} {k : Nat} {o : Obj} (hk : w.heap[k]? = some o) (hb : Below w.heap.size w w') : w'.heap[k]? = some o := by
  have hlt : k < w.heap.size := (Array.getElem?_eq_some_iff.1 hk).1
  rw [hb.block k hlt]; exact hk
theorem own_below {w w' : World} {base e size n : Nat} {v : Value} {xs : List Value} (h : w.ownsRow base e size v n xs) (hb : Below w.heap.size w w') : w'.ownsRow base e size v n xs := by
  refine ⟨h.1, ?_⟩
  rcases h.2 with hn | ⟨g, cap, cur, hv, hbg, hg, rest⟩
  · exact .inl hn
  · exact .inr ⟨g, cap, cur, hv, hbg, iter_below hg hb, rest⟩
/-- Two rows don't share a block. -/
def Sep (v u : Value) : Prop := v.ownBlock = none ∨ v.ownBlock ≠ u.ownBlock
theorem Sep.flip {v u : Value} (h : Sep v u) : Sep u v := by
  rcases h with h | h
  · by_cases hu : u.ownBlock = none
    · exact .inl hu
    · right; rw [h]; exact hu
  · exact .inr (Ne.symm h)
theorem Sep.push {v u : Value} {g n cap H : Nat} (h : Sep v u) (hv : v.ownBlock = some g ∨ g = H) (hu : ∀ k, u.ownBlock = some k → k < H) : Sep (.slice (some ⟨g, 0, none⟩) n cap) u := by
  right
  show some g ≠ u.ownBlock
  rcases hv with hv | rfl
  · rcases h with h | h
    · rw [h] at hv; cases hv
    · rw [← hv]; exact h
  · intro e; have := hu g e.symm; omega
theorem cell_one (w : World) (u : Value) (e : TypeId) : ∀ (j : Nat) (x : Value), [u][j]? = some x → (w.alloc (.cells #[u] e)).cell? ((⟨w.heap.size, 0, none⟩ : Addr).add j) = some x := cell_one_new _ _ _
theorem one_cell {u : Value} (h : u.oneCell' = true) : ∀ x ∈ [u], x.oneCell' = true := by intro x hx; simp at hx; subst hx; exact h

/-- Numbers as values. -/
def zv (l : List Int) : List Value := l.map fun z => Value.int .i64 z
def nv (l : List Nat) : List Value := l.map fun (n : Nat) => Value.int .i64 (n : Int)
def rv (l : List Nat) : List Value := l.map fun (n : Nat) => Value.int .i32 (n : Int)
def sv (l : List (List UInt8)) : List Value := l.map fun x => Value.string (ba x)
theorem zv_snoc (l : List Int) (z : Int) : zv (l ++ [z]) = zv l ++ [.int .i64 z] := by simp [zv]
theorem nv_snoc (l : List Nat) (n : Nat) : nv (l ++ [n]) = nv l ++ [.int .i64 (n : Int)] := by simp [nv]
theorem rv_snoc (l : List Nat) (n : Nat) : rv (l ++ [n]) = rv l ++ [.int .i32 (n : Int)] := by simp [rv]
theorem sv_snoc (l : List (List UInt8)) (x : List UInt8) : sv (l ++ [x]) = sv l ++ [.string (ba x)] := by simp [sv]
theorem nv_at {w : World} {A : Option Addr} {n c : Nat} {l : List Nat} (h : Vs w A n c (nv l)) {k : Nat} (hk : k < n) : ∃ b off x, A = some ⟨b, off, none⟩ ∧ l[k]? = some x ∧ w.cell? ⟨b, off + k, none⟩ = some (.int .i64 (x : Int)) := by
  obtain ⟨b, off, v, e, hv, hc⟩ := h.at_ hk
  unfold nv at hv
  rw [List.getElem?_map] at hv
  cases hx : l[k]? with
  | none => rw [hx] at hv; cases hv
  | some x => rw [hx] at hv; injection hv with hv; exact ⟨b, off, x, e, rfl, by rw [hc, ← hv]⟩
theorem rv_at {w : World} {A : Option Addr} {n c : Nat} {l : List Nat} (h : Vs w A n c (rv l)) {k : Nat} (hk : k < n) : ∃ b off x, A = some ⟨b, off, none⟩ ∧ l[k]? = some x ∧ w.cell? ⟨b, off + k, none⟩ = some (.int .i32 (x : Int)) := by
  obtain ⟨b, off, v, e, hv, hc⟩ := h.at_ hk
  unfold rv at hv
  rw [List.getElem?_map] at hv
  cases hx : l[k]? with
  | none => rw [hx] at hv; cases hv
  | some x => rw [hx] at hv; injection hv with hv; exact ⟨b, off, x, e, rfl, by rw [hc, ← hv]⟩
theorem zv_at {w : World} {A : Option Addr} {n c : Nat} {l : List Int} (h : Vs w A n c (zv l)) {k : Nat} (hk : k < n) : ∃ b off x, A = some ⟨b, off, none⟩ ∧ l[k]? = some x ∧ w.cell? ⟨b, off + k, none⟩ = some (.int .i64 x) := by
  obtain ⟨b, off, v, e, hv, hc⟩ := h.at_ hk
  unfold zv at hv
  rw [List.getElem?_map] at hv
  cases hx : l[k]? with
  | none => rw [hx] at hv; cases hv
  | some x => rw [hx] at hv; injection hv with hv; exact ⟨b, off, x, e, rfl, by rw [hc, ← hv]⟩
theorem sv_at {w : World} {A : Option Addr} {n c : Nat} {l : List (List UInt8)} (h : Vs w A n c (sv l)) {k : Nat} (hk : k < n) : ∃ b off x, A = some ⟨b, off, none⟩ ∧ l[k]? = some x ∧ w.cell? ⟨b, off + k, none⟩ = some (.string (ba x)) := by
  obtain ⟨b, off, v, e, hv, hc⟩ := h.at_ hk
  unfold sv at hv
  rw [List.getElem?_map] at hv
  cases hx : l[k]? with
  | none => rw [hx] at hv; cases hv
  | some x => rw [hx] at hv; injection hv with hv; exact ⟨b, off, x, e, rfl, by rw [hc, ← hv]⟩
theorem zv_len (l : List Int) : (zv l).length = l.length := by simp [zv]
theorem nv_len (l : List Nat) : (nv l).length = l.length := by simp [nv]
theorem rv_len (l : List Nat) : (rv l).length = l.length := by simp [rv]
theorem sv_len (l : List (List UInt8)) : (sv l).length = l.length := by simp [sv]

theorem Tryd.info3 : (Tryd.prog.info? 3).map (fun i => (i.zero, i.size, i.bytes)) = some (some (.int .i64 0), 1, 8) := by kernel_rfl
theorem Tryd.info21 : (Tryd.prog.info? 21).map (fun i => (i.zero, i.size, i.bytes)) = some (some (.int .i32 0), 1, 4) := by kernel_rfl
theorem Tryd.info9 : (Tryd.prog.info? 9).map (fun i => (i.zero, i.size, i.bytes)) = some (some (.string ⟨#[]⟩), 1, 16) := by kernel_rfl

end Go.Proofs.YtmlonlipieedbaaDoor
