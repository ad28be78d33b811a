/-
  A row of rows of bytes.
-/
import Derived.Test.YtmcldkcmialfeaaPgRow
namespace Go.Proofs.Ytmcldkcmialfeaa
open Go.RowKit
set_option linter.unusedVariables false

/-- A slice of slices of bytes that reads as ls. -/
def Ls (w : World) (A : Option Addr) (n c : Nat) (ls : List (List Nat)) : Prop :=
  ls.length = n ∧ n ≤ c ∧ c ≤ maxLen ∧
  (0 < n → ∃ b off, A = some ⟨b, off, none⟩ ∧ b < w.heap.size ∧ ∀ (j : Nat) (l : List Nat), ls[j]? = some l → ∃ A' n' c', w.cell? ⟨b, off + j, none⟩ = some (.slice A' n' c') ∧ Bs w A' n' c' l ∧ c' ≤ 140737488355328)
theorem Ls.on {w w' : World} {A : Option Addr} {n c : Nat} {ls : List (List Nat)} (h : Ls w A n c ls) (hb : Below w.heap.size w w') : Ls w' A n c ls := by
  obtain ⟨h1, h2, h3, h5⟩ := h
  refine ⟨h1, h2, h3, fun hn => ?_⟩
  obtain ⟨b, off, e, hlt, hc⟩ := h5 hn
  refine ⟨b, off, e, Nat.lt_of_lt_of_le hlt hb.size, fun j l hl => ?_⟩
  obtain ⟨A', n', c', h6, h7, h8⟩ := hc j l hl
  exact ⟨A', n', c', (hb.cell (p := ⟨b, off + j, none⟩) (by exact hlt)).trans h6, h7.on hb, h8⟩
/-- One row, in a world that has kept what was there. -/
theorem Ls.get {w w' : World} {A : Option Addr} {n c : Nat} {ls : List (List Nat)} (h : Ls w A n c ls) (hb : Below w.heap.size w w') {k : Nat} (hk : k < n) :
    ∃ b off l A' n' c', A = some ⟨b, off, none⟩ ∧ ls[k]? = some l ∧ w'.cell? ⟨b, off + k, none⟩ = some (.slice A' n' c') ∧ Bs w A' n' c' l := by
  obtain ⟨h1, h2, h3, h5⟩ := h
  obtain ⟨b, off, e, hlt, hc⟩ := h5 (by omega)
  have hl : ls[k]? = some ls[k] := List.getElem?_eq_getElem (by omega)
  obtain ⟨A', n', c', h6, h7, h8⟩ := hc k _ hl
  exact ⟨b, off, _, A', n', c', e, hl, (hb.cell (p := ⟨b, off + k, none⟩) (by exact hlt)).trans h6, h7⟩

end Go.Proofs.Ytmcldkcmialfeaa
