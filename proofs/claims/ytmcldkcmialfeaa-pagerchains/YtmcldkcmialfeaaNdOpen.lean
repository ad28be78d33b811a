/-
  What comes in: a row of bytes.
-/
import Derived.Test.YtmcldkcmialfeaaGrNode9
import Derived.OpenShut
import Derived.Deep.Slices
import Derived.Deep.Fields
namespace Go.Proofs.Ytmcldkcmialfeaa.Nn
open Go.ChangeShapes Go.WideShapes Go.RowKit
set_option linter.unusedVariables false

/-- A slice of bytes, opened. -/
theorem open_bytes6 {H : Type} {enc : TypeId × Value → H} {P : Program} {w : World} {base : Nat} {spare : Nat → Bool} {held : Bool} {t e : TypeId} {fuel : Nat} {v : Value} {x : DataW H × List MemPlace}
    (ht : P.underlying t = some (.slice e)) (he : P.underlying e = some (.int .u8)) (ce : P.cellsOf e = 1) (h : DataW.trod enc P w base spare held fuel t [v] = some x) :
    ∃ A n c, v = .slice A n c ∧ ∃ l : List Nat, Bs w A n c l := by
  rcases Deep.open_slice1 ht ce h with ⟨hv, _⟩ | ⟨a, len, cap, m, n, V, D, Pl, hv, hb, hl, hm, hmm, _, hx⟩
  · simp at hv
    exact ⟨_, _, _, hv, [], Bs.nil_ _ _ _ (Nat.zero_le _)⟩
  · simp at hv
    have hx' : ∀ i, i < len → ∃ z : Nat, z < 256 ∧ w.cell? (a.add i) = some (.int .u8 (z : Int)) := by
      intro i hi
      obtain ⟨h1, h2⟩ := hx i (by rw [hmm]; split <;> omega)
      obtain ⟨b, hb, _, wf⟩ := DataW.trod_int he h2
      simp at hb
      have b2 := bounds_u8 wf
      obtain ⟨z, rfl⟩ := Int.eq_ofNat_of_zero_le b2.1
      exact ⟨z, by omega, by rw [h1, hb]⟩
    obtain ⟨f, hf⟩ := Deep.choose_lt hx'
    refine ⟨_, _, _, hv, (List.range len).map f, by simp, hl, hm, ?_, fun hn => ?_⟩
    · intro z hz
      obtain ⟨i, hi, rfl⟩ := List.mem_map.1 hz
      exact (hf i (List.mem_range.1 hi)).1
    · obtain ⟨b, off, spot⟩ := a
      have hc0 := (hf 0 hn).2
      have hspot : spot = none := by simpa [Addr.add] using World.cell?_spot hc0
      subst hspot
      refine ⟨b, off, rfl, ?_, fun j v hj => ?_⟩
      · rcases Nat.lt_or_ge b w.heap.size with h | h
        · exact h
        · have h' : w.cell? ⟨b, off, none⟩ = some (.int .u8 (f 0 : Int)) := by simpa [Addr.add] using hc0
          simp [World.cell?, Array.getElem?_eq_none h] at h'
      · rw [List.getElem?_map] at hj
        cases hr : (List.range len)[j]? with
        | none => rw [hr] at hj; cases hj
        | some i =>
          rw [hr] at hj
          obtain ⟨hi, e⟩ := List.getElem?_eq_some_iff.1 hr
          rw [List.getElem_range] at e
          subst e
          rw [List.length_range] at hi
          simp at hj
          subst hj
          rw [← WideShapes.add_plain]; exact (hf j hi).2

theorem opened_bytes {H : Type} {enc : TypeId × Value → H} {W : World} {base : Nat} {a0 : Option Addr} {len0 cap0 : Nat} {d0 : DataW H} {p0 : List MemPlace}
    (h0 : DataW.Trod enc Try.prog W base (fun _ => true) true 22 (.slice a0 len0 cap0) d0 p0) : ∃ L, Bs W a0 len0 cap0 L := by
  obtain ⟨fuel, hf⟩ := h0
  obtain ⟨A, n, c, e, l, hl⟩ := open_bytes6 Try.underlying22 Try.underlying5 (by kernel_rfl) (v := .slice a0 len0 cap0) hf
  injection e with e1 e2 e3
  subst e1 e2 e3
  exact ⟨l, hl⟩

end Go.Proofs.Ytmcldkcmialfeaa.Nn
