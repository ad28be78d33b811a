/-
  What comes in: a row of rows of bytes.
-/
import Derived.Test.YtmcldkcmialfeaaPrLs
import Derived.OpenShut
import Derived.SizedLaws
import Derived.Deep.Matrix
namespace Go.Proofs.Ytmcldkcmialfeaa.Pr
open Go.ChangeShapes Go.WideShapes Go.RowKit
set_option linter.unusedVariables false

theorem byte1 : Try.prog.bytesOf 5 = 1 := by kernel_rfl

theorem weightsAll_mem {H : Type} {P : Program} {e : TypeId} {d : DataW H} {n : Nat} : ∀ {ds : List (DataW H)}, d ∈ ds → n ∈ d.weights P e → n ∈ DataW.weightsAll P e ds
  | [], h, _ => by cases h
  | d0 :: ds, h, hn => by
    simp only [DataW.weightsAll, List.mem_append]
    rcases List.mem_cons.1 h with rfl | h
    · exact .inl hn
    · exact .inr (weightsAll_mem h hn)

/-- A row of rows that came in, each within the form's reach, is what the walk is told of. -/
theorem opened_ls {H : Type} {enc : TypeId × Value → H} {W : World} {base : Nat} {a0 : Option Addr} {len0 cap0 : Nat} {d0 : DataW H} {p0 : List MemPlace}
    (h0 : DataW.Trod enc Try.prog W base (fun _ => true) true 48 (.slice a0 len0 cap0) d0 p0)
    (hsz : ∀ n ∈ d0.weights Try.prog 48, n ≤ reachBytes) : ∃ ls, Ls W a0 len0 cap0 ls := by
  obtain ⟨fuel, hf⟩ := h0
  rcases Deep.open_int_rows Try.underlying48 Try.underlying22 Try.underlying5 (by kernel_rfl) (by kernel_rfl) hf with ⟨hcs, _⟩ | ⟨a, len, cap, A, L, C, Z, hcs, _, hl, hm, hx, hrow⟩
  · simp [Value.cells] at hcs
    obtain ⟨rfl, rfl, rfl⟩ := hcs
    exact ⟨[], rfl, Nat.le_refl _, Nat.zero_le _, fun h => absurd h (by omega)⟩
  · simp [Value.cells] at hcs
    obtain ⟨rfl, rfl, rfl⟩ := hcs
    simp only [Prod.mk.injEq] at hx
    obtain ⟨rfl, _⟩ := hx
    have each : ∀ r, r < len0 → ∃ l, Bs W (A r) (L r) (C r) l ∧ C r ≤ 140737488355328 := by
      intro r hr
      obtain ⟨h1, h2, h3, h4, h5, h6, h7⟩ := hrow r (by omega)
      have hc : C r ≤ 140737488355328 := by
        cases hA : A r with
        | none => rw [h6 hA]; omega
        | some a' =>
          have hmem : (C r) * 1 ∈ DataW.weights Try.prog 22 (Deep.intRow (H := H) .u8 (A r) (L r) (Z r)) := by
            rw [hA]
            simp only [Deep.intRow, DataW.weights, Try.underlying22, byte1]
            refine List.mem_cons.2 (.inl ?_)
            simp [lits]; omega
          have h := hsz ((C r) * 1) (by
            simp only [DataW.weights, Try.underlying48]
            refine List.mem_cons.2 (.inr (List.mem_append.2 (.inl ?_)))
            exact weightsAll_mem (List.mem_map.2 ⟨r, List.mem_range.2 hr, rfl⟩) hmem)
          unfold reachBytes at h
          omega
      refine Exists.imp (fun l hl => ⟨hl, hc⟩) (Bs.of_row (zs := Z r) ?_)
      cases hA : A r with
      | none =>
        have h0 := h6 hA
        exact .inl ⟨rfl, by omega, h0, List.eq_nil_of_length_eq_zero (by omega)⟩
      | some a' => exact .inr ⟨a', rfl, h2, h3, h4, fun i hi => (h7 a' hA).2 i (by omega), h5⟩
    obtain ⟨f, hfs⟩ := Deep.choose_lt each
    refine ⟨(List.range len0).map f, by simp, hl, hm, fun hn => ?_⟩
    obtain ⟨b, off, spot⟩ := a
    have hc0 := (hrow 0 (by omega)).1
    have hspot : spot = none := by simpa [Addr.add] using World.cell?_spot hc0
    subst hspot
    refine ⟨b, off, rfl, ?_, fun j l hj => ?_⟩
    · rcases Nat.lt_or_ge b W.heap.size with h | h
      · exact h
      · have h' : W.cell? ⟨b, off, none⟩ = some (.slice (A 0) (L 0) (C 0)) := by simpa [Addr.add] using hc0
        simp [World.cell?, Array.getElem?_eq_none h] at h'
    · rw [List.getElem?_map] at hj
      cases hr : (List.range len0)[j]? with
      | none => rw [hr] at hj; cases hj
      | some i =>
        rw [hr] at hj
        simp only [Option.map_some, Option.some.injEq] at hj
        obtain ⟨hi, e⟩ := List.getElem?_eq_some_iff.1 hr
        rw [List.getElem_range] at e
        subst e
        rw [List.length_range] at hi
        subst hj
        refine ⟨A j, L j, C j, ?_, hfs j hi⟩
        have := (hrow j (by omega)).1
        by_cases hj0 : j = 0
        · subst hj0; simpa [Addr.add] using this
        · simpa [Addr.add, hj0] using this


end Go.Proofs.Ytmcldkcmialfeaa.Pr
