/-
  A row of steps that came in is what the walks are told of.
-/
import Derived.Test.YtakoajbfkinlcaaDkDo
import Derived.OpenShut
import Derived.Deep.Slices
import Derived.Deep.Fields
namespace Go.Proofs.Ytakoajbfkinlcaa
open Go.ChangeShapes Go.WideShapes Go.RowKit
set_option linter.unusedVariables false

/-- A slice of structs whose fields are one cell each, opened. -/
theorem open_structs {H : Type} {enc : TypeId × Value → H} {P : Program} {w : World} {base : Nat} {spare : Nat → Bool} {held : Bool} {t e : TypeId} {fs : Array Field} {fuel : Nat} {cs : List Value} {x : DataW H × List MemPlace}
    (ht : P.underlying t = some (.slice e)) (he : P.underlying e = some (.struct fs)) (hone : Deep.oneCellFields P fs = true) (ce : P.cellsOf e = fs.size) (h : DataW.trod enc P w base spare held fuel t cs = some x) :
    (cs = [.slice none 0 0] ∧ x = (.nil, [])) ∨
    ∃ (a : Addr) (len cap : Nat), cs = [.slice (some a) len cap] ∧ base ≤ a.block ∧ len ≤ cap ∧ cap ≤ maxLen ∧ ∀ i, i < len → ∃ V : List Value, V.length = fs.size ∧ (∀ j, j < fs.size → w.cell? (a.add (i * fs.size + j)) = V[j]?) ∧
      ∀ (j : Nat) (f : Field) (v : Value), fs[j]? = some f → V[j]? = some v → ∃ n y, DataW.trod enc P w base spare held n f.type [v] = some y := by
  rcases Deep.open_slice ht h with h0 | ⟨a, len, cap, m, n, D, Pl, rfl, hb, hl, hm, hmm, rfl, hx⟩
  · exact .inl h0
  refine .inr ⟨a, len, cap, rfl, hb, hl, hm, fun i hi => ?_⟩
  obtain ⟨V, h1, h2⟩ := hx i (by rw [hmm]; split <;> omega)
  rw [ce] at h1
  obtain ⟨_, hlen, hcell⟩ := World.cells?_some h1
  refine ⟨V, hlen, fun j hj => ?_, fun j f v hf hv => ?_⟩
  · rw [← hcell j hj, Deep.add_add]
  · obtain ⟨xs, k, _, _, _, hxl, hf'⟩ := DataW.trod_struct he h2
    have g := hf' j f hf
    obtain ⟨o1, c1⟩ := Deep.hone_of hone j f hf
    have hj : j < fs.size := by
      rcases Nat.lt_or_ge j fs.size with h | h
      · exact h
      · rw [Array.getElem?_eq_none h] at hf; cases hf
    rw [o1, c1] at g
    have e : (V.drop j).take 1 = [v] := by
      rw [List.getElem?_eq_some_iff] at hv
      obtain ⟨hv1, hv2⟩ := hv
      rw [List.drop_eq_getElem_cons hv1, hv2]; rfl
    rw [e] at g
    exact ⟨k, xs[j]'(by omega), by rw [g, List.getElem?_eq_getElem]⟩

/-- A slice of bools, opened. -/
theorem open_bools {H : Type} {enc : TypeId × Value → H} {P : Program} {w : World} {base : Nat} {spare : Nat → Bool} {held : Bool} {t e : TypeId} {fuel : Nat} {v : Value} {x : DataW H × List MemPlace}
    (ht : P.underlying t = some (.slice e)) (he : P.underlying e = some .bool) (ce : P.cellsOf e = 1) (h : DataW.trod enc P w base spare held fuel t [v] = some x) :
    ∃ A n c, v = .slice A n c ∧ ∃ l : List Bool, Rd w A n c (l.map Value.bool) := by
  rcases Deep.open_slice1 ht ce h with ⟨hv, _⟩ | ⟨a, len, cap, m, n, V, D, Pl, hv, hb, hl, hm, hmm, _, hx⟩
  · simp at hv
    exact ⟨_, _, _, hv, [], rfl, Nat.le_refl _, Nat.zero_le _, fun h => absurd h (by omega)⟩
  · simp at hv
    have hx' : ∀ i, i < len → ∃ b : Bool, w.cell? (a.add i) = some (.bool b) := by
      intro i hi
      obtain ⟨h1, h2⟩ := hx i (by rw [hmm]; split <;> omega)
      obtain ⟨b, hb, _⟩ := DataW.trod_bool he h2
      simp at hb
      exact ⟨b, by rw [h1, hb]⟩
    obtain ⟨f, hf⟩ := Deep.choose_lt hx'
    refine ⟨_, _, _, hv, (List.range len).map f, by simp, hl, hm, fun hn => ?_⟩
    obtain ⟨b, off, spot⟩ := a
    have hc0 := hf 0 hn
    have hspot : spot = none := by simpa [Addr.add] using World.cell?_spot hc0
    subst hspot
    refine ⟨b, off, rfl, ?_, fun j v hj => ?_⟩
    · rcases Nat.lt_or_ge b w.heap.size with h | h
      · exact h
      · have h' : w.cell? ⟨b, off, none⟩ = some (.bool (f 0)) := by simpa [Addr.add] using hc0
        simp [World.cell?, Array.getElem?_eq_none h] at h'
    · rw [List.map_map, List.getElem?_map] at hj
      cases hr : (List.range len)[j]? with
      | none => rw [hr] at hj; cases hj
      | some i =>
        rw [hr] at hj
        obtain ⟨hi, e⟩ := List.getElem?_eq_some_iff.1 hr
        rw [List.getElem_range] at e
        subst e
        rw [List.length_range] at hi
        simp at hj
        subst hj
        rw [← WideShapes.add_plain]; exact hf j hi

theorem Try.doFields : ∃ fs, Try.prog.underlying 31 = some (.struct fs) ∧ fs.map (·.type) = #[3, 3, 5, 29, 3] ∧ Deep.oneCellFields Try.prog fs = true ∧ Try.prog.cellsOf 31 = fs.size :=
  ⟨_, Try.underlying31, by kernel_rfl, by kernel_rfl, by kernel_rfl⟩

instance : Inhabited Dov := ⟨⟨0, 0, 0, none, 0, 0, [], 0⟩⟩
theorem opened_dos {H : Type} {enc : TypeId × Value → H} {W : World} {base : Nat} {a0 : Option Addr} {len0 cap0 : Nat} {d0 : DataW H} {p0 : List MemPlace}
    (h0 : DataW.Trod enc Try.prog W base (fun _ => true) true 22 (.slice a0 len0 cap0) d0 p0) : ∃ L, Dos W a0 len0 cap0 L := by
  obtain ⟨fuel, hf⟩ := h0
  obtain ⟨fs, hfs, hty, hone, hce⟩ := Try.doFields
  have hsz : fs.size = 5 := by have := congrArg Array.size hty; simpa using this
  rcases open_structs Try.underlying22 hfs hone hce hf with ⟨hcs, _⟩ | ⟨a, len, cap, hcs, _, hl, hm, hrow⟩
  · simp [Value.cells] at hcs
    obtain ⟨rfl, rfl, rfl⟩ := hcs
    exact ⟨[], rfl, Nat.le_refl _, Nat.zero_le _, fun h => absurd h (by omega)⟩
  · simp [Value.cells] at hcs
    obtain ⟨rfl, rfl, rfl⟩ := hcs
    have tyAt : ∀ (j : Nat) (t : TypeId), #[3, 3, 5, 29, 3][j]? = some t → ∃ f : Field, fs[j]? = some f ∧ f.type = t := by
      intro j t hj
      rw [← hty, Array.getElem?_map] at hj
      cases hq : fs[j]? with
      | none => rw [hq] at hj; cases hj
      | some f => rw [hq] at hj; injection hj with hj; exact ⟨f, rfl, hj⟩
    obtain ⟨f0, g0, e0⟩ := tyAt 0 _ rfl
    obtain ⟨f1, g1, e1⟩ := tyAt 1 _ rfl
    obtain ⟨f2, g2, e2⟩ := tyAt 2 _ rfl
    obtain ⟨f3, g3, e3⟩ := tyAt 3 _ rfl
    obtain ⟨f4, g4, e4⟩ := tyAt 4 _ rfl
    obtain ⟨b, off, spot⟩ := a
    have hsp : 0 < len0 → spot = none := by
      intro hn
      obtain ⟨V0, hV0, hc0, _⟩ := hrow 0 hn
      rw [hsz] at hV0 hc0
      have c00 := hc0 0 (by omega)
      match V0, hV0 with
      | [u0, _, _, _, _], _ =>
        have := World.cell?_spot (show W.cell? (Addr.add ⟨b, off, spot⟩ (0 * 5 + 0)) = some u0 from c00)
        simpa [Addr.add] using this
    have each : ∀ i, i < len0 → ∃ x : Dov, spot = none ∧ b < W.heap.size ∧ DoAt W b (off + i * 5) x := by
      intro i hi
      obtain ⟨V, hV, hc, hd⟩ := hrow i hi
      rw [hsz] at hV hc
      match V, hV with
      | [v0, v1, v2, v3, v4], _ =>
        obtain ⟨n0, y0, t0⟩ := hd 0 f0 v0 g0 rfl
        obtain ⟨n1, y1, t1⟩ := hd 1 f1 v1 g1 rfl
        obtain ⟨n2, y2, t2⟩ := hd 2 f2 v2 g2 rfl
        obtain ⟨n3, y3, t3⟩ := hd 3 f3 v3 g3 rfl
        obtain ⟨n4, y4, t4⟩ := hd 4 f4 v4 g4 rfl
        rw [e0] at t0
        rw [e1] at t1
        rw [e2] at t2
        rw [e3] at t3
        rw [e4] at t4
        obtain ⟨x0, q0, _, w0⟩ := DataW.trod_int Try.underlying3 t0
        obtain ⟨x1, q1, _, w1⟩ := DataW.trod_int Try.underlying3 t1
        obtain ⟨x2, q2, _, w2⟩ := DataW.trod_int Try.underlying5 t2
        obtain ⟨x4, q4, _, w4⟩ := DataW.trod_int Try.underlying3 t4
        obtain ⟨A3, k3, c3, q3, l3, r3⟩ := open_bools Try.underlying29 Try.underlying4 (by kernel_rfl) t3
        simp at q0 q1 q2 q4
        subst q0 q1 q2 q3 q4
        have b2 := bounds_u8 w2
        obtain ⟨n2', rfl⟩ := Int.eq_ofNat_of_zero_le b2.1
        have hspot : spot = none := hsp (by omega)
        subst hspot
        simp only [WideShapes.add_plain] at hc
        have c0 := hc 0 (by omega)
        have c1 := hc 1 (by omega)
        have c2 := hc 2 (by omega)
        have c3' := hc 3 (by omega)
        have c4 := hc 4 (by omega)
        have i0 := bounds_i64 w0
        have i1 := bounds_i64 w1
        have i4 := bounds_i64 w4
        refine ⟨⟨x0, x1, n2', A3, k3, c3, l3, x4⟩, rfl, ?_, ⟨by simpa using c0, by simpa [Nat.add_assoc] using c1, by simpa [Nat.add_assoc] using c2, by simpa [Nat.add_assoc] using c3', by simpa [Nat.add_assoc] using c4, r3, ?_, ?_, by show n2' < 256; omega, ?_⟩⟩
        · rcases Nat.lt_or_ge b W.heap.size with h | h
          · exact h
          · simp [World.cell?, Array.getElem?_eq_none h] at c0
        · exact ⟨by show _ ≤ x0; omega, by show x0 < _; omega⟩
        · exact ⟨by show _ ≤ x1; omega, by show x1 < _; omega⟩
        · exact ⟨by show _ ≤ x4; omega, by show x4 < _; omega⟩
    obtain ⟨f, hfx⟩ := Deep.choose_lt each
    refine ⟨(List.range len0).map f, by simp, hl, hm, fun hn => ?_⟩
    obtain ⟨hs, hb, _⟩ := hfx 0 hn
    subst hs
    refine ⟨b, off, rfl, hb, fun j x hj => ?_⟩
    rw [List.getElem?_map] at hj
    cases hr : (List.range len0)[j]? with
    | none => rw [hr] at hj; cases hj
    | some i =>
      rw [hr] at hj
      obtain ⟨hi, e⟩ := List.getElem?_eq_some_iff.1 hr
      rw [List.getElem_range] at e
      subst e
      rw [List.length_range] at hi
      injection hj with hj
      subst hj
      exact (hfx j hi).2.2

end Go.Proofs.Ytakoajbfkinlcaa
