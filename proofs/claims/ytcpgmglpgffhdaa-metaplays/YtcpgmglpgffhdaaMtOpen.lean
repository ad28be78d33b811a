/-
  Metas and steps that came in.
-/
import Derived.Test.YtcpgmglpgffhdaaMtCell
import Derived.Test.YtcpgmglpgffhdaaGrDisk
import Derived.OpenShut
import Derived.Deep.Slices
import Derived.Deep.Fields
namespace Go.Proofs.Ytcpgmglpgffhdaa
open Go.ChangeShapes Go.WideShapes Go.RowKit
set_option linter.unusedVariables false

/-- A number of 64 bits with a sign. -/
def I64 (z : Int) : Prop := -9223372036854775808 ≤ z ∧ z < 9223372036854775808
/-- A meta's cells as they came in. -/
theorem meta_cells {H : Type} {enc : TypeId × Value → H} {W : World} {base : Nat} {spare : Nat → Bool} {held : Bool} {fuel : Nat} {cs : List Value} {x : DataW H × List MemPlace}
    (h : DataW.trod enc Try.prog W base spare held fuel 24 cs = some x) : ∃ m : Mt.M, cs = [.int .u64 (m.gen : Int), .int .i64 m.high, .int .i64 m.root, .int .i64 m.free] := by
  obtain ⟨fs, hfs, hty, hone, hce⟩ : ∃ fs, Try.prog.underlying 24 = some (.struct fs) ∧ fs.map (·.type) = #[22, 3, 3, 3] ∧ Deep.oneCellFields Try.prog fs = true ∧ Try.prog.cellsOf 24 = 4 := ⟨_, Try.underlying24, by kernel_rfl, by kernel_rfl, by kernel_rfl⟩
  obtain ⟨xs, n, _, _, hl, hxl, hf⟩ := DataW.trod_struct hfs h
  rw [hce] at hl
  have hsz : fs.size = 4 := by have := congrArg Array.size hty; simpa using this
  have at_ : ∀ (j : Nat) (t : TypeId) (v : Value), #[22, 3, 3, 3][j]? = some t → cs[j]? = some v → ∃ y, DataW.trod enc Try.prog W base spare held n t [v] = some y := by
    intro j t v hj hv
    rw [← hty, Array.getElem?_map] at hj
    cases hq : fs[j]? with
    | none => rw [hq] at hj; cases hj
    | some f =>
      rw [hq] at hj
      injection hj with hj
      replace hj : f.type = t := hj
      have g := hf j f hq
      obtain ⟨o1, c1⟩ := Deep.hone_of hone j f hq
      rw [o1, c1, hj] at g
      have hjl : j < fs.size := (Array.getElem?_eq_some_iff.1 hq).1
      have e : (cs.drop j).take 1 = [v] := by
        rw [List.getElem?_eq_some_iff] at hv
        obtain ⟨hv1, hv2⟩ := hv
        rw [List.drop_eq_getElem_cons hv1, hv2]; rfl
      rw [e] at g
      exact ⟨xs[j]'(by omega), by rw [g, List.getElem?_eq_getElem]⟩
  match cs, hl with
  | [v0, v1, v2, v3], _ =>
    obtain ⟨y0, t0⟩ := at_ 0 _ v0 rfl rfl
    obtain ⟨y1, t1⟩ := at_ 1 _ v1 rfl rfl
    obtain ⟨y2, t2⟩ := at_ 2 _ v2 rfl rfl
    obtain ⟨y3, t3⟩ := at_ 3 _ v3 rfl rfl
    obtain ⟨x0, q0, _, w0⟩ := DataW.trod_int Try.underlying22 t0
    obtain ⟨x1, q1, _, w1⟩ := DataW.trod_int Try.underlying3 t1
    obtain ⟨x2, q2, _, w2⟩ := DataW.trod_int Try.underlying3 t2
    obtain ⟨x3, q3, _, w3⟩ := DataW.trod_int Try.underlying3 t3
    simp at q0 q1 q2 q3
    subst q0 q1 q2 q3
    obtain ⟨n0, rfl⟩ := Int.eq_ofNat_of_zero_le (bounds_u64 w0).1
    exact ⟨⟨n0, x1, x2, x3⟩, rfl⟩
theorem open_meta {H : Type} {enc : TypeId × Value → H} {W : World} {base b0 : Nat} {spare : Nat → Bool} {held : Bool} {r : Reach} {v : Value} {d : DataW H} {p : List MemPlace}
    (hv : Value.okWide Try.prog W r b0 24 v) (h : DataW.Trod enc Try.prog W base spare held 24 v d p) : ∃ m : Mt.M, v = mv m := by
  obtain ⟨cs, rfl, hs⟩ := okWide_struct Try.underlying24 hv
  obtain ⟨fuel, hf⟩ := h
  obtain ⟨m, hm⟩ := meta_cells hf
  refine ⟨m, ?_⟩
  unfold mv
  congr 1
  apply Array.toList_inj.1
  simpa [Value.cells] using hm
theorem open_byte2 {H : Type} {enc : TypeId × Value → H} {P : Program} {w : World} {base b0 : Nat} {spare : Nat → Bool} {held : Bool} {r : Reach} {t e : TypeId} {v : Value} {d : DataW H} {p : List MemPlace}
    (ht : P.underlying t = some (.array 2 e)) (he : P.underlying e = some (.int .u8)) (hce : P.cellsOf e = 1) (hct : P.cellsOf t = 2)
    (hv : Value.okWide P w r b0 t v) (h : DataW.Trod enc P w base spare held t v d p) : ∃ x y : Nat, v = .agg #[.int .u8 (x : Int), .int .u8 (y : Int)] ∧ x < 256 ∧ y < 256 := by
  simp only [Value.okWide, ht] at hv
  obtain ⟨cs, rfl, hs, _⟩ := hv
  rw [hct] at hs
  obtain ⟨c0, c1, rfl⟩ : ∃ c0 c1, cs = #[c0, c1] := by
    obtain ⟨l⟩ := cs
    match l, hs with
    | [c0, c1], _ => exact ⟨c0, c1, rfl⟩
  obtain ⟨fuel, hf⟩ := h
  obtain ⟨xs, m, _, _, _, hl, hi⟩ := DataW.trod_array ht hf
  match xs, hl with
  | [z0, z1], _ =>
    have h0 := hi 0 (by omega)
    have h1 := hi 1 (by omega)
    rw [hce] at h0 h1
    simp [Value.cells] at h0 h1
    obtain ⟨x, e0, _, w0⟩ := DataW.trod_int he h0
    obtain ⟨y, e1, _, w1⟩ := DataW.trod_int he h1
    simp at e0 e1
    subst e0 e1
    have b0 := bounds_u8 w0
    have b1 := bounds_u8 w1
    obtain ⟨x', rfl⟩ := Int.eq_ofNat_of_zero_le b0.1
    obtain ⟨y', rfl⟩ := Int.eq_ofNat_of_zero_le b1.1
    exact ⟨x', y', rfl, by omega, by omega⟩
/-- A slice of bools, opened. -/
theorem open_bools6 {H : Type} {enc : TypeId × Value → H} {P : Program} {w : World} {base : Nat} {spare : Nat → Bool} {held : Bool} {t e : TypeId} {fuel : Nat} {v : Value} {x : DataW H × List MemPlace}
    (ht : P.underlying t = some (.slice e)) (he : P.underlying e = some .bool) (ce : P.cellsOf e = 1) (h : DataW.trod enc P w base spare held fuel t [v] = some x) :
    ∃ A n c, v = .slice A n c ∧ ∃ l : List Bool, Rd w A n c (l.map Value.bool) := by
  rcases Deep.open_slice1 ht ce h with ⟨hv, _⟩ | ⟨a, len, cap, m, n, V, D, Pl, hv, hb, hl, hm, hmm, _, hx⟩
  · simp at hv
    exact ⟨_, _, _, hv, [], rfl, Nat.le_refl _, Nat.zero_le _, fun h => absurd h (by omega)⟩
  · simp at hv
    have hx' : ∀ i, i < len → ∃ b : Bool, w.cell? (a.add i) = some (.bool b) := by
      intro i hi
      obtain ⟨h1, h2⟩ := hx i (by rw [hmm]; split <;> omega)
      obtain ⟨b, hb, _⟩ := DataW.trod_bool he h2
      simp at hb
      exact ⟨b, by rw [h1, hb]⟩
    obtain ⟨f, hf⟩ := Deep.choose_lt hx'
    refine ⟨_, _, _, hv, (List.range len).map f, by simp, hl, hm, fun hn => ?_⟩
    obtain ⟨b, off, spot⟩ := a
    have hc0 := hf 0 hn
    have hspot : spot = none := by simpa [Addr.add] using World.cell?_spot hc0
    subst hspot
    refine ⟨b, off, rfl, ?_, fun j v hj => ?_⟩
    · rcases Nat.lt_or_ge b w.heap.size with h | h
      · exact h
      · have h' : w.cell? ⟨b, off, none⟩ = some (.bool (f 0)) := by simpa [Addr.add] using hc0
        simp [World.cell?, Array.getElem?_eq_none h] at h'
    · rw [List.map_map, List.getElem?_map] at hj
      cases hr : (List.range len)[j]? with
      | none => rw [hr] at hj; cases hj
      | some i =>
        rw [hr] at hj
        obtain ⟨hi, e⟩ := List.getElem?_eq_some_iff.1 hr
        rw [List.getElem_range] at e
        subst e
        rw [List.length_range] at hi
        simp at hj
        subst hj
        rw [← WideShapes.add_plain]; exact hf j hi

end Go.Proofs.Ytcpgmglpgffhdaa
