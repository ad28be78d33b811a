/-
  What comes in: roots, one root.
-/
import Derived.Test.YtbhahihgojhcmaaRtBase
import Derived.OpenShut
import Derived.Deep.Slices
import Derived.Deep.Fields
import Derived.ChangeMaps5
namespace Go.Proofs.Ytbhahihgojhcmaa.Rt
open Go.ChangeShapes Go.WideShapes Go.RowKit
set_option linter.unusedVariables false

theorem open_rows {H : Type} {enc : TypeId × Value → H} {P : Program} {w : World} {base : Nat} {spare : Nat → Bool} {held : Bool} {t e : TypeId} {fs : Array Field} {fuel : Nat} {cs : List Value} {x : DataW H × List MemPlace}
    (ht : P.underlying t = some (.slice e)) (he : P.underlying e = some (.struct fs)) (hone : Deep.oneCellFields P fs = true) (ce : P.cellsOf e = fs.size) (h : DataW.trod enc P w base spare held fuel t cs = some x) :
    (cs = [.slice none 0 0] ∧ x = (.nil, [])) ∨
    ∃ (a : Addr) (len cap : Nat), cs = [.slice (some a) len cap] ∧ base ≤ a.block ∧ len ≤ cap ∧ cap ≤ maxLen ∧ ∀ i, i < len → ∃ V : List Value, V.length = fs.size ∧ (∀ j, j < fs.size → w.cell? (a.add (i * fs.size + j)) = V[j]?) ∧
      ∀ (j : Nat) (f : Field) (v : Value), fs[j]? = some f → V[j]? = some v → ∃ n y, DataW.trod enc P w base spare held n f.type [v] = some y := by
  rcases Deep.open_slice ht h with h0 | ⟨a, len, cap, m, n, D, Pl, rfl, hb, hl, hm, hmm, rfl, hx⟩
  · exact .inl h0
  refine .inr ⟨a, len, cap, rfl, hb, hl, hm, fun i hi => ?_⟩
  obtain ⟨V, h1, h2⟩ := hx i (by rw [hmm]; split <;> omega)
  rw [ce] at h1
  obtain ⟨_, hlen, hcell⟩ := World.cells?_some h1
  refine ⟨V, hlen, fun j hj => ?_, fun j f v hf hv => ?_⟩
  · rw [← hcell j hj, Deep.add_add]
  · obtain ⟨xs, k, _, _, _, hxl, hf'⟩ := DataW.trod_struct he h2
    have g := hf' j f hf
    obtain ⟨o1, c1⟩ := Deep.hone_of hone j f hf
    have hj : j < fs.size := by
      rcases Nat.lt_or_ge j fs.size with h | h
      · exact h
      · rw [Array.getElem?_eq_none h] at hf; cases hf
    rw [o1, c1] at g
    have e : (V.drop j).take 1 = [v] := by
      rw [List.getElem?_eq_some_iff] at hv
      obtain ⟨hv1, hv2⟩ := hv
      rw [List.drop_eq_getElem_cons hv1, hv2]; rfl
    rw [e] at g
    exact ⟨k, xs[j]'(by omega), by rw [g, List.getElem?_eq_getElem]⟩

instance : Inhabited Rm.R := ⟨⟨[], 0, 0⟩⟩
theorem open_rsFields : ∃ fs, Try.prog.underlying 34 = some (.struct fs) ∧ fs.map (·.type) = #[9, 3, 3] ∧ Deep.oneCellFields Try.prog fs = true ∧ Try.prog.cellsOf 34 = fs.size ∧ fs.size = 3 := ⟨_, Try.underlying34, by kernel_rfl, by kernel_rfl, by kernel_rfl, by kernel_rfl⟩
theorem three_in {H : Type} {enc : TypeId × Value → H} {W : World} {base : Nat} {spare : Nat → Bool} {held : Bool} {n0 n1 n2 : Nat} {v0 v1 v2 : Value} {y0 y1 y2 : DataW H × List MemPlace}
    (t0 : DataW.trod enc Try.prog W base spare held n0 9 [v0] = some y0) (t1 : DataW.trod enc Try.prog W base spare held n1 3 [v1] = some y1) (t2 : DataW.trod enc Try.prog W base spare held n2 3 [v2] = some y2) :
    ∃ x : Rm.R, v0 = .string (txt x.name) ∧ v1 = .int .i64 x.page ∧ v2 = .int .i64 x.count ∧ In x := by
  obtain ⟨s, q0, _, w0⟩ := DataW.trod_string Try.underlying9 t0
  obtain ⟨x1, q1, _, w1⟩ := DataW.trod_int Try.underlying3 t1
  obtain ⟨x2, q2, _, w2⟩ := DataW.trod_int Try.underlying3 t2
  simp at q0 q1 q2
  subst q0 q1 q2
  have b1 := bounds_i64 w1
  have b2 := bounds_i64 w2
  refine ⟨⟨nums s, x1, x2⟩, by rw [txt_nums], rfl, rfl, nums_lt s, ?_, ⟨by show _ ≤ x1; omega, by show x1 ≤ _; omega⟩, ⟨by show _ ≤ x2; omega, by show x2 ≤ _; omega⟩⟩
  show (nums s).length ≤ _
  rw [nums_len]
  unfold maxLen at w0
  omega
theorem open_rs {H : Type} {enc : TypeId × Value → H} {W : World} {base : Nat} {spare : Nat → Bool} {held : Bool} {fuel : Nat} {v : Value} {x : DataW H × List MemPlace}
    (hf : DataW.trod enc Try.prog W base spare held fuel 22 [v] = some x) : ∃ A n c, v = .slice A n c ∧ ∃ L, Rs W A n c L := by
  obtain ⟨fs, hfs, hty, hone, hce, hsz⟩ := open_rsFields
  rcases open_rows Try.underlying22 hfs hone hce hf with ⟨hcs, _⟩ | ⟨a, len, cap, hcs, _, hl, hm, hrow⟩
  · simp at hcs
    exact ⟨_, _, _, hcs, [], Rs.nil_ _ _ _ (Nat.zero_le _)⟩
  · simp at hcs
    refine ⟨_, _, _, hcs, ?_⟩
    have tyAt : ∀ (j : Nat) (t : TypeId), #[9, 3, 3][j]? = some t → ∃ f : Field, fs[j]? = some f ∧ f.type = t := by
      intro j t hj
      rw [← hty, Array.getElem?_map] at hj
      cases hq : fs[j]? with
      | none => rw [hq] at hj; cases hj
      | some f => rw [hq] at hj; injection hj with hj; exact ⟨f, rfl, hj⟩
    obtain ⟨f0, g0, e0⟩ := tyAt 0 _ rfl
    obtain ⟨f1, g1, e1⟩ := tyAt 1 _ rfl
    obtain ⟨f2, g2, e2⟩ := tyAt 2 _ rfl
    obtain ⟨b, off, spot⟩ := a
    have hsp : 0 < len → spot = none := by
      intro hn
      obtain ⟨V0, hV0, hc0, _⟩ := hrow 0 hn
      rw [hsz] at hV0 hc0
      have c00 := hc0 0 (by omega)
      match V0, hV0 with
      | [u0, _, _], _ =>
        have := World.cell?_spot (show W.cell? (Addr.add ⟨b, off, spot⟩ (0 * 3 + 0)) = some u0 from c00)
        simpa [Addr.add] using this
    have each : ∀ i, i < len → ∃ x : Rm.R, spot = none ∧ b < W.heap.size ∧ In x ∧ RtAt W b (off + i * 3) x := by
      intro i hi
      obtain ⟨V, hV, hc, hd⟩ := hrow i hi
      rw [hsz] at hV hc
      match V, hV with
      | [v0, v1, v2], _ =>
        obtain ⟨n0, y0, t0⟩ := hd 0 f0 v0 g0 rfl
        rw [e0] at t0
        obtain ⟨n1, y1, t1⟩ := hd 1 f1 v1 g1 rfl
        rw [e1] at t1
        obtain ⟨n2, y2, t2⟩ := hd 2 f2 v2 g2 rfl
        rw [e2] at t2
        obtain ⟨x, rfl, rfl, rfl, hin⟩ := three_in t0 t1 t2
        have hspot : spot = none := hsp (by omega)
        subst hspot
        simp only [WideShapes.add_plain] at hc
        refine ⟨x, rfl, ?_, hin, by simpa using hc 0 (by omega), by simpa [Nat.add_assoc] using hc 1 (by omega), by simpa [Nat.add_assoc] using hc 2 (by omega)⟩
        have c0 := hc 0 (by omega)
        rcases Nat.lt_or_ge b W.heap.size with h | h
        · exact h
        · simp [World.cell?, Array.getElem?_eq_none h] at c0
    obtain ⟨f, hfx⟩ := Deep.choose_lt each
    refine ⟨(List.range len).map f, by simp, hl, hm, ?_, fun hn => ?_⟩
    · intro y hy
      obtain ⟨i, hi, rfl⟩ := List.mem_map.1 hy
      exact (hfx i (List.mem_range.1 hi)).2.2.1
    obtain ⟨hs, hb, _⟩ := hfx 0 hn
    subst hs
    refine ⟨b, off, rfl, hb, fun j x hj => ?_⟩
    rw [List.getElem?_map] at hj
    cases hr : (List.range len)[j]? with
    | none => rw [hr] at hj; cases hj
    | some i =>
      rw [hr] at hj
      obtain ⟨hi, e⟩ := List.getElem?_eq_some_iff.1 hr
      rw [List.getElem_range] at e
      subst e
      rw [List.length_range] at hi
      injection hj with hj
      subst hj
      exact (hfx j hi).2.2.2
theorem opened_rs {H : Type} {enc : TypeId × Value → H} {W : World} {base : Nat} {a0 : Option Addr} {len0 cap0 : Nat} {d0 : DataW H} {p0 : List MemPlace}
    (h0 : DataW.Trod enc Try.prog W base (fun _ => true) true 22 (.slice a0 len0 cap0) d0 p0) : ∃ L, Rs W a0 len0 cap0 L := by
  obtain ⟨fuel, hf⟩ := h0
  obtain ⟨A, n, c, e, l, hl⟩ := open_rs (v := .slice a0 len0 cap0) hf
  injection e with e1 e2 e3
  subst e1 e2 e3
  exact ⟨l, hl⟩
set_option maxRecDepth 100000 in
theorem open_root {H : Type} {enc : TypeId × Value → H} {W : World} {base b0 : Nat} {spare : Nat → Bool} {held : Bool} {r : Reach} {v : Value} {d : DataW H} {p : List MemPlace}
    (hv : Value.okWide Try.prog W r b0 34 v) (h : DataW.Trod enc Try.prog W base spare held 34 v d p) : ∃ x : Rm.R, v = rv x ∧ In x := by
  obtain ⟨cs, rfl, hs⟩ := okWide_struct Try.underlying34 hv
  obtain ⟨fuel, h⟩ := h
  obtain ⟨fs, hfs, hty, hone, hce, hsz⟩ := open_rsFields
  obtain ⟨xs, n, _, _, hl, hxl, hf⟩ := DataW.trod_struct hfs h
  rw [hce, hsz] at hl
  obtain ⟨l⟩ := cs
  have hl' : l.length = 3 := by simpa [Value.cells] using hl
  have at_ : ∀ (j : Nat) (t : TypeId) (v : Value), #[9, 3, 3][j]? = some t → l[j]? = some v → ∃ y, DataW.trod enc Try.prog W base spare held n t [v] = some y := by
    intro j t v hj hv
    rw [← hty, Array.getElem?_map] at hj
    cases hq : fs[j]? with
    | none => rw [hq] at hj; cases hj
    | some f =>
      rw [hq] at hj
      injection hj with hj
      replace hj : f.type = t := hj
      have g := hf j f hq
      obtain ⟨o1, c1⟩ := Deep.hone_of hone j f hq
      rw [o1, c1, hj] at g
      have hjl : j < fs.size := (Array.getElem?_eq_some_iff.1 hq).1
      have e : (l.drop j).take 1 = [v] := by
        rw [List.getElem?_eq_some_iff] at hv
        obtain ⟨hv1, hv2⟩ := hv
        rw [List.drop_eq_getElem_cons hv1, hv2]; rfl
      have e' : (((Value.agg l.toArray).cells.toList).drop j).take 1 = [v] := e
      rw [e'] at g
      exact ⟨xs[j]'(by omega), by rw [g, List.getElem?_eq_getElem]⟩
  match l, hl' with
  | [v0, v1, v2], _ =>
    obtain ⟨y0, t0⟩ := at_ 0 _ v0 rfl rfl
    obtain ⟨y1, t1⟩ := at_ 1 _ v1 rfl rfl
    obtain ⟨y2, t2⟩ := at_ 2 _ v2 rfl rfl
    obtain ⟨x, rfl, rfl, rfl, hin⟩ := three_in t0 t1 t2
    exact ⟨x, rfl, hin⟩

end Go.Proofs.Ytbhahihgojhcmaa.Rt
