/-
  What comes in: a plain node, with its cells, keys and kids, each within the form's reach.
-/
import Derived.Test.YtmcldkcmialfeaaGreatNdOf
import Derived.Test.YtmcldkcmialfeaaGreatNdOpen
import Derived.SizedLaws
namespace Go.Proofs.YtmcldkcmialfeaaGreat.Nn
open Go.ChangeShapes Go.WideShapes Go.RowKit
set_option linter.unusedVariables false

def Wt {H : Type} (t : TypeId) (d : DataW H) : Prop := ∀ n ∈ d.weights Tryz.prog t, n ≤ reachBytes
theorem weightsAll_mem {H : Type} {P : Program} {e : TypeId} {d : DataW H} {n : Nat} : ∀ {ds : List (DataW H)}, d ∈ ds → n ∈ d.weights P e → n ∈ DataW.weightsAll P e ds
  | [], h, _ => by cases h
  | d0 :: ds, h, hn => by
    simp only [DataW.weightsAll, List.mem_append]
    rcases List.mem_cons.1 h with rfl | h
    · exact .inl hn
    · exact .inr (weightsAll_mem h hn)
theorem wt_len {H : Type} {t e : TypeId} {l r : List (DataW H)} (hu : Tryz.prog.underlying t = some (.slice e)) (h : Wt t (.slice l r)) : (l.length + r.length) * Tryz.prog.bytesOf e ≤ reachBytes :=
  h _ (by simp only [DataW.weights, hu]; exact List.mem_cons.2 (.inl rfl))
theorem wt_elem {H : Type} {t e : TypeId} {l r : List (DataW H)} {d : DataW H} (hu : Tryz.prog.underlying t = some (.slice e)) (h : Wt t (.slice l r)) (hd : d ∈ l) : Wt e d := fun n hn =>
  h n (by simp only [DataW.weights, hu]; exact List.mem_cons.2 (.inr (List.mem_append.2 (.inl (weightsAll_mem hd hn)))))
theorem wt_part {H : Type} {t : TypeId} {fs : Array Field} {l : List (DataW H)} {d : DataW H} {j : Nat} {f : Field} (hu : Tryz.prog.underlying t = some (.struct fs)) (h : Wt t (.agg l)) (hf : fs[j]? = some f) (hd : l[j]? = some d) : Wt f.type d := fun n hn =>
  h n (by simp only [DataW.weights, hu]; exact DataW.weights_mem_each (j := j) (t := f.type) (by rw [List.getElem?_map]; simp [hf]) hd n hn)
theorem rw_of {W : World} {a : Addr} {len cap s : Nat} {vs : List Value} (hl : len ≤ cap) (hm : cap ≤ maxLen) (hs : 0 < s) (hv : vs.length = len * s) (hc : ∀ (j : Nat) (v : Value), vs[j]? = some v → W.cell? (a.add j) = some v) : Rw W (some a) len cap s vs := by
  refine ⟨hv, hl, hm, fun hn => ?_⟩
  have hp : 0 < vs.length := by rw [hv]; exact Nat.mul_pos hn hs
  obtain ⟨b, off, spot⟩ := a
  have h0 := hc 0 vs[0] (List.getElem?_eq_getElem hp)
  have hspot : spot = none := by simpa [Addr.add] using World.cell?_spot h0
  subst hspot
  refine ⟨b, off, rfl, ?_, fun j v hj => by rw [← add_plain]; exact hc j v hj⟩
  rcases Nat.lt_or_ge b W.heap.size with h | h
  · exact h
  · have h' : W.cell? ⟨b, off, none⟩ = some vs[0] := by simpa [Addr.add] using h0
    simp [World.cell?, Array.getElem?_eq_none h] at h'
section
variable {H : Type} {enc : TypeId × Value → H} {W : World} {base : Nat} {spare : Nat → Bool} {held : Bool} {fuel : Nat} {v : Value} {x : DataW H × List MemPlace}
theorem open_sl (h : DataW.trod enc Tryz.prog W base spare held fuel 43 [v] = some x) (hw : Wt 43 x.1) : ∃ l, SlV W v l := by
  obtain ⟨A, n, c, rfl, l, hb⟩ := open_bytes6 Tryz.underlying43 Tryz.underlying5 (by kernel_rfl) h
  refine ⟨l, A, n, c, rfl, hb, ?_⟩
  rcases Deep.open_slice1 Tryz.underlying43 (show Tryz.prog.cellsOf 5 = 1 by kernel_rfl) h with ⟨hv, _⟩ | ⟨a, len, cap, m, k, V, D, Pl, hv, _, _, _, _, rfl, _⟩
  · simp at hv; omega
  · simp at hv
    have := wt_len Tryz.underlying43 hw
    rw [show Tryz.prog.bytesOf 5 = 1 by kernel_rfl, List.length_map, List.length_range] at this
    unfold reachBytes at this
    omega
theorem open_ks (h : DataW.trod enc Tryz.prog W base spare held fuel 63 [v] = some x) (hw : Wt 63 x.1) : ∃ A n c ks, v = .slice A n c ∧ Ks W A n c ks := by
  rcases Deep.open_slice1 Tryz.underlying63 (show Tryz.prog.cellsOf 43 = 1 by kernel_rfl) h with ⟨hv, _⟩ | ⟨a, len, cap, m, k, V, D, Pl, hv, _, hl, hm, hmm, rfl, hx⟩
  · simp at hv
    exact ⟨none, 0, 0, [], hv, [], Rw.nil_ _ _ _ _ (Nat.zero_le _), Along.nil_⟩
  · simp at hv
    have each : ∀ i, i < len → ∃ l, SlV W (V i) l := fun i hi => by
      obtain ⟨h1, h2⟩ := hx i (by rw [hmm]; split <;> omega)
      exact open_sl h2 (wt_elem Tryz.underlying63 hw (List.mem_map.2 ⟨i, List.mem_range.2 hi, rfl⟩))
    obtain ⟨f, hf⟩ := Deep.choose_lt each
    refine ⟨some a, len, cap, (List.range len).map f, hv, (List.range len).map V, rw_of hl hm (by omega) (by simp) (fun j u hj => ?_), ⟨by simp, fun i y z hy hz => ?_⟩⟩
    · rw [List.getElem?_map] at hj
      cases hr : (List.range len)[j]? with
      | none => rw [hr] at hj; cases hj
      | some i =>
        rw [hr] at hj
        obtain ⟨hi, e⟩ := List.getElem?_eq_some_iff.1 hr
        rw [List.getElem_range] at e
        subst e
        rw [List.length_range] at hi
        simp at hj
        subst hj
        exact (hx j (by rw [hmm]; split <;> omega)).1
    · rw [List.getElem?_map] at hy hz
      cases hr : (List.range len)[i]? with
      | none => rw [hr] at hy; cases hy
      | some i' =>
        rw [hr] at hy hz
        obtain ⟨hi, e⟩ := List.getElem?_eq_some_iff.1 hr
        rw [List.getElem_range] at e
        subst e
        rw [List.length_range] at hi
        simp at hy hz
        subst hy hz
        exact hf i hi
theorem open_is (h : DataW.trod enc Tryz.prog W base spare held fuel 50 [v] = some x) (hw : Wt 50 x.1) : ∃ A n c ps, v = .slice A n c ∧ Is W A n c ps ∧ n ≤ 140737488355328 := by
  rcases Deep.open_slice1 Tryz.underlying50 (show Tryz.prog.cellsOf 3 = 1 by kernel_rfl) h with ⟨hv, _⟩ | ⟨a, len, cap, m, k, V, D, Pl, hv, _, hl, hm, hmm, rfl, hx⟩
  · simp at hv
    exact ⟨none, 0, 0, [], hv, ⟨Rw.nil_ _ _ _ _ (Nat.zero_le _), by simp⟩, by omega⟩
  · simp at hv
    have each : ∀ i, i < len → ∃ z : Int, I64 z ∧ W.cell? (a.add i) = some (.int .i64 z) := fun i hi => by
      obtain ⟨h1, h2⟩ := hx i (by rw [hmm]; split <;> omega)
      obtain ⟨z, hz, _, wf⟩ := DataW.trod_int Tryz.underlying3 h2
      simp at hz
      have b := bounds_i64 wf
      exact ⟨z, ⟨by omega, by omega⟩, by rw [h1, hz]⟩
    obtain ⟨f, hf⟩ := Deep.choose_lt each
    refine ⟨some a, len, cap, (List.range len).map f, hv, ⟨rw_of hl hm (by omega) (by simp [iv]) (fun j u hj => ?_), fun z hz => ?_⟩, ?_⟩
    · unfold iv at hj
      rw [List.getElem?_map, List.getElem?_map] at hj
      cases hr : (List.range len)[j]? with
      | none => rw [hr] at hj; cases hj
      | some i =>
        rw [hr] at hj
        obtain ⟨hi, e⟩ := List.getElem?_eq_some_iff.1 hr
        rw [List.getElem_range] at e
        subst e
        rw [List.length_range] at hi
        simp at hj
        subst hj
        exact (hf j hi).2
    · obtain ⟨i, hi, rfl⟩ := List.mem_map.1 hz
      exact (hf i (List.mem_range.1 hi)).1
    · have := wt_len Tryz.underlying50 hw
      rw [show Tryz.prog.bytesOf 3 = 8 by kernel_rfl, List.length_map, List.length_range] at this
      unfold reachBytes at this
      omega
theorem cellFields : ∃ fs, Tryz.prog.underlying 125 = some (.struct fs) ∧ fs.map (·.type) = #[43, 43, 3, 3] ∧ Deep.oneCellFields Tryz.prog fs = true ∧ Tryz.prog.cellsOf 125 = 4 ∧ fs.size = 4 := ⟨_, Tryz.underlying125, by kernel_rfl, by kernel_rfl, by kernel_rfl, by kernel_rfl⟩
/-- A struct's parts, each by itself. -/
theorem parts {t : TypeId} {fs : Array Field} {ty : Array TypeId} {l : List Value} (hfs : Tryz.prog.underlying t = some (.struct fs)) (hty : fs.map (·.type) = ty) (hone : Deep.oneCellFields Tryz.prog fs = true) (hll : l.length = fs.size) (h : DataW.trod enc Tryz.prog W base spare held fuel t l = some x) (hw : Wt t x.1) :
    ∀ (j : Nat) (u : TypeId) (v : Value), ty[j]? = some u → l[j]? = some v → ∃ n y, DataW.trod enc Tryz.prog W base spare held n u [v] = some y ∧ Wt u y.1 := by
  obtain ⟨xs, n, _, rfl, hl, hxl, hf⟩ := DataW.trod_struct hfs h
  intro j u v hj hv
  rw [← hty, Array.getElem?_map] at hj
  cases hq : fs[j]? with
  | none => rw [hq] at hj; cases hj
  | some f =>
    rw [hq] at hj
    injection hj with hj
    replace hj : f.type = u := hj
    have g := hf j f hq
    obtain ⟨o1, c1⟩ := Deep.hone_of hone j f hq
    rw [o1, c1, hj] at g
    have hjl : j < fs.size := (Array.getElem?_eq_some_iff.1 hq).1
    have e : (l.drop j).take 1 = [v] := by
      rw [List.getElem?_eq_some_iff] at hv
      obtain ⟨hv1, hv2⟩ := hv
      rw [List.drop_eq_getElem_cons hv1, hv2]; rfl
    rw [e] at g
    refine ⟨n, xs[j]'(by omega), by rw [g, List.getElem?_eq_getElem], ?_⟩
    have := wt_part (j := j) (f := f) (d := (xs[j]'(by omega)).1) hfs hw hq (by rw [List.getElem?_map, List.getElem?_eq_getElem (by omega)]; rfl)
    rwa [hj] at this
theorem open_cs (h : DataW.trod enc Tryz.prog W base spare held fuel 62 [v] = some x) (hw : Wt 62 x.1) : ∃ A n c cs, v = .slice A n c ∧ Cs W A n c cs := by
  obtain ⟨fs, hfs, hty, hone, hce, hsz⟩ := cellFields
  rcases Deep.open_slice Tryz.underlying62 h with ⟨hv, _⟩ | ⟨a, len, cap, m, k, D, Pl, hv, _, hl, hm, hmm, rfl, hx⟩
  · simp at hv
    exact ⟨none, 0, 0, [], hv, [], Rw.nil_ _ _ _ _ (Nat.zero_le _), Along.nil_⟩
  · simp at hv
    have each : ∀ i, i < len → ∃ y : CV × Nd.Cell, CR W y.1 y.2 ∧ ∀ (j : Nat) (u : Value), y.1.vs[j]? = some u → W.cell? (a.add (i * 4 + j)) = some u := fun i hi => by
      obtain ⟨l, h1, h2⟩ := hx i (by rw [hmm]; split <;> omega)
      rw [hce] at h1
      obtain ⟨_, hlen, hcell⟩ := World.cells?_some h1
      have at_ := parts hfs hty hone (by rw [hlen, hsz]) h2 (wt_elem Tryz.underlying62 hw (List.mem_map.2 ⟨i, List.mem_range.2 hi, rfl⟩))
      match l, hlen with
      | [v0, v1, v2, v3], _ =>
        obtain ⟨_, y0, t0, w0⟩ := at_ 0 _ v0 rfl rfl
        obtain ⟨_, y1, t1, w1⟩ := at_ 1 _ v1 rfl rfl
        obtain ⟨_, y2, t2, w2⟩ := at_ 2 _ v2 rfl rfl
        obtain ⟨_, y3, t3, w3⟩ := at_ 3 _ v3 rfl rfl
        obtain ⟨l0, s0⟩ := open_sl t0 w0
        obtain ⟨l1, s1⟩ := open_sl t1 w1
        obtain ⟨x2, q2, _, wf2⟩ := DataW.trod_int Tryz.underlying3 t2
        obtain ⟨x3, q3, _, wf3⟩ := DataW.trod_int Tryz.underlying3 t3
        simp at q2 q3
        subst q2 q3
        have b2 := bounds_i64 wf2
        have b3 := bounds_i64 wf3
        refine ⟨(⟨v0, v1, x2, x3⟩, ⟨l0, l1, x2, x3⟩), ⟨s0, s1, rfl, rfl, ⟨by show _ ≤ x2; omega, by show x2 ≤ _; omega⟩, ⟨by show _ ≤ x3; omega, by show x3 ≤ _; omega⟩⟩, fun j u hj => ?_⟩
        have hj4 : j < 4 := by have := (List.getElem?_eq_some_iff.1 hj).1; simpa [CV.vs] using this
        have := hcell j (by omega)
        rw [Deep.add_add] at this
        rw [this]
        exact hj
    haveI : Inhabited (CV × Nd.Cell) := ⟨(⟨.slice none 0 0, .slice none 0 0, 0, 0⟩, ⟨[], [], 0, 0⟩)⟩
    obtain ⟨f, hf⟩ := Deep.choose_lt each
    have hcc : ∀ n, n ≤ len → ∀ (j : Nat) (u : Value), (cc ((List.range n).map fun i => (f i).1))[j]? = some u → W.cell? (a.add j) = some u := by
      intro n
      induction n with
      | zero => intro _ j u hj; simp [cc] at hj
      | succ n ih =>
        intro hn j u hj
        rw [List.range_succ, List.map_append, cc_app] at hj
        have hlen : (cc ((List.range n).map fun i => (f i).1)).length = n * 4 := by rw [cc_len]; simp
        by_cases hjn : j < n * 4
        · rw [List.getElem?_append_left (by omega)] at hj
          exact ih (by omega) j u hj
        · rw [List.getElem?_append_right (by omega), hlen] at hj
          have e : cc ([n].map fun i => (f i).1) = (f n).1.vs := cc_one _
          rw [e] at hj
          have := (hf n (by omega)).2 _ u hj
          rwa [show n * 4 + (j - n * 4) = j by omega] at this
    refine ⟨some a, len, cap, (List.range len).map fun i => (f i).2, hv, (List.range len).map fun i => (f i).1, rw_of hl hm (by omega) (by rw [cc_len]; simp) (hcc len (Nat.le_refl _)), ⟨by simp, fun i y z hy hz => ?_⟩⟩
    rw [List.getElem?_map] at hy hz
    cases hr : (List.range len)[i]? with
    | none => rw [hr] at hy; cases hy
    | some i' =>
      rw [hr] at hy hz
      obtain ⟨hi, e⟩ := List.getElem?_eq_some_iff.1 hr
      rw [List.getElem_range] at e
      subst e
      rw [List.length_range] at hi
      simp at hy hz
      subst hy hz
      exact (hf i hi).1
end
theorem nodeFields : ∃ fs, Tryz.prog.underlying 65 = some (.struct fs) ∧ fs.map (·.type) = #[4, 62, 63, 50] ∧ Deep.oneCellFields Tryz.prog fs = true ∧ Tryz.prog.cellsOf 65 = 4 ∧ fs.size = 4 := ⟨_, Tryz.underlying65, by kernel_rfl, by kernel_rfl, by kernel_rfl, by kernel_rfl⟩
set_option maxRecDepth 100000 in
theorem open_node {H : Type} {enc : TypeId × Value → H} {W : World} {base b0 : Nat} {spare : Nat → Bool} {held : Bool} {r : Reach} {v : Value} {d : DataW H} {p : List MemPlace}
    (hv : Value.okWide Tryz.prog W r b0 65 v) (h : DataW.Trod enc Tryz.prog W base spare held 65 v d p) (hw : ∀ n ∈ d.weights Tryz.prog 65, n ≤ reachBytes) : ∃ (x : Nv) (cs : List Nd.Cell) (ks : List (List Nat)) (ps : List Int), v = x.val ∧ NvIs W x cs ks ps := by
  obtain ⟨cs, rfl, hs⟩ := okWide_struct Tryz.underlying65 hv
  obtain ⟨fuel, h⟩ := h
  obtain ⟨fs, hfs, hty, hone, hce, hsz⟩ := nodeFields
  obtain ⟨l⟩ := cs
  have hl' : l.length = 4 := by
    obtain ⟨xs, n, _, _, hl, _, _⟩ := DataW.trod_struct hfs h
    rw [hce] at hl
    simpa [Value.cells] using hl
  have h' : DataW.trod enc Tryz.prog W base spare held fuel 65 l = some (d, p) := h
  have at_ := parts hfs hty hone (by rw [hl', hsz]) h' hw
  match l, hl' with
  | [v0, v1, v2, v3], _ =>
    obtain ⟨_, y0, t0, w0⟩ := at_ 0 _ v0 rfl rfl
    obtain ⟨_, y1, t1, w1⟩ := at_ 1 _ v1 rfl rfl
    obtain ⟨_, y2, t2, w2⟩ := at_ 2 _ v2 rfl rfl
    obtain ⟨_, y3, t3, w3⟩ := at_ 3 _ v3 rfl rfl
    obtain ⟨b, q0, _⟩ := DataW.trod_bool Tryz.underlying4 t0
    obtain ⟨cA, cn, cc', ccs, q1, h1⟩ := open_cs t1 w1
    obtain ⟨kA, kn, kc, kks, q2, h2⟩ := open_ks t2 w2
    obtain ⟨pA, pn, pc, pps, q3, h3, hp⟩ := open_is t3 w3
    simp at q0
    subst q0 q1 q2 q3
    exact ⟨⟨b, cA, cn, cc', kA, kn, kc, pA, pn, pc⟩, ccs, kks, pps, rfl, h1, h2, h3, hp⟩
end Go.Proofs.YtmcldkcmialfeaaGreat.Nn
