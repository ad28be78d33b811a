/-
  append(out, make([]byte, m)...) onto a row of the call's own; and both appends as steps of a region that draws its order.
-/
import Derived.Test.YtbhahihgojhcmaaCrApp
import Derived.Lib.AppendZeros
import Derived.Deep.AppendLies
import Derived.Deep.RegionLaw
namespace Go.Proofs.Ytbhahihgojhcmaa
open Go.RowKit
set_option linter.unusedVariables false

theorem zero_cells (m : Nat) : Builtin.zeroCells (Value.int .u8 0).cells m = (bv (List.replicate m 0)).toArray := by
  apply Array.ext
  · simp [Builtin.zeroCells, Value.cells, bv]
  · intro i h1 h2
    simp [Builtin.zeroCells, Value.cells, bv, Nat.mod_one]

theorem run_append_zeros {P : Program} (w : World) (base : Nat) (t tn ty e : TypeId) (i : TypeInfo) (k kn : IntKind) (ht : P.underlying t = some (.slice e)) (htn : P.underlying tn = some (.int kn)) (hi : P.info? e = some i) (hz : i.zero = some (.int .u8 0))
    (hsize : i.size = 1) (hby : i.bytes = 1) (v : Value) (n : Nat) (xs : List Value) (hown : w.ownsRow base e 1 v n xs) (m : Nat) (hsum : n + m ≤ 1000000) (hbase : base ≤ w.heap.size) :
    ∃ v' w', (Builtin.append_ #[t, tn] ty #[v, .int k m]).run P w = .ok v' w' ∧ w'.ownsRow base e 1 v' (n + m) (xs ++ bv (List.replicate m 0)) ∧ w.grownBy w' v.ownBlock := by
  have hw : IntKind.i64.wrap (m : Int) = m := by rw [IntKind.wrap_i64]; omega
  have hneg : ¬ ((m : Int) < 0) := by omega
  have h48i : ¬ (281474976710656 < (m : Int)) := by omega
  have hlen : (xs ++ bv (List.replicate m 0)).length = (n + m) * 1 := by rw [List.length_append, hown.1, bv_len, List.length_replicate]; omega
  have hnews : ∀ u ∈ bv (List.replicate m 0), u.oneCell' = true := bv_one _
  by_cases hm : m = 0
  · subst hm
    refine ⟨v, w, ?_, by simpa [bv] using hown, World.grownBy.refl w _⟩
    obtain ⟨_, h⟩ := hown
    rcases h with ⟨hv, hn⟩ | ⟨g, cap, cur, hv, _, _, hnc, _⟩
    · subst hv
      simp [Builtin.append_, run_underlying ht, run_underlying htn, sizeOf, typeInfo, hi, asInt, asIntOf, hby, IntKind.wrap_i64]
    · subst hv
      simp [Builtin.append_, run_underlying ht, run_underlying htn, sizeOf, typeInfo, hi, asInt, asIntOf, hby, hnc, storeCells, IntKind.wrap_i64]
  · have grown : ∀ (old : Nat), (w.drew.alloc (.cells (xs.toArray ++ (bv (List.replicate m 0)).toArray ++ Builtin.zeroCells (Value.int .u8 0).cells (grownCap w (n + m) old e - (n + m))) e)).ownsRow base e 1
          (.slice (some ⟨w.heap.size, 0, none⟩) (n + m) (grownCap w (n + m) old e)) (n + m) (xs ++ bv (List.replicate m 0)) ∧
        ∀ row : Option Nat, w.grownBy (w.drew.alloc (.cells (xs.toArray ++ (bv (List.replicate m 0)).toArray ++ Builtin.zeroCells (Value.int .u8 0).cells (grownCap w (n + m) old e - (n + m))) e)) row := by
      intro old
      have hge := grownCap_ge w (n + m) old e
      have hcm : grownCap w (n + m) old e ≤ maxLen := grownCap_le_maxLen w (n + m) old e (by unfold maxLen; omega)
      refine ⟨⟨hlen, .inr ⟨w.heap.size, _, _, rfl, hbase, heap_alloc_new w.drew _, hge, hcm, ?_, ?_⟩⟩, fun row => ⟨rfl, rfl, rfl, by simp, fun k hk _ => heap_alloc_old w.drew _ hk⟩⟩
      · simp only [Array.size_append, List.size_toArray, size_zeroCells, hown.1, bv_len, List.length_replicate, show (Value.int .u8 0).cells.size = 1 from rfl]
        omega
      · simp only [Array.toList_append, List.append_assoc]
        rw [← List.append_assoc, ← hlen]
        exact List.take_left
    rcases hown.2 with ⟨rfl, rfl⟩ | ⟨g, cap, cur, rfl, hbg, hg, hnc, hcm, hcs, htake⟩
    · have hx : xs = [] := List.eq_nil_of_length_eq_zero (by simpa using hown.1)
      subst hx
      have hr := Lib.run_append_nil_zeros (P := P) w t tn ty e i (.int .u8 0) k kn ht htn hi hz m (by omega) (by omega) (by omega) (by rw [hby]; omega)
      have hgr := grown 0
      simp only [Nat.zero_add, List.nil_append, Array.empty_append] at hgr ⊢
      rw [zero_cells m] at hr
      exact ⟨_, _, hr, hgr.1, hgr.2 _⟩
    · by_cases hroom : n + m ≤ cap
      · have hst := run_storeCells_at P g n e (bv (List.replicate m 0)) 0 cur w hg (by rw [bv_len, List.length_replicate, hcs]; omega) hnews
        simp only [Nat.add_zero] at hst
        refine ⟨.slice (some ⟨g, 0, none⟩) (n + m) cap, w.setRow g (cur.toList.take n ++ bv (List.replicate m 0) ++ cur.toList.drop (n + (bv (List.replicate m 0)).length)).toArray, ?_, ⟨hlen, .inr ⟨g, cap, _, rfl, hbg, setRow_heap w g cur _ e _ hg, hroom, hcm, ?_, ?_⟩⟩, ⟨rfl, rfl, rfl, by simp, fun k _ hk => setRow_other w g k _ (fun e => hk (by simp [Value.ownBlock, e]))⟩⟩
        · simp [Builtin.append_, run_underlying ht, run_underlying htn, sizeOf, typeInfo, zeroValue, hi, hz, asInt, asIntOf, hby, hsize, hw, hneg, h48i, hm, hroom, zero_cells, Addr.add_lit, hst]
        · simp only [List.size_toArray, List.length_append, List.length_take, List.length_drop, Array.length_toList, bv_len, List.length_replicate, hcs]
          omega
        · rw [Nat.mul_one] at htake
          rw [htake, ← hlen]
          exact List.take_left
      · have holds : ∀ j u, xs[j]? = some u → w.cell? ((⟨g, 0, none⟩ : Addr).add j) = some u := hown.cells (g := g) rfl
        have hn' : ¬ (n + m ≤ cap) := hroom
        have h63' : ¬ (9223372036854775807 < ((n : Int) + (m : Int))) := by omega
        have h48' : ¬ (281474976710656 < Builtin.nextslicecap (n + m) cap) := by
          have := growslice_fits (bytes := 1) (show cap < n + m by omega) (by omega); omega
        have hfo := run_firstCells_some (P := P) w.drew 1 n ⟨g, 0, none⟩ n cap xs hown.1 (by simpa using holds)
        have hgr := grown cap
        refine ⟨_, _, ?_, hgr.1, hgr.2 _⟩
        simp [Builtin.append_, run_underlying ht, run_underlying htn, sizeOf, typeInfo, zeroValue, hi, hz, asInt, asIntOf, hby, hsize, hw, hneg, h48i, hm, hn', h63', h48', Question.forced, hfo, newRow, grownCap, zero_cells]

theorem run_append_bs {P : Program} (w : World) (base : Nat) (t ty e : TypeId) (i : TypeInfo) (z : Value) (ht : P.underlying t = some (.slice e)) (hi : P.info? e = some i) (hz : i.zero = some z)
    (hsize : i.size = 1) (hby : i.bytes = 1) (hzs : z.cells.size = 1) (v : Value) (n : Nat) (xs : List Value) (hown : w.ownsRow base e 1 v n xs)
    (A : Option Addr) (m c : Nat) (l : List Nat) (hr : Bs w A m c l) (hsum : n + m ≤ 1000000) (hbase : base ≤ w.heap.size) :
    ∃ v' w', (Builtin.append_ #[t, t] ty #[v, .slice A m c]).run P w = .ok v' w' ∧ w'.ownsRow base e 1 v' (n + m) (xs ++ bv l) ∧ w.grownBy w' v.ownBlock := by
  obtain ⟨h1, _, _, _, h5⟩ := hr
  match A, h5 with
  | none, h5 =>
    have hm : m = 0 := by
      rcases Nat.eq_zero_or_pos m with h0 | h0
      · exact h0
      · obtain ⟨_, _, hh, _⟩ := h5 h0
        cases hh
    subst hm
    have hl : l = [] := List.eq_nil_of_length_eq_zero h1
    subst hl
    exact ⟨v, w, run_add_nothing (P := P) w base t ty e i ht hi v n xs hown c, by simpa [bv] using hown, World.grownBy.refl w _⟩
  | some ad, h5 =>
    obtain ⟨v', w', hr, h2, h3, _⟩ := run_append_own (P := P) w base t ty e i z 1 1 ht hi hz hsize hby hzs (by decide) v n xs hown ad m c (bv l) (by rw [bv_len]; omega) (by
      intro j u hu
      have hj : j < l.length := by have := (List.getElem?_eq_some_iff.1 hu).1; rwa [bv_len] at this
      obtain ⟨b, off, hh, _, hc⟩ := h5 (by omega)
      injection hh with hh
      subst hh
      have hcj := hc j l[j] (List.getElem?_eq_getElem hj)
      have hu' : u = .int .u8 (l[j] : Int) := by
        have := hu
        simp only [bv, List.getElem?_map, List.getElem?_eq_getElem hj, Option.map_some, Option.some.injEq] at this
        exact this.symm
      rw [hu']
      by_cases hj0 : j = 0
      · subst hj0; simpa [Addr.add] using hcj
      · simpa [Addr.add, hj0] using hcj) (bv_one l) (by unfold maxLen; omega) (by omega) hbase
    exact ⟨v', w', hr, h2, h3⟩

/-- An append of which the run is known, as a step of a region that draws its order. -/
theorem step_append_run {P : Program} {w : World} {ops : Array Oper} {o : Oper} {a : Act} {K : Act → World → Prop} {Q : Exit → Act → World → Prop} {E : Prop} (hgd : o.guard = none) (s x : Operand) (t tn : TypeId)
    (ho : o.op = .call { callee := .builtin .append, args := #[s, x], argTypes := #[t, tn] }) (vs vx : Value) (hs : a.eval s = vs) (hx : a.eval x = vx) (R : Value → World → Prop)
    (hr : ∃ v' w', (Builtin.append_ #[t, tn] o.type #[vs, vx]).run P w = .ok v' w' ∧ R v' w') (h : ∀ v' w', R v' w' → K (a.put o.dst v') w') :
    if Region.wanted o (yielded ops a.tmps) = true then Oper.wp P o a w K Q else E := by
  have hw : Region.wanted o (yielded ops a.tmps) = true := by simp [Region.wanted, hgd]
  rw [if_pos hw]
  obtain ⟨v', w', hrun, hR⟩ := hr
  exact Lib.wp_append_run w s x t tn ho vs vx hs hx v' w' hrun (h v' w' hR)

end Go.Proofs.Ytbhahihgojhcmaa
