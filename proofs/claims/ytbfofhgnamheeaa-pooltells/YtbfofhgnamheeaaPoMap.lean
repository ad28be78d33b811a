/-
  Freed pages in a map, as the program holds them.
-/
import Derived.Test.YtbfofhgnamheeaaOffB
import Derived.Test.YtbfofhgnamheeaaPlPool
import Derived.Maps.Ext
import Derived.Maps.RangeWalk
namespace Go.Proofs.Ytbfofhgnamheeaa.Pq
open Go.RowKit
set_option linter.unusedVariables false

def lk (k : Int) : Lit := .int .i64 k
/-- What the map reads as. -/
def md (l : List Pl.F) : DataW Value := .map (l.map fun f => (Lit.int .i64 f.1, DataW.lit (Lit.int .u64 (f.2 : Int))))
theorem has_any (l : List Pl.F) (k : Lit) : Maps.has (md l) k = l.any fun f => (Lit.int .i64 f.1).sameKey k := by
  unfold md; rw [Maps.has_eq, List.any_map]; rfl
theorem has_md (l : List Pl.F) (k : Int) : Maps.has (md l) (lk k) = (Pl.look l k).isSome := by
  rw [has_any]
  unfold Pl.look lk
  rw [Option.isSome_map, List.isSome_find?]
  congr 1
  funext f
  show decide (IntKind.i64 = IntKind.i64 ∧ f.1 = k) = (f.1 == k)
  by_cases h : f.1 = k <;> simp [h]
theorem has_form {l : List Pl.F} {k : Lit} (h : Maps.has (md l) k = true) : ∃ f ∈ l, k = lk f.1 := by
  rw [has_any, List.any_eq_true] at h
  obtain ⟨f, hf, he⟩ := h
  refine ⟨f, hf, ?_⟩
  cases k <;> simp [Lit.sameKey] at he
  obtain ⟨rfl, rfl⟩ := he
  rfl
theorem at_md {l : List Pl.F} {k : Int} {g : Nat} (h : Pl.look l k = some g) (z : DataW Value) : (md l).atKey (lk k) z = .lit (.int .u64 (g : Int)) := by
  unfold Pl.look at h
  unfold md DataW.atKey lk
  simp only
  rw [List.find?_map]
  have e : ((fun p : Lit × DataW Value => p.1.sameKey (Lit.int .i64 k)) ∘ fun f : Pl.F => (Lit.int .i64 f.1, DataW.lit (Lit.int .u64 (f.2 : Int)))) = fun f => f.1 == k := by
    funext f
    show decide (IntKind.i64 = IntKind.i64 ∧ f.1 = k) = (f.1 == k)
    by_cases h : f.1 = k <;> simp [h]
  rw [e]
  cases hf : l.find? fun f => f.1 == k with
  | none => rw [hf] at h; cases h
  | some f => rw [hf] at h; simp at h; subst h; rfl
theorem size_md (l : List Pl.F) : Maps.size (md l) = l.length := by unfold md; rw [Maps.size_eq, List.length_map]
theorem isMap_md (l : List Pl.F) : Maps.IsMap (md l) := ⟨_, rfl⟩
theorem canon_md {l : List Pl.F} (hr : Pl.Rises l) : Maps.Canon (md l) := by
  refine ⟨_, rfl, ?_, ?_⟩
  · rw [List.pairwise_map]
    exact hr.imp fun {a b} h => by simpa [Lit.before] using h
  · intro p hp
    obtain ⟨f, _, rfl⟩ := List.mem_map.1 hp
    trivial
theorem put_md {l : List Pl.F} (hr : Pl.Rises l) {no : Int} {g : Nat} (hn : Pl.look l no = none) (hc : Maps.Canon ((md l).put (lk no) (.lit (.int .u64 (g : Int))))) :
    (md l).put (lk no) (.lit (.int .u64 (g : Int))) = md (Pl.ins l no g) := by
  have hn' := Pl.look_none.1 hn
  have hk : WideAt.IsKeyLit (lk no) := trivial
  have hH : ∀ k, Maps.has ((md l).put (lk no) (.lit (.int .u64 (g : Int)))) k = Maps.has (md (Pl.ins l no g)) k := by
    intro k
    by_cases e : k = lk no
    · subst e
      rw [Maps.has_put_same (isMap_md l) hk, has_md, Pl.look_ins hr hn', if_pos rfl]; rfl
    · rw [Maps.has_put_other e]
      by_cases h1 : Maps.has (md l) k = true
      · obtain ⟨f, hf, rfl⟩ := has_form h1
        rw [has_md, has_md, Pl.look_ins hr hn', if_neg (fun h => e (by rw [h]))]
      · rw [Bool.eq_false_iff.2 h1]
        cases h2 : Maps.has (md (Pl.ins l no g)) k with
        | false => rfl
        | true =>
          obtain ⟨f, hf, rfl⟩ := has_form h2
          rw [has_md, Pl.look_ins hr hn', if_neg (fun h => e (by rw [h])), ← has_md] at h2
          exact absurd h2 h1
  refine Maps.ext hc (canon_md (Pl.ins_rises hr hn')) hH fun k z h => ?_
  by_cases e : k = lk no
  · subst e
    rw [Maps.atKey_put_same (isMap_md l) hk, at_md (g := g) (by rw [Pl.look_ins hr hn', if_pos rfl])]
  · rw [Maps.atKey_put_other e]
    rw [Maps.has_put_other e] at h
    obtain ⟨f, hf, rfl⟩ := has_form h
    rw [has_md] at h
    obtain ⟨g', hg'⟩ := Option.isSome_iff_exists.1 h
    rw [at_md hg', at_md (g := g') (by rw [Pl.look_ins hr hn', if_neg (fun h => e (by rw [h]))]; exact hg')]
theorem del_md {l : List Pl.F} (hr : Pl.Rises l) {i : Nat} {x : Pl.F} (hx : l[i]? = some x) (hc : Maps.Canon ((md l).del (lk x.1))) :
    (md l).del (lk x.1) = md (Pl.cut l i) := by
  have hH : ∀ k, Maps.has ((md l).del (lk x.1)) k = Maps.has (md (Pl.cut l i)) k := by
    intro k
    by_cases e : k = lk x.1
    · subst e
      rw [Maps.has_del_same, has_md, Pl.look_cut hr hx, if_pos rfl]; rfl
    · rw [Maps.has_del_other e]
      by_cases h1 : Maps.has (md l) k = true
      · obtain ⟨f, hf, rfl⟩ := has_form h1
        rw [has_md, has_md, Pl.look_cut hr hx, if_neg (fun h => e (by rw [h]))]
      · rw [Bool.eq_false_iff.2 h1]
        cases h2 : Maps.has (md (Pl.cut l i)) k with
        | false => rfl
        | true =>
          obtain ⟨f, hf, rfl⟩ := has_form h2
          rw [has_md, Pl.look_cut hr hx, if_neg (fun h => e (by rw [h])), ← has_md] at h2
          exact absurd h2 h1
  refine Maps.ext hc (canon_md (Pl.cut_rises hr i)) hH fun k z h => ?_
  by_cases e : k = lk x.1
  · subst e
    rw [Maps.has_del_same] at h; cases h
  · rw [Maps.atKey_del_other e]
    rw [Maps.has_del_other e] at h
    obtain ⟨f, hf, rfl⟩ := has_form h
    rw [has_md] at h
    obtain ⟨g', hg'⟩ := Option.isSome_iff_exists.1 h
    rw [at_md hg', at_md (g := g') (by rw [Pl.look_cut hr hx, if_neg (fun h => e (by rw [h]))]; exact hg')]

/-- The block mb is the map that holds l. -/
def Mp (w : World) (mb : Nat) (l : List Pl.F) : Prop := w.ownsMap Try.prog 3 (plainElem Try.prog 34) mb l.length (md l)
theorem own_size {w : World} {P : Program} {k b n : Nat} {R : Value → Option (DataW Value × List MemPlace)} {D : DataW Value} (h : w.ownsMap P k R b n D) : w.ownsMap P k R b (Maps.size D) D := by
  obtain ⟨es, clock, hb, F, hs, rfl⟩ := h
  exact ⟨es, clock, hb, F, by rw [Maps.size_eq, length_sorted, List.length_map]; exact Nat.le_of_eq rfl, rfl⟩
theorem keyed : Maps.Keyed Try.prog 3 := Maps.int_keyed Try.underlying3
theorem zeroG (w : World) : (zeroValue 34).run Try.prog w = .ok (.int .u64 0) w := by kernel_rfl
theorem key_of {no : Int} (h : -9223372036854775808 ≤ no ∧ no ≤ 9223372036854775807) : keyOf Try.prog 3 (.int .i64 no) = some (lk no) := Maps.keyOf_int_mk Try.underlying3 (WalkArith.wf_i64 h)
theorem elem_of {g : Nat} (h : g < 18446744073709551616) : plainElem (H := Value) Try.prog 34 (.int .u64 (g : Int)) = some (.lit (.int .u64 (g : Int)), []) :=
  plainElem_int Try.underlying34 (WalkArith.wf_u64 ⟨by omega, by omega⟩)
section
variable {w w1 : World} {mb : Nat} {l : List Pl.F}
theorem Mp.lt (h : Mp w mb l) : mb < w.heap.size := World.ownsMap.lt h
theorem Mp.block (h : Mp w mb l) : ∃ es c, w.heap[mb]? = some (.map es c) := by
  obtain ⟨es, clock, hb, _⟩ := h
  exact ⟨_, _, hb⟩
theorem Mp.at_ (h : Mp w mb l) (hb : w1.heap[mb]? = w.heap[mb]?) : Mp w1 mb l := by
  obtain ⟨es, clock, he, r⟩ := h
  exact ⟨es, clock, hb.trans he, r⟩
theorem Mp.off {S : Nat → Prop} (h : Mp w mb l) (ho : Off S w w1) (hn : ¬ S mb) : Mp w1 mb l := h.at_ (ho.block _ h.lt hn)
theorem Mp.on (h : Mp w mb l) (hb : Below w.heap.size w w1) : Mp w1 mb l := h.at_ (hb.block _ h.lt)
/-- 'v, ok := m[no]'. -/
theorem Mp.look_some (h : Mp w mb l) {no : Int} (hi : -9223372036854775808 ≤ no ∧ no ≤ 9223372036854775807) {g : Nat} (hg : Pl.look l no = some g) :
    (Instr.lookup 61 (.map (some mb)) (.int .i64 no) true).run Try.prog w = .ok (.tuple #[.int .u64 (g : Int), .bool true]) w := by
  obtain ⟨v, ps, h1, h2⟩ := World.ownsMap.look_ok h keyed Try.underlying61 (zeroG w) (zd := .lit (.int .u64 0)) (zp := []) (plainElem_int Try.underlying34 (by decide)) (key_of hi)
  rw [at_md hg] at h2
  obtain ⟨a, rfl, he, _⟩ := plainElem_int_inv Try.underlying34 h2
  simp only [Prod.mk.injEq, DataW.lit.injEq, Lit.int.injEq, true_and] at he
  rw [has_md, hg] at h1
  rw [h1, he.1]; rfl
theorem Mp.look_none (h : Mp w mb l) {no : Int} (hi : -9223372036854775808 ≤ no ∧ no ≤ 9223372036854775807) (hg : Pl.look l no = none) :
    (Instr.lookup 61 (.map (some mb)) (.int .i64 no) true).run Try.prog w = .ok (.tuple #[.int .u64 0, .bool false]) w := by
  obtain ⟨v, ps, h1, h2⟩ := World.ownsMap.look_ok h keyed Try.underlying61 (zeroG w) (zd := .lit (.int .u64 0)) (zp := []) (plainElem_int Try.underlying34 (by decide)) (key_of hi)
  rw [Maps.atKey_of_not_has (by rw [has_md, hg]; rfl)] at h2
  obtain ⟨a, rfl, he, _⟩ := plainElem_int_inv Try.underlying34 h2
  simp only [Prod.mk.injEq, DataW.lit.injEq, Lit.int.injEq, true_and] at he
  rw [has_md, hg] at h1
  rw [h1, ← he.1]; rfl
/-- 'm[no]'. -/
theorem Mp.look (h : Mp w mb l) {no : Int} (hi : -9223372036854775808 ≤ no ∧ no ≤ 9223372036854775807) {g : Nat} (hg : Pl.look l no = some g) :
    (Instr.lookup 61 (.map (some mb)) (.int .i64 no) false).run Try.prog w = .ok (.int .u64 (g : Int)) w := by
  obtain ⟨c, h1, h2, _⟩ := World.ownsMap.lookup_int h keyed Try.underlying61 Try.underlying34 (zeroG w) (key_of hi)
  rw [at_md hg] at h2
  simp only [DataW.lit.injEq, Lit.int.injEq, true_and] at h2
  rw [h1, h2]
end

end Go.Proofs.Ytbfofhgnamheeaa.Pq
