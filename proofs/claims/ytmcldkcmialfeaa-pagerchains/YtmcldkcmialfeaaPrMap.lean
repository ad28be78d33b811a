/-
  Fresh pages in a map, as the program holds them.
-/
import Derived.Test.YtmcldkcmialfeaaGrDisk
import Derived.Test.YtmcldkcmialfeaaGrPl9
import Derived.Test.YtmcldkcmialfeaaGrPool9
import Derived.Maps.Ext
import Derived.Maps.RangeWalk
namespace Go.Proofs.Ytmcldkcmialfeaa.Pr
open Go.RowKit
set_option linter.unusedVariables false

def I64 (z : Int) : Prop := -9223372036854775808 ≤ z ∧ z ≤ 9223372036854775807
def lk (k : Int) : Lit := .int .i64 k
/-- What the map reads as. -/
def mh (l : List (F Value)) : DataW Value := .map (l.map fun f => (Lit.int .i64 f.1, DataW.held f.2))
theorem same_int (a b : Int) : (Lit.int .i64 a).sameKey (Lit.int .i64 b) = (a == b) := by
  show decide (IntKind.i64 = IntKind.i64 ∧ a = b) = (a == b)
  by_cases h : a = b <;> simp [h]
theorem has_any (l : List (F Value)) (k : Lit) : Maps.has (mh l) k = l.any fun f => (Lit.int .i64 f.1).sameKey k := by
  unfold mh; rw [Maps.has_eq, List.any_map]; rfl
theorem has_mh (l : List (F Value)) (k : Int) : Maps.has (mh l) (lk k) = (look l k).isSome := by
  rw [has_any]
  unfold look lk
  rw [Option.isSome_map, List.isSome_find?]
  congr 1
  funext f
  exact same_int _ _
theorem has_form {l : List (F Value)} {k : Lit} (h : Maps.has (mh l) k = true) : ∃ f ∈ l, k = lk f.1 := by
  rw [has_any, List.any_eq_true] at h
  obtain ⟨f, hf, he⟩ := h
  refine ⟨f, hf, ?_⟩
  cases k <;> simp [Lit.sameKey] at he
  obtain ⟨rfl, rfl⟩ := he
  rfl
theorem at_mh {l : List (F Value)} {k : Int} {g : Value} (h : look l k = some g) (z : DataW Value) : (mh l).atKey (lk k) z = .held g := by
  unfold look at h
  unfold mh DataW.atKey lk
  simp only
  rw [List.find?_map]
  have e : ((fun p : Lit × DataW Value => p.1.sameKey (Lit.int .i64 k)) ∘ fun f : F Value => (Lit.int .i64 f.1, DataW.held f.2)) = fun f => f.1 == k := by
    funext f
    exact same_int _ _
  rw [e]
  cases hf : l.find? fun f => f.1 == k with
  | none => rw [hf] at h; cases h
  | some f => rw [hf] at h; simp at h; subst h; rfl
theorem size_mh (l : List (F Value)) : Maps.size (mh l) = l.length := by unfold mh; rw [Maps.size_eq, List.length_map]
theorem isMap_mh (l : List (F Value)) : Maps.IsMap (mh l) := ⟨_, rfl⟩
theorem canon_mh {l : List (F Value)} (hr : Rises l) : Maps.Canon (mh l) := by
  refine ⟨_, rfl, ?_, ?_⟩
  · rw [List.pairwise_map]
    exact hr.imp fun {a b} h => by simpa [Lit.before] using h
  · intro p hp
    obtain ⟨f, _, rfl⟩ := List.mem_map.1 hp
    trivial
/-- What is looked up the same, is the same map. -/
theorem mh_ext {D : DataW Value} {m : List (F Value)} (hc : Maps.Canon D) (hr : Rises m) (hh : ∀ k, Maps.has D k = Maps.has (mh m) k) (ha : ∀ no g z, look m no = some g → D.atKey (lk no) z = .held g) : D = mh m := by
  refine Maps.ext hc (canon_mh hr) hh fun k z h => ?_
  rw [hh k] at h
  obtain ⟨f, hf, rfl⟩ := has_form h
  rw [has_mh] at h
  obtain ⟨g', hg'⟩ := Option.isSome_iff_exists.1 h
  rw [at_mh hg', ha _ _ _ hg']
theorem put_has {l m : List (F Value)} {no : Int} {g : Value} (hl : ∀ k, look m k = if k = no then some g else look l k) (k : Lit) :
    Maps.has ((mh l).put (lk no) (.held g)) k = Maps.has (mh m) k := by
  have hk : WideAt.IsKeyLit (lk no) := trivial
  by_cases e : k = lk no
  · subst e
    rw [Maps.has_put_same (isMap_mh l) hk, has_mh, hl, if_pos rfl]; rfl
  · rw [Maps.has_put_other e]
    by_cases h1 : Maps.has (mh l) k = true
    · obtain ⟨f, hf, rfl⟩ := has_form h1
      rw [has_mh, has_mh, hl, if_neg (fun h => e (by rw [h]))]
    · rw [Bool.eq_false_iff.2 h1]
      cases h2 : Maps.has (mh m) k with
      | false => rfl
      | true =>
        obtain ⟨f, hf, rfl⟩ := has_form h2
        rw [has_mh, hl, if_neg (fun h => e (by rw [h])), ← has_mh] at h2
        exact absurd h2 h1
theorem put_mh {l m : List (F Value)} {no : Int} {g : Value} (hm : Rises m) (hl : ∀ k, look m k = if k = no then some g else look l k) (hc : Maps.Canon ((mh l).put (lk no) (.held g))) :
    (mh l).put (lk no) (.held g) = mh m := by
  have hk : WideAt.IsKeyLit (lk no) := trivial
  refine mh_ext hc hm (put_has hl) fun k g' z h => ?_
  by_cases e : k = no
  · subst e
    rw [hl, if_pos rfl] at h
    injection h with h
    rw [Maps.atKey_put_same (isMap_mh l) hk, h]
  · rw [hl, if_neg e] at h
    rw [Maps.atKey_put_other (fun h => e (by injection h)), at_mh h]
theorem del_mh {l m : List (F Value)} {no : Int} (hm : Rises m) (hl : ∀ k, look m k = if k = no then none else look l k) (hc : Maps.Canon ((mh l).del (lk no))) :
    (mh l).del (lk no) = mh m := by
  refine mh_ext hc hm (fun k => ?_) fun k g' z h => ?_
  · by_cases e : k = lk no
    · subst e
      rw [Maps.has_del_same, has_mh, hl, if_pos rfl]; rfl
    · rw [Maps.has_del_other e]
      by_cases h1 : Maps.has (mh l) k = true
      · obtain ⟨f, hf, rfl⟩ := has_form h1
        rw [has_mh, has_mh, hl, if_neg (fun h => e (by rw [h]))]
      · rw [Bool.eq_false_iff.2 h1]
        cases h2 : Maps.has (mh m) k with
        | false => rfl
        | true =>
          obtain ⟨f, hf, rfl⟩ := has_form h2
          rw [has_mh, hl, if_neg (fun h => e (by rw [h])), ← has_mh] at h2
          exact absurd h2 h1
  · by_cases e : k = no
    · rw [hl, if_pos e] at h; cases h
    · rw [hl, if_neg e] at h
      rw [Maps.atKey_del_other (fun h => e (by injection h)), at_mh h]

/-- A fresh page's value v says l: 1016 bytes. -/
structure FV (w : World) (v : Value) (l : List Nat) : Prop where
  len : l.length = 1016
  lt : ∀ x ∈ l, x < 256
  own : w.ownsRow 0 5 1 v 1016 (bv l)
section
variable {S : Nat → Prop} {w w1 : World} {v : Value} {l : List Nat}
theorem FV.off (h : FV w v l) (ho : Off S w w1) (hf : Free S w) : FV w1 v l :=
  ⟨h.len, h.lt, ho.own h.own fun k hk hs => by obtain ⟨cs, hc⟩ := own_type h.own hk; exact hf k _ _ hs hc⟩
theorem FV.form (h : FV w v l) : ∃ g c, v = .slice (some ⟨g, 0, none⟩) 1016 c ∧ Bs w (some ⟨g, 0, none⟩) 1016 c l ∧ 1016 ≤ c ∧ c ≤ maxLen := by
  rcases h.own.2 with ⟨_, h0⟩ | ⟨g, cap, cur, hv, _, hg, h1, h2, _⟩
  · cases h0
  · subst hv
    exact ⟨g, cap, rfl, own_bs h.own h.len h.lt, h1, h2⟩
theorem FV.of_row {g : Nat} (h : Row w g l) (hn : l.length = 1016) (hl : ∀ x ∈ l, x < 256) : FV w (.slice (some ⟨g, 0, none⟩) 1016 1016) l :=
  ⟨hn, hl, h.own (Nat.zero_le _) hn (by unfold maxLen; omega)⟩
end
/-- The values vs say what the pages l say. -/
structure Says (w : World) (l : List (F (List Nat))) (vs : List (F Value)) : Prop where
  rv : Rises vs
  rl : Rises l
  some_ : ∀ no b, look l no = some b → ∃ v, look vs no = some v ∧ FV w v b
  none_ : ∀ no, look l no = none → look vs no = none
/-- The block fb is the map that holds the fresh pages l, each value being what the page says. -/
structure Fm (w : World) (fb : Nat) (l : List (F (List Nat))) (vs : List (F Value)) : Prop where
  map : w.ownsMap Try.prog 3 hold fb vs.length (mh vs)
  says : Says w l vs
theorem own_size {w : World} {P : Program} {k b n : Nat} {R : Value → Option (DataW Value × List MemPlace)} {D : DataW Value} (h : w.ownsMap P k R b n D) : w.ownsMap P k R b (Maps.size D) D := by
  obtain ⟨es, clock, hb, F, hs, rfl⟩ := h
  exact ⟨es, clock, hb, F, by rw [Maps.size_eq, length_sorted, List.length_map]; exact Nat.le_of_eq rfl, rfl⟩
theorem Says.keys {w : World} {l : List (F (List Nat))} {vs : List (F Value)} (h : Says w l vs) : vs.map (·.1) = l.map (·.1) := by
  have e : (vs.map fun f => ((f.1, ()) : F Unit)) = l.map fun f => ((f.1, ()) : F Unit) := by
    have hr1 : Rises (vs.map fun f => ((f.1, ()) : F Unit)) := List.pairwise_map.2 h.rv
    have hr2 : Rises (l.map fun f => ((f.1, ()) : F Unit)) := List.pairwise_map.2 h.rl
    refine look_ext hr1 hr2 fun k => ?_
    have hmap : ∀ {α : Type} (m : List (F α)), look (m.map fun f => ((f.1, ()) : F Unit)) k = (look m k).map fun _ => () := by
      intro α m
      unfold look
      rw [List.find?_map, Option.map_map, Option.map_map]
      rfl
    rw [hmap, hmap]
    cases hl : look l k with
    | none => rw [h.none_ k hl]; rfl
    | some b => obtain ⟨v, hv, _⟩ := h.some_ k b hl; rw [hv]; rfl
  have := congrArg (List.map (·.1)) e
  rw [List.map_map, List.map_map] at this
  exact this
theorem Says.len {w : World} {l : List (F (List Nat))} {vs : List (F Value)} (h : Says w l vs) : vs.length = l.length := by
  have := congrArg List.length h.keys
  rwa [List.length_map, List.length_map] at this
theorem Says.off {S : Nat → Prop} {w w1 : World} {l : List (F (List Nat))} {vs : List (F Value)} (h : Says w l vs) (ho : Off S w w1) (hf : Free S w) : Says w1 l vs :=
  ⟨h.rv, h.rl, fun no b hb => by obtain ⟨v, h1, h2⟩ := h.some_ no b hb; exact ⟨v, h1, h2.off ho hf⟩, h.none_⟩
theorem keyed : Maps.Keyed Try.prog 3 := Maps.int_keyed Try.underlying3
theorem zeroS (w : World) : (zeroValue 22).run Try.prog w = .ok (.slice none 0 0) w := by kernel_rfl
theorem key_of {no : Int} (h : I64 no) : keyOf Try.prog 3 (.int .i64 no) = some (lk no) := Maps.keyOf_int_mk Try.underlying3 (WalkArith.wf_i64 h)
section
variable {w w1 : World} {fb : Nat} {l : List (F (List Nat))} {vs : List (F Value)}
theorem Fm.lt (h : Fm w fb l vs) : fb < w.heap.size := World.ownsMap.lt h.map
theorem Fm.block (h : Fm w fb l vs) : ∃ es c, w.heap[fb]? = some (.map es c) := by
  obtain ⟨es, clock, hb, _⟩ := h.map
  exact ⟨_, _, hb⟩
theorem Fm.off {S : Nat → Prop} (h : Fm w fb l vs) (ho : Off S w w1) (hf : Free S w) (hn : ¬ S fb) : Fm w1 fb l vs := ⟨ho.map_ h.map hn, h.says.off ho hf⟩
theorem Fm.on (h : Fm w fb l vs) (hb : Below w.heap.size w w1) : Fm w1 fb l vs :=
  h.off (S := fun _ => False) (Off.of_below hb) (fun _ _ _ h => h.elim) fun h => h
/-- One page is set. -/
theorem Fm.put {no : Int} {v : Value} {b : List Nat} {m : List (F (List Nat))} {n : Nat} (h : Says w l vs) (hM : w.ownsMap Try.prog 3 hold fb n ((mh vs).put (lk no) (.held v))) (hv : FV w v b)
    (hm : Rises m) (hl : ∀ k, look m k = if k = no then some b else look l k) : ∃ us, Fm w fb m us := by
  obtain ⟨us, hus, hlu⟩ := set_any h.rv no v
  have e := put_mh hus hlu (World.ownsMap.canon hM keyed)
  rw [e] at hM
  have hM' := own_size hM
  rw [size_mh] at hM'
  refine ⟨us, hM', hus, hm, fun k c hk => ?_, fun k hk => ?_⟩
  · rw [hl] at hk
    rw [hlu]
    split at hk
    · rename_i hkn
      injection hk with hk
      rw [if_pos hkn]
      exact ⟨v, rfl, hk ▸ hv⟩
    · rename_i hkn
      rw [if_neg hkn]
      exact h.some_ k c hk
  · rw [hl] at hk
    rw [hlu]
    split at hk
    · cases hk
    · rename_i hkn
      rw [if_neg hkn]
      exact h.none_ k hk
/-- One page is gone. -/
theorem Fm.cut {no : Int} {m : List (F (List Nat))} {n : Nat} (h : Says w l vs) (hM : w.ownsMap Try.prog 3 hold fb n ((mh vs).del (lk no)))
    (hm : Rises m) (hl : ∀ k, look m k = if k = no then none else look l k) : ∃ us, Fm w fb m us := by
  have e := del_mh (rem_rises h.rv no) (look_rem vs no) (World.ownsMap.canon hM keyed)
  rw [e] at hM
  have hM' := own_size hM
  rw [size_mh] at hM'
  refine ⟨_, hM', rem_rises h.rv no, hm, fun k c hk => ?_, fun k hk => ?_⟩
  · rw [hl] at hk
    rw [look_rem]
    split at hk
    · cases hk
    · rename_i hkn
      rw [if_neg hkn]
      exact h.some_ k c hk
  · rw [hl] at hk
    rw [look_rem]
    split at hk
    · rename_i hkn; rw [if_pos hkn]
    · rename_i hkn
      rw [if_neg hkn]
      exact h.none_ k hk
theorem Fm.run_some (h : Fm w fb l vs) {no : Int} (hi : I64 no) {v : Value} (hv : look vs no = some v) :
    (Instr.lookup 62 (.map (some fb)) (.int .i64 no) true).run Try.prog w = .ok (.tuple #[v, .bool true]) w := by
  obtain ⟨v', ps, h1, h2⟩ := World.ownsMap.look_ok h.map keyed Try.underlying62 (zeroS w) (zd := .held (.slice none 0 0)) (zp := []) rfl (key_of hi)
  rw [at_mh hv] at h2
  rw [h1, has_mh, hv]
  simp only [hold, Option.some.injEq, Prod.mk.injEq, DataW.held.injEq] at h2
  rw [h2.1]; rfl
theorem Fm.run_at (h : Fm w fb l vs) {no : Int} (hi : I64 no) {v : Value} (hv : look vs no = some v) :
    (Instr.lookup 62 (.map (some fb)) (.int .i64 no) false).run Try.prog w = .ok v w := by
  obtain ⟨v', ps, h1, h2⟩ := World.ownsMap.lookup h.map keyed Try.underlying62 (zeroS w) (zd := .held (.slice none 0 0)) (zp := []) rfl (key_of hi)
  rw [at_mh hv] at h2
  simp only [hold, Option.some.injEq, Prod.mk.injEq, DataW.held.injEq] at h2
  rw [h1, h2.1]
theorem Fm.run_none (h : Fm w fb l vs) {no : Int} (hi : I64 no) (hv : look vs no = none) :
    (Instr.lookup 62 (.map (some fb)) (.int .i64 no) true).run Try.prog w = .ok (.tuple #[.slice none 0 0, .bool false]) w := by
  obtain ⟨v', ps, h1, h2⟩ := World.ownsMap.look_ok h.map keyed Try.underlying62 (zeroS w) (zd := .held (.slice none 0 0)) (zp := []) rfl (key_of hi)
  rw [Maps.atKey_of_not_has (by rw [has_mh, hv]; rfl)] at h2
  rw [h1, has_mh, hv]
  simp only [hold, Option.some.injEq, Prod.mk.injEq, DataW.held.injEq] at h2
  rw [h2.1]; rfl
theorem Fm.update (h : Fm w fb l vs) {no : Int} (hi : I64 no) (v : Value) (hf : vs.length ≤ 2048) :
    ∃ w', (Instr.mapUpdate 62 (.map (some fb)) (.int .i64 no) v).run Try.prog w = .ok () w' ∧ w'.ownsMap Try.prog 3 hold fb (vs.length + 1) ((mh vs).put (lk no) (.held v)) ∧ w.grownBy w' (some fb) :=
  World.ownsMap.update h.map keyed Try.underlying62 (by unfold maxLen; omega) (key_of hi) (ps := []) rfl
end

end Go.Proofs.Ytmcldkcmialfeaa.Pr
