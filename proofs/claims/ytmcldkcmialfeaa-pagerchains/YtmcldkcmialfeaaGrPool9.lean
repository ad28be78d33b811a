/-
  Freed pages in a map, as the program holds them.
-/
/-
  The program's pool in memory: High, mayUse, Free.
-/
/-
  Trim.
-/
/-
  Alloc, its closure.
-/
/-
  Rows of freed pages: two cells each.
-/
/-
  List: the keys of the map, sorted; Clone.
-/
/-
  Clone.
-/
/-
  New.
-/
/-
  List.
-/
import Derived.Test.YtmcldkcmialfeaaOffB
import Derived.Test.YtmcldkcmialfeaaGrPl9
import Derived.Maps.Ext
import Derived.Maps.RangeWalk
import Derived.Test.YtmcldkcmialfeaaAppZero
import Derived.Test.YtmcldkcmialfeaaLay7
namespace Go.Proofs.Ytmcldkcmialfeaa.Pq
open Go.RowKit
set_option linter.unusedVariables false

def lk (k : Int) : Lit := .int .i64 k
/-- What the map reads as. -/
def md (l : List Pl.F) : DataW Value := .map (l.map fun f => (Lit.int .i64 f.1, DataW.lit (Lit.int .u64 (f.2 : Int))))
theorem has_any (l : List Pl.F) (k : Lit) : Maps.has (md l) k = l.any fun f => (Lit.int .i64 f.1).sameKey k := by
  unfold md; rw [Maps.has_eq, List.any_map]; rfl
theorem has_md (l : List Pl.F) (k : Int) : Maps.has (md l) (lk k) = (Pl.look l k).isSome := by
  rw [has_any]
  unfold Pl.look lk
  rw [Option.isSome_map, List.isSome_find?]
  congr 1
  funext f
  show decide (IntKind.i64 = IntKind.i64 ∧ f.1 = k) = (f.1 == k)
  by_cases h : f.1 = k <;> simp [h]
theorem has_form {l : List Pl.F} {k : Lit} (h : Maps.has (md l) k = true) : ∃ f ∈ l, k = lk f.1 := by
  rw [has_any, List.any_eq_true] at h
  obtain ⟨f, hf, he⟩ := h
  refine ⟨f, hf, ?_⟩
  cases k <;> simp [Lit.sameKey] at he
  obtain ⟨rfl, rfl⟩ := he
  rfl
theorem at_md {l : List Pl.F} {k : Int} {g : Nat} (h : Pl.look l k = some g) (z : DataW Value) : (md l).atKey (lk k) z = .lit (.int .u64 (g : Int)) := by
  unfold Pl.look at h
  unfold md DataW.atKey lk
  simp only
  rw [List.find?_map]
  have e : ((fun p : Lit × DataW Value => p.1.sameKey (Lit.int .i64 k)) ∘ fun f : Pl.F => (Lit.int .i64 f.1, DataW.lit (Lit.int .u64 (f.2 : Int)))) = fun f => f.1 == k := by
    funext f
    show decide (IntKind.i64 = IntKind.i64 ∧ f.1 = k) = (f.1 == k)
    by_cases h : f.1 = k <;> simp [h]
  rw [e]
  cases hf : l.find? fun f => f.1 == k with
  | none => rw [hf] at h; cases h
  | some f => rw [hf] at h; simp at h; subst h; rfl
theorem size_md (l : List Pl.F) : Maps.size (md l) = l.length := by unfold md; rw [Maps.size_eq, List.length_map]
theorem isMap_md (l : List Pl.F) : Maps.IsMap (md l) := ⟨_, rfl⟩
theorem canon_md {l : List Pl.F} (hr : Pl.Rises l) : Maps.Canon (md l) := by
  refine ⟨_, rfl, ?_, ?_⟩
  · rw [List.pairwise_map]
    exact hr.imp fun {a b} h => by simpa [Lit.before] using h
  · intro p hp
    obtain ⟨f, _, rfl⟩ := List.mem_map.1 hp
    trivial
theorem put_md {l : List Pl.F} (hr : Pl.Rises l) {no : Int} {g : Nat} (hn : Pl.look l no = none) (hc : Maps.Canon ((md l).put (lk no) (.lit (.int .u64 (g : Int))))) :
    (md l).put (lk no) (.lit (.int .u64 (g : Int))) = md (Pl.ins l no g) := by
  have hn' := Pl.look_none.1 hn
  have hk : WideAt.IsKeyLit (lk no) := trivial
  have hH : ∀ k, Maps.has ((md l).put (lk no) (.lit (.int .u64 (g : Int)))) k = Maps.has (md (Pl.ins l no g)) k := by
    intro k
    by_cases e : k = lk no
    · subst e
      rw [Maps.has_put_same (isMap_md l) hk, has_md, Pl.look_ins hr hn', if_pos rfl]; rfl
    · rw [Maps.has_put_other e]
      by_cases h1 : Maps.has (md l) k = true
      · obtain ⟨f, hf, rfl⟩ := has_form h1
        rw [has_md, has_md, Pl.look_ins hr hn', if_neg (fun h => e (by rw [h]))]
      · rw [Bool.eq_false_iff.2 h1]
        cases h2 : Maps.has (md (Pl.ins l no g)) k with
        | false => rfl
        | true =>
          obtain ⟨f, hf, rfl⟩ := has_form h2
          rw [has_md, Pl.look_ins hr hn', if_neg (fun h => e (by rw [h])), ← has_md] at h2
          exact absurd h2 h1
  refine Maps.ext hc (canon_md (Pl.ins_rises hr hn')) hH fun k z h => ?_
  by_cases e : k = lk no
  · subst e
    rw [Maps.atKey_put_same (isMap_md l) hk, at_md (g := g) (by rw [Pl.look_ins hr hn', if_pos rfl])]
  · rw [Maps.atKey_put_other e]
    rw [Maps.has_put_other e] at h
    obtain ⟨f, hf, rfl⟩ := has_form h
    rw [has_md] at h
    obtain ⟨g', hg'⟩ := Option.isSome_iff_exists.1 h
    rw [at_md hg', at_md (g := g') (by rw [Pl.look_ins hr hn', if_neg (fun h => e (by rw [h]))]; exact hg')]
theorem del_md {l : List Pl.F} (hr : Pl.Rises l) {i : Nat} {x : Pl.F} (hx : l[i]? = some x) (hc : Maps.Canon ((md l).del (lk x.1))) :
    (md l).del (lk x.1) = md (Pl.cut l i) := by
  have hH : ∀ k, Maps.has ((md l).del (lk x.1)) k = Maps.has (md (Pl.cut l i)) k := by
    intro k
    by_cases e : k = lk x.1
    · subst e
      rw [Maps.has_del_same, has_md, Pl.look_cut hr hx, if_pos rfl]; rfl
    · rw [Maps.has_del_other e]
      by_cases h1 : Maps.has (md l) k = true
      · obtain ⟨f, hf, rfl⟩ := has_form h1
        rw [has_md, has_md, Pl.look_cut hr hx, if_neg (fun h => e (by rw [h]))]
      · rw [Bool.eq_false_iff.2 h1]
        cases h2 : Maps.has (md (Pl.cut l i)) k with
        | false => rfl
        | true =>
          obtain ⟨f, hf, rfl⟩ := has_form h2
          rw [has_md, Pl.look_cut hr hx, if_neg (fun h => e (by rw [h])), ← has_md] at h2
          exact absurd h2 h1
  refine Maps.ext hc (canon_md (Pl.cut_rises hr i)) hH fun k z h => ?_
  by_cases e : k = lk x.1
  · subst e
    rw [Maps.has_del_same] at h; cases h
  · rw [Maps.atKey_del_other e]
    rw [Maps.has_del_other e] at h
    obtain ⟨f, hf, rfl⟩ := has_form h
    rw [has_md] at h
    obtain ⟨g', hg'⟩ := Option.isSome_iff_exists.1 h
    rw [at_md hg', at_md (g := g') (by rw [Pl.look_cut hr hx, if_neg (fun h => e (by rw [h]))]; exact hg')]

/-- The block mb is the map that holds l. -/
def Mp (w : World) (mb : Nat) (l : List Pl.F) : Prop := w.ownsMap Try.prog 3 (plainElem Try.prog 33) mb l.length (md l)
theorem own_size {w : World} {P : Program} {k b n : Nat} {R : Value → Option (DataW Value × List MemPlace)} {D : DataW Value} (h : w.ownsMap P k R b n D) : w.ownsMap P k R b (Maps.size D) D := by
  obtain ⟨es, clock, hb, F, hs, rfl⟩ := h
  exact ⟨es, clock, hb, F, by rw [Maps.size_eq, length_sorted, List.length_map]; exact Nat.le_of_eq rfl, rfl⟩
theorem keyed : Maps.Keyed Try.prog 3 := Maps.int_keyed Try.underlying3
theorem zeroG (w : World) : (zeroValue 33).run Try.prog w = .ok (.int .u64 0) w := by kernel_rfl
theorem key_of {no : Int} (h : -9223372036854775808 ≤ no ∧ no ≤ 9223372036854775807) : keyOf Try.prog 3 (.int .i64 no) = some (lk no) := Maps.keyOf_int_mk Try.underlying3 (WalkArith.wf_i64 h)
theorem elem_of {g : Nat} (h : g < 18446744073709551616) : plainElem (H := Value) Try.prog 33 (.int .u64 (g : Int)) = some (.lit (.int .u64 (g : Int)), []) :=
  plainElem_int Try.underlying33 (WalkArith.wf_u64 ⟨by omega, by omega⟩)
section
variable {w w1 : World} {mb : Nat} {l : List Pl.F}
theorem Mp.lt (h : Mp w mb l) : mb < w.heap.size := World.ownsMap.lt h
theorem Mp.block (h : Mp w mb l) : ∃ es c, w.heap[mb]? = some (.map es c) := by
  obtain ⟨es, clock, hb, _⟩ := h
  exact ⟨_, _, hb⟩
theorem Mp.at_ (h : Mp w mb l) (hb : w1.heap[mb]? = w.heap[mb]?) : Mp w1 mb l := by
  obtain ⟨es, clock, he, r⟩ := h
  exact ⟨es, clock, hb.trans he, r⟩
theorem Mp.off {S : Nat → Prop} (h : Mp w mb l) (ho : Off S w w1) (hn : ¬ S mb) : Mp w1 mb l := h.at_ (ho.block _ h.lt hn)
theorem Mp.on (h : Mp w mb l) (hb : Below w.heap.size w w1) : Mp w1 mb l := h.at_ (hb.block _ h.lt)
/-- 'v, ok := m[no]'. -/
theorem Mp.look_some (h : Mp w mb l) {no : Int} (hi : -9223372036854775808 ≤ no ∧ no ≤ 9223372036854775807) {g : Nat} (hg : Pl.look l no = some g) :
    (Instr.lookup 56 (.map (some mb)) (.int .i64 no) true).run Try.prog w = .ok (.tuple #[.int .u64 (g : Int), .bool true]) w := by
  obtain ⟨v, ps, h1, h2⟩ := World.ownsMap.look_ok h keyed Try.underlying56 (zeroG w) (zd := .lit (.int .u64 0)) (zp := []) (plainElem_int Try.underlying33 (by decide)) (key_of hi)
  rw [at_md hg] at h2
  obtain ⟨a, rfl, he, _⟩ := plainElem_int_inv Try.underlying33 h2
  simp only [Prod.mk.injEq, DataW.lit.injEq, Lit.int.injEq, true_and] at he
  rw [has_md, hg] at h1
  rw [h1, he.1]; rfl
theorem Mp.look_none (h : Mp w mb l) {no : Int} (hi : -9223372036854775808 ≤ no ∧ no ≤ 9223372036854775807) (hg : Pl.look l no = none) :
    (Instr.lookup 56 (.map (some mb)) (.int .i64 no) true).run Try.prog w = .ok (.tuple #[.int .u64 0, .bool false]) w := by
  obtain ⟨v, ps, h1, h2⟩ := World.ownsMap.look_ok h keyed Try.underlying56 (zeroG w) (zd := .lit (.int .u64 0)) (zp := []) (plainElem_int Try.underlying33 (by decide)) (key_of hi)
  rw [Maps.atKey_of_not_has (by rw [has_md, hg]; rfl)] at h2
  obtain ⟨a, rfl, he, _⟩ := plainElem_int_inv Try.underlying33 h2
  simp only [Prod.mk.injEq, DataW.lit.injEq, Lit.int.injEq, true_and] at he
  rw [has_md, hg] at h1
  rw [h1, ← he.1]; rfl
/-- 'm[no]'. -/
theorem Mp.look (h : Mp w mb l) {no : Int} (hi : -9223372036854775808 ≤ no ∧ no ≤ 9223372036854775807) {g : Nat} (hg : Pl.look l no = some g) :
    (Instr.lookup 56 (.map (some mb)) (.int .i64 no) false).run Try.prog w = .ok (.int .u64 (g : Int)) w := by
  obtain ⟨c, h1, h2, _⟩ := World.ownsMap.lookup_int h keyed Try.underlying56 Try.underlying33 (zeroG w) (key_of hi)
  rw [at_md hg] at h2
  simp only [DataW.lit.injEq, Lit.int.injEq, true_and] at h2
  rw [h1, h2]
end

end Go.Proofs.Ytmcldkcmialfeaa.Pq
namespace Go.Proofs.Ytmcldkcmialfeaa.Pq
open Go.RowKit
set_option linter.unusedVariables false

/-- The program's pool in memory: a struct at p, a map at mb. -/
structure Po (w : World) (p mb : Nat) (d : Pl.Pd) : Prop where
  str : w.heap[p]? = some (.cells #[.int .i64 d.cap, .int .i64 d.high, .map (some mb)] 58 (0, 0))
  map : Mp w mb d.l
  ok : Pl.Ok d
/-- What is its own. -/
def Mine (p mb : Nat) (k : Nat) : Prop := k = p ∨ k = mb
section
variable {w w1 : World} {p mb : Nat} {d : Pl.Pd}
theorem Po.p_lt (h : Po w p mb d) : p < w.heap.size := (Array.getElem?_eq_some_iff.1 h.str).1
theorem Po.mb_lt (h : Po w p mb d) : mb < w.heap.size := h.map.lt
theorem Po.lt (h : Po w p mb d) {k : Nat} (hk : Mine p mb k) : k < w.heap.size := by
  rcases hk with rfl | rfl
  · exact h.p_lt
  · exact h.mb_lt
theorem Po.off {S : Nat → Prop} (h : Po w p mb d) (ho : Off S w w1) (hn : ∀ k, Mine p mb k → ¬ S k) : Po w1 p mb d :=
  ⟨ho.at_ h.str (hn _ (.inl rfl)), h.map.off ho (hn _ (.inr rfl)), h.ok⟩
theorem Po.on (h : Po w p mb d) (hb : Below w.heap.size w w1) : Po w1 p mb d := h.off (S := fun _ => False) (Off.of_below hb) fun _ _ h => h
theorem Po.drewN (h : Po w p mb d) (m : Nat) : Po (w.drewN m) p mb d := h.on (below_drewN (Below.refl _ _) m)
theorem Po.frz (h : Po w p mb d) (j : Nat) : w.frozen? ⟨p, j, none⟩ = false := frozen_of_row w p j _ _ h.str
theorem Po.c0 (h : Po w p mb d) : w.cell? ⟨p, 0, none⟩ = some (.int .i64 d.cap) := cell_of_row w _ 0 _ _ (0, 0) h.str
theorem Po.c1 (h : Po w p mb d) : w.cell? ⟨p, 1, none⟩ = some (.int .i64 d.high) := cell_of_row w _ 1 _ _ (0, 0) h.str
theorem Po.c2 (h : Po w p mb d) : w.cell? ⟨p, 2, none⟩ = some (.map (some mb)) := cell_of_row w _ 2 _ _ (0, 0) h.str
theorem Po.ne (h : Po w p mb d) : mb ≠ p := by
  intro e
  obtain ⟨es, c, hb⟩ := h.map.block
  rw [e, h.str] at hb; cases hb
theorem Po.few (h : Po w p mb d) : d.l.length ≤ 2048 := by
  have hr := h.ok.rises
  have hi := h.ok.ins
  have hc := h.ok.cap
  have hh := h.ok.high
  have key : ∀ (l : List Pl.F) (a : Int), Pl.Rises l → (∀ f ∈ l, a ≤ f.1 ∧ f.1 < d.high) → a ≤ d.high → (l.length : Int) ≤ d.high - a := by
    intro l
    induction l with
    | nil => intro a _ _ ha; simp; omega
    | cons x l ih =>
      intro a hr hb ha
      have hx := hb x (by simp)
      have := ih (x.1 + 1) (List.Pairwise.of_cons hr) (fun f hf => ⟨by have := List.rel_of_pairwise_cons hr hf; omega, (hb f (by simp [hf])).2⟩) (by omega)
      simp; omega
  have := key d.l 2 hr hi h.ok.two
  omega
/-- The map alone has changed. -/
theorem Po.turned (h : Po w p mb d) {l : List Pl.F} (hs : w1.heap[p]? = w.heap[p]?) (hm : Mp w1 mb l) (hok : Pl.Ok { d with l := l }) : Po w1 p mb { d with l := l } :=
  ⟨hs.trans h.str, hm, hok⟩
end
theorem off_grown {w w1 : World} {p mb : Nat} (h : w.grownBy w1 (some mb)) : Off (Mine p mb) w w1 := Off.of_grown h fun k hk => by injection hk with hk; exact .inr hk.symm

theorem high_any (w : World) (p mb : Nat) (d : Pl.Pd) (h : Po w p mb d) :
    Calls Try.prog 18 #[.pointer (some ⟨p, 0, none⟩)] w fun e w' => e = .returned (.int .i64 d.high) ∧ w = w' := by
  have c1 := h.c1
  clear h
  go_enter Try.func18, Try.ntmps18
  go_wp2
  go_ret
  exact ⟨rfl, rfl⟩

/-- May the page be used up to the horizon? -/
def may (l : List Pl.F) (no : Int) (hz : Nat) : Bool := match Pl.look l no with
  | some g => decide (g ≤ hz)
  | none => false
theorem may_some {l : List Pl.F} {no : Int} {hz g : Nat} (h : Pl.look l no = some g) : may l no hz = decide (g ≤ hz) := by unfold may; rw [h]
theorem may_none {l : List Pl.F} {no : Int} {hz : Nat} (h : Pl.look l no = none) : may l no hz = false := by unfold may; rw [h]
def I64 (z : Int) : Prop := -9223372036854775808 ≤ z ∧ z ≤ 9223372036854775807

theorem mayUse_map (w : World) (p mb : Nat) (l : List Pl.F) (no : Int) (hz : Nat) (c2 : w.cell? ⟨p, 2, none⟩ = some (.map (some mb))) (hm : Mp w mb l) (hi : I64 no) :
    Calls Try.prog 52 #[.pointer (some ⟨p, 0, none⟩), .int .i64 no, .int .u64 (hz : Int)] w fun e w' => e = .returned (.bool (may l no hz)) ∧ w = w' := by
  cases hl : Pl.look l no with
  | none =>
    have hrun := hm.look_none hi hl
    rw [may_none hl]
    clear hm hi hl
    go_enter Try.func52, Try.ntmps52
    go_wp2
    go_ret
    exact ⟨rfl, rfl⟩
  | some g =>
    have hrun := hm.look_some hi hl
    rw [may_some hl]
    clear hm hi hl
    by_cases hg : g ≤ hz
    · have h1 : (g : Int) ≤ (hz : Int) := by omega
      have hd : decide (g ≤ hz) = true := decide_eq_true hg
      rw [hd]
      clear hg hd
      go_enter Try.func52, Try.ntmps52
      go_wp2
      go_ret
      exact ⟨rfl, rfl⟩
    · have h1 : ¬ (g : Int) ≤ (hz : Int) := by omega
      have hd : decide (g ≤ hz) = false := decide_eq_false hg
      rw [hd]
      clear hg hd
      go_enter Try.func52, Try.ntmps52
      go_wp2
      go_ret
      exact ⟨rfl, rfl⟩

theorem free_any (w : World) (p mb : Nat) (d : Pl.Pd) (no : Int) (g : Nat) (h : Po w p mb d) (hi : I64 no) (hg : g < 18446744073709551616) :
    Calls Try.prog 26 #[.pointer (some ⟨p, 0, none⟩), .int .i64 no, .int .u64 (g : Int)] w fun e w' => e = .returned (.int .i64 (Pl.freeCode d no)) ∧ Po w' p mb (Pl.free d no g) ∧ Off (Mine p mb) w w' := by
  have H := Lib.hid h
  have c1 := h.c1
  have c2 := h.c2
  by_cases h2 : no < 2
  · have hf : Pl.freeCode d no = 1 := by unfold Pl.freeCode; rw [if_pos (.inl h2)]
    have hfr : Pl.free d no g = d := by unfold Pl.free; rw [hf, if_neg (by decide)]
    rw [hf, hfr]
    clear h hf hfr hi hg c2
    go_enter Try.func26, Try.ntmps26
    go_wp2
    go_ret
    exact ⟨rfl, H.out, Off.refl _ _⟩
  by_cases h3 : d.high ≤ no
  · have hf : Pl.freeCode d no = 1 := by unfold Pl.freeCode; rw [if_pos (.inr h3)]
    have hfr : Pl.free d no g = d := by unfold Pl.free; rw [hf, if_neg (by decide)]
    rw [hf, hfr]
    clear h hf hfr hi hg c2
    go_enter Try.func26, Try.ntmps26
    go_wp2
    go_ret
    exact ⟨rfl, H.out, Off.refl _ _⟩
  have hor : ¬ (no < 2 ∨ d.high ≤ no) := by omega
  cases hl : Pl.look d.l no with
  | some g0 =>
    have hrun := h.map.look_some hi hl
    have hf : Pl.freeCode d no = 8 := by unfold Pl.freeCode; rw [if_neg hor, hl]; rfl
    have hfr : Pl.free d no g = d := by unfold Pl.free; rw [hf, if_neg (by decide)]
    rw [hf, hfr]
    clear h hf hfr hi hg hl hor
    go_enter Try.func26, Try.ntmps26
    go_wp2
    go_ret
    exact ⟨rfl, H.out, Off.refl _ _⟩
  | none =>
    have hrun := h.map.look_none hi hl
    have hf : Pl.freeCode d no = 0 := by unfold Pl.freeCode; rw [if_neg hor, hl]; rfl
    have hfr : Pl.free d no g = { d with l := Pl.ins d.l no g } := by unfold Pl.free; rw [hf, if_pos rfl]
    have hok := Pl.free_ok h.ok no g hg
    have hfew := h.few
    have HI := Lib.hid hi
    have HL := Lib.hid hl
    have HG := Lib.hid hg
    rw [hf, hfr]
    rw [hfr] at hok
    have HK := Lib.hid hok
    clear h hf hfr hi hg hl hor hok
    go_enter Try.func26, Try.ntmps26
    go_wp2_with (first
      | (at_mapUpdate; refine wpList_mapUpdate_own _ rfl _ _ _ 56 rfl 3 33 keyed Try.underlying56 (plainElem Try.prog 33) mb d.l.length (md d.l) rfl H.out.map (by unfold maxLen; omega) _ _ (lk no) rfl rfl (key_of HI.out) (.lit (.int .u64 (g : Int))) [] (elem_of HG.out) ?_; intro w5 M5 g5))
    go_ret
    refine ⟨rfl, H.out.turned ?_ ?_ HK.out, off_grown g5⟩
    · exact g5.block p H.out.p_lt (fun e => by injection e with e; exact H.out.ne e.symm)
    · have := M5
      rw [put_md H.out.ok.rises HL.out (World.ownsMap.canon M5 keyed)] at this
      unfold Mp
      rw [Pl.ins_len]
      exact this

end Go.Proofs.Ytmcldkcmialfeaa.Pq
namespace Go.Proofs.Ytmcldkcmialfeaa.Pq
open Go.RowKit
set_option linter.unusedVariables false

/-- 'delete(m, k)' in a region that draws its order. -/
theorem step_delete_own {P : Program} {w : World} {ops : Array Oper} {o : Oper} {a : Act} {K : Act → World → Prop} {Q : Exit → Act → World → Prop} {E : Prop} (hgd : o.guard = none) (m x : Operand) (t k : TypeId)
    (hop : o.op = Op.call { callee := Callee.builtin Builtin.delete, args := #[m, x], argTypes := #[t, k] }) (e : TypeId) (Kd : Maps.Keyed P k) (ht : P.underlying t = some (.map k e)) (R : Value → Option (DataW Value × List MemPlace)) (b n : Nat) (D : DataW Value)
    (hm : a.eval m = .map (some b)) (hown : w.ownsMap P k R b n D) (key : Value) (kl : Lit) (hx : a.eval x = key) (hkey : keyOf P k key = some kl)
    (hK : ∀ w', w'.ownsMap P k R b n (D.del kl) → w.mapTurned w' b → K (a.put o.dst (.tuple #[])) w') :
    if Region.wanted o (yielded ops a.tmps) = true then Oper.wp P o a w K Q else E := by
  have hw : Region.wanted o (yielded ops a.tmps) = true := by simp [Region.wanted, hgd]
  rw [if_pos hw]
  obtain ⟨w', hrun, r1, r2⟩ := hown.drop Kd ht hkey o.type
  unfold Oper.wp
  simp [execOp, hop, resolve, invoke, builtin, hm, hx, hrun, Result.andThen]
  exact hK w' r1 r2

theorem goes_may {w : World} {p mb : Nat} {d : Pl.Pd} (h : Po w p mb d) (hz : Nat) : may d.l (d.high - 1) hz = decide (Pl.goes d hz) := by
  by_cases h2 : 2 < d.high
  · cases hl : Pl.look d.l (d.high - 1) with
    | none => rw [may_none hl, eq_comm, decide_eq_false_iff_not]; rintro ⟨_, g, hg, _⟩; rw [hl] at hg; cases hg
    | some g =>
      rw [may_some hl, decide_eq_decide]
      constructor
      · intro hg; exact ⟨h2, g, hl, hg⟩
      · rintro ⟨_, g', hg', hle⟩; rw [hl] at hg'; injection hg' with hg'; subst hg'; exact hle
  · have hl : Pl.look d.l (d.high - 1) = none := Pl.look_none.2 fun ⟨f, hf, he⟩ => by
      have := h.ok.ins f hf; have := h.ok.two; omega
    rw [may_none hl, eq_comm, decide_eq_false_iff_not]; rintro ⟨h3, _⟩; exact h2 h3
theorem set_high {w : World} {p mb : Nat} {d : Pl.Pd} (h : Po w p mb d) (x : Int) :
    (w.setCell ⟨p, 1, none⟩ (.int .i64 x)).heap[p]? = some (.cells #[.int .i64 d.cap, .int .i64 x, .map (some mb)] 58 (0, 0)) ∧ Mp (w.setCell ⟨p, 1, none⟩ (.int .i64 x)) mb d.l ∧ Off (Mine p mb) w (w.setCell ⟨p, 1, none⟩ (.int .i64 x)) := by
  refine ⟨?_, ?_, (Off.refl _ w).set _ (.inl rfl)⟩
  · rw [heap_setCell_same w p 1 _ _ _ h.str]; simp
  · exact h.map.at_ (heap_setCell_other w _ mb _ h.ne)

theorem po_cut {w w3 : World} {p mb : Nat} {e : Pl.Pd} {i : Nat} {x : Pl.F} {hi : Int} (hs : w3.heap[p]? = some (.cells #[.int .i64 e.cap, .int .i64 hi, .map (some mb)] 58 (0, 0))) (he : Pl.Ok e) (hx : e.l[i]? = some x)
    (M : w3.ownsMap Try.prog 3 (plainElem Try.prog 33) mb e.l.length ((md e.l).del (lk x.1))) (hok : Pl.Ok { e with high := hi, l := Pl.cut e.l i }) : Po w3 p mb { e with high := hi, l := Pl.cut e.l i } := by
  refine ⟨hs, ?_, hok⟩
  rw [del_md he.rises hx (World.ownsMap.canon M keyed)] at M
  have := own_size M
  rw [size_md] at this
  exact this
theorem po_off {w w3 : World} {p mb hz : Nat} {e : Pl.Pd} (hs : w3.heap[p]? = some (.cells #[.int .i64 e.cap, .int .i64 (e.high - 1), .map (some mb)] 58 (0, 0))) (he : Pl.Ok e) (hg : Pl.goes e hz)
    (M : w3.ownsMap Try.prog 3 (plainElem Try.prog 33) mb e.l.length ((md e.l).del (lk (e.high - 1)))) : Po w3 p mb (Pl.off e) := by
  obtain ⟨_, x, hx, hx1, _⟩ := (Pl.goes_iff he hz).1 hg
  rw [← hx1] at M
  exact po_cut (w := w) hs he hx M (Pl.off_ok he hg)

/-- The high mark, as it lies in memory. -/
def hiOf (p : Nat) (w : World) : Nat := match w.cell? ⟨p, 1, none⟩ with
  | some (.int _ x) => x.toNat
  | _ => 0
theorem hiOf_po {w : World} {p mb : Nat} {d : Pl.Pd} (h : Po w p mb d) : hiOf p w = d.high.toNat := by unfold hiOf; rw [h.c1]


end Go.Proofs.Ytmcldkcmialfeaa.Pq
namespace Go.Proofs.Ytmcldkcmialfeaa.Pq
open Go.RowKit
set_option linter.unusedVariables false

/-- Block g is one cell that holds v. -/
def Cell (w : World) (g : Nat) (t : TypeId) (v : Value) : Prop := w.heap[g]? = some (.cells #[v] t (0, 0))
section
variable {w w' : World} {g : Nat} {t : TypeId} {v : Value}
theorem Cell.lt (h : Cell w g t v) : g < w.heap.size := (Array.getElem?_eq_some_iff.1 h).1
theorem Cell.cell (h : Cell w g t v) : w.cell? ⟨g, 0, none⟩ = some v := by unfold Cell at h; simp [World.cell?, h]
theorem Cell.free (h : Cell w g t v) : w.frozen? ⟨g, 0, none⟩ = false := by unfold Cell at h; simp [World.frozen?, h]
theorem Cell.fresh (w : World) (t : TypeId) (v : Value) {g : Nat} (h : w.heap.size = g) : Cell (w.alloc (.cells #[v] t)) g t v := by subst h; exact heap_alloc_new w _
theorem Cell.alloc (h : Cell w g t v) (o : Obj) : Cell (w.alloc o) g t v := (Below.heap_alloc w o g h.lt).trans h
theorem Cell.set (h : Cell w g t v) (u : Value) : Cell (w.setCell ⟨g, 0, none⟩ u) g t u := by
  unfold Cell at h ⊢
  simp [World.setCell, Array.getElem?_modify, h]
theorem Cell.far (h : Cell w g t v) {p : Addr} (hp : g ≠ p.block) (u : Value) : Cell (w.setCell p u) g t v := (Below.heap_setCell w p u g hp).trans h
theorem Cell.grown {row : Option Nat} (h : Cell w g t v) (hb : w.grownBy w' row) (hg : some g ≠ row) : Cell w' g t v := (hb.block g h.lt hg).trans h
end
theorem grown_set (w : World) (g : Nat) (v : Value) : w.grownBy (w.setCell ⟨g, 0, none⟩ v) (some g) :=
  ⟨rfl, rfl, rfl, by simp [World.setCell], fun i _ hi => heap_setCell_other w _ i v (fun e => hi (by rw [e]))⟩
theorem grown_undrew {w w' : World} {m : Nat} {r : Option Nat} (h : (w.drewN m).grownBy w' r) : w.grownBy w' r := ⟨h.os, h.tape, h.output, h.size, h.block⟩
theorem grown_refl (w : World) (r : Option Nat) : w.grownBy w r := ⟨rfl, rfl, rfl, Nat.le_refl _, fun _ _ _ => rfl⟩

/-- The lesser page that may be used. -/
def less (l : List Pl.F) (hz : Nat) (x no : Int) : Int := if no < x ∧ may l no hz = true then no else x

theorem takeLess_any (w : World) (bl bp bh p mb : Nat) (x no : Int) (hz : Nat) (l : List Pl.F) (hl : Cell w bl 3 (.int .i64 x)) (hp : w.cell? ⟨bp, 0, none⟩ = some (.pointer (some ⟨p, 0, none⟩))) (hh : w.cell? ⟨bh, 0, none⟩ = some (.int .u64 (hz : Int)))
    (c2 : w.cell? ⟨p, 2, none⟩ = some (.map (some mb))) (hm : Mp w mb l) (hi : I64 no) :
    Calls Try.prog 51 #[.int .i64 no, .pointer (some ⟨bl, 0, none⟩), .pointer (some ⟨bp, 0, none⟩), .pointer (some ⟨bh, 0, none⟩)] w fun e w' => (∃ v, e = .returned v) ∧ w.grownBy w' (some bl) ∧ Cell w' bl 3 (.int .i64 (less l hz x no)) := by
  have HL := Lib.hid hl
  have cl := hl.cell
  have fl := hl.free
  have C := Lib.hid (mayUse_map w p mb l no hz c2 hm hi)
  clear hl hm hi c2
  by_cases h1 : no < x
  · by_cases h2 : may l no hz = true
    · have e : less l hz x no = no := if_pos ⟨h1, h2⟩
      rw [e]
      rw [h2] at C
      clear e h2
      go_enter Try.func51, Try.ntmps51
      go_wp2_with fail
      refine C.out.mono ?_
      rintro e' w' ⟨rfl, rfl⟩
      go_wp2
      go_end0
      exact ⟨⟨_, rfl⟩, grown_set _ _ _, HL.out.set _⟩
    · have e : less l hz x no = x := if_neg fun h => h2 h.2
      rw [e]
      rw [Bool.eq_false_iff.2 h2] at C
      clear e h2
      go_enter Try.func51, Try.ntmps51
      go_wp2_with fail
      refine C.out.mono ?_
      rintro e' w' ⟨rfl, rfl⟩
      go_wp2
      go_end0
      exact ⟨⟨_, rfl⟩, grown_refl _ _, HL.out⟩
  · have e : less l hz x no = x := if_neg fun h => h1 h.1
    rw [e]
    have h1' : decide (no < x) = false := decide_eq_false h1
    clear e C
    go_enter Try.func51, Try.ntmps51
    go_wp2
    go_end0
    exact ⟨⟨_, rfl⟩, grown_refl _ _, HL.out⟩

/-- What is known of the least, while some are left. -/
structure Least (l : List Pl.F) (high : Int) (hz : Nat) (left : Lit → Bool) (x : Int) : Prop where
  le : x ≤ high
  two : 2 ≤ x
  is : x < high → ∃ g, Pl.look l x = some g ∧ g ≤ hz
  all : ∀ k g, Pl.look l k = some g → g ≤ hz → left (lk k) = false → x ≤ k
theorem Least.start {d : Pl.Pd} (hd : Pl.Ok d) (hz : Nat) : Least d.l d.high hz (Maps.has (md d.l)) d.high :=
  ⟨Int.le_refl _, hd.two, fun h => absurd h (by omega), fun k g hk _ hl => by rw [has_md, hk] at hl; cases hl⟩
theorem Least.step {d : Pl.Pd} (hd : Pl.Ok d) {hz : Nat} {left : Lit → Bool} {x no : Int} (h : Least d.l d.high hz left x) (hno : (Pl.look d.l no).isSome = true) :
    Least d.l d.high hz (fun z => left z && !z.sameKey (Lit.int .i64 no)) (less d.l hz x no) := by
  obtain ⟨g0, hg0⟩ := Option.isSome_iff_exists.1 hno
  have hin := hd.ins _ (Pl.look_mem hg0)
  have hle : less d.l hz x no ≤ x := by unfold less; split <;> omega
  refine ⟨Int.le_trans hle h.le, ?_, fun hx => ?_, fun k g hk hg hl => ?_⟩
  · unfold less; split
    · exact hin.1
    · exact h.two
  · unfold less at hx ⊢
    split
    · rename_i hc
      refine ⟨g0, hg0, ?_⟩
      rw [may_some hg0] at hc
      exact of_decide_eq_true hc.2
    · rename_i hc
      rw [if_neg hc] at hx
      exact h.is hx
  · by_cases e : k = no
    · subst e
      unfold less
      rw [may_some hk, decide_eq_true hg]
      split
      · exact Int.le_refl _
      · rename_i hc; exact Int.not_lt.1 fun h1 => hc ⟨h1, rfl⟩
    · have hs : (lk k).sameKey (Lit.int .i64 no) = false := Maps.sameKey_ne (fun e' => e (by unfold lk at e'; injection e'))
      rw [hs] at hl
      simp only [Bool.not_false, Bool.and_true] at hl
      exact Int.le_trans hle (h.all k g hk hg hl)
theorem Least.done {d : Pl.Pd} (hd : Pl.Ok d) {hz : Nat} {left : Lit → Bool} {x : Int} (h : Least d.l d.high hz left x) (hl : ∀ k, left k = false) :
    (∃ i f, Pl.first d.l hz = some i ∧ d.l[i]? = some f ∧ f.1 = x ∧ x < d.high) ∨ (Pl.first d.l hz = none ∧ x = d.high) := by
  cases hf : Pl.first d.l hz with
  | none =>
    refine .inr ⟨rfl, ?_⟩
    by_cases hx : x < d.high
    · obtain ⟨g, hg, hle⟩ := h.is hx
      have := Pl.first_none hf _ (Pl.look_mem hg)
      simp at this; omega
    · have := h.le; omega
  | some i =>
    obtain ⟨f, hx, hle, _⟩ := Pl.first_some hf
    obtain ⟨h1, h2, h3⟩ := Pl.first_least hd.rises hf hx
    have hin := hd.ins _ (List.mem_of_getElem? hx)
    have a := h.all f.1 f.2 h1 h2 (hl _)
    obtain ⟨g, hg, hgl⟩ := h.is (by omega)
    have b := h3 x g hg hgl
    exact .inl ⟨i, f, rfl, hx, by omega, by omega⟩

set_option maxRecDepth 100000 in
theorem alloc_any (w : World) (p mb : Nat) (d : Pl.Pd) (hz : Nat) (h : Po w p mb d) :
    Calls Try.prog 36 #[.pointer (some ⟨p, 0, none⟩), .int .u64 (hz : Int)] w fun e w' => e = .returned (.tuple #[.int .i64 (Pl.allocNo d hz), .int .i64 (Pl.allocCode d hz)]) ∧ Po w' p mb (Pl.alloc d hz) ∧ Off (Mine p mb) w w' := by
  have H := Lib.hid h
  have c1 := h.c1
  have c2 := h.c2
  have hd2 := h.ok.two
  have hdc := h.ok.high
  have hdm := h.ok.cap
  have hmf : ∀ (fn : Fn) (first cap : Array Value) (w : World), (Instr.makeFunc fn first cap).run Try.prog w = .ok (.func fn first cap) w := fun _ _ _ _ => rfl
  have hpl := h.p_lt
  have hml := h.mb_lt
  have B1 : Below w.heap.size w ((w.alloc (.cells #[.pointer (some ⟨p, 0, none⟩)] 25)).alloc (.cells #[.int .u64 (hz : Int)] 33)) := ((Below.refl _ w).alloc (Nat.le_refl _) _).alloc (by simp) _
  have B2 := B1.alloc (by simp; omega) (.cells #[.int .i64 d.high] 3)
  have d1 := (h.on B1).c1
  have d2 := (h.on B2).c2
  have HP := Lib.hid (h.on B2)
  have HB := Lib.hid B2
  have v0 := (((Cell.fresh w 25 (.pointer (some ⟨p, 0, none⟩)) rfl).alloc (.cells #[.int .u64 (hz : Int)] 33)).alloc (.cells #[.int .i64 d.high] 3))
  have v1 := ((Cell.fresh (w.alloc (.cells #[.pointer (some ⟨p, 0, none⟩)] 25)) 33 (.int .u64 (hz : Int)) (g := w.heap.size + 1) (by simp)).alloc (.cells #[.int .i64 d.high] 3))
  have v2 := (Cell.fresh ((w.alloc (.cells #[.pointer (some ⟨p, 0, none⟩)] 25)).alloc (.cells #[.int .u64 (hz : Int)] 33)) 3 (.int .i64 d.high) (g := w.heap.size + 1 + 1) (by simp))
  have V := Lib.hid (And.intro v0 (And.intro v1 v2))
  have hsz : (((w.alloc (.cells #[.pointer (some ⟨p, 0, none⟩)] 25)).alloc (.cells #[.int .u64 (hz : Int)] 33)).alloc (.cells #[.int .i64 d.high] 3)).heap.size = w.heap.size + 3 := by simp
  have HZ := Lib.hid hsz
  clear h B1 B2 v0 v1 v2 hsz
  go_enter Try.func36, Try.ntmps36
  go_wp2_with (first
    | (at_range; refine wpList_range_own _ rfl _ 56 rfl 3 33 keyed Try.underlying56 (plainElem Try.prog 33) mb d.l.length (md d.l) rfl HP.out.map ?_; intro w0 hrg0 hg0 hs0))
  go_frame
  clear d1 d2
  generalize ((w.alloc (.cells #[.pointer (some ⟨p, 0, none⟩)] 25)).alloc (.cells #[.int .u64 (hz : Int)] 33)).alloc (.cells #[.int .i64 d.high] 3) = wa at HP HB V HZ hrg0 hg0 hs0 ⊢
  have hr := HZ.out
  rw [hr] at hrg0 hs0 ⊢
  obtain ⟨v0, v1, v2⟩ := V.out
  have b0 : Below w.heap.size w w0 := HB.out.grown hg0 (by omega) (fun k hk => by cases hk)
  have S0 := Lib.hid (And.intro hrg0 (And.intro (v0.grown hg0 (by simp)) (And.intro (v1.grown hg0 (by simp)) (And.intro (v2.grown hg0 (by simp)) b0))))
  clear hrg0 hg0 hs0 v0 v1 v2 b0 V HB HP HZ hr
  go_loopw [8] (fun _ wr => ∃ (left : Lit → Bool) (cnt : Nat) (x : Int), wr.ranges Try.prog 3 (plainElem Try.prog 33) mb (w.heap.size + 3) d.l.length (md d.l) left cnt ∧ Least d.l d.high hz left x ∧
      Cell wr w.heap.size 25 (.pointer (some ⟨p, 0, none⟩)) ∧ Cell wr (w.heap.size + 1) 33 (.int .u64 (hz : Int)) ∧ Cell wr (w.heap.size + 1 + 1) 3 (.int .i64 x) ∧ Below w.heap.size w wr)
    (fun _ wr => wr.rangeLeft mb (w.heap.size + 3))
  case atStart =>
    obtain ⟨a1, a2, a3, a4, a5⟩ := S0.out
    exact ⟨_, _, d.high, a1, Least.start H.out.ok hz, a2, a3, a4, a5⟩
  case round =>
    obtain ⟨left, cnt, x, hrg, hL, k0, k1, k2, hb⟩ := hrel
    have HS := Lib.hid (And.intro hL (And.intro k0 (And.intro k1 (And.intro k2 (And.intro hb hrg)))))
    clear hL k0 k1 k2 hb S0
    go_wp2_with (first
      | (at_next; refine wpList_next_ranges_ii _ rfl _ rfl 3 33 .i64 .u64 keyed Try.underlying3 Try.underlying33 mb (w.heap.size + 3) d.l.length (md d.l) left cnt rfl hrg ?_ ?_))
    · intro _ hl0
      obtain ⟨hL, k0, k1, k2, hb, _⟩ := HS.out
      have hP := H.out.on hb
      clear hrg
      have q0 := k0.cell
      have q1 := k1.cell
      have q2 := k2.cell
      have p0 := hP.c0
      have p1 := hP.c1
      have p2 := hP.c2
      have pf := hP.frz 1
      have HP := Lib.hid hP
      have HB := Lib.hid hb
      rcases hL.done H.out.ok hl0 with ⟨i, f, hf, hx, rfl, hlt⟩ | ⟨hf, rfl⟩
      · have HF := Lib.hid (And.intro hf hx)
        have hi := H.out.ok.ins _ (List.mem_of_getElem? hx)
        have KB := Lib.hid k2
        clear hf hx hL k0 k1 k2 hb hP hl0 HS c1 c2
        go_wp2_with fail
        go_quiet (fail)
        go_wp2_with fail
        go_region_law (first
          | (refine step_delete_own rfl (.tmp 35) (.tmp 36) 56 3 rfl 33 keyed Try.underlying56 (plainElem Try.prog 33) mb d.l.length (md d.l) (by simp [Act.eval]) (by exact HP.out.map) (.int .i64 f.1) (lk f.1) (by simp [Act.eval]) (key_of ⟨by omega, by omega⟩) ?_; intro w3 M3 g3))
        all_goals
          have q3 := (KB.out.grown (w' := w3) (grown_undrew g3.grown) (fun e => by injection e with e; omega)).cell
          have hs3 := (g3.grown.block p HP.out.p_lt (fun e' => by injection e' with e'; exact HP.out.ne e'.symm)).trans HP.out.str
          obtain ⟨hf, hx⟩ := HF.out
          have hal : Pl.alloc d hz = { d with l := Pl.cut d.l i } := by unfold Pl.alloc; rw [hf]
          have hno : Pl.allocNo d hz = f.1 := by unfold Pl.allocNo; rw [hf]; simp [hx]
          have hco : Pl.allocCode d hz = 0 := by unfold Pl.allocCode; rw [hf]
          have hok := Pl.alloc_ok H.out.ok hz
          rw [hal] at hok
          have hpo : Po w3 p mb { d with l := Pl.cut d.l i } := po_cut (w := w) (hi := d.high) hs3 H.out.ok hx M3 hok
          have hof : Off (Mine p mb) w w3 := (Off.of_below (below_drewN HB.out _)).trans (off_grown g3.grown)
          have RS := Lib.hid (And.intro hal (And.intro hno (And.intro hco (And.intro hpo hof))))
          clear hal hno hco hok hpo hof hf hx hs3 M3 g3
          go_wp2
          go_ret2
          obtain ⟨hal, hno, hco, hpo, hof⟩ := RS.out
          rw [hal, hno, hco]
          exact ⟨rfl, hpo, hof⟩
      · have HF := Lib.hid hf
        clear hf hL k0 k1 k2 hb hP hl0 HS c1 c2
        by_cases hcap : d.high = d.cap
        · have hal : Pl.alloc d hz = d := by unfold Pl.alloc; rw [HF.out]; simp only; rw [if_pos (by omega)]
          have hno : Pl.allocNo d hz = 0 := by unfold Pl.allocNo; rw [HF.out]; simp only; rw [if_pos (by omega)]
          have hco : Pl.allocCode d hz = 2 := by unfold Pl.allocCode; rw [HF.out]; simp only; rw [if_pos (by omega)]
          have RS := Lib.hid (And.intro hal (And.intro hno hco))
          have hbq : (d.high == d.cap) = true := by simpa using hcap
          clear hal hno hco hcap
          go_wp2_with fail
          go_quiet (fail)
          all_goals
            go_wp2_with fail
            go_quiet (fail)
            all_goals
              go_wp2
              go_ret2
              obtain ⟨hal, hno, hco⟩ := RS.out
              rw [hal, hno, hco]
              exact ⟨rfl, (HP.out.drewN _).drewN _, Off.of_below (below_drewN (below_drewN HB.out _) _)⟩
        · have hal : Pl.alloc d hz = { d with high := d.high + 1 } := by unfold Pl.alloc; rw [HF.out]; simp only; rw [if_neg (by omega)]
          have hno : Pl.allocNo d hz = d.high := by unfold Pl.allocNo; rw [HF.out]; simp only; rw [if_neg (by omega)]
          have hco : Pl.allocCode d hz = 0 := by unfold Pl.allocCode; rw [HF.out]; simp only; rw [if_neg (by omega)]
          have hok := Pl.alloc_ok H.out.ok hz
          rw [hal] at hok
          have RS := Lib.hid (And.intro hal (And.intro hno (And.intro hco hok)))
          have hbq : (d.high == d.cap) = false := by simpa using hcap
          clear hal hno hco hok hcap
          go_wp2_with fail
          go_quiet (fail)
          all_goals
            go_wp2_with fail
            go_quiet (fail)
            all_goals
              go_wp2
              go_ret2
              obtain ⟨hal, hno, hco, hok⟩ := RS.out
              rw [hal, hno, hco]
              obtain ⟨s1, s2, s3⟩ := set_high (HP.out.drewN _) (d.high + 1)
              exact ⟨rfl, ⟨s1, s2, hok⟩, (Off.of_below (below_drewN HB.out _)).trans s3⟩
    · intro no c w1 cnt1 hwx hwc hlx hat hrg1 hlt hg1 hs1 hen
      obtain ⟨hL, k0, k1, k2, hb, _⟩ := HS.out
      have n0 := k0.grown hg1 (by simp)
      have n1 := k1.grown hg1 (by simp)
      have n2 := k2.grown hg1 (by simp)
      have nb : Below w.heap.size w w1 := hb.grown hg1 (Nat.le_of_lt (Nat.lt_of_le_of_lt (Nat.le_add_right _ _) hrg.lt)) (fun k hk => by injection hk with hk; omega)
      have hno : (Pl.look d.l no).isSome = true := by rw [← has_md]; exact Maps.has_true_of_atKey hat
      have hI : I64 no := by have := bounds_i64 hwx; exact this
      have C := Lib.hid (takeLess_any w1 (w.heap.size + 1 + 1) w.heap.size (w.heap.size + 1) p mb x no hz d.l n2 n0.cell n1.cell (H.out.on nb).c2 (H.out.on nb).map hI)
      have HN := Lib.hid (And.intro (hL.step H.out.ok hno) (And.intro n0 (And.intro n1 (And.intro nb (And.intro hrg1 (And.intro hrg hlt))))))
      clear hL k0 k1 k2 hb n0 n1 n2 nb hno hI hat hlx hwx hwc hg1 hs1 hrg hrg1 HS hlt
      go_wp2_with fail
      refine C.out.mono ?_
      rintro e' w2 ⟨⟨v, rfl⟩, hg2, k2⟩
      obtain ⟨hL, n0, n1, nb, hrg1, hrg, hlt⟩ := HN.out
      have hrg2 := hrg1.kept hg2 (by have := H.out.mb_lt; intro e; injection e with e; omega) (by intro e; injection e with e; omega)
      go_wp2
      go_roundw
      case rel => exact ⟨_, _, _, hrg2, hL, n0.grown hg2 (fun e => by injection e with e; omega), n1.grown hg2 (fun e => by injection e with e; omega), k2, nb.grown hg2 (by have := nb.size; omega) (fun k hk => by injection hk with hk; omega)⟩
      case measure => rw [hrg2.left_eq, hrg.left_eq]; exact hlt

end Go.Proofs.Ytmcldkcmialfeaa.Pq
namespace Go.Proofs.Ytmcldkcmialfeaa.Pq
open Go.RowKit
set_option linter.unusedVariables false

def fc (l : List Pl.F) : List Value := l.flatMap fun f => [.int .i64 f.1, .int .u64 (f.2 : Int)]
theorem fc_app (a b : List Pl.F) : fc (a ++ b) = fc a ++ fc b := by simp [fc]
theorem fc_one (f : Pl.F) : fc [f] = [.int .i64 f.1, .int .u64 (f.2 : Int)] := by simp [fc]
theorem fc_len : ∀ l : List Pl.F, (fc l).length = l.length * 2
  | [] => rfl
  | x :: l => by have := fc_len l; simp [fc] at *; omega
theorem fc_cell (l : List Pl.F) : ∀ u ∈ fc l, u.oneCell' = true := by
  intro u hu
  obtain ⟨f, _, hf⟩ := List.mem_flatMap.1 hu
  simp at hf
  rcases hf with rfl | rfl <;> rfl
theorem fc_at : ∀ (l : List Pl.F) (j : Nat) (x : Pl.F), l[j]? = some x → (fc l)[j * 2]? = some (.int .i64 x.1) ∧ (fc l)[j * 2 + 1]? = some (.int .u64 (x.2 : Int))
  | [], j, x, h => by simp at h
  | y :: l, 0, x, h => by
    simp at h; subst h
    exact ⟨rfl, rfl⟩
  | y :: l, j + 1, x, h => by
    have := fc_at l j x (by simpa using h)
    have e : (j + 1) * 2 = j * 2 + 1 + 1 := by omega
    rw [e]
    exact this
theorem fc_inv : ∀ (l : List Pl.F) (j : Nat) (u : Value), (fc l)[j]? = some u → ∃ x, l[j / 2]? = some x ∧ u = if j % 2 = 0 then .int .i64 x.1 else .int .u64 (x.2 : Int)
  | [], j, u, h => by simp [fc] at h
  | y :: l, 0, u, h => by simp [fc] at h; exact ⟨y, by simp, h.symm⟩
  | y :: l, 1, u, h => by simp [fc] at h; exact ⟨y, by simp, h.symm⟩
  | y :: l, j + 2, u, h => by
    obtain ⟨x, h1, h2⟩ := fc_inv l j u (by simpa [fc] using h)
    refine ⟨x, ?_, ?_⟩
    · have e : (j + 2) / 2 = j / 2 + 1 := by omega
      rw [e]; simpa using h1
    · have e : (j + 2) % 2 = j % 2 := by omega
      rw [e]; exact h2
/-- What a number in a freed page may be. -/
def In (f : Pl.F) : Prop := I64 f.1 ∧ f.2 < 18446744073709551616
/-- The slice value '.slice A n c' reads as the freed pages l. -/
def Fs (w : World) (A : Option Addr) (n c : Nat) (l : List Pl.F) : Prop :=
  l.length = n ∧ n ≤ c ∧ c ≤ maxLen ∧ (∀ f ∈ l, In f) ∧
  (0 < n → ∃ b off, A = some ⟨b, off, none⟩ ∧ b < w.heap.size ∧ ∀ (j : Nat) (f : Pl.F), l[j]? = some f → w.cell? ⟨b, off + j * 2, none⟩ = some (.int .i64 f.1) ∧ w.cell? ⟨b, off + j * 2 + 1, none⟩ = some (.int .u64 (f.2 : Int)))
section
variable {w w' : World} {A : Option Addr} {n c : Nat} {l : List Pl.F}
theorem Fs.off {S : Nat → Prop} (h : Fs w A n c l) (ho : Off S w w') (hn : ∀ a, A = some a → ¬ S a.block) : Fs w' A n c l := by
  obtain ⟨h1, h2, h3, h4, h5⟩ := h
  refine ⟨h1, h2, h3, h4, fun hp => ?_⟩
  obtain ⟨b, off, e, hlt, hc⟩ := h5 hp
  have hk : w'.heap[b]? = w.heap[b]? := ho.block b hlt (hn _ e)
  refine ⟨b, off, e, Nat.lt_of_lt_of_le hlt ho.size, fun j f hf => ?_⟩
  obtain ⟨a1, a2⟩ := hc j f hf
  unfold World.cell? at *
  simp only at *
  rw [hk]
  exact ⟨a1, a2⟩
theorem Fs.on (h : Fs w A n c l) (hb : Below w.heap.size w w') : Fs w' A n c l := h.off (S := fun _ => False) (Off.of_below hb) fun _ _ h => h
theorem Fs.drewN (h : Fs w A n c l) (m : Nat) : Fs (w.drewN m) A n c l := h
theorem Fs.drew (h : Fs w A n c l) : Fs w.drew A n c l := h
theorem Fs.nil_ (w : World) (A : Option Addr) (c : Nat) (hc : c ≤ maxLen) : Fs w A 0 c [] := ⟨rfl, Nat.zero_le _, hc, by simp, fun h => absurd h (by omega)⟩
theorem Fs.get (h : Fs w A n c l) {k : Nat} (hk : k < n) : ∃ b off f, A = some ⟨b, off, none⟩ ∧ b < w.heap.size ∧ l[k]? = some f ∧ In f ∧ w.cell? ⟨b, off + k * 2, none⟩ = some (.int .i64 f.1) ∧ w.cell? ⟨b, off + k * 2 + 1, none⟩ = some (.int .u64 (f.2 : Int)) := by
  obtain ⟨h1, h2, h3, h4, h5⟩ := h
  obtain ⟨b, off, e, hlt, hc⟩ := h5 (by omega)
  have hl : k < l.length := by omega
  have hx := List.getElem?_eq_getElem hl
  exact ⟨b, off, l[k], e, hlt, hx, h4 _ (List.getElem_mem hl), hc k _ hx⟩
theorem Fs.first (h : Fs w A n c l) (k : Nat) (hk : k ≤ n) : Fs w A k c (l.take k) := by
  obtain ⟨h1, h2, h3, h4, h5⟩ := h
  refine ⟨by simp; omega, by omega, h3, fun x hx => h4 x (List.mem_of_mem_take hx), fun hn => ?_⟩
  obtain ⟨b, off, e, hlt, hc⟩ := h5 (by omega)
  refine ⟨b, off, e, hlt, fun j x hx => hc j x ?_⟩
  rw [List.getElem?_take] at hx
  split at hx
  · exact hx
  · cases hx
theorem Fs.far {b off : Nat} (h : Fs w (some ⟨b, off, none⟩) n c l) (k : Nat) (hk : k ≤ n) : Fs w (some ⟨b, off + k * 2, none⟩) (n - k) (c - k) (l.drop k) := by
  obtain ⟨h1, h2, h3, h4, h5⟩ := h
  refine ⟨by simp; omega, by omega, by omega, fun x hx => h4 x (List.mem_of_mem_drop hx), fun hn => ?_⟩
  obtain ⟨b', off', e, hlt, hc⟩ := h5 (by omega)
  injection e with e
  injection e with e1 e2
  subst e1 e2
  refine ⟨_, _, rfl, hlt, fun j x hx => ?_⟩
  rw [List.getElem?_drop] at hx
  have := hc (k + j) x hx
  rw [show off + k * 2 + j * 2 = off + (k + j) * 2 by omega]
  exact this
theorem fs_own {base : Nat} {v : Value} (h : w.ownsRow base 60 2 v l.length (fc l)) (hb : ∀ f ∈ l, In f) : ∃ A c, v = .slice A l.length c ∧ Fs w A l.length c l := by
  rcases h.2 with ⟨hv, h0⟩ | ⟨g, cap, cur, hv, _, hg, hnc, hcm, _, _⟩
  · have : l = [] := List.eq_nil_of_length_eq_zero h0
    subst this
    exact ⟨none, 0, hv, Fs.nil_ _ _ _ (by unfold maxLen; omega)⟩
  · refine ⟨_, _, hv, rfl, hnc, hcm, hb, fun _ => ⟨g, 0, rfl, (Array.getElem?_eq_some_iff.1 hg).1, fun j x hx => ?_⟩⟩
    subst hv
    have hj : j < l.length := (List.getElem?_eq_some_iff.1 hx).1
    have a := fc_at l j x hx
    have hl := fc_len l
    have c0 := (h.cellAt (j * 2) (by omega)).trans a.1
    have c1 := (h.cellAt (j * 2 + 1) (by omega)).trans a.2
    rw [Nat.zero_add]
    exact ⟨c0, c1⟩
theorem fs_news {b off : Nat} (h : Fs w (some ⟨b, off, none⟩) n c l) : ∀ (j : Nat) (u : Value), (fc l)[j]? = some u → w.cell? ((⟨b, off, none⟩ : Addr).add j) = some u := by
  obtain ⟨h1, _, _, _, h5⟩ := h
  intro j u hu
  obtain ⟨x, hx, rfl⟩ := fc_inv l j u hu
  have hj : j / 2 < l.length := (List.getElem?_eq_some_iff.1 hx).1
  obtain ⟨b', off', hh, _, hc⟩ := h5 (by omega)
  injection hh with hh
  injection hh with hb ho
  subst hb ho
  obtain ⟨a1, a2⟩ := hc _ x hx
  have hadd : (⟨b, off, none⟩ : Addr).add j = ⟨b, off + j, none⟩ := by
    by_cases hj0 : j = 0
    · subst hj0; simp [Addr.add]
    · simp [Addr.add, hj0]
  rw [hadd]
  by_cases he : j % 2 = 0
  · rw [if_pos he]
    rw [show off + j = off + j / 2 * 2 by omega]; exact a1
  · rw [if_neg he]
    rw [show off + j = off + j / 2 * 2 + 1 by omega]; exact a2
end
theorem infoF : (Try.prog.info? 60).map (fun i => (i.zero, i.size, i.bytes)) = some (some (.agg #[.int .i64 0, .int .u64 0]), 2, 16) := by kernel_rfl
/-- Freed pages are appended to a row of the call's own. -/
theorem run_append_fs (w : World) (base : Nat) (ty : TypeId) (v : Value) (xs : List Pl.F) (hown : w.ownsRow base 60 2 v xs.length (fc xs)) (A : Option Addr) (m c : Nat) (l : List Pl.F) (hr : Fs w A m c l) (hsum : xs.length + m ≤ 100000) (hbase : base ≤ w.heap.size) :
    ∃ v' w', (Builtin.append_ #[43, 43] ty #[v, .slice A m c]).run Try.prog w = .ok v' w' ∧ w'.ownsRow base 60 2 v' (xs ++ l).length (fc (xs ++ l)) ∧ w.grownBy w' v.ownBlock := by
  have hinfo := infoF
  cases hi : Try.prog.info? 60 with
  | none => rw [hi] at hinfo; cases hinfo
  | some i =>
    rw [hi] at hinfo
    simp only [Option.map_some, Option.some.injEq, Prod.mk.injEq] at hinfo
    obtain ⟨hz, hs, hby⟩ := hinfo
    have hrl := hr.1
    rw [List.length_append, fc_app, hrl]
    match A, hr with
    | none, hr =>
      have hm : m = 0 := by
        rcases Nat.eq_zero_or_pos m with h0 | h0
        · exact h0
        · obtain ⟨_, _, hh, _⟩ := hr.2.2.2.2 h0
          cases hh
      subst hm
      have hl : l = [] := List.eq_nil_of_length_eq_zero hrl
      subst hl
      refine ⟨v, w, ?_, by simpa [fc] using hown, World.grownBy.refl w _⟩
      have ht := Try.underlying43
      rcases hown.2 with ⟨hv, hn⟩ | ⟨g, cap, cur, hv, _, _, hnc, _⟩
      · subst hv
        simp [Builtin.append_, run_underlying ht, sizeOf, typeInfo, hi, Builtin.lenOf, Builtin.firstCells]
      · subst hv
        simp [Builtin.append_, run_underlying ht, sizeOf, typeInfo, hi, Builtin.lenOf, Builtin.firstCells, hnc, storeCells]
    | some ⟨b, off, sp⟩, hr =>
      by_cases h0 : m = 0
      · subst h0
        have hl : l = [] := List.eq_nil_of_length_eq_zero hrl
        subst hl
        obtain ⟨v', w', h1, h2, h3, _⟩ := run_append_own (P := Try.prog) w base 43 ty 60 i _ 2 16 Try.underlying43 hi hz hs hby rfl (by decide) v xs.length (fc xs) hown ⟨b, off, sp⟩ 0 c [] rfl (by simp) (by simp) (by unfold maxLen; omega) (by omega) hbase
        exact ⟨v', w', h1, by rw [List.append_nil, Nat.add_zero] at h2; rw [Nat.add_zero]; show World.ownsRow _ _ _ _ _ _ (fc xs ++ []); rw [List.append_nil]; exact h2, h3⟩
      · have hsp : sp = none := by
          obtain ⟨b', off', hh, _⟩ := hr.2.2.2.2 (by omega)
          simp only [Option.some.injEq, Addr.mk.injEq] at hh
          exact hh.2.2
        subst hsp
        obtain ⟨v', w', h1, h2, h3, _⟩ := run_append_own (P := Try.prog) w base 43 ty 60 i _ 2 16 Try.underlying43 hi hz hs hby rfl (by decide) v xs.length (fc xs) hown ⟨b, off, none⟩ m c (fc l) (by rw [fc_len, hrl]) (fs_news hr) (fc_cell l) (by unfold maxLen; omega) (by omega) hbase
        exact ⟨v', w', h1, h2, h3⟩
/-- An append of which the run is known. -/
theorem wpList_append_ran {P : Program} (w : World) {ops : Array Oper} {rest : List Oper} {o : Oper} {a : Act} {Q : Exit → Act → World → Prop} (hgd : o.guard = none) (s x : Operand) (t tn : TypeId)
    (ho : o.op = .call { callee := .builtin .append, args := #[s, x], argTypes := #[t, tn] }) (vs vx : Value) (hs : a.eval s = vs) (hx : a.eval x = vx) (R : Value → World → Prop)
    (hr : ∃ v' w', (Builtin.append_ #[t, tn] o.type #[vs, vx]).run P w = .ok v' w' ∧ R v' w') (h : ∀ v' w', R v' w' → wpList P ops Q rest (a.put o.dst v') w') : wpList P ops Q (o :: rest) a w := by
  refine wpList_plain hgd fun K hK => ?_
  obtain ⟨v', w', hrun, hR⟩ := hr
  exact Lib.wp_append_run w s x t tn ho vs vx hs hx v' w' hrun (hK _ _ (h v' w' hR))
/-- One freed page, as a slice literal lays it. -/
theorem fs_new (w : World) (f : Pl.F) (hf : In f) : Fs (w.alloc (.cells #[.int .i64 f.1, .int .u64 (f.2 : Int)] 60)) (some ⟨w.heap.size, 0, none⟩) 1 1 [f] := by
  refine ⟨rfl, Nat.le_refl _, by unfold maxLen; omega, by simpa using hf, fun _ => ⟨w.heap.size, 0, rfl, by simp, fun j x hx => ?_⟩⟩
  have hj : j = 0 := by have := (List.getElem?_eq_some_iff.1 hx).1; simp at this; exact this
  subst hj
  simp at hx
  subst hx
  have hn := heap_alloc_new w (.cells #[.int .i64 f.1, .int .u64 (f.2 : Int)] 60)
  have c0 := cell_of_row _ _ 0 _ _ (0, 0) hn
  have c1 := cell_of_row _ _ 1 _ _ (0, 0) hn
  simp only [Nat.zero_mul, Nat.add_zero, Nat.zero_add]
  rw [c0, c1]
  exact ⟨rfl, rfl⟩
theorem own_form2 {w : World} {base e n : Nat} {v : Value} {xs : List Value} (h : w.ownsRow base e 2 v n xs) : ∃ A c, v = .slice A n c ∧ n ≤ c ∧ c ≤ maxLen := by
  rcases h.2 with ⟨hv, h0⟩ | ⟨g, cap, cur, hv, _, _, h1, h2, _⟩
  · subst h0; exact ⟨_, _, hv, Nat.le_refl _, Nat.zero_le _⟩
  · exact ⟨_, _, hv, h1, h2⟩
theorem own_on2 {w w' : World} {base e n : Nat} {v : Value} {xs : List Value} (h : w.ownsRow base e 2 v n xs) (hb : Below w.heap.size w w') : w'.ownsRow base e 2 v n xs :=
  h.kept (only_of hb none) (by cases hv : v.ownBlock <;> simp)

end Go.Proofs.Ytmcldkcmialfeaa.Pq
namespace Go.Proofs.Ytmcldkcmialfeaa.Pq
open Go.RowKit Go.Maps Go.Sort Go.Shelf
set_option linter.unusedVariables false

theorem intKeys_md (l : List Pl.F) : intKeys (md l) = l.map (·.1) := by
  unfold md intKeys
  simp only [List.map_map]
  rfl
theorem sorted_keys {l : List Pl.F} (hr : Pl.Rises l) {ss : List Int} (h : ss.Perm (intKeys (md l))) : ss.mergeSort leI = l.map (·.1) := by
  rw [mergeSort_of_perm_i h, intKeys_md]
  refine List.mergeSort_of_pairwise (List.pairwise_map.2 (hr.imp fun {a b} h => ?_))
  simpa [leI] using Int.le_of_lt h
theorem sorts (m : Nat) : AnyZI.SortsIn Try.prog Try.laidSorted_ren Fence.wide m :=
  ⟨fun blk off cap ss W hH hblk hsz => callsIn_wide.2 (AnyM.slices_Sort_int Try.laidSort blk off cap ss W hH hblk hsz),
   fun p cap W => callsIn_wide.2 (AnyM.slices_Sort_int_none Try.laidSort p cap W)⟩
theorem keys_any (mb : Nat) (w : World) : Calls Try.prog 35 #[.map (some mb)] w fun e w' =>
    e = .returned (.func (.func 50) #[] #[.pointer (some ⟨w.heap.size, 0, none⟩)]) ∧ w' = w.alloc (.cells #[.map (some mb)] 56) :=
  (callsIn_wide (n := 5)).1 (AnyZI.keys_in Try.laidKeys Fence.wide 5 trivial rfl (some mb) w)
set_option maxHeartbeats 1000000 in
theorem sorted_any (w : World) (mb : Nat) (l : List Pl.F) (hm : Mp w mb l) (hr : Pl.Rises l) (hf : l.length ≤ 2048) :
    Calls Try.prog 31 #[.func (.func 50) #[] #[.pointer (some ⟨w.heap.size, 0, none⟩)]] (w.alloc (.cells #[.map (some mb)] 56)) fun e w' =>
      ∃ v, e = .returned v ∧ w'.ownsRow (w.alloc (.cells #[.map (some mb)] 56)).heap.size 3 1 v l.length (l.map fun f => .int .i64 f.1) ∧ Below (w.alloc (.cells #[.map (some mb)] 56)).heap.size (w.alloc (.cells #[.map (some mb)] 56)) w' := by
  have hbl := hm.lt
  have hsz := size_md l
  have hseq : SeqGives Fence.wide 2 Try.prog 50 #[.pointer (some ⟨w.heap.size, 0, none⟩)] encZ (fun ss => ss.Perm (intKeys (md l))) (Maps.size (md l)) (w.alloc (.cells #[.map (some mb)] 56)) :=
    AnyZI.keys_gives (ρ := Try.laidKeys_ren) { Try.laidKeys with } Fence.wide _ trivial rfl (by omega) w.heap.size mb l.length (md l) _ (by simp) (by simp) (by
      obtain ⟨es, clock, hb, Ft, hs, hD⟩ := hm
      exact ⟨es, clock, (Below.heap_alloc _ _ mb hbl).trans hb, Ft, hs, hD⟩)
  have cS := AnyZI.sorted_in Try.laidSorted Fence.wide 5 trivial trivial trivial trivial rfl (by omega) (sorts _) (enters_of Try.func47 (by kernel_rfl) rfl) 50 #[.pointer (some ⟨w.heap.size, 0, none⟩)] trivial (enters_of Try.func50 (by kernel_rfl) rfl) _ _ (by rw [hsz]; unfold maxLen; omega) (by rw [hsz]; omega) _ hseq
  change CallsIn _ _ Try.prog 31 _ _ _ at cS
  refine ((callsIn_wide (n := 5)).1 cS).mono ?_
  rintro e w' ⟨v, ss, rfl, hS, hrow, _, hb⟩
  refine ⟨v, rfl, ?_, hb⟩
  have e1 := sorted_keys hr hS
  have e2 : ss.length = l.length := by rw [hS.length_eq, intKeys_md, List.length_map]
  change World.ownsRow _ _ _ _ _ _ ((ss.mergeSort leI).map encZ) at hrow
  rw [e1, e2, List.map_map] at hrow
  exact hrow

end Go.Proofs.Ytmcldkcmialfeaa.Pq
namespace Go.Proofs.Ytmcldkcmialfeaa.Pq
open Go.RowKit
set_option linter.unusedVariables false

theorem mapClone_any (w : World) (mb : Nat) (l : List Pl.F) (hm : Mp w mb l) : Calls Try.prog 43 #[.map (some mb)] w fun e w' =>
    e = .returned (.map (some w.heap.size)) ∧ Mp w' w.heap.size l ∧ Below w.heap.size w w' :=
  (AnyW.maps_Clone_owns Try.laidClone 3 (plainElem Try.prog 33) mb l.length (md l) w hm).mono fun e w' h => ⟨h.1, h.2.1, h.2.2.2⟩
theorem made_str (w : World) (a b : Value) (m : Value) (t : TypeId) : (w.alloc (.cells #[a, b, m] t)).heap[w.heap.size]? = some (.cells #[a, b, m] t (0, 0)) := heap_alloc_new w _

set_option maxRecDepth 100000 in
theorem clone_any (w : World) (p mb : Nat) (d : Pl.Pd) (h : Po w p mb d) :
    Calls Try.prog 27 #[.pointer (some ⟨p, 0, none⟩)] w fun e w' => ∃ q mq, e = .returned (.pointer (some ⟨q, 0, none⟩)) ∧ Po w' q mq d ∧ w.heap.size ≤ q ∧ w.heap.size ≤ mq ∧ Below w.heap.size w w' := by
  have H := Lib.hid h
  have c0 := h.c0
  have c1 := h.c1
  have c2 := h.c2
  clear h
  go_enter Try.func27, Try.ntmps27
  go_wp2_with fail
  have hD : Po w.drew p mb d := H.out.off (S := fun _ => False) ((Off.refl _ w).drew) fun _ _ h => h
  have HD := Lib.hid hD
  clear hD
  go_region_held3 (fun w' => w'.cell? ⟨p, 0, none⟩ = some (.int .i64 d.cap) ∧ w'.cell? ⟨p, 1, none⟩ = some (.int .i64 d.high) ∧ w'.cell? ⟨p, 2, none⟩ = some (.map (some mb))) (first | assumption | exact ⟨c0, c1, c2⟩ | go_keep)
    (first | (go_at_call 43; refine (mapClone_any _ mb d.l HD.out.map).mono ?_; rintro e w3 ⟨rfl, M3, B3⟩; have P3 := HD.out.on B3; have S3 : (fun w' : World => w'.cell? ⟨p, 0, none⟩ = some (.int .i64 d.cap) ∧ w'.cell? ⟨p, 1, none⟩ = some (.int .i64 d.high) ∧ w'.cell? ⟨p, 2, none⟩ = some (.map (some mb))) w3 := ⟨P3.c0, P3.c1, P3.c2⟩))
  all_goals
    go_wp2
    go_ret
    have hB : Below w.heap.size w (w3.alloc (.cells #[.int .i64 d.cap, .int .i64 d.high, .map (some w.drew.heap.size)] 58)) := (Below.mk B3.os B3.tape B3.output B3.size B3.block : Below w.heap.size w w3).alloc B3.size _
    exact ⟨w3.heap.size, w.heap.size, rfl, ⟨made_str _ _ _ _ _, M3.at_ (Below.heap_alloc _ _ _ M3.lt), H.out.ok⟩, B3.size, Nat.le_refl _, hB⟩

end Go.Proofs.Ytmcldkcmialfeaa.Pq
namespace Go.Proofs.Ytmcldkcmialfeaa.Pq
open Go.RowKit
set_option linter.unusedVariables false

/-- Freed one by one, or none where one may not be. -/
def addAll : Pl.Pd → List Pl.F → Option Pl.Pd
  | d, [] => some d
  | d, f :: l => if Pl.freeCode d f.1 = 0 then addAll (Pl.free d f.1 f.2) l else none
def newOf (cap high : Int) (l : List Pl.F) : Option Pl.Pd := if 2 ≤ high ∧ high ≤ cap ∧ cap ≤ 2048 then addAll ⟨cap, high, []⟩ l else none
theorem addAll_step {d : Pl.Pd} {l : List Pl.F} {k : Nat} {f : Pl.F} (hf : l[k]? = some f) : addAll d (l.drop k) = if Pl.freeCode d f.1 = 0 then addAll (Pl.free d f.1 f.2) (l.drop (k + 1)) else none := by
  have hk := (List.getElem?_eq_some_iff.1 hf).1
  rw [List.drop_eq_getElem_cons hk]
  have : l[k] = f := (List.getElem?_eq_some_iff.1 hf).2
  rw [this]
  rfl
theorem addAll_len : ∀ {l : List Pl.F} {d e : Pl.Pd}, addAll d l = some e → e.l.length = d.l.length + l.length ∧ e.cap = d.cap ∧ e.high = d.high
  | [], d, e, h => by simp [addAll] at h; subst h; simp
  | f :: l, d, e, h => by
    unfold addAll at h
    split at h
    · rename_i hc
      have := addAll_len h
      have e1 : Pl.free d f.1 f.2 = { d with l := Pl.ins d.l f.1 f.2 } := by unfold Pl.free; rw [if_pos hc]
      rw [e1] at this
      simp only [Pl.ins_len] at this
      simp; omega
    · cases h
theorem zero_ok {cap high : Int} (h : 2 ≤ high ∧ high ≤ cap ∧ cap ≤ 2048) : Pl.Ok ⟨cap, high, []⟩ := ⟨h.2.2, h.1, h.2.1, List.Pairwise.nil, by simp, by simp⟩
theorem po_made (w : World) {cap high : Int} (h : 2 ≤ high ∧ high ≤ cap ∧ cap ≤ 2048) : Po ((w.alloc (.map #[] 0)).alloc (.cells #[.int .i64 cap, .int .i64 high, .map (some w.heap.size)] 58)) (w.heap.size + 1) w.heap.size ⟨cap, high, []⟩ := by
  have hm : Mp (w.alloc (.map #[] 0)) w.heap.size [] := World.ownsMap_made w Try.prog 3 (plainElem Try.prog 33)
  refine ⟨?_, hm.at_ (Below.heap_alloc _ _ _ hm.lt), zero_ok h⟩
  have := heap_alloc_new (w.alloc (.map #[] 0)) (.cells #[.int .i64 cap, .int .i64 high, .map (some w.heap.size)] 58)
  rw [show (w.alloc (.map #[] 0)).heap.size = w.heap.size + 1 by simp] at this
  exact this
/-- What New answers. -/
def newV (o : Option Pl.Pd) (p : Nat) : Value := match o with
  | some _ => .tuple #[.pointer (some ⟨p, 0, none⟩), .int .i64 0]
  | none => .tuple #[.pointer none, .int .i64 1]
/-- What New leaves. -/
def NewSays (w : World) (o : Option Pl.Pd) (e : Ending) (w' : World) : Prop :=
  ∃ p mb, e = .returned (newV o p) ∧ (∀ d, o = some d → Po w' p mb d ∧ w.heap.size ≤ p ∧ w.heap.size ≤ mb) ∧ Below w.heap.size w w'
theorem says_none {w w' : World} {o : Option Pl.Pd} (h : o = none) (hb : Below w.heap.size w w') : NewSays w o (.returned (.tuple #[.pointer none, .int .i64 1])) w' := by
  subst h; exact ⟨0, 0, rfl, fun d hd => (by cases hd), hb⟩
theorem says_some {w w' : World} {o : Option Pl.Pd} {d : Pl.Pd} {p mb : Nat} (h : o = some d) (hP : Po w' p mb d) (hp : w.heap.size ≤ p) (hm : w.heap.size ≤ mb) (hb : Below w.heap.size w w') : NewSays w o (.returned (.tuple #[.pointer (some ⟨p, 0, none⟩), .int .i64 0])) w' := by
  subst h; exact ⟨p, mb, rfl, fun d' hd => by injection hd with hd; subst hd; exact ⟨hP, hp, hm⟩, hb⟩

set_option maxRecDepth 100000 in
theorem new_any (w : World) (cap high : Int) (A : Option Addr) (n c : Nat) (l : List Pl.F) (h : Fs w A n c l) (hi : I64 cap ∧ I64 high) (hn : n ≤ 100) :
    Calls Try.prog 7 #[.int .i64 cap, .int .i64 high, .slice A n c] w (NewSays w (newOf cap high l)) := by
  have H := Lib.hid h
  have hl := h.1
  have hcm := h.2.2.1
  have hnc := h.2.1
  unfold maxLen at hcm
  unfold I64 at hi
  clear h
  by_cases h2 : 2 ≤ high ∧ high ≤ cap ∧ cap ≤ 2048
  · have hN : newOf cap high l = addAll ⟨cap, high, []⟩ l := by unfold newOf; rw [if_pos h2]
    rw [hN]
    have HP0 := Lib.hid (po_made w h2)
    have HB0 := Lib.hid (((Below.refl _ w).alloc (Nat.le_refl _) (.map #[] 0)).alloc (by simp) (.cells #[.int .i64 cap, .int .i64 high, .map (some w.heap.size)] 58))
    obtain ⟨h2a, h2b, h2c⟩ := h2
    have z1 : ¬ high < 2 := by omega
    have z2 : ¬ cap < high := by omega
    have z3 : ¬ (2048 : Int) < cap := by omega
    clear hN
    have hmm := @run_makeMap Try.prog
    go_enter Try.func7, Try.ntmps7
    go_wp2_with fail
    go_loopw [29] (fun i wr => ∃ (k : Nat) (e : Pl.Pd), k ≤ n ∧ i = .int .i64 (k : Int) ∧ Po wr (w.heap.size + 1) w.heap.size e ∧ addAll ⟨cap, high, []⟩ l = addAll e (l.drop k) ∧ Below w.heap.size w wr) (fun i _ => n - (intOf i).toNat)
    case atStart => exact ⟨0, _, Nat.zero_le _, rfl, HP0.out, by rw [List.drop_zero], HB0.out⟩
    case round =>
      obtain ⟨k, e, hk, rfl, hP, hA, hb⟩ := hrel
      by_cases hlt : k < n
      · have z5 : (k : Int) < (n : Int) := by omega
        obtain ⟨b, off, f, rfl, hbl, hf, hin, q0, q1⟩ := (H.out.on hb).get hlt
        have hbs := hb.size
        have hb2 := hb.alloc (by omega) (.cells #[.int .i64 f.1, .int .u64 (f.2 : Int)] 60)
        have hP2 := hP.on ((Below.refl _ wr).alloc (Nat.le_refl _) (.cells #[.int .i64 f.1, .int .u64 (f.2 : Int)] 60))
        have CF := Lib.hid (free_any _ _ _ e f.1 f.2 hP2 hin.1 hin.2)
        have hst := addAll_step (d := e) hf
        by_cases hc : Pl.freeCode e f.1 = 0
        · rw [if_pos hc] at hst
          rw [hc] at CF
          have HH := Lib.hid (And.intro hb2 (And.intro hA hst))
          clear hb2 hP2 hst hc hP hA hb hf hin hbl
          go_wp2_with fail
          refine CF.out.mono ?_
          rintro e' w2 ⟨rfl, hP3, ho3⟩
          obtain ⟨hb2, hA, hst⟩ := HH.out
          have hb3 : Below w.heap.size w w2 := hb2.trans (ho3.below (B := w.heap.size) (by rintro x (rfl | rfl) <;> omega) (by simp; omega))
          go_wp2
          go_roundw
          case rel => exact ⟨k + 1, _, by omega, by go_num, hP3, hA.trans hst, hb3⟩
          case measure => simp [intOf]; omega
        · rw [if_neg hc] at hst
          have hcn : (Pl.freeCode e f.1 != 0) = true := by simpa using hc
          have hcn' : (Pl.freeCode e f.1 == 0) = false := by simpa using hc
          have HH := Lib.hid (And.intro hb2 (And.intro hA hst))
          clear hb2 hP2 hst hP hA hb hf hin hbl
          go_wp2_with fail
          refine CF.out.mono ?_
          rintro e' w2 ⟨rfl, hP3, ho3⟩
          obtain ⟨hb2, hA, hst⟩ := HH.out
          have hb3 : Below w.heap.size w w2 := hb2.trans (ho3.below (B := w.heap.size) (by rintro x (rfl | rfl) <;> omega) (by simp; omega))
          have HX := Lib.hid (And.intro hA (And.intro hst hb3))
          clear hA hst hb3 hb2 hP3 ho3
          go_wp2
          go_ret2
          obtain ⟨hA, hst, hb3⟩ := HX.out
          exact says_none (hA.trans hst) hb3
      · have z5 : ¬ ((k : Int) < (n : Int)) := by omega
        rw [List.drop_eq_nil_of_le (by omega)] at hA
        have HX := Lib.hid (And.intro hA (And.intro hP hb))
        clear hA hP hb
        go_wp2
        go_ret2
        obtain ⟨hA, hP, hb⟩ := HX.out
        exact says_some hA hP (by omega) (Nat.le_refl _) hb
  · have hN : newOf cap high l = none := by unfold newOf; rw [if_neg h2]
    rw [hN]
    by_cases z1 : high < 2
    · clear hN h2
      go_enter Try.func7, Try.ntmps7
      go_wp2
      go_ret2
      exact says_none rfl (Below.refl _ _)
    · by_cases z2 : cap < high
      · clear hN h2
        go_enter Try.func7, Try.ntmps7
        go_wp2
        go_ret2
        exact says_none rfl (Below.refl _ _)
      · have z3 : (2048 : Int) < cap := by omega
        clear hN h2
        go_enter Try.func7, Try.ntmps7
        go_wp2
        go_ret2
        exact says_none rfl (Below.refl _ _)

end Go.Proofs.Ytmcldkcmialfeaa.Pq
namespace Go.Proofs.Ytmcldkcmialfeaa.Pq
open Go.RowKit
set_option linter.unusedVariables false

theorem own_low {w : World} {base base' e size n : Nat} {v : Value} {xs : List Value} (h : w.ownsRow base e size v n xs) (hb : base' ≤ base) : w.ownsRow base' e size v n xs := by
  refine ⟨h.1, ?_⟩
  rcases h.2 with h0 | ⟨g, cap, cur, hv, hg, r⟩
  · exact .inl h0
  · exact .inr ⟨g, cap, cur, hv, Nat.le_trans hb hg, r⟩
theorem in_ok {d : Pl.Pd} (h : Pl.Ok d) : ∀ f ∈ d.l, In f := fun f hf => ⟨by have := h.ins f hf; have := h.high; have := h.cap; unfold I64; omega, h.gens f hf⟩

set_option maxRecDepth 100000 in
theorem list_any (w : World) (p mb : Nat) (d : Pl.Pd) (h : Po w p mb d) :
    Calls Try.prog 17 #[.pointer (some ⟨p, 0, none⟩)] w fun e w' => ∃ v, e = .returned v ∧ w'.ownsRow w.heap.size 60 2 v d.l.length (fc d.l) ∧ Below w.heap.size w w' := by
  have H := Lib.hid h
  have c2 := h.c2
  have hfew := h.few
  have CK := Lib.hid (keys_any mb w)
  have CS := Lib.hid (sorted_any w mb d.l h.map h.ok.rises hfew)
  clear h
  go_enter Try.func17, Try.ntmps17
  go_wp2_with fail
  refine CK.out.mono ?_
  rintro e w0 ⟨rfl, rfl⟩
  go_wp2_with fail
  refine CS.out.mono ?_
  rintro e w1 ⟨sv, rfl, hS, hB⟩
  have B1 : Below w.heap.size w w1 := ((Below.refl _ w).alloc (Nat.le_refl _) _).trans (hB.mono (by simp))
  have hP1 := H.out.on B1
  have HS := Lib.hid hS
  have HB := Lib.hid B1
  have HP := Lib.hid hP1
  obtain ⟨A, c, rfl, hnc, hcm⟩ := own_form hS
  unfold maxLen at hcm
  clear hS hB B1 hP1 CK CS c2
  generalize hn : d.l.length = n at *
  go_wp2_with fail
  go_loopw [3, 13] (fun o i wr => ∃ (k : Nat) (ov : Value), ov = o ∧ k ≤ n ∧ i = .int .i64 (k : Int) ∧ wr.ownsRow w1.heap.size 60 2 ov k (fc (d.l.take k)) ∧ Below w1.heap.size w1 wr) (fun _ i _ => n - (intOf i).toNat)
  case atStart => exact ⟨0, _, rfl, Nat.zero_le _, rfl, World.ownsRow_nil _ _ _ _, Below.refl _ _⟩
  case round =>
    obtain ⟨k, o, rfl, hk, rfl, hO, hb⟩ := hrel
    by_cases hlt : k < n
    · have z1 : (k : Int) < (n : Int) := by omega
      have hx : d.l[k]? = some d.l[k] := List.getElem?_eq_getElem (by omega)
      generalize d.l[k] = f at hx
      have hP := HP.out.on hb
      have hlk := (Pl.look_iff HP.out.ok.rises (no := f.1) (g := f.2)).2 (List.mem_of_getElem? hx)
      have hin := in_ok HP.out.ok f (List.mem_of_getElem? hx)
      have hrun := hP.map.look hin.1 hlk
      have c2 := hP.c2
      have hSr := own_on HS.out hb
      obtain ⟨g, rfl, cS⟩ : ∃ g, A = some ⟨g, 0, none⟩ ∧ wr.cell? ⟨g, k, none⟩ = some (.int .i64 f.1) := by
        rcases hSr.2 with ⟨_, h0⟩ | ⟨g, cap, cur, hv, _, _⟩
        · omega
        · injection hv with h1 _ h3
          subst h1 h3
          refine ⟨g, rfl, ?_⟩
          rw [hSr.cellAt k (by omega), List.getElem?_map, hx]; rfl
      have hl1 : (d.l.take k).length = k := by simp; omega
      have hta : d.l.take (k + 1) = d.l.take k ++ [f] := by rw [List.take_add_one, hx]; rfl
      have hO' : (wr.alloc (.cells #[.int .i64 f.1, .int .u64 (f.2 : Int)] 60)).ownsRow w1.heap.size 60 2 o (d.l.take k).length (fc (d.l.take k)) := by rw [hl1]; exact hO.alloc _
      have hbs := hb.size
      have AP := Lib.hid (fun ty => run_append_fs _ w1.heap.size ty o (d.l.take k) hO' _ 1 1 [f] (fs_new wr f hin) (by omega) (by simp; omega))
      have HB2 := Lib.hid (hb.alloc (by omega) (.cells #[.int .i64 f.1, .int .u64 (f.2 : Int)] 60))
      have HO2 := Lib.hid hO'
      have HT := Lib.hid hta
      clear hP hlk hin hSr hx hO hO' hta hb
      go_wp2_with (first
        | (at_builtin; refine wpList_append_ran _ rfl _ _ 43 43 rfl o (.slice (some ⟨wr.heap.size, 0, none⟩) 1 1) rfl rfl _ (AP.out _) ?_; rintro v2 w2 ⟨O2, g2⟩))
      have b2 := below_own HB2.out HO2.out g2 (by simp; omega) (Nat.le_refl _)
      rw [← HT.out] at O2
      have hl2 : (d.l.take (k + 1)).length = k + 1 := by simp; omega
      rw [hl2] at O2
      go_roundw
      case rel => exact ⟨k + 1, _, rfl, by omega, by go_num, O2, b2⟩
      case measure => simp [intOf]; omega
    · have z1 : ¬ ((k : Int) < (n : Int)) := by omega
      have hkn : k = n := by omega
      subst hkn
      rw [← hn, List.take_length, hn] at hO
      have HO := Lib.hid (And.intro hO hb)
      clear hO hb
      go_wp2
      go_ret
      obtain ⟨hO, hb⟩ := HO.out
      exact ⟨_, rfl, own_low hO HB.out.size, onto HB.out hb⟩

end Go.Proofs.Ytmcldkcmialfeaa.Pq
