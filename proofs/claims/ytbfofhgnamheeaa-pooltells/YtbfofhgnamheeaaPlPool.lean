/-
  A pool, plainly: capacity, high mark, freed pages by rising numbers; what is told, freed, trimmed. No Go here.
-/
import Derived.Test.YtbfofhgnamheeaaPlMath
namespace Go.Proofs.Ytbfofhgnamheeaa.Pl
open Nm
set_option linter.unusedVariables false

structure Pd where
  cap : Int
  high : Int
  l : List F
/-- As said: at most one of each page, each 2 at least and below the high mark; versions of 64 bits. -/
structure Ok (p : Pd) : Prop where
  cap : p.cap ≤ 2048
  two : 2 ≤ p.high
  high : p.high ≤ p.cap
  rises : Rises p.l
  ins : ∀ f ∈ p.l, 2 ≤ f.1 ∧ f.1 < p.high
  gens : ∀ f ∈ p.l, f.2 < 18446744073709551616
def freeCode (p : Pd) (no : Int) : Int := if no < 2 ∨ p.high ≤ no then 1 else if (look p.l no).isSome then 8 else 0
def free (p : Pd) (no : Int) (g : Nat) : Pd := if freeCode p no = 0 then { p with l := ins p.l no g } else p
/-- The first that may be used. -/
def first (l : List F) (h : Nat) : Option Nat := l.findIdx? fun f => decide (f.2 ≤ h)
def alloc (p : Pd) (h : Nat) : Pd := match first p.l h with
  | some i => { p with l := cut p.l i }
  | none => if p.cap ≤ p.high then p else { p with high := p.high + 1 }
def allocNo (p : Pd) (h : Nat) : Int := match first p.l h with
  | some i => (p.l[i]?.map (·.1)).getD 0
  | none => if p.cap ≤ p.high then 0 else p.high
def allocCode (p : Pd) (h : Nat) : Int := match first p.l h with
  | some _ => 0
  | none => if p.cap ≤ p.high then 2 else 0
/-- May the last page go? -/
def goes (p : Pd) (h : Nat) : Prop := 2 < p.high ∧ ∃ g, look p.l (p.high - 1) = some g ∧ g ≤ h
instance (p : Pd) (h : Nat) : Decidable (goes p h) :=
  decidable_of_iff (2 < p.high ∧ (match look p.l (p.high - 1) with | some g => decide (g ≤ h) | none => false) = true) (by
    unfold goes
    cases look p.l (p.high - 1) <;> simp)
def off (p : Pd) : Pd := { p with high := p.high - 1, l := cut p.l (p.l.length - 1) }
/-- Trimmed, k times at most: the pool, and how many went. -/
def trimTo (h : Nat) : Nat → Pd → Pd × Nat
  | 0, p => (p, 0)
  | k + 1, p => if goes p h then ((trimTo h k (off p)).1, (trimTo h k (off p)).2 + 1) else (p, 0)
def trim (p : Pd) (h : Nat) : Pd × Nat := trimTo h p.high.toNat p

theorem look_free {p : Pd} {no : Int} : (look p.l no).isSome = true ↔ ∃ f ∈ p.l, f.1 = no := by
  rw [Option.isSome_iff_ne_none, ne_eq, look_none]
  exact Classical.not_not
theorem free_ok {p : Pd} (h : Ok p) (no : Int) (g : Nat) (hg : g < 18446744073709551616) : Ok (free p no g) := by
  unfold free
  split
  · rename_i hc
    unfold freeCode at hc
    split at hc
    · omega
    · rename_i hr
      split at hc
      · omega
      · rename_i hl
        have hn : ¬ ∃ f ∈ p.l, f.1 = no := fun e => hl (look_free.2 e)
        refine ⟨h.cap, h.two, h.high, ins_rises h.rises hn, fun f hf => ?_, fun f hf => ?_⟩
        · rcases ins_mem.1 hf with rfl | hf
          · exact ⟨by show 2 ≤ no; omega, by show no < p.high; omega⟩
          · exact h.ins f hf
        · rcases ins_mem.1 hf with rfl | hf
          · exact hg
          · exact h.gens f hf
  · exact h
/-- What the first is. -/
theorem first_some {l : List F} {h i : Nat} (hf : first l h = some i) : ∃ f, l[i]? = some f ∧ f.2 ≤ h ∧ ∀ j x, j < i → l[j]? = some x → h < x.2 := by
  unfold first at hf
  rw [List.findIdx?_eq_some_iff_getElem] at hf
  obtain ⟨hi, h1, h2⟩ := hf
  refine ⟨l[i], List.getElem?_eq_getElem hi, by simpa using h1, fun j x hj hx => ?_⟩
  obtain ⟨hjl, rfl⟩ := List.getElem?_eq_some_iff.1 hx
  have := h2 j hj
  simpa using this
theorem first_none {l : List F} {h : Nat} (hf : first l h = none) : ∀ f ∈ l, h < f.2 := by
  unfold first at hf
  rw [List.findIdx?_eq_none_iff] at hf
  intro f hm
  have := hf f hm
  simpa using this
/-- The first that may be used is the least page that may be. -/
theorem first_least {l : List F} (hr : Rises l) {h i : Nat} {f : F} (hf : first l h = some i) (hx : l[i]? = some f) : look l f.1 = some f.2 ∧ f.2 ≤ h ∧ ∀ k g, look l k = some g → g ≤ h → f.1 ≤ k := by
  obtain ⟨f', hf', hle, hmin⟩ := first_some hf
  rw [hx] at hf'
  injection hf' with hf'
  subst hf'
  refine ⟨(look_iff hr).2 (List.mem_of_getElem? hx), hle, fun k g hk hg => ?_⟩
  have hm := look_mem hk
  obtain ⟨j, hj, e⟩ := List.mem_iff_getElem.1 hm
  have hji : ¬ j < i := fun hlt => by
    have := hmin j _ hlt (List.getElem?_eq_getElem hj)
    rw [e] at this
    simp at this
    omega
  rcases Nat.lt_or_eq_of_le (Nat.not_lt.1 hji) with hlt | heq
  · obtain ⟨hil, e2⟩ := List.getElem?_eq_some_iff.1 hx
    have := List.pairwise_iff_getElem.1 hr i j hil hj hlt
    rw [e, e2] at this
    simp at this
    omega
  · subst heq
    obtain ⟨hil, e2⟩ := List.getElem?_eq_some_iff.1 hx
    rw [e2] at e
    rw [e]
    simp
theorem alloc_ok {p : Pd} (h : Ok p) (hz : Nat) : Ok (alloc p hz) := by
  unfold alloc
  split
  · rename_i i hi
    obtain ⟨f, hf, _, _⟩ := first_some hi
    exact ⟨h.cap, h.two, h.high, cut_rises h.rises i, fun g hg => h.ins g ((cut_mem h.rises hf).1 hg).1, fun g hg => h.gens g ((cut_mem h.rises hf).1 hg).1⟩
  · split
    · exact h
    · rename_i hc
      exact ⟨h.cap, by show 2 ≤ p.high + 1; have := h.two; omega, by show p.high + 1 ≤ p.cap; omega, h.rises, fun f hf => ⟨(h.ins f hf).1, by have := (h.ins f hf).2; show f.1 < p.high + 1; omega⟩, h.gens⟩
/-- The last freed page is the greatest. -/
theorem last_top {l : List F} (hr : Rises l) {x : F} (hx : l[l.length - 1]? = some x) : ∀ f ∈ l, f.1 ≤ x.1 := by
  intro f hf
  obtain ⟨j, hj, e⟩ := List.mem_iff_getElem.1 hf
  obtain ⟨hil, e2⟩ := List.getElem?_eq_some_iff.1 hx
  rcases Nat.lt_or_eq_of_le (show j ≤ l.length - 1 by omega) with h | h
  · have := List.pairwise_iff_getElem.1 hr j (l.length - 1) hj hil h
    rw [e, e2] at this
    exact Int.le_of_lt this
  · subst h
    rw [e2] at e
    rw [e]
    exact Int.le_refl _
/-- The last page is freed just if the last freed page is it. -/
theorem goes_iff {p : Pd} (h : Ok p) (hz : Nat) : goes p hz ↔ 2 < p.high ∧ ∃ x, p.l[p.l.length - 1]? = some x ∧ x.1 = p.high - 1 ∧ x.2 ≤ hz := by
  unfold goes
  constructor
  · rintro ⟨h1, g, hg, hle⟩
    have hm := look_mem hg
    refine ⟨h1, ?_⟩
    have hl : p.l.length - 1 < p.l.length := by have := List.length_pos_of_mem hm; omega
    have hx := List.getElem?_eq_getElem hl
    have ht := last_top h.rises hx _ hm
    have hi := (h.ins _ (List.mem_of_getElem? hx)).2
    have e := rises_inj h.rises hm (List.mem_of_getElem? hx) (by show p.high - 1 = _; simp only at ht; omega)
    exact ⟨_, hx, by rw [← e], by rw [← e]; exact hle⟩
  · rintro ⟨h1, x, hx, e, hle⟩
    exact ⟨h1, x.2, (look_iff h.rises).2 (by rw [← e]; exact List.mem_of_getElem? hx), hle⟩
theorem off_ok {p : Pd} (h : Ok p) {hz : Nat} (hg : goes p hz) : Ok (off p) := by
  obtain ⟨h2, x, hx, e, _⟩ := (goes_iff h hz).1 hg
  refine ⟨h.cap, by show 2 ≤ p.high - 1; omega, by show p.high - 1 ≤ p.cap; have := h.high; omega, cut_rises h.rises _, fun f hf => ?_, fun f hf => h.gens f ((cut_mem h.rises hx).1 hf).1⟩
  obtain ⟨hm, hne⟩ := (cut_mem h.rises hx).1 hf
  have h1 := h.ins f hm
  exact ⟨h1.1, by show f.1 < p.high - 1; omega⟩
theorem look_off {p : Pd} (h : Ok p) {hz : Nat} (hg : goes p hz) (k : Int) : look (off p).l k = if k = p.high - 1 then none else look p.l k := by
  obtain ⟨h2, x, hx, e, _⟩ := (goes_iff h hz).1 hg
  show look (cut p.l (p.l.length - 1)) k = _
  rw [look_cut h.rises hx, e]
theorem trimTo_ok {hz : Nat} : ∀ (k : Nat) {p : Pd}, Ok p → Ok (trimTo hz k p).1
  | 0, p, h => h
  | k + 1, p, h => by
    unfold trimTo
    split
    · rename_i hg
      exact trimTo_ok k (off_ok h hg)
    · exact h
theorem trim_ok {p : Pd} (h : Ok p) (hz : Nat) : Ok (trim p hz).1 := trimTo_ok _ h
/-- Enough is enough. -/
theorem trimTo_more {hz : Nat} : ∀ (k j : Nat) {p : Pd}, p.high.toNat ≤ k → p.high.toNat ≤ j → trimTo hz k p = trimTo hz j p
  | 0, 0, p, _, _ => rfl
  | 0, j + 1, p, h1, _ => by
    unfold trimTo
    rw [if_neg]
    rintro ⟨h, _⟩
    omega
  | k + 1, 0, p, _, h2 => by
    unfold trimTo
    rw [if_neg]
    rintro ⟨h, _⟩
    omega
  | k + 1, j + 1, p, h1, h2 => by
    unfold trimTo
    split
    · rename_i hg
      have hh : (off p).high.toNat ≤ k ∧ (off p).high.toNat ≤ j := by
        have := hg.1
        show (p.high - 1).toNat ≤ k ∧ (p.high - 1).toNat ≤ j
        omega
      rw [trimTo_more k j hh.1 hh.2]
    · rfl
theorem trim_goes {p : Pd} {hz : Nat} (hg : goes p hz) : trim p hz = ((trim (off p) hz).1, (trim (off p) hz).2 + 1) := by
  have h := hg.1
  unfold trim
  obtain ⟨k, hk⟩ : ∃ k, p.high.toNat = k + 1 := ⟨p.high.toNat - 1, by omega⟩
  rw [hk]
  have e : trimTo hz k (off p) = trimTo hz (off p).high.toNat (off p) := trimTo_more k _ (by show (p.high - 1).toNat ≤ k; omega) (Nat.le_refl _)
  rw [trimTo, if_pos hg, e]
theorem trim_stays {p : Pd} {hz : Nat} (hg : ¬ goes p hz) : trim p hz = (p, 0) := by
  unfold trim
  cases p.high.toNat with
  | zero => rfl
  | succ k => rw [trimTo, if_neg hg]

end Go.Proofs.Ytbfofhgnamheeaa.Pl
