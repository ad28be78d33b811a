/-
  Freed pages, plainly: a list by rising pages; what a piece's page says. No Go here.
-/
import Derived.Test.YtbfofhgnamheeaaMtSay
namespace Go.Proofs.Ytbfofhgnamheeaa.Pl
open Nm
set_option linter.unusedVariables false

/-- A freed page: its number, and the version in which it was freed. -/
abbrev F := Int × Nat
/-- The pages rise. -/
def Rises (l : List F) : Prop := l.Pairwise fun a b => a.1 < b.1
/-- How many stand ahead of no. -/
def pos (l : List F) (no : Int) : Nat := (l.takeWhile fun f => decide (f.1 < no)).length
def look (l : List F) (no : Int) : Option Nat := (l.find? fun f => f.1 == no).map (·.2)
def ins (l : List F) (no : Int) (g : Nat) : List F := l.take (pos l no) ++ (no, g) :: l.drop (pos l no)
def cut (l : List F) (i : Nat) : List F := l.take i ++ l.drop (i + 1)

theorem pos_le (l : List F) (no : Int) : pos l no ≤ l.length := by
  unfold pos
  have h := congrArg List.length (List.takeWhile_append_dropWhile (p := fun f : F => decide (f.1 < no)) (l := l))
  rw [List.length_append] at h
  omega
theorem take_pos (l : List F) (no : Int) : l.take (pos l no) = l.takeWhile fun f => decide (f.1 < no) := by
  unfold pos
  conv => lhs; rw [← List.takeWhile_append_dropWhile (p := fun f : F => decide (f.1 < no)) (l := l)]
  rw [List.takeWhile_append_dropWhile]
  have : l.take (l.takeWhile fun f => decide (f.1 < no)).length = ((l.takeWhile fun f => decide (f.1 < no)) ++ (l.dropWhile fun f => decide (f.1 < no))).take (l.takeWhile fun f => decide (f.1 < no)).length := by rw [List.takeWhile_append_dropWhile]
  rw [this, List.take_left]
theorem drop_pos (l : List F) (no : Int) : l.drop (pos l no) = l.dropWhile fun f => decide (f.1 < no) := by
  unfold pos
  have : l.drop (l.takeWhile fun f => decide (f.1 < no)).length = ((l.takeWhile fun f => decide (f.1 < no)) ++ (l.dropWhile fun f => decide (f.1 < no))).drop (l.takeWhile fun f => decide (f.1 < no)).length := by rw [List.takeWhile_append_dropWhile]
  rw [this, List.drop_left]
theorem mem_takeWhile {α : Type} {p : α → Bool} : ∀ {l : List α} {x : α}, x ∈ l.takeWhile p → p x = true
  | [], _, h => by simp at h
  | a :: r, x, h => by
    rw [List.takeWhile_cons] at h
    split at h
    · rename_i hp
      rcases List.mem_cons.1 h with rfl | h
      · exact hp
      · exact mem_takeWhile h
    · simp at h
theorem ahead_lt {l : List F} {no : Int} {f : F} (h : f ∈ l.take (pos l no)) : f.1 < no := by
  rw [take_pos] at h
  simpa using mem_takeWhile h
/-- What stands at the place of no, and behind, isn't less. -/
theorem behind_le {l : List F} (hr : Rises l) {no : Int} {f : F} (h : f ∈ l.drop (pos l no)) : no ≤ f.1 := by
  rw [drop_pos] at h
  induction l with
  | nil => simp at h
  | cons a r ih =>
    rw [List.dropWhile_cons] at h
    have hr' := List.pairwise_cons.1 hr
    split at h
    · exact ih hr'.2 h
    · rename_i hn
      have : ¬ a.1 < no := by simpa using hn
      rcases List.mem_cons.1 h with rfl | h
      · omega
      · have := hr'.1 f h; omega
/-- Whether no is freed is told by what stands at its place. -/
theorem at_pos {l : List F} (hr : Rises l) (no : Int) : (∃ f, l[pos l no]? = some f ∧ f.1 = no) ↔ ∃ f ∈ l, f.1 = no := by
  constructor
  · rintro ⟨f, hf, e⟩; exact ⟨f, List.mem_of_getElem? hf, e⟩
  · rintro ⟨f, hf, e⟩
    have hl : l = l.take (pos l no) ++ l.drop (pos l no) := (List.take_append_drop _ _).symm
    rw [hl] at hf
    rcases List.mem_append.1 hf with h | h
    · have := ahead_lt h; omega
    · cases hd : l.drop (pos l no) with
      | nil => rw [hd] at h; simp at h
      | cons a r =>
        have ha : l[pos l no]? = some a := by
          have : (l.drop (pos l no))[0]? = some a := by rw [hd]; rfl
          rwa [List.getElem?_drop, Nat.add_zero] at this
        refine ⟨a, ha, ?_⟩
        have h1 := behind_le hr (no := no) (f := a) (by rw [hd]; simp)
        rw [hd] at h
        rcases List.mem_cons.1 h with h | h
        · rw [← h, e]
        · have hp : (a :: r).Pairwise fun a b : F => a.1 < b.1 := by
            rw [← hd]; exact hr.sublist (List.drop_sublist _ _)
          have := (List.pairwise_cons.1 hp).1 f h
          omega
theorem look_none {l : List F} {no : Int} : look l no = none ↔ ¬ ∃ f ∈ l, f.1 = no := by
  unfold look
  rw [Option.map_eq_none_iff, List.find?_eq_none]
  constructor
  · rintro h ⟨f, hf, e⟩; exact absurd (by simpa using e) (h f hf)
  · intro h f hf e
    exact h ⟨f, hf, by simpa using e⟩
theorem look_mem {l : List F} {no : Int} {g : Nat} (h : look l no = some g) : (no, g) ∈ l := by
  unfold look at h
  rw [Option.map_eq_some_iff] at h
  obtain ⟨f, hf, e⟩ := h
  have h1 := List.mem_of_find?_eq_some hf
  have h2 := List.find?_some hf
  obtain ⟨a, b⟩ := f
  simp at h2 e
  subst h2 e
  exact h1
theorem rises_inj {l : List F} (hr : Rises l) {f g : F} (hf : f ∈ l) (hg : g ∈ l) (h : f.1 = g.1) : f = g := by
  induction l with
  | nil => simp at hf
  | cons a r ih =>
    have hr' := List.pairwise_cons.1 hr
    rcases List.mem_cons.1 hf with rfl | hf'
    · rcases List.mem_cons.1 hg with rfl | hg'
      · rfl
      · have := hr'.1 g hg'; omega
    · rcases List.mem_cons.1 hg with rfl | hg'
      · have := hr'.1 f hf'; omega
      · exact ih hr'.2 hf' hg'
theorem look_iff {l : List F} (hr : Rises l) {no : Int} {g : Nat} : look l no = some g ↔ (no, g) ∈ l := by
  refine ⟨look_mem, fun h => ?_⟩
  cases hl : look l no with
  | none => exact absurd ⟨_, h, rfl⟩ (look_none.1 hl)
  | some g' =>
    have := rises_inj hr h (look_mem hl) rfl
    simp at this
    rw [this]
theorem ins_mem {l : List F} {no : Int} {g : Nat} {f : F} : f ∈ ins l no g ↔ f = (no, g) ∨ f ∈ l := by
  unfold ins
  rw [List.mem_append, List.mem_cons]
  conv => rhs; rw [← List.take_append_drop (pos l no) l]
  rw [List.mem_append]
  constructor
  · rintro (h | h | h)
    · exact .inr (.inl h)
    · exact .inl h
    · exact .inr (.inr h)
  · rintro (h | h | h)
    · exact .inr (.inl h)
    · exact .inl h
    · exact .inr (.inr h)
theorem ins_rises {l : List F} (hr : Rises l) {no : Int} {g : Nat} (hn : ¬ ∃ f ∈ l, f.1 = no) : Rises (ins l no g) := by
  unfold ins Rises
  have ht : Rises (l.take (pos l no)) := hr.sublist (List.take_sublist _ _)
  have hd : Rises (l.drop (pos l no)) := hr.sublist (List.drop_sublist _ _)
  refine List.pairwise_append.2 ⟨ht, List.pairwise_cons.2 ⟨fun f hf => ?_, hd⟩, fun a ha b hb => ?_⟩
  · have h1 := behind_le hr hf
    have h2 : f.1 ≠ no := fun e => hn ⟨f, List.mem_of_mem_drop hf, e⟩
    show no < f.1
    omega
  · have h1 := ahead_lt ha
    rcases List.mem_cons.1 hb with rfl | hb
    · exact h1
    · have := behind_le hr hb; omega
theorem ins_len (l : List F) (no : Int) (g : Nat) : (ins l no g).length = l.length + 1 := by
  unfold ins
  have := pos_le l no
  rw [List.length_append, List.length_cons, List.length_take, List.length_drop]
  omega
theorem look_ins {l : List F} (hr : Rises l) {no : Int} {g : Nat} (hn : ¬ ∃ f ∈ l, f.1 = no) (k : Int) : look (ins l no g) k = if k = no then some g else look l k := by
  have hi := ins_rises hr (g := g) hn
  by_cases hk : k = no
  · rw [if_pos hk, hk]
    exact (look_iff hi).2 (ins_mem.2 (.inl rfl))
  · rw [if_neg hk]
    cases hl : look l k with
    | none =>
      rw [look_none] at hl ⊢
      rintro ⟨f, hf, e⟩
      rcases ins_mem.1 hf with rfl | hf
      · exact hk e.symm
      · exact hl ⟨f, hf, e⟩
    | some g' => exact (look_iff hi).2 (ins_mem.2 (.inr (look_mem hl)))
theorem cut_rises {l : List F} (hr : Rises l) (i : Nat) : Rises (cut l i) := by
  unfold cut
  have h : (l.take i ++ l.drop (i + 1)).Sublist l := by
    conv => rhs; rw [← List.take_append_drop i l]
    refine List.Sublist.append (List.Sublist.refl _) ?_
    rw [← List.drop_drop]
    exact List.drop_sublist _ _
  exact hr.sublist h
theorem cut_len {l : List F} {i : Nat} (h : i < l.length) : (cut l i).length = l.length - 1 := by
  unfold cut
  rw [List.length_append, List.length_take, List.length_drop]
  omega
theorem cut_mem {l : List F} (hr : Rises l) {i : Nat} {x : F} (hx : l[i]? = some x) {f : F} : f ∈ cut l i ↔ f ∈ l ∧ f.1 ≠ x.1 := by
  have hi : i < l.length := (List.getElem?_eq_some_iff.1 hx).1
  have hd : l.drop i = x :: l.drop (i + 1) := by
    rw [List.drop_eq_getElem_cons hi]
    congr 1
    exact (List.getElem?_eq_some_iff.1 hx).2
  have hl : l = l.take i ++ x :: l.drop (i + 1) := by rw [← hd, List.take_append_drop]
  have hp : (l.take i ++ x :: l.drop (i + 1)).Pairwise fun a b : F => a.1 < b.1 := by rw [← hl]; exact hr
  obtain ⟨_, p2, p3⟩ := List.pairwise_append.1 hp
  have p2' := List.pairwise_cons.1 p2
  unfold cut
  rw [List.mem_append]
  constructor
  · rintro (h | h)
    · exact ⟨List.mem_of_mem_take h, by have := p3 f h x (by simp); omega⟩
    · exact ⟨List.mem_of_mem_drop h, by have := p2'.1 f h; omega⟩
  · rintro ⟨h, hne⟩
    rw [hl] at h
    rcases List.mem_append.1 h with h | h
    · exact .inl h
    · rcases List.mem_cons.1 h with rfl | h
      · exact absurd rfl hne
      · exact .inr h
theorem look_cut {l : List F} (hr : Rises l) {i : Nat} {x : F} (hx : l[i]? = some x) (k : Int) : look (cut l i) k = if k = x.1 then none else look l k := by
  have hc := cut_rises hr i
  by_cases hk : k = x.1
  · rw [if_pos hk, look_none]
    rintro ⟨f, hf, e⟩
    exact ((cut_mem hr hx).1 hf).2 (by rw [e, hk])
  · rw [if_neg hk]
    cases hl : look l k with
    | none =>
      rw [look_none] at hl ⊢
      rintro ⟨f, hf, e⟩
      exact hl ⟨f, ((cut_mem hr hx).1 hf).1, e⟩
    | some g => exact (look_iff hc).2 ((cut_mem hr hx).2 ⟨look_mem hl, hk⟩)
/-- Two lists that rise are the same where they are looked up the same. -/
theorem look_ext {l m : List F} (hl : Rises l) (hm : Rises m) (h : ∀ k, look l k = look m k) : l = m := by
  have hmem : ∀ f : F, f ∈ l ↔ f ∈ m := by
    rintro ⟨a, b⟩
    rw [← look_iff hl, ← look_iff hm, h]
  clear h
  induction l generalizing m with
  | nil =>
    cases m with
    | nil => rfl
    | cons b s => exact absurd ((hmem b).2 (by simp)) (by simp)
  | cons a r ih =>
    cases m with
    | nil => exact absurd ((hmem a).1 (by simp)) (by simp)
    | cons b s =>
      have hl' := List.pairwise_cons.1 hl
      have hm' := List.pairwise_cons.1 hm
      have e : a = b := by
        rcases List.mem_cons.1 ((hmem a).1 (by simp)) with h | h
        · exact h
        · rcases List.mem_cons.1 ((hmem b).2 (by simp)) with h' | h'
          · exact h'.symm
          · have h1 := hm'.1 a h
            have h2 := hl'.1 b h'
            omega
      subst e
      congr 1
      refine ih hl'.2 hm'.2 fun f => ⟨fun h => ?_, fun h => ?_⟩
      · rcases List.mem_cons.1 ((hmem f).1 (by simp [h])) with e | h'
        · have := hl'.1 f h; rw [e] at this; omega
        · exact h'
      · rcases List.mem_cons.1 ((hmem f).2 (by simp [h])) with e | h'
        · have := hm'.1 f h; rw [e] at this; omega
        · exact h'

end Go.Proofs.Ytbfofhgnamheeaa.Pl
