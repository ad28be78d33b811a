/-
  Which leaf may be, cell by cell, and key by key. No Go here.
-/
import Derived.Test.YtachclcpldnofaaNdMath
namespace Go.Proofs.Ytachclcpldnofaa.Nd
open Nm
set_option linter.unusedVariables false

theorem lens_one (c : Cell) : lens [c] = c.len := by simp [lens]
theorem leafMay_one (c : Cell) : LeafMay [c] ↔ 3 + c.len ≤ 1016 ∧ c.Ok ∧ KeyOk c.key := by
  unfold LeafMay leafLen Keys
  rw [lens_one]
  simp [Rises]
theorem len_le {cs : List Cell} {c : Cell} (h : c ∈ cs) : c.len ≤ lens cs := by
  induction cs with
  | nil => cases h
  | cons d r ih =>
    rw [lens_cons]
    rcases List.mem_cons.1 h with rfl | h
    · omega
    · have := ih h; omega
/-- A leaf may be just if each cell may, their keys rise, and it isn't too long. -/
theorem leafMay_iff (cs : List Cell) : LeafMay cs ↔ leafLen cs ≤ 1016 ∧ (∀ c ∈ cs, LeafMay [c]) ∧ Rises (cs.map Cell.key) := by
  constructor
  · rintro ⟨h1, h2, h3, h4⟩
    refine ⟨h1, fun c hc => (leafMay_one c).2 ⟨?_, h2 c hc, h3 _ (List.mem_map_of_mem hc)⟩, h4⟩
    have := len_le hc
    unfold leafLen at h1
    omega
  · rintro ⟨h1, h2, h3⟩
    refine ⟨h1, fun c hc => ((leafMay_one c).1 (h2 c hc)).2.1, fun k hk => ?_, h3⟩
    obtain ⟨c, hc, rfl⟩ := List.mem_map.1 hk
    exact ((leafMay_one c).1 (h2 c hc)).2.2
theorem rises_take_one {l : List (List Nat)} {b : List Nat} (h : l[0]? = some b) : Rises (l.take 1) := by
  match l, h with
  | x :: r, _ => simp [Rises]
/-- One key more. -/
theorem rises_take_succ {l : List (List Nat)} {k : Nat} {a b : List Nat} (ha : l[k]? = some a) (hb : l[k + 1]? = some b) : Rises (l.take (k + 2)) ↔ Rises (l.take (k + 1)) ∧ lexLess a b = true := by
  have e1 : l.take (k + 1) = l.take k ++ [a] := by rw [List.take_add_one, ha]; rfl
  have e2 : l.take (k + 2) = l.take k ++ [a] ++ [b] := by rw [List.take_add_one, hb, e1]; rfl
  rw [e2, e1, rises_snoc]
theorem keys_take_zero (l : List (List Nat)) : Keys (l.take 0) := ⟨by simp, by simp [Rises]⟩
theorem keys_take_one {l : List (List Nat)} {b : List Nat} (h : l[0]? = some b) : Keys (l.take 1) ↔ KeyOk b := by
  match l, h with
  | x :: r, h =>
    simp at h
    subst h
    simp [Keys, Rises]
theorem keys_take_succ {l : List (List Nat)} {k : Nat} {a b : List Nat} (ha : l[k]? = some a) (hb : l[k + 1]? = some b) : Keys (l.take (k + 2)) ↔ Keys (l.take (k + 1)) ∧ KeyOk b ∧ lexLess a b = true := by
  unfold Keys
  rw [rises_take_succ ha hb]
  have e : l.take (k + 2) = l.take (k + 1) ++ [b] := by rw [List.take_add_one (i := k + 1), hb]; rfl
  rw [e]
  constructor
  · rintro ⟨h1, h2, h3⟩
    exact ⟨⟨fun x hx => h1 x (by simp [hx]), h2⟩, h1 b (by simp), h3⟩
  · rintro ⟨⟨h1, h2⟩, h3, h4⟩
    refine ⟨fun x hx => ?_, h2, h4⟩
    rcases List.mem_append.1 hx with h | h
    · exact h1 x h
    · simp at h; subst h; exact h3
/-- What doesn't rise at the beginning doesn't. -/
theorem rises_take : ∀ {l : List (List Nat)} (k : Nat), Rises l → Rises (l.take k)
  | [], k, _ => by simp [Rises]
  | [x], 0, _ => by simp [Rises]
  | [x], k + 1, _ => by simp [Rises]
  | x :: y :: r, 0, _ => by simp [Rises]
  | x :: y :: r, 1, _ => by simp [Rises]
  | x :: y :: r, k + 2, h => by
    have ih := rises_take (l := y :: r) (k + 1) h.2
    simp only [List.take_succ_cons] at ih ⊢
    exact ⟨h.1, ih⟩
theorem keys_take {l : List (List Nat)} (k : Nat) (h : Keys l) : Keys (l.take k) := ⟨fun x hx => h.1 x (List.mem_of_mem_take hx), rises_take k h.2⟩
end Go.Proofs.Ytachclcpldnofaa.Nd
