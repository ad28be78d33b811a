/-
  A piece of freed pages, as a page says it, plainly. No Go here.
-/
import Derived.Test.YtbfofhgnamheeaaPlMath
namespace Go.Proofs.Ytbfofhgnamheeaa.Pl
open Nm
set_option linter.unusedVariables false

def Page (z : Int) : Prop := 0 ≤ z ∧ z ≤ 2147483647
instance (z : Int) : Decidable (Page z) := inferInstanceAs (Decidable (_ ∧ _))
/-- Can it be said? -/
def May (l : List F) (next : Int) : Prop := l.length ≤ 84 ∧ Page next ∧ ∀ f ∈ l, Page f.1
instance (l : List F) (next : Int) : Decidable (May l next) := inferInstanceAs (Decidable (_ ∧ _))
def one (f : F) : List Nat := be 4 f.1.toNat ++ be 8 f.2
def all (l : List F) : List Nat := l.flatMap one
def pay (l : List F) (next : Int) : List Nat := be 2 l.length ++ (be 4 next.toNat ++ all l)
def payOf (l : List F) (next : Int) : List Nat := if May l next then pay l next else []
def full (l : List F) (next : Int) : List Nat := pay l next ++ List.replicate (1016 - (pay l next).length) 0
theorem one_len (f : F) : (one f).length = 12 := by unfold one; rw [List.length_append, be_len, be_len]
theorem all_len : ∀ l : List F, (all l).length = 12 * l.length
  | [] => rfl
  | f :: r => by
    show (one f ++ all r).length = _
    rw [List.length_append, one_len, all_len r, List.length_cons]
    omega
theorem pay_len (l : List F) (next : Int) : (pay l next).length = 6 + 12 * l.length := by
  unfold pay
  rw [List.length_append, List.length_append, be_len, be_len, all_len]
  omega
theorem one_lt (f : F) : ∀ x ∈ one f, x < 256 := by
  intro x hx
  rcases List.mem_append.1 hx with h | h
  · exact be_lt _ _ x h
  · exact be_lt _ _ x h
theorem all_lt (l : List F) : ∀ x ∈ all l, x < 256 := by
  intro x hx
  obtain ⟨f, _, h⟩ := List.mem_flatMap.1 hx
  exact one_lt f x h
theorem pay_lt (l : List F) (next : Int) : ∀ x ∈ pay l next, x < 256 := by
  intro x hx
  rcases List.mem_append.1 hx with h | h
  · exact be_lt _ _ x h
  · rcases List.mem_append.1 h with h | h
    · exact be_lt _ _ x h
    · exact all_lt l x h
theorem full_len {l : List F} {next : Int} (h : l.length ≤ 84) : (full l next).length = 1016 := by
  unfold full
  rw [List.length_append, List.length_replicate, pay_len]
  omega
theorem full_lt (l : List F) (next : Int) : ∀ x ∈ full l next, x < 256 := by
  intro x hx
  rcases List.mem_append.1 hx with h | h
  · exact pay_lt l next x h
  · have := List.eq_of_mem_replicate h; omega
theorem all_drop : ∀ (l : List F) (i : Nat), (all l).drop (12 * i) = all (l.drop i)
  | l, 0 => by simp
  | [], i + 1 => by simp [all]
  | f :: r, i + 1 => by
    show (one f ++ all r).drop (12 * (i + 1)) = all (r.drop i)
    rw [show 12 * (i + 1) = 12 + 12 * i by omega, Mt.drop_app (one_len f), all_drop r i]
theorem all_at {l : List F} {i : Nat} {f : F} (h : l[i]? = some f) : (all l).drop (12 * i) = one f ++ all (l.drop (i + 1)) := by
  rw [all_drop]
  obtain ⟨hi, e⟩ := List.getElem?_eq_some_iff.1 h
  rw [List.drop_eq_getElem_cons hi, e]
  rfl
theorem all_snoc (l : List F) (f : F) : all (l ++ [f]) = all l ++ one f := by simp [all]

/-! What bytes say. -/
def count (b : List Nat) : Nat := fromBe (b.take 2)
def nextOf (b : List Nat) : Int := (fromBe ((b.drop 2).take 4) : Int)
def itemOf (b : List Nat) (i : Nat) : F := ((fromBe ((b.drop (6 + 12 * i)).take 4) : Int), fromBe ((b.drop (10 + 12 * i)).take 8))
def itemsTo (b : List Nat) (n : Nat) : List F := (List.range n).map (itemOf b)
def items (b : List Nat) : List F := itemsTo b (count b)
def Says (b : List Nat) : Prop := b.length = 1016 ∧ count b ≤ 84 ∧ May (items b) (nextOf b) ∧ full (items b) (nextOf b) = b
instance (b : List Nat) : Decidable (Says b) := inferInstanceAs (Decidable (_ ∧ _))
theorem itemsTo_len (b : List Nat) (n : Nat) : (itemsTo b n).length = n := by simp [itemsTo]
theorem itemsTo_snoc (b : List Nat) (n : Nat) : itemsTo b (n + 1) = itemsTo b n ++ [itemOf b n] := by simp [itemsTo, List.range_succ]
/-- All versions of 64 bits. -/
def Gens (l : List F) : Prop := ∀ f ∈ l, f.2 < 18446744073709551616
theorem of_full {l : List F} {next : Int} (h : May l next) (hg : Gens l) : count (full l next) = l.length ∧ nextOf (full l next) = next ∧ items (full l next) = l := by
  obtain ⟨hl, hn, hp⟩ := h
  have e : full l next = be 2 l.length ++ (be 4 next.toNat ++ (all l ++ List.replicate (1016 - (pay l next).length) 0)) := by
    unfold full
    generalize List.replicate (1016 - (pay l next).length) 0 = Z
    unfold pay
    simp only [List.append_assoc]
  generalize List.replicate (1016 - (pay l next).length) 0 = Z at e
  have hc : count (full l next) = l.length := by
    unfold count
    rw [e, Mt.take_app (be_len 2 _), fromBe_be 2 _ (by omega)]
  have d2 : (full l next).drop 2 = be 4 next.toNat ++ (all l ++ Z) := by rw [e, show (2 : Nat) = 2 + 0 from rfl, Mt.drop_app (be_len 2 _), List.drop_zero]
  have hx : nextOf (full l next) = next := by
    unfold nextOf
    rw [d2, Mt.take_app (be_len 4 _), fromBe_be 4 _ (by have := hn.2; omega)]
    have := hn.1
    omega
  have d6 : ∀ k, (full l next).drop (6 + k) = (all l ++ Z).drop k := by
    intro k
    rw [show 6 + k = 2 + (4 + k) by omega, ← List.drop_drop, d2, Mt.drop_app (be_len 4 _)]
  refine ⟨hc, hx, ?_⟩
  unfold items
  rw [hc]
  apply List.ext_getElem?
  intro i
  unfold itemsTo
  rw [List.getElem?_map]
  by_cases hi : i < l.length
  · rw [List.getElem?_range hi]
    obtain ⟨f, hf⟩ : ∃ f, l[i]? = some f := ⟨_, List.getElem?_eq_getElem hi⟩
    rw [hf]
    have hm := List.mem_of_getElem? hf
    have dk : (all l ++ Z).drop (12 * i) = one f ++ (all (l.drop (i + 1)) ++ Z) := by
      rw [List.drop_append_of_le_length (by rw [all_len]; omega), all_at hf, List.append_assoc]
    show some (itemOf (full l next) i) = some f
    unfold itemOf
    have e4 : (full l next).drop (10 + 12 * i) = be 8 f.2 ++ (all (l.drop (i + 1)) ++ Z) := by
      rw [show 10 + 12 * i = 6 + 12 * i + 4 by omega, ← List.drop_drop, d6, dk]
      unfold one
      rw [List.append_assoc, show (4 : Nat) = 4 + 0 from rfl, Mt.drop_app (be_len 4 _), List.drop_zero]
    rw [d6, dk, e4, Mt.take_app (be_len 8 _), fromBe_be 8 _ (by have := hg f hm; omega)]
    have e5 : (one f ++ (all (l.drop (i + 1)) ++ Z)).take 4 = be 4 f.1.toNat := by
      unfold one
      rw [List.append_assoc, Mt.take_app (be_len 4 _)]
    have hpg := hp f hm
    rw [e5, fromBe_be 4 _ (by have := hpg.2; omega)]
    obtain ⟨a, g⟩ := f
    have := hpg.1
    simp only at this ⊢
    congr 2
    omega
  · rw [List.getElem?_eq_none (by simpa using hi), List.getElem?_eq_none (by omega)]
    rfl
theorem says_full {l : List F} {next : Int} (h : May l next) (hg : Gens l) : Says (full l next) := by
  obtain ⟨h1, h2, h3⟩ := of_full h hg
  exact ⟨full_len h.1, by rw [h1]; exact h.1, by rw [h2, h3]; exact h, by rw [h2, h3]⟩
theorem items_gens (b : List Nat) (hb : ∀ x ∈ b, x < 256) (n : Nat) : Gens (itemsTo b n) := by
  intro f hf
  unfold itemsTo at hf
  obtain ⟨i, _, rfl⟩ := List.mem_map.1 hf
  show fromBe _ < _
  have h1 := fromBe_lt ((b.drop (10 + 12 * i)).take 8) fun x hx => hb x (List.mem_of_mem_drop (List.mem_of_mem_take hx))
  have h2 : ((b.drop (10 + 12 * i)).take 8).length ≤ 8 := by rw [List.length_take]; omega
  exact Nat.lt_of_lt_of_le h1 (Nat.le_trans (Nat.pow_le_pow_right (by omega) h2) (by decide))
/-- The bytes of the first n items, one behind the other. -/
theorem all_items (b : List Nat) (hb : ∀ x ∈ b, x < 256) (hl : b.length = 1016) : ∀ n, n ≤ 84 → all (itemsTo b n) = (b.drop 6).take (12 * n)
  | 0, _ => by simp [itemsTo, all]
  | n + 1, h => by
    rw [itemsTo_snoc, all_snoc, all_items b hb hl n (by omega)]
    have e : ∀ a k, a + k ≤ 1016 → be k (fromBe ((b.drop a).take k)) = (b.drop a).take k := fun a k h => Mt.be_of (by rw [List.length_take, List.length_drop]; omega) fun x hx => hb x (List.mem_of_mem_drop (List.mem_of_mem_take hx))
    have e1 : one (itemOf b n) = (b.drop (6 + 12 * n)).take 12 := by
      unfold one itemOf
      simp only [Int.toNat_natCast]
      have e3 : (b.drop (6 + 12 * n)).take 12 = (b.drop (6 + 12 * n)).take (4 + 8) := rfl
      rw [e (6 + 12 * n) 4 (by omega), e (10 + 12 * n) 8 (by omega), e3, List.take_add, List.drop_drop, show 6 + 12 * n + 4 = 10 + 12 * n by omega]
    rw [e1, show 12 * (n + 1) = 12 * n + 12 by omega, List.take_add, List.drop_drop]
/-- When bytes say a piece, part by part. -/
theorem says_iff {b : List Nat} (hl : b.length = 1016) (hb : ∀ x ∈ b, x < 256) : Says b ↔ (count b ≤ 84 ∧ Page (nextOf b) ∧ ∀ f ∈ items b, Page f.1) ∧ b.drop (6 + 12 * count b) = List.replicate (1016 - (6 + 12 * count b)) 0 := by
  have len : (items b).length = count b := itemsTo_len b _
  have front : count b ≤ 84 → pay (items b) (nextOf b) = b.take (6 + 12 * count b) := by
    intro hc
    unfold pay
    have e : ∀ a k, a + k ≤ 1016 → be k (fromBe ((b.drop a).take k)) = (b.drop a).take k := fun a k h => Mt.be_of (by rw [List.length_take, List.length_drop]; omega) fun x hx => hb x (List.mem_of_mem_drop (List.mem_of_mem_take hx))
    rw [len]
    have e2 := e 0 2 (by omega)
    rw [List.drop_zero] at e2
    have ec : be 2 (count b) = b.take 2 := e2
    have en : be 4 (nextOf b).toNat = (b.drop 2).take 4 := by unfold nextOf; rw [Int.toNat_natCast, e 2 4 (by omega)]
    rw [ec, en]
    unfold items
    rw [all_items b hb hl _ hc, show 6 + 12 * count b = 2 + (4 + 12 * count b) by omega, List.take_add, List.take_add, List.drop_drop]
  constructor
  · rintro ⟨_, h1, h2, h3⟩
    refine ⟨⟨h1, h2.2⟩, ?_⟩
    have : b.drop (6 + 12 * count b) = (full (items b) (nextOf b)).drop (6 + 12 * count b) := by rw [h3]
    rw [this]
    unfold full
    have e : (pay (items b) (nextOf b)).length = 6 + 12 * count b := by rw [pay_len, len]
    have e5 := Mt.drop_app (b := List.replicate (1016 - (pay (items b) (nextOf b)).length) 0) (n := 0) e
    rw [Nat.add_zero, List.drop_zero] at e5
    rw [e5, e]
  · rintro ⟨⟨h1, h2, h3⟩, h4⟩
    refine ⟨hl, h1, ⟨by rw [len]; exact h1, h2, h3⟩, ?_⟩
    unfold full
    have e : (pay (items b) (nextOf b)).length = 6 + 12 * count b := by rw [pay_len, len]
    rw [e, front h1, ← h4, List.take_append_drop]
/-- How many pieces. -/
def pieces (n : Int) : Int := if n < 1 then 1 else (n - 1) / 84 + 1

end Go.Proofs.Ytbfofhgnamheeaa.Pl
