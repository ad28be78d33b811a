/-
  Patterns, plain: what a row of signs stands for; the table's rows; the last star is the only one that need be gone back to.
-/
import Derived.Lib.ValidLaws
namespace Go.Proofs.YtmlonlipieedbaaDoor.Tx
set_option linter.unusedVariables false

/-- A pattern's signs: -1 any runes, -2 any one, else the rune itself. -/
def sg : List Nat → List Int
  | [] => []
  | [a] => [if a = 42 then -1 else if a = 63 then -2 else (a : Int)]
  | a :: b :: t => if a = 92 then (b : Int) :: sg t else (if a = 42 then -1 else if a = 63 then -2 else (a : Int)) :: sg (b :: t)
/-- One sign, for one rune. -/
def one (x : Int) (c : Nat) : Bool := x == -2 || x == (c : Int)
def M : List Int → List Nat → Bool
  | [], t => t.isEmpty
  | x :: p, t => if x = -1 then (List.range (t.length + 1)).any (fun k => M p (t.drop k)) else match t with | [] => false | c :: u => one x c && M p u
theorem M_star (p : List Int) (t : List Nat) : M (-1 :: p) t = true ↔ ∃ k, k ≤ t.length ∧ M p (t.drop k) = true := by
  simp only [M, if_true, List.any_eq_true, List.mem_range]
  exact ⟨fun ⟨k, h, e⟩ => ⟨k, by omega, e⟩, fun ⟨k, h, e⟩ => ⟨k, by omega, e⟩⟩
theorem M_one (x : Int) (p : List Int) (c : Nat) (t : List Nat) (h : x ≠ -1) : M (x :: p) (c :: t) = (one x c && M p t) := by simp [M, h]
theorem M_none (x : Int) (p : List Int) (h : x ≠ -1) : M (x :: p) [] = false := by simp [M, h]
theorem M_end (t : List Nat) : M [] t = true ↔ t = [] := by simp [M]
theorem M_app : ∀ (p q : List Int) (t : List Nat), M (p ++ q) t = true ↔ ∃ k, k ≤ t.length ∧ M p (t.take k) = true ∧ M q (t.drop k) = true
  | [], q, t => by
    constructor
    · intro h; exact ⟨0, Nat.zero_le _, by simp [M], by simpa using h⟩
    · rintro ⟨k, hk, h1, h2⟩
      rw [M_end] at h1
      have : k = 0 := by
        have := congrArg List.length h1
        rw [List.length_take, List.length_nil] at this; omega
      subst this; simpa using h2
  | x :: p, q, t => by
    by_cases hx : x = -1
    · subst hx
      rw [List.cons_append, M_star]
      constructor
      · rintro ⟨k, hk, h⟩
        obtain ⟨j, hj, h1, h2⟩ := (M_app p q _).1 h
        rw [List.length_drop] at hj
        refine ⟨k + j, by omega, (M_star _ _).2 ⟨k, by simp; omega, ?_⟩, by rw [← List.drop_drop]; exact h2⟩
        rw [List.drop_take]
        rwa [Nat.add_sub_cancel_left]
      · rintro ⟨k, hk, h1, h2⟩
        obtain ⟨j, hj, h3⟩ := (M_star _ _).1 h1
        rw [List.length_take] at hj
        refine ⟨j, by omega, (M_app p q _).2 ⟨k - j, by rw [List.length_drop]; omega, ?_, ?_⟩⟩
        · rw [List.drop_take] at h3; exact h3
        · rw [List.drop_drop, show j + (k - j) = k by omega]; exact h2
    · cases t with
      | nil =>
        rw [List.cons_append, M_none _ _ hx]
        constructor
        · intro h; cases h
        · rintro ⟨k, hk, h1, _⟩
          rw [List.take_nil, M_none _ _ hx] at h1; cases h1
      | cons c t =>
        rw [List.cons_append, M_one _ _ _ _ hx, Bool.and_eq_true, M_app p q]
        constructor
        · rintro ⟨ho, k, hk, h1, h2⟩
          exact ⟨k + 1, by simp; omega, by rw [List.take_succ_cons, M_one _ _ _ _ hx, ho, h1]; rfl, by simpa using h2⟩
        · rintro ⟨k, hk, h1, h2⟩
          cases k with
          | zero => rw [List.take_zero, M_none _ _ hx] at h1; cases h1
          | succ k =>
            rw [List.take_succ_cons, M_one _ _ _ _ hx, Bool.and_eq_true] at h1
            exact ⟨h1.1, k, by simp at hk; omega, h1.2, by simpa using h2⟩

/-! ### the table -/
/-- The table's row i: which beginnings of the text the first i signs stand for. -/
def R (p : List Int) (t : List Nat) (i k : Nat) : Bool := M (p.take i) (t.take k)
theorem R_00 (p : List Int) (t : List Nat) : R p t 0 0 = true := by simp [R, M]
theorem R_0 (p : List Int) (t : List Nat) (k : Nat) (h : 0 < k) (hk : k ≤ t.length) : R p t 0 k = false := by
  simp only [R, List.take_zero, M]
  cases t with
  | nil => simp at hk; omega
  | cons c t => obtain ⟨j, rfl⟩ : ∃ j, k = j + 1 := ⟨k - 1, by omega⟩; simp
theorem take_one {p : List Int} {i : Nat} {x : Int} (h : p[i]? = some x) : p.take (i + 1) = p.take i ++ [x] := by rw [List.take_add_one, h]; rfl
theorem M_stars (t : List Nat) : M [-1] t = true := (M_star _ _).2 ⟨t.length, Nat.le_refl _, by simp [M]⟩
theorem R_star_iff (p : List Int) (t : List Nat) (i k : Nat) (h : p[i]? = some (-1)) (hk : k ≤ t.length) : R p t (i + 1) k = true ↔ ∃ j, j ≤ k ∧ R p t i j = true := by
  unfold R
  rw [take_one h, M_app]
  constructor
  · rintro ⟨j, hj, h1, _⟩
    rw [List.length_take] at hj
    rw [List.take_take, Nat.min_eq_left (by omega)] at h1
    exact ⟨j, by omega, h1⟩
  · rintro ⟨j, hj, h1⟩
    exact ⟨j, by rw [List.length_take]; omega, by rw [List.take_take, Nat.min_eq_left hj]; exact h1, M_stars _⟩
theorem R_star (p : List Int) (t : List Nat) (i k : Nat) (h : p[i]? = some (-1)) (hk : k ≤ t.length) : R p t (i + 1) k = (R p t i k || (decide (0 < k) && R p t (i + 1) (k - 1))) := by
  rw [Bool.eq_iff_iff, R_star_iff p t i k h hk, Bool.or_eq_true, Bool.and_eq_true, decide_eq_true_eq]
  constructor
  · rintro ⟨j, hj, e⟩
    rcases Nat.lt_or_ge j k with hl | hg
    · exact .inr ⟨by omega, (R_star_iff p t i (k - 1) h (by omega)).2 ⟨j, by omega, e⟩⟩
    · have : j = k := by omega
      subst this; exact .inl e
  · rintro (e | ⟨h0, e⟩)
    · exact ⟨k, Nat.le_refl _, e⟩
    · obtain ⟨j, hj, e⟩ := (R_star_iff p t i (k - 1) h (by omega)).1 e
      exact ⟨j, by omega, e⟩
theorem R_one_zero (p : List Int) (t : List Nat) (i : Nat) (x : Int) (h : p[i]? = some x) (hx : x ≠ -1) : R p t (i + 1) 0 = false := by
  rw [Bool.eq_false_iff]
  unfold R
  rw [take_one h, List.take_zero]
  intro e
  obtain ⟨k, hk, _, h2⟩ := (M_app _ _ _).1 e
  rw [List.drop_nil, M_none _ _ hx] at h2; cases h2
theorem R_one (p : List Int) (t : List Nat) (i k : Nat) (x : Int) (c : Nat) (h : p[i]? = some x) (hx : x ≠ -1) (hc : t[k]? = some c) : R p t (i + 1) (k + 1) = (R p t i k && one x c) := by
  have hk : k < t.length := (List.getElem?_eq_some_iff.1 hc).1
  have ht : t.take (k + 1) = t.take k ++ [c] := by rw [List.take_add_one, hc]; rfl
  rw [Bool.eq_iff_iff, Bool.and_eq_true]
  unfold R
  rw [take_one h, ht, M_app]
  have hl : (t.take k).length = k := by rw [List.length_take]; omega
  constructor
  · rintro ⟨j, hj, h1, h2⟩
    rw [List.length_append, hl, List.length_singleton] at hj
    rcases Nat.lt_or_ge k j with h' | h'
    · rw [List.drop_eq_nil_of_le (by rw [List.length_append, hl]; simp; omega), M_none _ _ hx] at h2; cases h2
    · rcases Nat.lt_or_ge j k with h'' | h''
      · exfalso
        have hd : ((t.take k ++ [c]).drop j).length = k + 1 - j := by rw [List.length_drop, List.length_append, hl]; rfl
        cases hq : (t.take k ++ [c]).drop j with
        | nil => rw [hq] at hd; simp at hd; omega
        | cons a u =>
          rw [hq, M_one _ _ _ _ hx, Bool.and_eq_true, M_end] at h2
          rw [hq, h2.2] at hd; simp at hd; omega
      · have : j = k := by omega
        subst this
        rw [List.take_append_of_le_length (by omega), List.take_take, Nat.min_self] at h1
        rw [List.drop_append_of_le_length (by omega), List.drop_eq_nil_of_le (by omega), List.nil_append, M_one _ _ _ _ hx, Bool.and_eq_true] at h2
        exact ⟨h1, h2.1⟩
  · rintro ⟨h1, h2⟩
    refine ⟨k, by rw [List.length_append, hl]; omega, ?_, ?_⟩
    · rw [List.take_append_of_le_length (by omega), List.take_take, Nat.min_self]; exact h1
    · rw [List.drop_append_of_le_length (by omega), List.drop_eq_nil_of_le (by omega), List.nil_append, M_one _ _ _ _ hx, h2]; simp [M]
theorem R_all (p : List Int) (t : List Nat) : R p t p.length t.length = M p t := by simp [R]

/-! ### only the last star -/
theorem drop_at {p : List Int} {m : Nat} {x : Int} (h : p[m]? = some x) : p.drop m = x :: p.drop (m + 1) := by
  obtain ⟨hm, e⟩ := List.getElem?_eq_some_iff.1 h
  rw [List.drop_eq_getElem_cons hm, e]
theorem drop_at' {t : List Nat} {m : Nat} {x : Nat} (h : t[m]? = some x) : t.drop m = x :: t.drop (m + 1) := by
  obtain ⟨hm, e⟩ := List.getElem?_eq_some_iff.1 h
  rw [List.drop_eq_getElem_cons hm, e]
theorem star_iff (p : List Int) (t : List Nat) (r b : Nat) (h : p[r]? = some (-1)) (hb : b ≤ t.length) : M (p.drop r) (t.drop b) = true ↔ ∃ k, b ≤ k ∧ k ≤ t.length ∧ M (p.drop (r + 1)) (t.drop k) = true := by
  rw [drop_at h, M_star, List.length_drop]
  constructor
  · rintro ⟨k, hk, e⟩; rw [List.drop_drop] at e; exact ⟨b + k, by omega, by omega, e⟩
  · rintro ⟨k, h1, h2, e⟩; exact ⟨k - b, by omega, by rw [List.drop_drop, show b + (k - b) = k by omega]; exact e⟩
/-- Signs without a star take as many runes as they are. -/
theorem seg (p : List Int) (t : List Nat) : ∀ (len r k : Nat), r + len ≤ p.length → (∀ j, r ≤ j → j < r + len → p[j]? ≠ some (-1)) → M (p.drop r) (t.drop k) = true → k + len ≤ t.length ∧ M (p.drop (r + len)) (t.drop (k + len)) = true ∨ t.length < k
  | 0, r, k, _, _, h => by
    rcases Nat.lt_or_ge t.length k with hk | hk
    · exact .inr hk
    · exact .inl ⟨hk, h⟩
  | len + 1, r, k, hr, hj, h => by
    rcases Nat.lt_or_ge t.length k with hk | hk
    · exact .inr hk
    · have hrl : r < p.length := by omega
      have hp : p[r]? = some p[r] := List.getElem?_eq_getElem hrl
      have hx : p[r] ≠ -1 := by intro e; exact hj r (Nat.le_refl _) (by omega) (by rw [hp, e])
      rw [drop_at hp] at h
      rcases Nat.lt_or_ge k t.length with hk' | hk'
      · have ht : t[k]? = some t[k] := List.getElem?_eq_getElem hk'
        rw [drop_at' ht, M_one _ _ _ _ hx, Bool.and_eq_true] at h
        rcases seg p t len (r + 1) (k + 1) (by omega) (fun j h1 h2 => hj j (by omega) (by omega)) h.2 with ⟨a, b⟩ | a
        · exact .inl ⟨by omega, by rw [show r + (len + 1) = r + 1 + len by omega, show k + (len + 1) = k + 1 + len by omega]; exact b⟩
        · omega
      · rw [show t.drop k = [] from List.drop_eq_nil_of_le hk', M_none _ _ hx] at h; cases h
/-- Where the search stands: mark m, rune a; row: the last star (one more than its place, 0 if there is none), b: the rune behind what it takes. -/
def Inv (p : List Int) (t : List Nat) (m a row b : Nat) : Prop :=
  m ≤ p.length ∧ a ≤ t.length ∧ row ≤ m ∧ b ≤ a ∧
  (row = 0 → (M p t = true ↔ M (p.drop m) (t.drop a) = true)) ∧
  (0 < row → p[row - 1]? = some (-1) ∧ m - row = a - b ∧ (∀ j, row ≤ j → j < m → p[j]? ≠ some (-1)) ∧ (M p t = true ↔ M (p.drop (row - 1)) (t.drop b) = true) ∧ (M (p.drop row) (t.drop b) = true ↔ M (p.drop m) (t.drop a) = true))
theorem Inv.start (p : List Int) (t : List Nat) : Inv p t 0 0 0 0 := ⟨Nat.zero_le _, Nat.zero_le _, Nat.le_refl _, Nat.le_refl _, fun _ => by simp, fun h => absurd h (by omega)⟩
theorem Inv.star {p : List Int} {t : List Nat} {m a row b : Nat} (h : Inv p t m a row b) (hm : p[m]? = some (-1)) : Inv p t (m + 1) a (m + 1) a := by
  obtain ⟨h1, h2, h3, h4, h5, h6⟩ := h
  have hml : m < p.length := (List.getElem?_eq_some_iff.1 hm).1
  refine ⟨hml, h2, Nat.le_refl _, Nat.le_refl _, fun h => absurd h (by omega), fun _ => ⟨hm, by omega, fun j a b => absurd b (by omega), ?_, Iff.rfl⟩⟩
  show M p t = true ↔ M (p.drop m) (t.drop a) = true
  rcases Nat.eq_zero_or_pos row with hr | hr
  · exact h5 hr
  · obtain ⟨g1, g2, g3, g4, g5⟩ := h6 hr
    rw [g4]
    constructor
    · intro e
      obtain ⟨k, hk1, hk2, e⟩ := (star_iff p t (row - 1) b g1 (by omega)).1 e
      rw [show row - 1 + 1 = row by omega] at e
      rcases seg p t (m - row) row k (by omega) (fun j a b => g3 j a (by omega)) e with ⟨q1, q2⟩ | q
      · rw [show row + (m - row) = m by omega] at q2
        obtain ⟨k', q3, q4, q5⟩ := (star_iff p t m (k + (m - row)) hm q1).1 q2
        exact (star_iff p t m a hm h2).2 ⟨k', by omega, q4, q5⟩
      · omega
    · intro e
      exact (star_iff p t (row - 1) b g1 (by omega)).2 ⟨b, Nat.le_refl _, by omega, by rw [show row - 1 + 1 = row by omega]; exact g5.2 e⟩
theorem Inv.fits {p : List Int} {t : List Nat} {m a row b : Nat} {x : Int} {c : Nat} (h : Inv p t m a row b) (hm : p[m]? = some x) (hx : x ≠ -1) (hc : t[a]? = some c) (ho : one x c = true) : Inv p t (m + 1) (a + 1) row b := by
  obtain ⟨h1, h2, h3, h4, h5, h6⟩ := h
  have hml : m < p.length := (List.getElem?_eq_some_iff.1 hm).1
  have hal : a < t.length := (List.getElem?_eq_some_iff.1 hc).1
  have e : M (p.drop m) (t.drop a) = true ↔ M (p.drop (m + 1)) (t.drop (a + 1)) = true := by
    rw [drop_at hm, drop_at' hc, M_one _ _ _ _ hx, ho, Bool.true_and]
  refine ⟨hml, hal, by omega, by omega, fun hr => (h5 hr).trans e, fun hr => ?_⟩
  obtain ⟨g1, g2, g3, g4, g5⟩ := h6 hr
  refine ⟨g1, by omega, fun j q1 q2 => ?_, g4, g5.trans e⟩
  rcases Nat.lt_or_ge j m with hj | hj
  · exact g3 j q1 hj
  · have : j = m := by omega
    subst this
    rw [hm]; intro e; injection e with e; exact hx e
/-- The mark at m doesn't stand for the rune at a. -/
def Stuck (p : List Int) (t : List Nat) (m a : Nat) : Prop := a < t.length ∧ (p.length ≤ m ∨ ∃ x c, p[m]? = some x ∧ x ≠ -1 ∧ t[a]? = some c ∧ one x c = false)
theorem Stuck.no {p : List Int} {t : List Nat} {m a : Nat} (h : Stuck p t m a) : M (p.drop m) (t.drop a) = false := by
  obtain ⟨ha, h | ⟨x, c, hm, hx, hc, ho⟩⟩ := h
  · rw [List.drop_eq_nil_of_le h, drop_at' (List.getElem?_eq_getElem ha)]; rfl
  · rw [drop_at hm, drop_at' hc, M_one _ _ _ _ hx, ho]; rfl
theorem Inv.back {p : List Int} {t : List Nat} {m a row b : Nat} (h : Inv p t m a row b) (hs : Stuck p t m a) (hr : 0 < row) : Inv p t row (b + 1) row (b + 1) := by
  obtain ⟨h1, h2, h3, h4, h5, h6⟩ := h
  obtain ⟨g1, g2, g3, g4, g5⟩ := h6 hr
  have hn := hs.no
  have ha := hs.1
  refine ⟨by omega, by omega, Nat.le_refl _, Nat.le_refl _, fun h => absurd h (by omega), fun _ => ⟨g1, by omega, fun j q1 q2 => absurd q2 (by omega), ?_, Iff.rfl⟩⟩
  rw [g4, star_iff p t (row - 1) b g1 (by omega), star_iff p t (row - 1) (b + 1) g1 (by omega)]
  rw [show row - 1 + 1 = row by omega]
  constructor
  · rintro ⟨k, q1, q2, e⟩
    refine ⟨k, ?_, q2, e⟩
    rcases Nat.lt_or_ge b k with hb | hb
    · exact hb
    · have : k = b := by omega
      subst this
      have := g5.1 e
      rw [hn] at this; cases this
  · rintro ⟨k, q1, q2, e⟩; exact ⟨k, by omega, q2, e⟩
theorem Inv.fails {p : List Int} {t : List Nat} {m a b : Nat} (h : Inv p t m a 0 b) (hs : Stuck p t m a) : M p t = false := by
  obtain ⟨h1, h2, h3, h4, h5, h6⟩ := h
  rw [Bool.eq_false_iff]
  intro e
  have := (h5 rfl).1 e
  rw [hs.no] at this; cases this
theorem M_all_stars : ∀ p : List Int, M p [] = p.all (· == -1)
  | [] => rfl
  | x :: p => by
    by_cases hx : x = -1
    · subst hx
      rw [List.all_cons, ← M_all_stars p]
      simp [M]
    · rw [M_none _ _ hx, List.all_cons]; simp [hx]
theorem Inv.ends {p : List Int} {t : List Nat} {m a row b : Nat} (h : Inv p t m a row b) (ha : t.length ≤ a) : M p t = (p.drop m).all (· == -1) := by
  obtain ⟨h1, h2, h3, h4, h5, h6⟩ := h
  have e0 : t.drop a = [] := List.drop_eq_nil_of_le ha
  rw [← M_all_stars, Bool.eq_iff_iff]
  rcases Nat.eq_zero_or_pos row with hr | hr
  · rw [h5 hr, e0]
  · obtain ⟨g1, g2, g3, g4, g5⟩ := h6 hr
    rw [g4, ← e0, ← g5, star_iff p t (row - 1) b g1 (by omega), show row - 1 + 1 = row by omega]
    constructor
    · rintro ⟨k, q1, q2, e⟩
      rcases seg p t (m - row) row k (by omega) (fun j a b => g3 j a (by omega)) e with ⟨s1, _⟩ | s
      · have : k = b := by omega
        subst this; exact e
      · omega
    · intro e; exact ⟨b, Nat.le_refl _, by omega, e⟩

/-! ### a text that stands for itself -/
theorem sg_esc : ∀ l : List Nat, sg (l.flatMap fun r => [92, r]) = l.map (fun (r : Nat) => (r : Int))
  | [] => rfl
  | a :: t => by
    rw [List.flatMap_cons]
    show sg (92 :: a :: (t.flatMap fun r => [92, r])) = _
    rw [sg, if_pos rfl, sg_esc t]; rfl
theorem M_lit : ∀ l t : List Nat, M (l.map (fun (r : Nat) => (r : Int))) t = decide (l = t)
  | [], t => by cases t <;> simp [M]
  | a :: l, [] => by rw [List.map_cons, M_none _ _ (by omega)]; simp
  | a :: l, c :: t => by
    rw [List.map_cons, M_one _ _ _ _ (by omega), M_lit l t]
    have : one (a : Int) c = decide (a = c) := by
      unfold one
      rw [Bool.eq_iff_iff]; simp; omega
    rw [this, Bool.eq_iff_iff]; simp
theorem sg_star : sg [42] = [-1] := rfl
theorem sg_len : ∀ l : List Nat, (sg l).length ≤ l.length
  | [] => Nat.le_refl _
  | [a] => by simp [sg]
  | a :: b :: t => by
    unfold sg
    split
    · have := sg_len t; simp; omega
    · have := sg_len (b :: t); simp at *; omega
theorem sg_lo : ∀ l : List Nat, (∀ r ∈ l, r ≤ 1114111) → ∀ x ∈ sg l, x = -1 ∨ x = -2 ∨ (0 ≤ x ∧ x ≤ 1114111)
  | [], _, x, hx => by cases hx
  | [a], h, x, hx => by
    have := h a (by simp)
    simp only [sg, List.mem_singleton] at hx
    subst hx
    split
    · omega
    · split <;> omega
  | a :: b :: t, h, x, hx => by
    have h1 := h a (by simp)
    have h2 := h b (by simp)
    unfold sg at hx
    split at hx
    · rcases List.mem_cons.1 hx with rfl | hx
      · omega
      · exact sg_lo t (fun r hr => h r (by simp [hr])) x hx
    · rcases List.mem_cons.1 hx with rfl | hx
      · split
        · omega
        · split <;> omega
      · exact sg_lo (b :: t) (fun r hr => h r (List.mem_cons_of_mem _ hr)) x hx

end Go.Proofs.YtmlonlipieedbaaDoor.Tx
