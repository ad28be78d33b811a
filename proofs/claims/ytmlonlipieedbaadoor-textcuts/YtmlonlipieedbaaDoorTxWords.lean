/-
  Words between blanks, and small letters, plain.
-/
import Derived.Test.YtmlonlipieedbaaDoorTxDec
namespace Go.Proofs.YtmlonlipieedbaaDoor.Tx
open Go Go.Lib
set_option linter.unusedVariables false

def blN (n : Nat) : Bool := n == 32 || n == 9 || n == 10 || n == 13
def bl (b : UInt8) : Bool := blN b.toNat
def low (b : UInt8) : UInt8 := if 65 ≤ b.toNat ∧ b.toNat ≤ 90 then b + 32 else b
def lower (l : List UInt8) : List UInt8 := l.map low
def wg : List UInt8 → List UInt8 → List (List UInt8)
  | acc, [] => if acc = [] then [] else [acc]
  | acc, b :: t => if bl b then (if acc = [] then wg [] t else acc :: wg [] t) else wg (acc ++ [b]) t
def words (l : List UInt8) : List (List UInt8) := wg [] l
theorem blN_iff (n : Nat) : blN n = true ↔ n = 32 ∨ n = 9 ∨ n = 10 ∨ n = 13 := by simp [blN]; omega
theorem blN_not (n : Nat) : blN n = false ↔ n ≠ 32 ∧ n ≠ 9 ∧ n ≠ 10 ∧ n ≠ 13 := by simp [blN]; omega
theorem low_nat (b : UInt8) : (low b).toNat = if 65 ≤ b.toNat ∧ b.toNat ≤ 90 then b.toNat + 32 else b.toNat := by
  unfold low
  split
  · rename_i h
    rw [UInt8.toNat_add]
    show (b.toNat + 32) % 256 = _
    omega
  · rfl
theorem bl_low (b : UInt8) : bl (low b) = bl b := by
  unfold bl
  rw [low_nat, Bool.eq_iff_iff, blN_iff, blN_iff]
  split <;> omega
theorem low_low (b : UInt8) : low (low b) = low b := by
  apply UInt8.toNat_inj.1
  rw [low_nat, low_nat]
  repeat' split
  all_goals omega
theorem lower_lower (l : List UInt8) : lower (lower l) = lower l := by simp [lower, low_low]
theorem wg_nil (acc : List UInt8) : wg acc [] = if acc = [] then [] else [acc] := by rw [wg]
theorem wg_blank (acc : List UInt8) (b : UInt8) (t : List UInt8) (h : bl b = true) : wg acc (b :: t) = (if acc = [] then [] else [acc]) ++ wg [] t := by
  rw [wg, if_pos h]
  split <;> rfl
theorem wg_app : ∀ (u acc t : List UInt8), (∀ b ∈ u, bl b = false) → wg acc (u ++ t) = wg (acc ++ u) t
  | [], acc, t, _ => by simp
  | b :: u, acc, t, h => by
    rw [List.cons_append, wg, if_neg (by rw [h b (by simp)]; decide), wg_app u _ t (fun x hx => h x (by simp [hx]))]
    simp
def good (x : List UInt8) : Prop := x ≠ [] ∧ ∀ b ∈ x, bl b = false
theorem wg_good : ∀ (l acc : List UInt8), (∀ b ∈ acc, bl b = false) → ∀ x ∈ wg acc l, good x
  | [], acc, h, x, hx => by
    rw [wg_nil] at hx
    split at hx
    · cases hx
    · rename_i hn
      rw [List.mem_singleton] at hx; subst hx; exact ⟨hn, h⟩
  | b :: t, acc, h, x, hx => by
    cases hb : bl b with
    | true =>
      rw [wg_blank acc b t hb] at hx
      rcases List.mem_append.1 hx with hx | hx
      · split at hx
        · cases hx
        · rename_i hn
          rw [List.mem_singleton] at hx; subst hx; exact ⟨hn, h⟩
      · exact wg_good t [] (fun b hb => by cases hb) x hx
    | false =>
      rw [wg, if_neg (by rw [hb]; decide)] at hx
      refine wg_good t (acc ++ [b]) (fun c hc => ?_) x hx
      rcases List.mem_append.1 hc with hc | hc
      · exact h c hc
      · rw [List.mem_singleton] at hc; subst hc; exact hb
theorem words_good (l : List UInt8) : ∀ x ∈ words l, good x := wg_good l [] (fun b hb => by cases hb)
theorem words_one (x : List UInt8) (h : good x) : words x = [x] := by
  have := wg_app x [] [] h.2
  rw [List.append_nil, List.nil_append] at this
  unfold words
  rw [this, wg_nil, if_neg h.1]
def tabs (ws : List (List UInt8)) : List UInt8 := ws.flatMap fun x => 9 :: x
theorem wg_tabs : ∀ (ws : List (List UInt8)) (acc : List UInt8), (∀ x ∈ ws, good x) → wg acc (tabs ws) = (if acc = [] then [] else [acc]) ++ ws
  | [], acc, _ => by rw [tabs, List.flatMap_nil, wg_nil, List.append_nil]
  | x :: ws, acc, h => by
    have hx := h x (by simp)
    show wg acc ((9 :: x) ++ tabs ws) = _
    rw [List.cons_append, wg_blank acc 9 _ rfl, wg_app x [] _ hx.2, List.nil_append, wg_tabs ws x (fun y hy => h y (by simp [hy])), if_neg hx.1]
    rfl
theorem words_tabs (ws : List (List UInt8)) (h : ∀ x ∈ ws, good x) : words (tabs ws) = ws := by
  unfold words; rw [wg_tabs ws [] h]; rfl
theorem tabs_snoc (ws : List (List UInt8)) (x : List UInt8) : tabs (ws ++ [x]) = tabs ws ++ 9 :: x := by simp [tabs]
theorem wg_low : ∀ (l acc : List UInt8), wg (acc.map low) (l.map low) = (wg acc l).map lower
  | [], acc => by
    rw [List.map_nil, wg_nil, wg_nil]
    by_cases h : acc = []
    · subst h; rfl
    · rw [if_neg h, if_neg (by simpa using h)]; rfl
  | b :: t, acc => by
    rw [List.map_cons]
    cases hb : bl b with
    | true =>
      rw [wg_blank _ _ _ (by rw [bl_low]; exact hb), wg_blank _ _ _ hb, List.map_append]
      have := wg_low t []
      rw [List.map_nil] at this
      rw [this]
      by_cases h : acc = []
      · subst h; rfl
      · rw [if_neg h, if_neg (by simpa using h)]; rfl
    | false =>
      rw [wg, if_neg (by rw [bl_low, hb]; decide), wg, if_neg (by rw [hb]; decide)]
      have := wg_low t (acc ++ [b])
      rw [← this]; simp
theorem words_low (l : List UInt8) : words (lower l) = (words l).map lower := wg_low l []
theorem wg_len : ∀ (l acc : List UInt8), (wg acc l).length ≤ l.length + 1
  | [], acc => by rw [wg_nil]; split <;> simp
  | b :: t, acc => by
    cases hb : bl b with
    | true =>
      rw [wg_blank acc b t hb, List.length_append]
      have := wg_len t []
      cases t with
      | nil => rw [wg_nil, if_pos rfl]; split <;> simp
      | cons c t =>
        have h2 : (wg [] (c :: t)).length ≤ (c :: t).length := by
          cases hc : bl c with
          | true =>
            rw [wg_blank [] c t hc, if_pos rfl, List.nil_append]
            have := wg_len t []
            simp; omega
          | false =>
            rw [wg, if_neg (by rw [hc]; decide)]
            have := wg_len t ([] ++ [c])
            simp at *; omega
        split <;> simp at * <;> omega
    | false =>
      rw [wg, if_neg (by rw [hb]; decide)]
      have := wg_len t (acc ++ [b])
      simp; omega
/-- A step over a rune that isn't a blank: none of its bytes is one. -/
theorem nb_take (l : List UInt8) (hl : l ≠ []) (h : blN (decodeL l).1 = false) : ∀ b ∈ l.take (decodeL l).2, bl b = false := by
  have hp := dec_pos l hl
  have a := decN_low l.length (l.getD 0 0).toNat (l.getD 1 0).toNat (l.getD 2 0).toNat (l.getD 3 0).toNat
  have t := decN_tail l.length (l.getD 0 0).toNat (l.getD 1 0).toNat (l.getD 2 0).toNat (l.getD 3 0).toNat
  rw [← decodeL_N] at a t
  rw [blN_not] at h
  intro b hb
  obtain ⟨j, hj, e⟩ := List.getElem_of_mem hb
  rw [List.length_take] at hj
  have hb' : b.toNat = (l.getD j 0).toNat := by
    rw [← e, List.getElem_take, List.getD_eq_getElem?_getD, List.getElem?_eq_getElem (by omega)]; rfl
  unfold bl
  rw [hb', blN_not]
  have : j = 0 ∨ j = 1 ∨ j = 2 ∨ j = 3 := by omega
  rcases this with rfl | rfl | rfl | rfl
  · rcases Nat.lt_or_ge (decodeL l).1 128 with h1 | h1
    · have := (a.1 h1).1; omega
    · have := a.2 h1; omega
  · have := (t.1 (by omega)).1; omega
  · have := t.2.1 (by omega); omega
  · have := t.2.2 (by omega); omega
theorem bl_step (l : List UInt8) (hl : l ≠ []) (h : blN (decodeL l).1 = true) : (decodeL l).2 = 1 ∧ ∃ b, l = b :: l.drop 1 ∧ bl b = true := by
  have a := decN_low l.length (l.getD 0 0).toNat (l.getD 1 0).toNat (l.getD 2 0).toNat (l.getD 3 0).toNat
  rw [← decodeL_N] at a
  have h' := (blN_iff _).1 h
  obtain ⟨e1, e2⟩ := a.1 (by omega)
  cases l with
  | nil => exact absurd rfl hl
  | cons b t =>
    refine ⟨e2, b, rfl, ?_⟩
    unfold bl
    rw [blN_iff]
    have : ((b :: t).getD 0 0).toNat = b.toNat := rfl
    omega

end Go.Proofs.YtmlonlipieedbaaDoor.Tx
