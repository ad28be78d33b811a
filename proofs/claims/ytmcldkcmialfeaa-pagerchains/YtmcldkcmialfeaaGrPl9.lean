/-
  Plain facts on short numbers and numbers in order, as lists of bytes (natural numbers). No Go here.
-/
/-
  The sum of bytes (CRC-32C), plainly: one bit at a time, on natural numbers. No Go here.
-/
/-
  A page, plainly: what it says, filled up, its number, the sum of all that stands ahead. No Go here.
-/
/-
  A disk, plainly: what is safe, what waits, how many acts are left till the power goes, whether it is gone. No Go here.
-/
/-
  Fresh pages, plainly: a list by rising numbers, each with what it says; looked up, put, set, dropped. No Go here.
-/
/-
  A meta, plainly: whether it is one, what its page says, which meta a page says. No Go here.
-/
/-
  When a page says a meta, part by part. No Go here.
-/
/-
  Freed pages, plainly: a list by rising pages; what a piece's page says. No Go here.
-/
/-
  A pool, plainly: capacity, high mark, freed pages by rising numbers; what is told, freed, trimmed. No Go here.
-/
/-
  A pager, plainly: a disk, a pool, a version, a horizon, fresh pages by rising numbers. No Go here.
-/
/-
  A chain's page, plainly: what it says, what bytes say. No Go here.
-/
/-
  A tree's node, plainly: how long it is, whether it may be, what its page says; that no two say the same. No Go here.
-/
/-
  Which leaf may be, cell by cell, and key by key. No Go here.
-/
/-
  A tree's node, read from bytes, plainly: cell by cell, key by key. No Go here.
-/
/-
  What the program's reader makes of bytes, plainly: what is beyond their end is nothing and 0. No Go here.
-/
/-
  Pages put one after the other onto a fresh pager, plainly.
-/
namespace Go.Proofs.Ytmcldkcmialfeaa.Nm

def putN : Nat → Nat → List Nat
  | 0, _ => []
  | f + 1, v => if v < 128 then [v] else (v % 128 + 128) :: putN f (v / 128)
def put (v : Nat) : List Nat := putN 10 v

def mayEnd (b i : Nat) : Bool := if i = 9 then b == 1 else (i == 0 || b != 0)

def getR : Nat → Nat → Nat → List Nat → Nat × Nat
  | 0, _, _, _ => (0, 0)
  | _ + 1, _, _, [] => (0, 0)
  | f + 1, i, acc, b :: r => if b < 128 then (if mayEnd b i then (acc + b * 128 ^ i, i + 1) else (0, 0)) else getR f (i + 1) (acc + (b - 128) * 128 ^ i) r
def get (l : List Nat) : Nat × Nat := getR 10 0 0 l

/-- The number that the bytes say, seven bits of each. -/
def val : List Nat → Nat
  | [] => 0
  | b :: r => b % 128 + 128 * val r

theorem putN_lt (f v : Nat) : ∀ x ∈ putN f v, x < 256 := by
  induction f generalizing v with
  | zero => intro x hx; simp [putN] at hx
  | succ f ih =>
    intro x hx
    unfold putN at hx
    by_cases h : v < 128
    · rw [if_pos h] at hx; simp at hx; omega
    · rw [if_neg h] at hx
      rcases List.mem_cons.1 hx with h' | h'
      · omega
      · exact ih _ x h'
theorem put_lt (v : Nat) : ∀ x ∈ put v, x < 256 := putN_lt 10 v

theorem putN_len (f v : Nat) : (putN f v).length ≤ f := by
  induction f generalizing v with
  | zero => simp [putN]
  | succ f ih =>
    unfold putN
    by_cases h : v < 128
    · rw [if_pos h]; simp
    · rw [if_neg h]; simp; exact ih _
theorem put_len (v : Nat) : (put v).length ≤ 10 := putN_len 10 v
theorem putN_pos (f v : Nat) : 0 < (putN (f + 1) v).length := by
  unfold putN; split <;> simp
theorem put_pos (v : Nat) : 0 < (put v).length := putN_pos 9 v
theorem putN_small (f v : Nat) (h : v < 128) : putN (f + 1) v = [v] := by unfold putN; rw [if_pos h]
theorem putN_great (f v : Nat) (h : ¬ v < 128) : putN (f + 1) v = (v % 128 + 128) :: putN f (v / 128) := by
  conv => lhs; unfold putN
  rw [if_neg h]

theorem putN_len_le (f n v : Nat) (hn : 0 < n) (h : v < 128 ^ n) : (putN f v).length ≤ n := by
  induction f generalizing v n with
  | zero => simp [putN]
  | succ f ih =>
    by_cases hv : v < 128
    · rw [putN_small f v hv]; simp; omega
    · rw [putN_great f v hv]
      simp only [List.length_cons]
      match n, hn, h with
      | 1, _, h => simp at h; omega
      | n + 2, _, h =>
        have : v / 128 < 128 ^ (n + 1) := by rw [Nat.pow_succ] at h; exact Nat.div_lt_of_lt_mul (by rw [Nat.mul_comm]; exact h)
        have := ih (n + 1) (v / 128) (by omega) this
        omega
theorem putN_lt_len (f v : Nat) (h : v < 128 ^ f) : v < 128 ^ (putN f v).length := by
  induction f generalizing v with
  | zero => simpa [putN] using h
  | succ f ih =>
    by_cases hv : v < 128
    · rw [putN_small f v hv]; simpa using hv
    · rw [putN_great f v hv]
      have h1 : v / 128 < 128 ^ f := by rw [Nat.pow_succ] at h; exact Nat.div_lt_of_lt_mul (by rw [Nat.mul_comm]; exact h)
      have := ih (v / 128) h1
      simp only [List.length_cons, Nat.pow_succ]
      omega
theorem val_putN (f v : Nat) (h : v < 128 ^ f) : val (putN f v) = v := by
  induction f generalizing v with
  | zero => simp at h; simp [putN, val, h]
  | succ f ih =>
    by_cases hv : v < 128
    · rw [putN_small f v hv]; simp [val]; omega
    · rw [putN_great f v hv]
      have h1 : v / 128 < 128 ^ f := by rw [Nat.pow_succ] at h; exact Nat.div_lt_of_lt_mul (by rw [Nat.mul_comm]; exact h)
      simp only [val, ih _ h1]; omega
theorem pow_128_10 : (128 : Nat) ^ 10 = 1180591620717411303424 := by decide
theorem val_put (v : Nat) (h : v < 18446744073709551616) : val (put v) = v := val_putN 10 v (by rw [pow_128_10]; omega)

/-- What was put is got again, whatever stands behind. -/
theorem getR_putN (f : Nat) : ∀ (i acc v : Nat) (b : List Nat), i + f = 10 → v < 128 ^ f → v * 128 ^ i < 18446744073709551616 → (i = 0 ∨ v ≠ 0) →
    getR f i acc (putN f v ++ b) = (acc + v * 128 ^ i, i + (putN f v).length) := by
  induction f with
  | zero => intro i acc v b hi hv _ h0; simp at hv; omega
  | succ f ih =>
    intro i acc v b hi hv hm h0
    by_cases hs : v < 128
    · rw [putN_small f v hs]
      have hme : mayEnd v i = true := by
        unfold mayEnd
        by_cases h9 : i = 9
        · subst h9
          have : v < 2 := by
            have : (128 : Nat) ^ 9 = 9223372036854775808 := by decide
            rw [this] at hm; omega
          simp; omega
        · rw [if_neg h9]; rcases h0 with h0 | h0 <;> simp [h0]
      simp [getR, hs, hme]
    · rw [putN_great f v hs]
      have h1 : v / 128 < 128 ^ f := by rw [Nat.pow_succ] at hv; exact Nat.div_lt_of_lt_mul (by rw [Nat.mul_comm]; exact hv)
      have e : v * 128 ^ i = v % 128 * 128 ^ i + v / 128 * 128 ^ (i + 1) := by
        conv => lhs; rw [← Nat.mod_add_div v 128, Nat.add_mul]
        rw [Nat.pow_succ]
        congr 1
        rw [Nat.mul_comm 128 (v / 128), Nat.mul_assoc, Nat.mul_comm 128]
      have hb : ¬ v % 128 + 128 < 128 := by omega
      have := ih (i + 1) (acc + v % 128 * 128 ^ i) (v / 128) b (by omega) h1 (by omega) (.inr (by omega))
      simp only [List.cons_append, getR, hb, if_false, Nat.add_sub_cancel, this, List.length_cons]
      rw [e]
      congr 1 <;> omega
theorem get_put (v : Nat) (b : List Nat) (h : v < 18446744073709551616) : get (put v ++ b) = (v, (put v).length) := by
  have := getR_putN 10 0 0 v b rfl (by rw [pow_128_10]; omega) (by simpa using h) (.inl rfl)
  simpa [get, put] using this

/-! ### Reading, by the place of the first byte below 128 -/
theorem getR_none (f : Nat) : ∀ (i acc : Nat) (l : List Nat), (∀ j, j < f → ∀ x, l[j]? = some x → 128 ≤ x) → getR f i acc l = (0, 0) := by
  induction f with
  | zero => intro i acc l _; rfl
  | succ f ih =>
    intro i acc l h
    match l with
    | [] => rfl
    | b :: r =>
      have hb : ¬ b < 128 := by have := h 0 (by omega) b rfl; omega
      simp only [getR, hb, if_false]
      exact ih _ _ _ fun j hj x hx => h (j + 1) (by omega) x (by simpa using hx)
theorem getR_at (n : Nat) : ∀ (f i acc : Nat) (l : List Nat) (c : Nat), n < f → (∀ j, j < n → ∀ x, l[j]? = some x → 128 ≤ x ∧ x < 256) → l[n]? = some c → c < 128 →
    getR f i acc l = if mayEnd c (i + n) then (acc + val (l.take (n + 1)) * 128 ^ i, i + n + 1) else (0, 0) := by
  induction n with
  | zero =>
    intro f i acc l c hf _ hc hlt
    match f, l, hf, hc with
    | f + 1, b :: r, _, hc =>
      simp at hc; subst hc
      simp only [getR, hlt, if_true, Nat.add_zero]
      have : b % 128 = b := Nat.mod_eq_of_lt hlt
      simp [val, this]
  | succ n ih =>
    intro f i acc l c hf hb hc hlt
    match f, l, hf, hc with
    | f + 1, b :: r, hf, hc =>
      have h0 := hb 0 (by omega) b rfl
      have hn : ¬ b < 128 := by omega
      simp only [getR, hn, if_false]
      rw [ih f (i + 1) _ r c (by omega) (fun j hj x hx => hb (j + 1) (by omega) x (by simpa using hx)) (by simpa using hc) hlt]
      have e1 : i + 1 + n = i + (n + 1) := by omega
      rw [e1]
      have e2 : b % 128 = b - 128 := by omega
      have e3 : val ((b :: r).take (n + 1 + 1)) = (b - 128) + 128 * val (r.take (n + 1)) := by simp only [List.take_succ_cons, val, e2]
      rw [e3]
      split
      · congr 1
        rw [Nat.add_mul, Nat.pow_succ, ← Nat.add_assoc]
        congr 1
        rw [Nat.mul_comm 128 (val _), Nat.mul_assoc, Nat.mul_comm 128]
      · rfl
theorem val_lt (l : List Nat) : val l < 128 ^ l.length := by
  induction l with
  | nil => simp [val]
  | cons b r ih => simp only [val, List.length_cons, Nat.pow_succ]; omega
theorem putN_val (n : Nat) : ∀ (f : Nat) (l : List Nat) (c : Nat), n < f → l.length = n + 1 → (∀ j, j < n → ∀ x, l[j]? = some x → 128 ≤ x ∧ x < 256) → l[n]? = some c → c < 128 → (n = 0 ∨ c ≠ 0) →
    putN f (val l) = l ∧ (c ≠ 0 → 0 < val l) := by
  induction n with
  | zero =>
    intro f l c hf hl _ hc hlt _
    match f, l, hf, hl, hc with
    | f + 1, [b], _, _, hc =>
      simp at hc; subst hc
      have : b % 128 = b := Nat.mod_eq_of_lt hlt
      simp only [val, this, Nat.mul_zero, Nat.add_zero]
      exact ⟨putN_small f b hlt, fun h => by omega⟩
  | succ n ih =>
    intro f l c hf hl hb hc hlt h0
    match f, l, hf, hl, hc with
    | f + 1, b :: r, hf, hl, hc =>
      have hb0 := hb 0 (by omega) b rfl
      have hc0 : c ≠ 0 := by omega
      obtain ⟨h1, h2⟩ := ih f r c (by omega) (by simpa using hl) (fun j hj x hx => hb (j + 1) (by omega) x (by simpa using hx)) (by simpa using hc) hlt (.inr hc0)
      have h3 := h2 hc0
      have e : val (b :: r) = b % 128 + 128 * val r := rfl
      have hg : ¬ val (b :: r) < 128 := by omega
      refine ⟨?_, fun _ => by omega⟩
      rw [putN_great f _ hg]
      have e1 : val (b :: r) % 128 + 128 = b := by omega
      have e2 : val (b :: r) / 128 = val r := by omega
      rw [e1, e2, h1]
theorem val_append_one (l : List Nat) (c : Nat) : val (l ++ [c]) = val l + c % 128 * 128 ^ l.length := by
  induction l with
  | nil => simp [val]
  | cons b r ih => simp only [List.cons_append, val, ih, List.length_cons, Nat.pow_succ, Nat.mul_add]; rw [← Nat.add_assoc, Nat.mul_comm 128 (c % 128 * _), Nat.mul_assoc]

/-- The document's way of reading: the bytes up to the first one below 128, and whether they are what would be put. -/
theorem get_at (l : List Nat) (n c : Nat) (hn : n < 10) (hb : ∀ j, j < n → ∀ x, l[j]? = some x → 128 ≤ x ∧ x < 256) (hc : l[n]? = some c) (hlt : c < 128) :
    get l = if put (val (l.take (n + 1)) % 18446744073709551616) = l.take (n + 1) then (val (l.take (n + 1)) % 18446744073709551616, n + 1) else (0, 0) := by
  have hget := getR_at n 10 0 0 l c hn hb hc hlt
  have hln : n < l.length := by
    rcases Nat.lt_or_ge n l.length with h | h
    · exact h
    · rw [List.getElem?_eq_none h] at hc; cases hc
  have hlen : (l.take (n + 1)).length = n + 1 := by simp; omega
  have hsplit : l.take (n + 1) = l.take n ++ [c] := by
    rw [List.take_add_one, hc]; rfl
  have hval : val (l.take (n + 1)) = val (l.take n) + c * 128 ^ n := by
    rw [hsplit, val_append_one]
    have : c % 128 = c := Nat.mod_eq_of_lt hlt
    rw [this, List.length_take, Nat.min_eq_left (by omega)]
  have hlow : val (l.take n) < 128 ^ n := by
    have := val_lt (l.take n)
    have e : (l.take n).length = n := by simp; omega
    rwa [e] at this
  have hbt : ∀ j, j < n → ∀ x, (l.take (n + 1))[j]? = some x → 128 ≤ x ∧ x < 256 := fun j hj x hx => hb j hj x (by rw [List.getElem?_take] at hx; simpa [show j < n + 1 by omega] using hx)
  have hct : (l.take (n + 1))[n]? = some c := by rw [List.getElem?_take, if_pos (by omega)]; exact hc
  have h9 : (128 : Nat) ^ 9 = 9223372036854775808 := by decide
  simp only [get]
  rw [hget]
  simp only [Nat.zero_add, Nat.pow_zero, Nat.mul_one]
  by_cases hme : mayEnd c n = true
  · rw [if_pos hme]
    have hcan : n = 0 ∨ c ≠ 0 := by
      unfold mayEnd at hme
      by_cases h : n = 9
      · rw [if_pos h] at hme; right; simp at hme; omega
      · rw [if_neg h] at hme; simpa using hme
    have hsm : val (l.take (n + 1)) < 18446744073709551616 := by
      by_cases h : n = 9
      · subst h
        unfold mayEnd at hme
        simp at hme
        subst hme
        rw [hval, h9]; rw [h9] at hlow; omega
      · have h1 := val_lt (l.take (n + 1))
        rw [hlen] at h1
        have h2 : (128 : Nat) ^ (n + 1) ≤ 128 ^ 9 := Nat.pow_le_pow_right (by omega) (by omega)
        omega
    have hp := (putN_val n 10 (l.take (n + 1)) c hn hlen hbt hct hlt hcan).1
    rw [Nat.mod_eq_of_lt hsm]
    have hp' : put (val (l.take (n + 1))) = l.take (n + 1) := hp
    rw [if_pos hp']
  · rw [if_neg hme]
    have : ¬ put (val (l.take (n + 1)) % 18446744073709551616) = l.take (n + 1) := by
      intro hp
      have hx : val (l.take (n + 1)) % 18446744073709551616 < 18446744073709551616 := Nat.mod_lt _ (by omega)
      have hv := val_put _ hx
      rw [hp] at hv
      apply hme
      unfold mayEnd
      have hc0 : n = 0 ∨ c ≠ 0 := by
        rcases Nat.eq_zero_or_pos n with h | h
        · exact .inl h
        · right
          intro h0
          have hle : val (l.take (n + 1)) < 128 ^ n := by rw [hval, h0]; omega
          have := putN_len_le 10 n (val (l.take (n + 1)) % 18446744073709551616) h (by omega)
          rw [show putN 10 _ = put _ from rfl, hp, hlen] at this
          omega
      by_cases h : n = 9
      · rw [if_pos h]
        subst h
        have : c < 2 := by rw [h9] at hval; omega
        simp; omega
      · rw [if_neg h]; simpa using hc0
    rw [if_neg this]
theorem get_none (l : List Nat) (h : ∀ j, j < 10 → ∀ x, l[j]? = some x → 128 ≤ x) : get l = (0, 0) := getR_none 10 0 0 l h
theorem get_fst_lt (l : List Nat) (hb : ∀ x ∈ l, x < 256) : (get l).1 < 18446744073709551616 := by
  by_cases h : ∀ j, j < 10 → ∀ x, l[j]? = some x → 128 ≤ x
  · rw [get_none l h]; decide
  · have : ∃ n, n < 10 ∧ (∀ j, j < n → ∀ x, l[j]? = some x → 128 ≤ x) ∧ ∃ c, l[n]? = some c ∧ c < 128 := by
      have key : ∀ m, m ≤ 10 → (∀ j, j < m → ∀ x, l[j]? = some x → 128 ≤ x) ∨ ∃ n, n < m ∧ (∀ j, j < n → ∀ x, l[j]? = some x → 128 ≤ x) ∧ ∃ c, l[n]? = some c ∧ c < 128 := by
        intro m
        induction m with
        | zero => intro _; left; intro j hj; omega
        | succ m ih =>
          intro hm
          rcases ih (by omega) with h1 | ⟨n, h1, h2⟩
          · cases hc : l[m]? with
            | none => left; intro j hj x hx; rcases Nat.lt_or_ge j m with h | h
                      · exact h1 j h x hx
                      · have : j = m := by omega
                        subst this; rw [hc] at hx; cases hx
            | some c =>
              by_cases hl : c < 128
              · right; exact ⟨m, by omega, h1, c, hc, hl⟩
              · left; intro j hj x hx; rcases Nat.lt_or_ge j m with h | h
                · exact h1 j h x hx
                · have : j = m := by omega
                  subst this; rw [hc] at hx; cases hx; omega
          · right; exact ⟨n, by omega, h2⟩
      rcases key 10 (by omega) with h1 | ⟨n, h1, h2⟩
      · exact absurd h1 h
      · exact ⟨n, h1, h2⟩
    obtain ⟨n, hn, h1, c, hc, hl⟩ := this
    rw [get_at l n c hn (fun j hj x hx => ⟨h1 j hj x hx, hb x (List.mem_of_getElem? hx)⟩) hc hl]
    split
    · exact Nat.mod_lt _ (by omega)
    · decide

/-! ### The last byte, and doubles -/
theorem putN_last (f v : Nat) (h : v < 128 ^ f) (hv : 0 < v) : (putN f v).getD ((putN f v).length - 1) 0 ≠ 0 := by
  induction f generalizing v with
  | zero => simp at h; omega
  | succ f ih =>
    by_cases hs : v < 128
    · rw [putN_small f v hs]; simp; omega
    · rw [putN_great f v hs]
      have h1 : v / 128 < 128 ^ f := by rw [Nat.pow_succ] at h; exact Nat.div_lt_of_lt_mul (by rw [Nat.mul_comm]; exact h)
      have := ih (v / 128) h1 (by omega)
      have hp : 0 < (putN f (v / 128)).length := by
        cases f with
        | zero => simp at h1; omega
        | succ f => exact putN_pos f _
      simp only [List.length_cons, Nat.add_sub_cancel]
      rw [show (putN f (v / 128)).length = ((putN f (v / 128)).length - 1) + 1 by omega, List.getD_cons_succ]
      exact this
theorem put_double (v : Nat) (h : v < 18446744073709551616) : (put (2 * v)).length ≤ (put v).length + 1 := by
  have h1 : v < 128 ^ (put v).length := putN_lt_len 10 v (by rw [pow_128_10]; omega)
  exact putN_len_le 10 _ _ (by omega) (by rw [Nat.pow_succ]; omega)
/-- A number with a sign and the one with all bits turned: 2u and 2u + 1. -/
theorem put_pair (u : Nat) : ∃ c r, put (2 * u) = c :: r ∧ put (2 * u + 1) = (c + 1) :: r ∧ c % 2 = 0 := by
  have e : ∀ f v, putN (f + 1) v = (if v < 128 then v else v % 128 + 128) :: (if v < 128 then [] else putN f (v / 128)) := by
    intro f v; by_cases h : v < 128
    · rw [putN_small f v h, if_pos h, if_pos h]
    · rw [putN_great f v h, if_neg h, if_neg h]
  refine ⟨_, _, e 9 (2 * u), ?_, ?_⟩
  · show putN (9 + 1) (2 * u + 1) = _
    rw [e 9 (2 * u + 1)]
    by_cases h : 2 * u < 128
    · have h' : 2 * u + 1 < 128 := by omega
      simp [h, h']
    · have h' : ¬ 2 * u + 1 < 128 := by omega
      have e1 : (2 * u + 1) / 128 = 2 * u / 128 := by omega
      simp only [h, h', if_false, e1]
      congr 1; omega
  · by_cases h : 2 * u < 128 <;> simp only [h, if_true, if_false] <;> omega

/-! ### Numbers in order: the greatest byte first -/
def be : Nat → Nat → List Nat
  | 0, _ => []
  | n + 1, v => be n (v / 256) ++ [v % 256]
def fromBe (l : List Nat) : Nat := l.foldl (fun a b => a * 256 + b) 0
theorem be_len (n v : Nat) : (be n v).length = n := by
  induction n generalizing v with
  | zero => rfl
  | succ n ih => simp [be, ih]
theorem be_lt (n v : Nat) : ∀ x ∈ be n v, x < 256 := by
  induction n generalizing v with
  | zero => intro x hx; simp [be] at hx
  | succ n ih =>
    intro x hx
    rcases List.mem_append.1 hx with h | h
    · exact ih _ x h
    · simp at h; omega
theorem fromBe_snoc (l : List Nat) (b : Nat) : fromBe (l ++ [b]) = fromBe l * 256 + b := by simp [fromBe]
theorem fromBe_be (n v : Nat) (h : v < 256 ^ n) : fromBe (be n v) = v := by
  induction n generalizing v with
  | zero => simp at h; simp [be, fromBe, h]
  | succ n ih =>
    have h1 : v / 256 < 256 ^ n := by rw [Nat.pow_succ] at h; exact Nat.div_lt_of_lt_mul (by rw [Nat.mul_comm]; exact h)
    simp only [be, fromBe_snoc, ih _ h1]; omega
theorem foldl_lt (l : List Nat) (hb : ∀ x ∈ l, x < 256) (a : Nat) : l.foldl (fun a b => a * 256 + b) a < (a + 1) * 256 ^ l.length := by
  induction l generalizing a with
  | nil => simp
  | cons b r ih =>
    have h1 := ih (fun x hx => hb x (by simp [hx])) (a * 256 + b)
    have h2 := hb b (by simp)
    simp only [List.foldl_cons, List.length_cons, Nat.pow_succ]
    have h3 : (a * 256 + b + 1) * 256 ^ r.length ≤ (a + 1) * (256 ^ r.length * 256) := by
      rw [Nat.mul_comm (256 ^ r.length) 256, ← Nat.mul_assoc]
      exact Nat.mul_le_mul_right _ (by omega)
    omega
theorem fromBe_lt (l : List Nat) (hb : ∀ x ∈ l, x < 256) : fromBe l < 256 ^ l.length := by
  have := foldl_lt l hb 0; simpa [fromBe] using this
theorem foldl_eq (l : List Nat) (a : Nat) : l.foldl (fun a b => a * 256 + b) a = a * 256 ^ l.length + fromBe l := by
  induction l generalizing a with
  | nil => simp [fromBe]
  | cons b r ih =>
    simp only [List.foldl_cons, List.length_cons, Nat.pow_succ, fromBe, Nat.zero_mul, Nat.zero_add]
    rw [ih (a * 256 + b), ih b, Nat.add_mul, Nat.mul_comm (256 ^ r.length) 256, ← Nat.mul_assoc, Nat.add_assoc]
theorem fromBe_cons (b : Nat) (r : List Nat) : fromBe (b :: r) = b * 256 ^ r.length + fromBe r := by
  have := foldl_eq r b
  simpa [fromBe] using this

/-- Which row comes first, byte by byte. -/
def lexLess : List Nat → List Nat → Bool
  | [], [] => false
  | [], _ :: _ => true
  | _ :: _, [] => false
  | a :: r, b :: s => if a = b then lexLess r s else decide (a < b)
theorem lexLess_fromBe (l m : List Nat) (hl : l.length = m.length) (h1 : ∀ x ∈ l, x < 256) (h2 : ∀ x ∈ m, x < 256) : lexLess l m = decide (fromBe l < fromBe m) := by
  induction l generalizing m with
  | nil =>
    match m, hl with
    | [], _ => simp [lexLess]
  | cons a r ih =>
    match m, hl with
    | b :: s, hl =>
      have hlen : r.length = s.length := by simpa using hl
      have i1 := fromBe_lt r fun x hx => h1 x (by simp [hx])
      have i2 := fromBe_lt s fun x hx => h2 x (by simp [hx])
      rw [fromBe_cons, fromBe_cons, hlen]
      rw [hlen] at i1
      unfold lexLess
      by_cases h : a = b
      · subst h
        rw [if_pos rfl, ih s hlen (fun x hx => h1 x (by simp [hx])) (fun x hx => h2 x (by simp [hx]))]
        congr 1
        apply propext
        omega
      · rw [if_neg h]
        congr 1
        apply propext
        constructor
        · intro hab
          have : (a + 1) * 256 ^ s.length ≤ b * 256 ^ s.length := Nat.mul_le_mul_right _ (by omega)
          rw [Nat.add_mul] at this; omega
        · intro hab
          rcases Nat.lt_or_ge a b with h' | h'
          · exact h'
          · have : (b + 1) * 256 ^ s.length ≤ a * 256 ^ s.length := Nat.mul_le_mul_right _ (by omega)
            rw [Nat.add_mul] at this; omega
theorem lexLess_be (n x y : Nat) (hx : x < 256 ^ n) (hy : y < 256 ^ n) : lexLess (be n x) (be n y) = decide (x < y) := by
  rw [lexLess_fromBe _ _ (by simp [be_len]) (be_lt n x) (be_lt n y), fromBe_be n x hx, fromBe_be n y hy]
end Go.Proofs.Ytmcldkcmialfeaa.Nm
namespace Go.Proofs.Ytmcldkcmialfeaa.Cr

/-- One bit out. -/
def T (s : Nat) : Nat := if s % 2 = 1 then s / 2 ^^^ 2197175160 else s / 2
def Tn : Nat → Nat → Nat
  | 0, s => s
  | n + 1, s => Tn n (T s)
/-- One byte in. -/
def step (v b : Nat) : Nat := Tn 8 (v ^^^ b)
def run (v : Nat) (l : List Nat) : Nat := l.foldl step v
/-- The sum of bytes behind others that had the sum s. -/
def more (s : Nat) (l : List Nat) : Nat := 4294967295 - run (4294967295 - s) l
def sum (l : List Nat) : Nat := more 0 l

theorem lt_xor {a b : Nat} (ha : a < 4294967296) (hb : b < 4294967296) : a ^^^ b < 4294967296 := Nat.xor_lt_two_pow (n := 32) ha hb
theorem T_lt {s : Nat} (h : s < 4294967296) : T s < 4294967296 := by
  unfold T
  split
  · exact lt_xor (by omega) (by omega)
  · omega
theorem Tn_lt (n : Nat) {s : Nat} (h : s < 4294967296) : Tn n s < 4294967296 := by
  induction n generalizing s with
  | zero => exact h
  | succ n ih => exact ih (T_lt h)
theorem step_lt {v b : Nat} (h : v < 4294967296) (hb : b < 256) : step v b < 4294967296 := Tn_lt 8 (lt_xor h (by omega))
theorem run_lt {v : Nat} (h : v < 4294967296) (l : List Nat) (hl : ∀ x ∈ l, x < 256) : run v l < 4294967296 := by
  induction l generalizing v with
  | nil => exact h
  | cons x l ih => exact ih (step_lt h (hl x (by simp))) fun y hy => hl y (by simp [hy])
theorem more_lt (s : Nat) (l : List Nat) : more s l < 4294967296 := by unfold more; omega

theorem run_nil (v : Nat) : run v [] = v := rfl
theorem run_append (v : Nat) (a b : List Nat) : run v (a ++ b) = run (run v a) b := List.foldl_append
theorem run_snoc (v : Nat) (a : List Nat) (x : Nat) : run v (a ++ [x]) = step (run v a) x := by rw [run_append]; rfl
theorem more_nil {s : Nat} (h : s < 4294967296) : more s [] = s := by unfold more; rw [run_nil]; omega
theorem more_more {s : Nat} (h : s < 4294967296) (a b : List Nat) (ha : ∀ x ∈ a, x < 256) : more (more s a) b = more s (a ++ b) := by
  unfold more
  rw [run_append]
  have := run_lt (v := 4294967295 - s) (by omega) a ha
  congr 2; omega
theorem sum_more (a b : List Nat) (ha : ∀ x ∈ a, x < 256) : more (sum a) b = sum (a ++ b) := more_more (by omega) a b ha
theorem sum_nil : sum [] = 0 := rfl
theorem sum_known : sum [49, 50, 51, 52, 53, 54, 55, 56, 57] = 3808858755 := by decide +kernel

theorem xor_four (a b c d : Nat) : (a ^^^ b) ^^^ (c ^^^ d) = (a ^^^ c) ^^^ (b ^^^ d) := by
  rw [Nat.xor_assoc, Nat.xor_assoc, ← Nat.xor_assoc b c d, Nat.xor_comm b c, Nat.xor_assoc c b d]
theorem T_xor (a b : Nat) : T (a ^^^ b) = T a ^^^ T b := by
  unfold T
  have hd : (a ^^^ b) / 2 = a / 2 ^^^ b / 2 := Nat.xor_div_two
  have hm : (a ^^^ b) % 2 = a % 2 ^^^ b % 2 := Nat.xor_mod_two_pow (n := 1)
  rcases Nat.mod_two_eq_zero_or_one a with ha | ha <;> rcases Nat.mod_two_eq_zero_or_one b with hb | hb <;> rw [ha, hb] at hm <;> simp only [Nat.xor_zero, Nat.zero_xor, Nat.xor_self] at hm
  · rw [if_neg (by omega), if_neg (by omega), if_neg (by omega), hd]
  · rw [if_pos (by omega), if_neg (by omega), if_pos (by omega), hd, Nat.xor_assoc]
  · rw [if_pos (by omega), if_pos (by omega), if_neg (by omega), hd, Nat.xor_assoc, Nat.xor_assoc, Nat.xor_comm (b / 2)]
  · rw [if_neg (by omega), if_pos (by omega), if_pos (by omega), hd, xor_four, Nat.xor_self, Nat.xor_zero]
theorem Tn_xor (n a b : Nat) : Tn n (a ^^^ b) = Tn n a ^^^ Tn n b := by
  induction n generalizing a b with
  | zero => rfl
  | succ n ih => show Tn n (T _) = Tn n (T _) ^^^ Tn n (T _); rw [T_xor, ih]
theorem T_double (s : Nat) : T (2 * s) = s := by unfold T; rw [if_neg (by omega)]; omega
theorem Tn_out4 (s : Nat) : Tn 4 (16 * s) = s := by
  have h1 : 16 * s = 2 * (2 * (2 * (2 * s))) := by omega
  rw [h1]
  show T (T (T (T _))) = s
  simp only [T_double]
theorem Tn_add (m n s : Nat) : Tn (m + n) s = Tn n (Tn m s) := by
  induction m generalizing s with
  | zero => rw [Nat.zero_add]; rfl
  | succ m ih => rw [Nat.succ_add]; exact ih _
theorem Tn_out8 (s : Nat) : Tn 8 (256 * s) = s := by
  rw [show (8 : Nat) = 4 + 4 from rfl, Tn_add, show 256 * s = 16 * (16 * s) by omega, Tn_out4, Tn_out4]
theorem xor_low (q r : Nat) (h : r < 16) : 16 * q ^^^ r = 16 * q + r := by
  apply Nat.eq_of_testBit_eq
  intro i
  have e := Nat.testBit_two_pow_mul_add q (i := 4) (b := r) h i
  have e2 := Nat.testBit_two_pow_mul (i := 4) (a := q) (j := i)
  rw [show (2 : Nat) ^ 4 = 16 from rfl] at e e2
  rw [Nat.testBit_xor, e, e2]
  by_cases hi : i < 4
  · simp [hi, show ¬ 4 ≤ i by omega]
  · have : r.testBit i = false := Nat.testBit_lt_two_pow (Nat.lt_of_lt_of_le h (Nat.pow_le_pow_right (n := 2) (by decide) (by omega : 4 ≤ i)))
    simp [hi, this, show 4 ≤ i by omega]
/-- Four bits at a time: what falls out is looked up. -/
theorem Tn4 (s : Nat) : Tn 4 s = s / 16 ^^^ Tn 4 (s % 16) := by
  have h : s = 16 * (s / 16) ^^^ s % 16 := by rw [xor_low _ _ (by omega)]; omega
  conv => lhs; rw [h]
  rw [Tn_xor, Tn_out4]
theorem step_two (v b : Nat) : step v b = Tn 4 (Tn 4 (v ^^^ b)) := rfl

theorem eq_of_xor {a b : Nat} (h : a ^^^ b = 0) : a = b := by
  have : a ^^^ b ^^^ b = 0 ^^^ b := by rw [h]
  rw [Nat.xor_assoc, Nat.xor_self, Nat.xor_zero, Nat.zero_xor] at this
  exact this
theorem T_zero {s : Nat} (h : s < 4294967296) (h0 : T s = 0) : s = 0 := by
  unfold T at h0
  split at h0
  · have := eq_of_xor h0; omega
  · omega
theorem Tn_zero (n : Nat) {s : Nat} (h : s < 4294967296) (h0 : Tn n s = 0) : s = 0 := by
  induction n generalizing s with
  | zero => exact h0
  | succ n ih => exact T_zero h (ih (T_lt h) h0)
theorem Tn_inj (n : Nat) {a b : Nat} (ha : a < 4294967296) (hb : b < 4294967296) (h : Tn n a = Tn n b) : a = b :=
  eq_of_xor (Tn_zero n (lt_xor ha hb) (by rw [Tn_xor, h, Nat.xor_self]))
theorem xor_left {a b c : Nat} (h : a ^^^ b = a ^^^ c) : b = c := by
  have : a ^^^ (a ^^^ b) = a ^^^ (a ^^^ c) := by rw [h]
  rwa [← Nat.xor_assoc, ← Nat.xor_assoc, Nat.xor_self, Nat.zero_xor, Nat.zero_xor] at this
theorem step_inj {u v b : Nat} (hu : u < 4294967296) (hv : v < 4294967296) (hb : b < 256) (h : step u b = step v b) : u = v := by
  have := Tn_inj 8 (lt_xor hu (by omega)) (lt_xor hv (by omega)) h
  rw [Nat.xor_comm u, Nat.xor_comm v] at this
  exact xor_left this
theorem run_inj {u v : Nat} (hu : u < 4294967296) (hv : v < 4294967296) (l : List Nat) (hl : ∀ x ∈ l, x < 256) (h : run u l = run v l) : u = v := by
  induction l generalizing u v with
  | nil => exact h
  | cons x l ih =>
    have hx := hl x (by simp)
    exact step_inj hu hv hx (ih (step_lt hu hx) (step_lt hv hx) (fun y hy => hl y (by simp [hy])) h)
/-- What is exclusive or'd in comes out by itself. -/
theorem step_xor (v d b e : Nat) : step (v ^^^ d) (b ^^^ e) = step v b ^^^ step d e := by
  unfold step; rw [xor_four, Tn_xor]
theorem back {a b : Nat} (ha : a < 4294967296) (hb : b < 16777216) (h : Tn 8 a = b) : a = 256 * b :=
  Tn_inj 8 ha (by omega) (by rw [h, Tn_out8])
theorem undo {a b c : Nat} (h : a ^^^ b = c) : a = b ^^^ c := by
  rw [← h, Nat.xor_comm a b, ← Nat.xor_assoc, Nat.xor_self, Nat.zero_xor]
/-- Four bytes that are exclusive or'd in come out again, unless they are 0. -/
theorem four_zero {e0 e1 e2 e3 : Nat} (h0 : e0 < 256) (h1 : e1 < 256) (h2 : e2 < 256) (h3 : e3 < 256) (h : run 0 [e0, e1, e2, e3] = 0) : e0 = 0 ∧ e1 = 0 ∧ e2 = 0 ∧ e3 = 0 := by
  have L1 : step 0 e0 < 4294967296 := step_lt (by omega) h0
  have L2 : step (step 0 e0) e1 < 4294967296 := step_lt L1 h1
  have L3 : step (step (step 0 e0) e1) e2 < 4294967296 := step_lt L2 h2
  have a3 : step (step (step 0 e0) e1) e2 = e3 := eq_of_xor (Tn_zero 8 (lt_xor L3 (by omega)) h)
  have a2 : step (step 0 e0) e1 = e2 ^^^ 256 * e3 := undo (back (lt_xor L2 (by omega)) (by omega) a3)
  have b2 : e2 ^^^ 256 * e3 < 65536 := Nat.xor_lt_two_pow (n := 16) (by omega) (by omega)
  have a1 : step 0 e0 = e1 ^^^ 256 * (e2 ^^^ 256 * e3) := undo (back (lt_xor L1 (by omega)) (by omega) a2)
  have b1 : e1 ^^^ 256 * (e2 ^^^ 256 * e3) < 16777216 := Nat.xor_lt_two_pow (n := 24) (by omega) (by omega)
  have a0 : 0 ^^^ e0 = 256 * (e1 ^^^ 256 * (e2 ^^^ 256 * e3)) := back (lt_xor (by omega) (by omega)) (by omega) a1
  rw [Nat.zero_xor] at a0
  have z1 : e1 ^^^ 256 * (e2 ^^^ 256 * e3) = 0 := by omega
  have q1 := eq_of_xor z1
  have z2 : e2 ^^^ 256 * e3 = 0 := by omega
  have q2 := eq_of_xor z2
  omega
/-- Bits that are turned within four bytes that stand together: another sum. -/
theorem turned {v : Nat} (hv : v < 4294967296) (p q : List Nat) (hp : ∀ x ∈ p, x < 256) (hq : ∀ x ∈ q, x < 256) {x0 x1 x2 x3 e0 e1 e2 e3 : Nat}
    (hx0 : x0 < 256) (hx1 : x1 < 256) (hx2 : x2 < 256) (hx3 : x3 < 256) (h0 : e0 < 256) (h1 : e1 < 256) (h2 : e2 < 256) (h3 : e3 < 256) :
    run v (p ++ [x0 ^^^ e0, x1 ^^^ e1, x2 ^^^ e2, x3 ^^^ e3] ++ q) = run v (p ++ [x0, x1, x2, x3] ++ q) ↔ (e0 = 0 ∧ e1 = 0 ∧ e2 = 0 ∧ e3 = 0) := by
  have hxor : ∀ {a b : Nat}, a < 256 → b < 256 → a ^^^ b < 256 := fun ha hb => Nat.xor_lt_two_pow (n := 8) ha hb
  constructor
  · intro h
    rw [run_append, run_append, run_append, run_append] at h
    have hV := run_lt hv p hp
    generalize run v p = V at h hV
    have hb : ∀ x ∈ [x0 ^^^ e0, x1 ^^^ e1, x2 ^^^ e2, x3 ^^^ e3], x < 256 := by
      intro x hx
      simp only [List.mem_cons, List.not_mem_nil, or_false] at hx
      rcases hx with rfl | rfl | rfl | rfl
      · exact hxor hx0 h0
      · exact hxor hx1 h1
      · exact hxor hx2 h2
      · exact hxor hx3 h3
    have hc : ∀ x ∈ [x0, x1, x2, x3], x < 256 := by
      intro x hx
      simp only [List.mem_cons, List.not_mem_nil, or_false] at hx
      rcases hx with rfl | rfl | rfl | rfl <;> assumption
    have h' := run_inj (run_lt hV _ hb) (run_lt hV _ hc) q hq h
    have e : run V [x0 ^^^ e0, x1 ^^^ e1, x2 ^^^ e2, x3 ^^^ e3] = run V [x0, x1, x2, x3] ^^^ run 0 [e0, e1, e2, e3] := by
      simp only [run, List.foldl_cons, List.foldl_nil]
      rw [← step_xor, ← step_xor, ← step_xor, ← step_xor, Nat.xor_zero]
    rw [e] at h'
    refine four_zero h0 h1 h2 h3 ?_
    exact xor_left (a := run V [x0, x1, x2, x3]) (by rw [h', Nat.xor_zero])
  · rintro ⟨rfl, rfl, rfl, rfl⟩
    simp only [Nat.xor_zero]

end Go.Proofs.Ytmcldkcmialfeaa.Cr
namespace Go.Proofs.Ytmcldkcmialfeaa.Pg

def fill (l : List Nat) : List Nat := l ++ List.replicate (1016 - l.length) 0
/-- All that stands ahead of the sum. -/
def ahead (no : Nat) (l : List Nat) : List Nat := fill l ++ Nm.be 4 no
def page (no : Nat) (l : List Nat) : List Nat := ahead no l ++ Nm.be 4 (Cr.sum (ahead no l))
/-- The row l is opened at the place no. -/
def Opens (no : Int) (l : List Nat) : Prop := (0 ≤ no ∧ no ≤ 2147483647) ∧ l.length = 1024 ∧ Nm.fromBe (l.drop 1020) = Cr.sum (l.take 1020) ∧ (Nm.fromBe ((l.drop 1016).take 4) : Int) = no
def torn (l : List Nat) : List Nat := l.set (l.length - 1) (l.getD (l.length - 1) 0 ^^^ 255)

theorem fill_len {l : List Nat} (h : l.length ≤ 1016) : (fill l).length = 1016 := by simp [fill]; omega
theorem fill_lt {l : List Nat} (h : ∀ x ∈ l, x < 256) : ∀ x ∈ fill l, x < 256 := by
  intro x hx
  rcases List.mem_append.1 hx with h1 | h1
  · exact h x h1
  · have := List.eq_of_mem_replicate h1; omega
theorem fill_full {l : List Nat} (h : l.length = 1016) : fill l = l := by simp [fill, h]
theorem fill_more (l : List Nat) (k : Nat) (h : l.length + k ≤ 1016) : fill (l ++ List.replicate k 0) = fill l := by
  unfold fill
  rw [List.append_assoc, List.replicate_append_replicate, List.length_append, List.length_replicate]
  congr 2; omega
theorem fill_begin (l : List Nat) : (fill l).take l.length = l := by simp [fill]
theorem ahead_len {l : List Nat} (no : Nat) (h : l.length ≤ 1016) : (ahead no l).length = 1020 := by simp [ahead, fill_len h, Nm.be_len]
theorem ahead_lt {l : List Nat} (no : Nat) (h : ∀ x ∈ l, x < 256) : ∀ x ∈ ahead no l, x < 256 := by
  intro x hx
  rcases List.mem_append.1 hx with h1 | h1
  · exact fill_lt h x h1
  · exact Nm.be_lt _ _ x h1
theorem page_len {l : List Nat} (no : Nat) (h : l.length ≤ 1016) : (page no l).length = 1024 := by simp [page, ahead_len no h, Nm.be_len]
theorem page_lt {l : List Nat} (no : Nat) (h : ∀ x ∈ l, x < 256) : ∀ x ∈ page no l, x < 256 := by
  intro x hx
  rcases List.mem_append.1 hx with h1 | h1
  · exact ahead_lt no h x h1
  · exact Nm.be_lt _ _ x h1
theorem page_fill {l : List Nat} (no : Nat) (h : l.length ≤ 1016) : page no (fill l) = page no l := by
  unfold page ahead
  rw [fill_full (fill_len h)]
theorem page_ahead {l : List Nat} (no : Nat) (h : l.length ≤ 1016) : (page no l).take 1020 = ahead no l := by
  unfold page; rw [List.take_append_of_le_length (by rw [ahead_len no h]; omega), List.take_of_length_le (by rw [ahead_len no h]; omega)]
theorem page_sum {l : List Nat} (no : Nat) (h : l.length ≤ 1016) : (page no l).drop 1020 = Nm.be 4 (Cr.sum (ahead no l)) := by
  unfold page
  rw [List.drop_append_of_le_length (by rw [ahead_len no h]; omega), List.drop_eq_nil_of_le (by rw [ahead_len no h]; omega)]; rfl
theorem page_pay {l : List Nat} (no : Nat) (h : l.length ≤ 1016) : (page no l).take 1016 = fill l := by
  have e := page_ahead no h
  have : (page no l).take 1016 = ((page no l).take 1020).take 1016 := by rw [List.take_take]; rfl
  rw [this, e]; unfold ahead
  rw [List.take_append_of_le_length (by rw [fill_len h]; omega), List.take_of_length_le (by rw [fill_len h]; omega)]
theorem mid_eq (l : List Nat) : (l.drop 1016).take 4 = (l.take 1020).drop 1016 := by rw [List.take_drop]
theorem page_no {l : List Nat} (no : Nat) (h : l.length ≤ 1016) : ((page no l).drop 1016).take 4 = Nm.be 4 no := by
  rw [mid_eq, page_ahead no h]; unfold ahead
  rw [List.drop_append_of_le_length (by rw [fill_len h]; omega), List.drop_eq_nil_of_le (by rw [fill_len h]; omega)]; rfl
theorem four_of (v : Nat) (h : v < 4294967296) : Nm.fromBe (Nm.be 4 v) = v := by
  have e : (256 : Nat) ^ 4 = 4294967296 := by decide
  exact Nm.fromBe_be 4 v (by omega)
theorem foldl_inj (l m : List Nat) (hl : l.length = m.length) (h1 : ∀ x ∈ l, x < 256) (h2 : ∀ x ∈ m, x < 256) (h : Nm.fromBe l = Nm.fromBe m) : l = m := by
  induction l generalizing m with
  | nil => match m, hl with
    | [], _ => rfl
  | cons a r ih =>
    match m, hl with
    | b :: s, hl =>
      have hlen : r.length = s.length := by simpa using hl
      have i1 := Nm.fromBe_lt r fun x hx => h1 x (by simp [hx])
      have i2 := Nm.fromBe_lt s fun x hx => h2 x (by simp [hx])
      rw [Nm.fromBe_cons, Nm.fromBe_cons, hlen] at h
      rw [hlen] at i1
      have hab : a = b := by
        rcases Nat.lt_trichotomy a b with h' | h' | h'
        · have : (a + 1) * 256 ^ s.length ≤ b * 256 ^ s.length := Nat.mul_le_mul_right _ (by omega)
          rw [Nat.add_mul] at this; omega
        · exact h'
        · have : (b + 1) * 256 ^ s.length ≤ a * 256 ^ s.length := Nat.mul_le_mul_right _ (by omega)
          rw [Nat.add_mul] at this; omega
      subst hab
      rw [ih s hlen (fun x hx => h1 x (by simp [hx])) (fun x hx => h2 x (by simp [hx])) (by omega)]
/-- What is opened at a place is the page of that place. -/
theorem opens_page {no : Int} {l : List Nat} (hl : ∀ x ∈ l, x < 256) (h : Opens no l) : l = page no.toNat (l.take 1016) := by
  obtain ⟨h0, h1, h2, h3⟩ := h
  have t1016 : (l.take 1016).length = 1016 := by simp; omega
  have e1 : (l.drop 1016).take 4 = Nm.be 4 no.toNat := by
    refine foldl_inj _ _ (by simp [Nm.be_len]; omega) (fun x hx => hl x (List.mem_of_mem_drop (List.mem_of_mem_take hx))) (Nm.be_lt _ _) ?_
    rw [four_of _ (by omega)]; omega
  have e2 : ahead no.toNat (l.take 1016) = l.take 1020 := by
    unfold ahead
    rw [fill_full t1016, ← e1, mid_eq]
    conv => rhs; rw [← List.take_append_drop 1016 (l.take 1020)]
    rw [List.take_take]; rfl
  have e3 : l.drop 1020 = Nm.be 4 (Cr.sum (l.take 1020)) := by
    have hs : Cr.sum (l.take 1020) < 4294967296 := Cr.more_lt _ _
    refine foldl_inj _ _ (by simp [Nm.be_len]; omega) (fun x hx => hl x (List.mem_of_mem_drop hx)) (Nm.be_lt _ _) ?_
    rw [four_of _ hs]; exact h2
  unfold page
  rw [e2, ← e3, List.take_append_drop]
/-- The page of a place is opened there, and nowhere else. -/
theorem page_opens {l : List Nat} {no : Nat} (h : l.length ≤ 1016) (hno : no ≤ 2147483647) (other : Int) : Opens other (page no l) ↔ other = (no : Int) := by
  unfold Opens
  have hs : Cr.sum (ahead no l) < 4294967296 := Cr.more_lt _ _
  rw [page_len no h, page_sum no h, page_ahead no h, page_no no h, four_of _ hs, four_of _ (by omega)]
  constructor
  · rintro ⟨_, _, _, h4⟩; exact h4.symm
  · rintro rfl; exact ⟨by omega, rfl, rfl, rfl⟩
theorem opens_iff {no : Int} {l : List Nat} (hl : ∀ x ∈ l, x < 256) (hn : l.length = 1024) : Opens no l ↔ (0 ≤ no ∧ no ≤ 2147483647) ∧ page no.toNat (l.take 1016) = l := by
  constructor
  · intro h; exact ⟨h.1, (opens_page hl h).symm⟩
  · rintro ⟨h0, h1⟩
    rw [← h1]
    exact (page_opens (by simp; omega) (by omega) no).2 (by omega)
/-- Two rows that are opened at one place, and say the same, are the same. -/
theorem opens_same {no : Int} {l m : List Nat} (hl : ∀ x ∈ l, x < 256) (hm : ∀ x ∈ m, x < 256) (h1 : Opens no l) (h2 : Opens no m) (h : l.take 1016 = m.take 1016) : l = m := by
  rw [opens_page hl h1, opens_page hm h2, h]
theorem torn_len (l : List Nat) : (torn l).length = l.length := by simp [torn]
theorem xor_byte_lt {x : Nat} (h : x < 256) : x ^^^ 255 < 256 := Nat.xor_lt_two_pow (n := 8) h (by decide)
theorem torn_lt {l : List Nat} (h : ∀ x ∈ l, x < 256) : ∀ x ∈ torn l, x < 256 := by
  intro x hx
  rcases List.mem_or_eq_of_mem_set hx with h1 | h1
  · exact h x h1
  · subst h1
    refine xor_byte_lt ?_
    rw [List.getD_eq_getElem?_getD]
    cases hc : l[l.length - 1]? with
    | none => simp
    | some y => exact h y (List.mem_of_getElem? hc)
theorem torn_ne {l : List Nat} (h : 0 < l.length) : torn l ≠ l := by
  intro e
  have h1 : (torn l)[l.length - 1]? = l[l.length - 1]? := by rw [e]
  unfold torn at h1
  rw [List.getElem?_set_self (by omega), List.getD_eq_getElem?_getD, List.getElem?_eq_getElem (by omega), Option.getD_some] at h1
  injection h1 with h1
  have h2 : l[l.length - 1] ^^^ (l[l.length - 1] ^^^ 255) = l[l.length - 1] ^^^ l[l.length - 1] := by rw [h1]
  rw [← Nat.xor_assoc, Nat.xor_self, Nat.zero_xor] at h2
  exact absurd h2 (by decide)
theorem torn_shut {no : Int} {l : List Nat} (hl : ∀ x ∈ l, x < 256) (h : Opens no l) : ¬ Opens no (torn l) := by
  intro h2
  refine torn_ne (by have := h.2.1; omega) (opens_same (torn_lt hl) hl h2 h ?_)
  unfold torn
  rw [List.take_set, List.set_eq_of_length_le (by simp; have := h.2.1; omega)]

end Go.Proofs.Ytmcldkcmialfeaa.Pg
namespace Go.Proofs.Ytmcldkcmialfeaa.Dk

structure Pd where
  pages : List (List Nat)
  waits : List (Nat × List Nat)
  left : Nat
  down : Bool

/-- One more act, the power being there. -/
def act (d : Pd) : Pd := if d.left = 0 then d else { d with left := d.left - 1, down := decide (d.left = 1) }
def code (d : Pd) : Int := if d.down then 3 else 0
/-- One write more waits. -/
def push (d : Pd) (no : Nat) (l : List Nat) : Pd := { d with waits := d.waits ++ [(no, l)] }
/-- The pages behind the first k writes that wait. -/
def stTo (d : Pd) : Nat → List (List Nat)
  | 0 => d.pages
  | k + 1 => match d.waits[k]? with
    | some x => (stTo d k).set x.1 x.2
    | none => stTo d k
def settled (d : Pd) : Pd := { d with pages := stTo d d.waits.length, waits := [] }
def kept (keep : List Bool) (k : Nat) : Bool := keep.getD k false
/-- What survives of a write. -/
def left_ (torn : Int) (k : Nat) (l : List Nat) : List Nat := if (k : Int) = torn then Pg.torn l else l
/-- The pages behind the first k writes, of which some survive. -/
def crTo (d : Pd) (keep : List Bool) (torn : Int) : Nat → List (List Nat)
  | 0 => d.pages
  | k + 1 => match d.waits[k]? with
    | some x => if kept keep k then (crTo d keep torn k).set x.1 (left_ torn k x.2) else crTo d keep torn k
    | none => crTo d keep torn k
def crashed (d : Pd) (keep : List Bool) (torn : Int) : Pd := { pages := crTo d keep torn d.waits.length, waits := [], left := 0, down := false }
/-- The page no, as seen behind the first k writes. -/
def seenTo (d : Pd) (no : Nat) : Nat → List Nat
  | 0 => d.pages.getD no []
  | k + 1 => match d.waits[k]? with
    | some x => if x.1 = no then x.2 else seenTo d no k
    | none => seenTo d no k
def seen (d : Pd) (no : Nat) : List Nat := seenTo d no d.waits.length
def armed (d : Pd) (n : Nat) : Pd := { d with left := n }
def fresh (n : Nat) : Pd := { pages := List.replicate n (List.replicate 1024 0), waits := [], left := 0, down := false }
/-- Is there such a page? -/
def has (d : Pd) (no : Int) : Prop := 0 ≤ no ∧ no < (d.pages.length : Int)
instance (d : Pd) (no : Int) : Decidable (has d no) := inferInstanceAs (Decidable (_ ∧ _))

/-- A write, whole. -/
def write (d : Pd) (no : Int) (l : List Nat) : Pd := if has d no ∧ l.length = 1024 then (if d.down then d else act (push d no.toNat l)) else d
def writeCode (d : Pd) (no : Int) (l : List Nat) : Int := if has d no ∧ l.length = 1024 then (if d.down then 3 else code (act (push d no.toNat l))) else 1
/-- A sync, whole. -/
def sync (d : Pd) : Pd := if d.down then d else if (act d).down then act d else settled (act d)
def syncCode (d : Pd) : Int := if d.down then 3 else if (act d).down then 3 else 0

theorem act_pages (d : Pd) : (act d).pages = d.pages := by unfold act; split <;> rfl
theorem act_waits (d : Pd) : (act d).waits = d.waits := by unfold act; split <;> rfl
theorem act_left (d : Pd) : (act d).left ≤ d.left := by unfold act; split <;> simp
theorem stTo_len (d : Pd) : ∀ k, (stTo d k).length = d.pages.length
  | 0 => rfl
  | k + 1 => by
    unfold stTo
    split
    · rw [List.length_set, stTo_len d k]
    · exact stTo_len d k
theorem crTo_len (d : Pd) (keep : List Bool) (torn : Int) : ∀ k, (crTo d keep torn k).length = d.pages.length
  | 0 => rfl
  | k + 1 => by
    unfold crTo
    split
    · split
      · rw [List.length_set, crTo_len d keep torn k]
      · exact crTo_len d keep torn k
    · exact crTo_len d keep torn k
theorem cr_stay {d : Pd} {keep : List Bool} {torn : Int} {k : Nat} (hk : kept keep k = false) : crTo d keep torn (k + 1) = crTo d keep torn k := by
  rw [crTo]; split <;> simp [hk]
theorem crTo_far (d : Pd) (keep : List Bool) (torn : Int) : ∀ j, crTo d keep torn (keep.length + j) = crTo d keep torn keep.length
  | 0 => rfl
  | j + 1 => by
    have : kept keep (keep.length + j) = false := by unfold kept; rw [List.getD_eq_getElem?_getD, List.getElem?_eq_none (by omega)]; rfl
    rw [← Nat.add_assoc, cr_stay this, crTo_far d keep torn j]
theorem crTo_min (d : Pd) (keep : List Bool) (torn : Int) : crTo d keep torn (min d.waits.length keep.length) = crTo d keep torn d.waits.length := by
  rcases Nat.le_total d.waits.length keep.length with h | h
  · rw [Nat.min_eq_left h]
  · rw [Nat.min_eq_right h]
    have := crTo_far d keep torn (d.waits.length - keep.length)
    rw [← this]; congr 1; omega
theorem crTo_nil (d : Pd) (torn : Int) (k : Nat) : crTo d [] torn k = d.pages := by
  have := crTo_far d [] torn k
  simpa [crTo] using this
theorem st_step {d : Pd} {k : Nat} {x : Nat × List Nat} (h : d.waits[k]? = some x) : stTo d (k + 1) = (stTo d k).set x.1 x.2 := by
  rw [stTo, h]
theorem cr_step {d : Pd} {keep : List Bool} {torn : Int} {k : Nat} {x : Nat × List Nat} (h : d.waits[k]? = some x) (hk : kept keep k = true) : crTo d keep torn (k + 1) = (crTo d keep torn k).set x.1 (left_ torn k x.2) := by
  rw [crTo, h]; simp [hk]
theorem seen_step {d : Pd} {no k : Nat} {x : Nat × List Nat} (h : d.waits[k]? = some x) : seenTo d no (k + 1) = if x.1 = no then x.2 else seenTo d no k := by
  rw [seenTo, h]
/-- What is seen is what is safe behind a sync. -/
theorem st_seen (d : Pd) (hw : ∀ x ∈ d.waits, x.1 < d.pages.length) (no : Nat) : ∀ k, (stTo d k).getD no [] = seenTo d no k
  | 0 => rfl
  | k + 1 => by
    have ih := st_seen d hw no k
    unfold stTo seenTo
    split
    · rename_i x hx
      have hlt := hw x (List.mem_of_getElem? hx)
      rw [List.getD_eq_getElem?_getD, List.getElem?_set, stTo_len]
      by_cases he : x.1 = no
      · subst he; simp [hlt]
      · rw [if_neg he, if_neg he, ← List.getD_eq_getElem?_getD, ih]
    · exact ih
theorem seenTo_push (d : Pd) (no : Nat) (l : List Nat) (q : Nat) : ∀ k, k ≤ d.waits.length → seenTo (push d no l) q k = seenTo d q k
  | 0, _ => rfl
  | k + 1, h => by
    unfold seenTo
    have : (push d no l).waits[k]? = d.waits[k]? := by unfold push; simp only []; rw [List.getElem?_append_left (by omega)]
    rw [this]
    rw [seenTo_push d no l q k (by omega)]
theorem seen_push (d : Pd) (no : Nat) (l : List Nat) (q : Nat) : seen (push d no l) q = if no = q then l else seen d q := by
  unfold seen
  have hl : (push d no l).waits.length = d.waits.length + 1 := by simp [push]
  rw [hl, seen_step (x := (no, l)) (by simp [push]), seenTo_push d no l q _ (Nat.le_refl _)]
theorem seen_none (d : Pd) (no : Nat) (h : d.waits.any (fun x => x.1 == no) = false) : ∀ k, seenTo d no k = d.pages.getD no []
  | 0 => rfl
  | k + 1 => by
    unfold seenTo
    split
    · rename_i x hx
      have := List.any_eq_false.1 h x (List.mem_of_getElem? hx)
      rw [if_neg (by simpa using this)]
      exact seen_none d no h k
    · exact seen_none d no h k
theorem seen_eq {d e : Pd} (hp : d.pages = e.pages) (hw : d.waits = e.waits) (no : Nat) : seen d no = seen e no := by
  have : ∀ k, seenTo d no k = seenTo e no k := by
    intro k
    induction k with
    | zero => simp [seenTo, hp]
    | succ k ih => unfold seenTo; rw [hw, ih]
  unfold seen
  rw [hw, this]
theorem seen_act (d : Pd) (no : Nat) : seen (act d) no = seen d no := seen_eq (act_pages d) (act_waits d) no

end Go.Proofs.Ytmcldkcmialfeaa.Dk
namespace Go.Proofs.Ytmcldkcmialfeaa.Pr
set_option linter.unusedVariables false

/-- A page's number, and what goes with it. -/
abbrev F (α : Type) := Int × α
section
variable {α : Type}
/-- The pages rise. -/
def Rises (l : List (F α)) : Prop := l.Pairwise fun a b => a.1 < b.1
/-- How many stand ahead of no. -/
def pos (l : List (F α)) (no : Int) : Nat := (l.takeWhile fun f => decide (f.1 < no)).length
def look (l : List (F α)) (no : Int) : Option α := (l.find? fun f => f.1 == no).map (·.2)
def ins (l : List (F α)) (no : Int) (g : α) : List (F α) := l.take (pos l no) ++ (no, g) :: l.drop (pos l no)
def cut (l : List (F α)) (i : Nat) : List (F α) := l.take i ++ l.drop (i + 1)

theorem pos_le (l : List (F α)) (no : Int) : pos l no ≤ l.length := by
  unfold pos
  have h := congrArg List.length (List.takeWhile_append_dropWhile (p := fun f : F α => decide (f.1 < no)) (l := l))
  rw [List.length_append] at h
  omega
theorem take_pos (l : List (F α)) (no : Int) : l.take (pos l no) = l.takeWhile fun f => decide (f.1 < no) := by
  unfold pos
  conv => lhs; rw [← List.takeWhile_append_dropWhile (p := fun f : F α => decide (f.1 < no)) (l := l)]
  rw [List.takeWhile_append_dropWhile]
  have : l.take (l.takeWhile fun f => decide (f.1 < no)).length = ((l.takeWhile fun f => decide (f.1 < no)) ++ (l.dropWhile fun f => decide (f.1 < no))).take (l.takeWhile fun f => decide (f.1 < no)).length := by rw [List.takeWhile_append_dropWhile]
  rw [this, List.take_left]
theorem drop_pos (l : List (F α)) (no : Int) : l.drop (pos l no) = l.dropWhile fun f => decide (f.1 < no) := by
  unfold pos
  have : l.drop (l.takeWhile fun f => decide (f.1 < no)).length = ((l.takeWhile fun f => decide (f.1 < no)) ++ (l.dropWhile fun f => decide (f.1 < no))).drop (l.takeWhile fun f => decide (f.1 < no)).length := by rw [List.takeWhile_append_dropWhile]
  rw [this, List.drop_left]
theorem mem_takeWhile {β : Type} {p : β → Bool} : ∀ {l : List β} {x : β}, x ∈ l.takeWhile p → p x = true
  | [], _, h => by simp at h
  | a :: r, x, h => by
    rw [List.takeWhile_cons] at h
    split at h
    · rename_i hp
      rcases List.mem_cons.1 h with rfl | h
      · exact hp
      · exact mem_takeWhile h
    · simp at h
theorem ahead_lt {l : List (F α)} {no : Int} {f : F α} (h : f ∈ l.take (pos l no)) : f.1 < no := by
  rw [take_pos] at h
  simpa using mem_takeWhile h
/-- What stands at the place of no, and behind, isn't less. -/
theorem behind_le {l : List (F α)} (hr : Rises l) {no : Int} {f : F α} (h : f ∈ l.drop (pos l no)) : no ≤ f.1 := by
  rw [drop_pos] at h
  induction l with
  | nil => simp at h
  | cons a r ih =>
    rw [List.dropWhile_cons] at h
    have hr' := List.pairwise_cons.1 hr
    split at h
    · exact ih hr'.2 h
    · rename_i hn
      have : ¬ a.1 < no := by simpa using hn
      rcases List.mem_cons.1 h with rfl | h
      · omega
      · have := hr'.1 f h; omega
/-- Whether no is freed is told by what stands at its place. -/
theorem at_pos {l : List (F α)} (hr : Rises l) (no : Int) : (∃ f, l[pos l no]? = some f ∧ f.1 = no) ↔ ∃ f ∈ l, f.1 = no := by
  constructor
  · rintro ⟨f, hf, e⟩; exact ⟨f, List.mem_of_getElem? hf, e⟩
  · rintro ⟨f, hf, e⟩
    have hl : l = l.take (pos l no) ++ l.drop (pos l no) := (List.take_append_drop _ _).symm
    rw [hl] at hf
    rcases List.mem_append.1 hf with h | h
    · have := ahead_lt h; omega
    · cases hd : l.drop (pos l no) with
      | nil => rw [hd] at h; simp at h
      | cons a r =>
        have ha : l[pos l no]? = some a := by
          have : (l.drop (pos l no))[0]? = some a := by rw [hd]; rfl
          rwa [List.getElem?_drop, Nat.add_zero] at this
        refine ⟨a, ha, ?_⟩
        have h1 := behind_le hr (no := no) (f := a) (by rw [hd]; simp)
        rw [hd] at h
        rcases List.mem_cons.1 h with h | h
        · rw [← h, e]
        · have hp : (a :: r).Pairwise fun a b : F α => a.1 < b.1 := by
            rw [← hd]; exact hr.sublist (List.drop_sublist _ _)
          have := (List.pairwise_cons.1 hp).1 f h
          omega
theorem look_none {l : List (F α)} {no : Int} : look l no = none ↔ ¬ ∃ f ∈ l, f.1 = no := by
  unfold look
  rw [Option.map_eq_none_iff, List.find?_eq_none]
  constructor
  · rintro h ⟨f, hf, e⟩; exact absurd (by simpa using e) (h f hf)
  · intro h f hf e
    exact h ⟨f, hf, by simpa using e⟩
theorem look_mem {l : List (F α)} {no : Int} {g : α} (h : look l no = some g) : (no, g) ∈ l := by
  unfold look at h
  rw [Option.map_eq_some_iff] at h
  obtain ⟨f, hf, e⟩ := h
  have h1 := List.mem_of_find?_eq_some hf
  have h2 := List.find?_some hf
  obtain ⟨a, b⟩ := f
  simp at h2 e
  subst h2 e
  exact h1
theorem rises_inj {l : List (F α)} (hr : Rises l) {f g : F α} (hf : f ∈ l) (hg : g ∈ l) (h : f.1 = g.1) : f = g := by
  induction l with
  | nil => simp at hf
  | cons a r ih =>
    have hr' := List.pairwise_cons.1 hr
    rcases List.mem_cons.1 hf with rfl | hf'
    · rcases List.mem_cons.1 hg with rfl | hg'
      · rfl
      · have := hr'.1 g hg'; omega
    · rcases List.mem_cons.1 hg with rfl | hg'
      · have := hr'.1 f hf'; omega
      · exact ih hr'.2 hf' hg'
theorem look_iff {l : List (F α)} (hr : Rises l) {no : Int} {g : α} : look l no = some g ↔ (no, g) ∈ l := by
  refine ⟨look_mem, fun h => ?_⟩
  cases hl : look l no with
  | none => exact absurd ⟨_, h, rfl⟩ (look_none.1 hl)
  | some g' =>
    have := rises_inj hr h (look_mem hl) rfl
    simp at this
    rw [this]
theorem ins_mem {l : List (F α)} {no : Int} {g : α} {f : F α} : f ∈ ins l no g ↔ f = (no, g) ∨ f ∈ l := by
  unfold ins
  rw [List.mem_append, List.mem_cons]
  conv => rhs; rw [← List.take_append_drop (pos l no) l]
  rw [List.mem_append]
  constructor
  · rintro (h | h | h)
    · exact .inr (.inl h)
    · exact .inl h
    · exact .inr (.inr h)
  · rintro (h | h | h)
    · exact .inr (.inl h)
    · exact .inl h
    · exact .inr (.inr h)
theorem ins_rises {l : List (F α)} (hr : Rises l) {no : Int} {g : α} (hn : ¬ ∃ f ∈ l, f.1 = no) : Rises (ins l no g) := by
  unfold ins Rises
  have ht : Rises (l.take (pos l no)) := hr.sublist (List.take_sublist _ _)
  have hd : Rises (l.drop (pos l no)) := hr.sublist (List.drop_sublist _ _)
  refine List.pairwise_append.2 ⟨ht, List.pairwise_cons.2 ⟨fun f hf => ?_, hd⟩, fun a ha b hb => ?_⟩
  · have h1 := behind_le hr hf
    have h2 : f.1 ≠ no := fun e => hn ⟨f, List.mem_of_mem_drop hf, e⟩
    show no < f.1
    omega
  · have h1 := ahead_lt ha
    rcases List.mem_cons.1 hb with rfl | hb
    · exact h1
    · have := behind_le hr hb; omega
theorem ins_len (l : List (F α)) (no : Int) (g : α) : (ins l no g).length = l.length + 1 := by
  unfold ins
  have := pos_le l no
  rw [List.length_append, List.length_cons, List.length_take, List.length_drop]
  omega
theorem look_ins {l : List (F α)} (hr : Rises l) {no : Int} {g : α} (hn : ¬ ∃ f ∈ l, f.1 = no) (k : Int) : look (ins l no g) k = if k = no then some g else look l k := by
  have hi := ins_rises hr (g := g) hn
  by_cases hk : k = no
  · rw [if_pos hk, hk]
    exact (look_iff hi).2 (ins_mem.2 (.inl rfl))
  · rw [if_neg hk]
    cases hl : look l k with
    | none =>
      rw [look_none] at hl ⊢
      rintro ⟨f, hf, e⟩
      rcases ins_mem.1 hf with rfl | hf
      · exact hk e.symm
      · exact hl ⟨f, hf, e⟩
    | some g' => exact (look_iff hi).2 (ins_mem.2 (.inr (look_mem hl)))
theorem cut_rises {l : List (F α)} (hr : Rises l) (i : Nat) : Rises (cut l i) := by
  unfold cut
  have h : (l.take i ++ l.drop (i + 1)).Sublist l := by
    conv => rhs; rw [← List.take_append_drop i l]
    refine List.Sublist.append (List.Sublist.refl _) ?_
    rw [← List.drop_drop]
    exact List.drop_sublist _ _
  exact hr.sublist h
theorem cut_len {l : List (F α)} {i : Nat} (h : i < l.length) : (cut l i).length = l.length - 1 := by
  unfold cut
  rw [List.length_append, List.length_take, List.length_drop]
  omega
theorem cut_mem {l : List (F α)} (hr : Rises l) {i : Nat} {x : F α} (hx : l[i]? = some x) {f : F α} : f ∈ cut l i ↔ f ∈ l ∧ f.1 ≠ x.1 := by
  have hi : i < l.length := (List.getElem?_eq_some_iff.1 hx).1
  have hd : l.drop i = x :: l.drop (i + 1) := by
    rw [List.drop_eq_getElem_cons hi]
    congr 1
    exact (List.getElem?_eq_some_iff.1 hx).2
  have hl : l = l.take i ++ x :: l.drop (i + 1) := by rw [← hd, List.take_append_drop]
  have hp : (l.take i ++ x :: l.drop (i + 1)).Pairwise fun a b : F α => a.1 < b.1 := by rw [← hl]; exact hr
  obtain ⟨_, p2, p3⟩ := List.pairwise_append.1 hp
  have p2' := List.pairwise_cons.1 p2
  unfold cut
  rw [List.mem_append]
  constructor
  · rintro (h | h)
    · exact ⟨List.mem_of_mem_take h, by have := p3 f h x (by simp); omega⟩
    · exact ⟨List.mem_of_mem_drop h, by have := p2'.1 f h; omega⟩
  · rintro ⟨h, hne⟩
    rw [hl] at h
    rcases List.mem_append.1 h with h | h
    · exact .inl h
    · rcases List.mem_cons.1 h with rfl | h
      · exact absurd rfl hne
      · exact .inr h
theorem look_cut {l : List (F α)} (hr : Rises l) {i : Nat} {x : F α} (hx : l[i]? = some x) (k : Int) : look (cut l i) k = if k = x.1 then none else look l k := by
  have hc := cut_rises hr i
  by_cases hk : k = x.1
  · rw [if_pos hk, look_none]
    rintro ⟨f, hf, e⟩
    exact ((cut_mem hr hx).1 hf).2 (by rw [e, hk])
  · rw [if_neg hk]
    cases hl : look l k with
    | none =>
      rw [look_none] at hl ⊢
      rintro ⟨f, hf, e⟩
      exact hl ⟨f, ((cut_mem hr hx).1 hf).1, e⟩
    | some g => exact (look_iff hc).2 ((cut_mem hr hx).2 ⟨look_mem hl, hk⟩)
/-- Two lists that rise are the same where they are looked up the same. -/
theorem look_ext {l m : List (F α)} (hl : Rises l) (hm : Rises m) (h : ∀ k, look l k = look m k) : l = m := by
  have hmem : ∀ f : F α, f ∈ l ↔ f ∈ m := by
    rintro ⟨a, b⟩
    rw [← look_iff hl, ← look_iff hm, h]
  clear h
  induction l generalizing m with
  | nil =>
    cases m with
    | nil => rfl
    | cons b s => exact absurd ((hmem b).2 (by simp)) (by simp)
  | cons a r ih =>
    cases m with
    | nil => exact absurd ((hmem a).1 (by simp)) (by simp)
    | cons b s =>
      have hl' := List.pairwise_cons.1 hl
      have hm' := List.pairwise_cons.1 hm
      have e : a = b := by
        rcases List.mem_cons.1 ((hmem a).1 (by simp)) with h | h
        · exact h
        · rcases List.mem_cons.1 ((hmem b).2 (by simp)) with h' | h'
          · exact h'.symm
          · have h1 := hm'.1 a h
            have h2 := hl'.1 b h'
            omega
      subst e
      congr 1
      refine ih hl'.2 hm'.2 fun f => ⟨fun h => ?_, fun h => ?_⟩
      · rcases List.mem_cons.1 ((hmem f).1 (by simp [h])) with e | h'
        · have := hl'.1 f h; rw [e] at this; omega
        · exact h'
      · rcases List.mem_cons.1 ((hmem f).2 (by simp [h])) with e | h'
        · have := hm'.1 f h; rw [e] at this; omega
        · exact h'


/-- The page at place i says another thing. -/
theorem set_rises {l : List (F α)} (hr : Rises l) {i : Nat} {x : F α} (hx : l[i]? = some x) (g : α) : Rises (l.set i (x.1, g)) := by
  have hi := (List.getElem?_eq_some_iff.1 hx).1
  have e : (l.set i (x.1, g)).map Prod.fst = l.map Prod.fst := by
    rw [List.map_set]
    apply List.ext_getElem?
    intro j
    rw [List.getElem?_set]
    by_cases h : i = j
    · subst h
      rw [if_pos rfl, List.length_map, if_pos hi, List.getElem?_map, hx]
      rfl
    · rw [if_neg h]
  have h2 : (l.map Prod.fst).Pairwise (· < ·) := List.pairwise_map.2 hr
  rw [← e] at h2
  exact List.pairwise_map.1 h2
theorem set_keys {l : List (F α)} {i : Nat} {x : F α} (hx : l[i]? = some x) (g : α) : (l.set i (x.1, g)).map Prod.fst = l.map Prod.fst := by
  have hi := (List.getElem?_eq_some_iff.1 hx).1
  rw [List.map_set]
  apply List.ext_getElem?
  intro j
  rw [List.getElem?_set]
  by_cases h : i = j
  · subst h
    rw [if_pos rfl, List.length_map, if_pos hi, List.getElem?_map, hx]
    rfl
  · rw [if_neg h]
theorem look_set {l : List (F α)} (hr : Rises l) {i : Nat} {x : F α} (hx : l[i]? = some x) (g : α) (k : Int) : look (l.set i (x.1, g)) k = if k = x.1 then some g else look l k := by
  have hi := (List.getElem?_eq_some_iff.1 hx).1
  have hs := set_rises hr hx g
  by_cases hk : k = x.1
  · rw [if_pos hk, look_iff hs, hk]
    exact List.mem_iff_getElem?.2 ⟨i, by rw [List.getElem?_set, if_pos rfl, if_pos hi]⟩
  · rw [if_neg hk]
    apply Option.ext
    intro v
    rw [look_iff hs, look_iff hr, List.mem_iff_getElem?, List.mem_iff_getElem?]
    constructor
    · rintro ⟨j, hj⟩
      rw [List.getElem?_set] at hj
      split at hj
      · simp only [Option.some.injEq, Prod.mk.injEq] at hj
        exact absurd hj.1.symm hk
      · exact ⟨j, hj⟩
    · rintro ⟨j, hj⟩
      refine ⟨j, ?_⟩
      rw [List.getElem?_set]
      split
      · rename_i h; subst h; rw [hx] at hj; injection hj with hj; rw [hj] at hk; exact absurd rfl hk
      · exact hj
end
/-! A value cut for a chain: the last part begins at a multiple of 1010. -/
def lastFrom (n : Nat) : Nat := (n - 1) / 1010 * 1010
def many (n : Nat) : Nat := (n + 1009) / 1010
theorem many_last {n : Nat} (h : 0 < n) : lastFrom n = (many n - 1) * 1010 := by
  unfold lastFrom many
  have : (n + 1009) / 1010 - 1 = (n - 1) / 1010 := by omega
  rw [this]
/-- The part that begins at from. -/
def part (v : List Nat) (from_ : Nat) : List Nat := (v.drop from_).take 1010
theorem part_len {v : List Nat} {a : Nat} : (part v a).length = min 1010 (v.length - a) := by unfold part; rw [List.length_take, List.length_drop]
theorem part_drop (v : List Nat) (a : Nat) : part v a ++ v.drop (a + 1010) = v.drop a := by unfold part; rw [← List.drop_drop, List.take_append_drop]
end Go.Proofs.Ytmcldkcmialfeaa.Pr
namespace Go.Proofs.Ytmcldkcmialfeaa.Mt
open Nm

structure M where
  gen : Nat
  high : Int
  root : Int
  free : Int

/-- A page from 2 on and below high, or 0. -/
def At (high z : Int) : Prop := z = 0 ∨ 2 ≤ z ∧ z < high
instance (high z : Int) : Decidable (At high z) := inferInstanceAs (Decidable (_ ∨ _))
def May (m : M) : Prop := (1 ≤ m.gen ∧ m.gen ≤ 1152921504606846976) ∧ (2 ≤ m.high ∧ m.high ≤ 2048) ∧ At m.high m.root ∧ At m.high m.free
instance (m : M) : Decidable (May m) := inferInstanceAs (Decidable (_ ∧ _))
def pay (m : M) : List Nat := [67, 65, 77, 66] ++ (be 8 m.gen ++ (be 4 m.high.toNat ++ (be 4 m.root.toNat ++ be 4 m.free.toNat)))
/-- .. filled up. -/
def full (m : M) : List Nat := pay m ++ List.replicate 992 0
/-- The numbers where a page says them. -/
def of (b : List Nat) : M := ⟨fromBe ((b.drop 4).take 8), (fromBe ((b.drop 12).take 4) : Int), (fromBe ((b.drop 16).take 4) : Int), (fromBe ((b.drop 20).take 4) : Int)⟩
def Says (b : List Nat) : Prop := b.length = 1016 ∧ May (of b) ∧ full (of b) = b
instance (b : List Nat) : Decidable (Says b) := inferInstanceAs (Decidable (_ ∧ _))

theorem pay_len (m : M) : (pay m).length = 24 := by simp [pay, be_len]
theorem full_len (m : M) : (full m).length = 1016 := by unfold full; rw [List.length_append, pay_len, List.length_replicate]
theorem pay_lt (m : M) : ∀ x ∈ pay m, x < 256 := by
  intro x hx
  simp only [pay, List.mem_append] at hx
  rcases hx with h | h | h | h | h
  · simp at h; omega
  · exact be_lt _ _ x h
  · exact be_lt _ _ x h
  · exact be_lt _ _ x h
  · exact be_lt _ _ x h
theorem full_lt (m : M) : ∀ x ∈ full m, x < 256 := by
  intro x hx
  rcases List.mem_append.1 hx with h | h
  · exact pay_lt m x h
  · have := List.eq_of_mem_replicate h; omega
theorem drop_app {α : Type} {a b : List α} {k n : Nat} (h : a.length = k) : (a ++ b).drop (k + n) = b.drop n := by
  subst h; rw [List.drop_append]
  simp
theorem take_app {α : Type} {a b : List α} {k : Nat} (h : a.length = k) : (a ++ b).take k = a := by subst h; simp
theorem of_full (m : M) (h : May m) : of (full m) = m := by
  obtain ⟨g, hi, ro, fr⟩ := m
  obtain ⟨⟨g1, g2⟩, ⟨h1, h2⟩, r, f⟩ := h
  simp only at g1 g2 h1 h2
  have r' : 0 ≤ ro ∧ ro < 2048 := by rcases r with r | r <;> simp only at r <;> omega
  have f' : 0 ≤ fr ∧ fr < 2048 := by rcases f with f | f <;> simp only at f <;> omega
  have e : full ⟨g, hi, ro, fr⟩ = [67, 65, 77, 66] ++ (be 8 g ++ (be 4 hi.toNat ++ (be 4 ro.toNat ++ (be 4 fr.toNat ++ List.replicate 992 0)))) := by unfold full pay; generalize List.replicate 992 0 = Z; simp only [List.append_assoc]
  have d4 : (full ⟨g, hi, ro, fr⟩).drop 4 = be 8 g ++ (be 4 hi.toNat ++ (be 4 ro.toNat ++ (be 4 fr.toNat ++ List.replicate 992 0))) := by rw [e]; rfl
  have d12 : (full ⟨g, hi, ro, fr⟩).drop 12 = be 4 hi.toNat ++ (be 4 ro.toNat ++ (be 4 fr.toNat ++ List.replicate 992 0)) := by
    rw [show 12 = 4 + 8 from rfl, ← List.drop_drop, d4, show (8 : Nat) = 8 + 0 from rfl, drop_app (be_len 8 g), List.drop_zero]
  have d16 : (full ⟨g, hi, ro, fr⟩).drop 16 = be 4 ro.toNat ++ (be 4 fr.toNat ++ List.replicate 992 0) := by
    rw [show 16 = 12 + 4 from rfl, ← List.drop_drop, d12, show (4 : Nat) = 4 + 0 from rfl, drop_app (be_len 4 _), List.drop_zero]
  have d20 : (full ⟨g, hi, ro, fr⟩).drop 20 = be 4 fr.toNat ++ List.replicate 992 0 := by
    rw [show 20 = 16 + 4 from rfl, ← List.drop_drop, d16, show (4 : Nat) = 4 + 0 from rfl, drop_app (be_len 4 _), List.drop_zero]
  unfold of
  rw [d4, d12, d16, d20, take_app (be_len 8 g), take_app (be_len 4 _), take_app (be_len 4 _), take_app (be_len 4 _), fromBe_be 8 g (by omega), fromBe_be 4 _ (by omega), fromBe_be 4 _ (by omega), fromBe_be 4 _ (by omega)]
  congr <;> omega
theorem says_full (m : M) (h : May m) : Says (full m) := ⟨full_len m, by rw [of_full m h]; exact h, by rw [of_full m h]⟩
theorem full_inj {a b : M} (ha : May a) (hb : May b) (h : full a = full b) : a = b := by rw [← of_full a ha, h, of_full b hb]
theorem pay_inj {a b : M} (ha : May a) (hb : May b) (h : pay a = pay b) : a = b := full_inj ha hb (by unfold full; rw [h])

end Go.Proofs.Ytmcldkcmialfeaa.Mt
namespace Go.Proofs.Ytmcldkcmialfeaa.Mt
open Nm
set_option linter.unusedVariables false

theorem be_of {k : Nat} {l : List Nat} (hl : l.length = k) (hb : ∀ x ∈ l, x < 256) : be k (fromBe l) = l := by
  have h := fromBe_lt l hb
  rw [hl] at h
  exact Pg.foldl_inj _ _ (by rw [be_len, hl]) (be_lt _ _) hb (fromBe_be k _ h)
theorem cut_eq (l : List Nat) (a k : Nat) : l.drop a = (l.drop a).take k ++ l.drop (a + k) := by
  rw [← List.drop_drop, List.take_append_drop]
theorem says_iff {l : List Nat} (hl : l.length = 1016) (hb : ∀ x ∈ l, x < 256) : Says l ↔ (l.take 4 = [67, 65, 77, 66] ∧ l.drop 24 = List.replicate 992 0) ∧ May (of l) := by
  constructor
  · rintro ⟨_, h1, h2⟩
    refine ⟨⟨?_, ?_⟩, h1⟩
    · rw [← h2]; rfl
    · rw [← h2]
      unfold full
      rw [show (24 : Nat) = 24 + 0 from rfl, drop_app (pay_len _), List.drop_zero]
  · rintro ⟨⟨h1, h2⟩, h3⟩
    refine ⟨hl, h3, ?_⟩
    have p : ∀ a k, a + k ≤ 1016 → be k (fromBe ((l.drop a).take k)) = (l.drop a).take k := fun a k h => be_of (by rw [List.length_take, List.length_drop]; omega) fun x hx => hb x (List.mem_of_mem_drop (List.mem_of_mem_take hx))
    unfold full pay of
    simp only [Int.toNat_natCast]
    rw [p 4 8 (by omega), p 12 4 (by omega), p 16 4 (by omega), p 20 4 (by omega), ← h1, ← h2]
    simp only [List.append_assoc]
    rw [← cut_eq l 20 4, ← cut_eq l 16 4, ← cut_eq l 12 4, ← cut_eq l 4 8, List.take_append_drop]

end Go.Proofs.Ytmcldkcmialfeaa.Mt
namespace Go.Proofs.Ytmcldkcmialfeaa.Pl
open Nm
set_option linter.unusedVariables false

/-- A freed page: its number, and the version in which it was freed. -/
abbrev F := Int × Nat
/-- The pages rise. -/
def Rises (l : List F) : Prop := l.Pairwise fun a b => a.1 < b.1
/-- How many stand ahead of no. -/
def pos (l : List F) (no : Int) : Nat := (l.takeWhile fun f => decide (f.1 < no)).length
def look (l : List F) (no : Int) : Option Nat := (l.find? fun f => f.1 == no).map (·.2)
def ins (l : List F) (no : Int) (g : Nat) : List F := l.take (pos l no) ++ (no, g) :: l.drop (pos l no)
def cut (l : List F) (i : Nat) : List F := l.take i ++ l.drop (i + 1)

theorem pos_le (l : List F) (no : Int) : pos l no ≤ l.length := by
  unfold pos
  have h := congrArg List.length (List.takeWhile_append_dropWhile (p := fun f : F => decide (f.1 < no)) (l := l))
  rw [List.length_append] at h
  omega
theorem take_pos (l : List F) (no : Int) : l.take (pos l no) = l.takeWhile fun f => decide (f.1 < no) := by
  unfold pos
  conv => lhs; rw [← List.takeWhile_append_dropWhile (p := fun f : F => decide (f.1 < no)) (l := l)]
  rw [List.takeWhile_append_dropWhile]
  have : l.take (l.takeWhile fun f => decide (f.1 < no)).length = ((l.takeWhile fun f => decide (f.1 < no)) ++ (l.dropWhile fun f => decide (f.1 < no))).take (l.takeWhile fun f => decide (f.1 < no)).length := by rw [List.takeWhile_append_dropWhile]
  rw [this, List.take_left]
theorem drop_pos (l : List F) (no : Int) : l.drop (pos l no) = l.dropWhile fun f => decide (f.1 < no) := by
  unfold pos
  have : l.drop (l.takeWhile fun f => decide (f.1 < no)).length = ((l.takeWhile fun f => decide (f.1 < no)) ++ (l.dropWhile fun f => decide (f.1 < no))).drop (l.takeWhile fun f => decide (f.1 < no)).length := by rw [List.takeWhile_append_dropWhile]
  rw [this, List.drop_left]
theorem mem_takeWhile {α : Type} {p : α → Bool} : ∀ {l : List α} {x : α}, x ∈ l.takeWhile p → p x = true
  | [], _, h => by simp at h
  | a :: r, x, h => by
    rw [List.takeWhile_cons] at h
    split at h
    · rename_i hp
      rcases List.mem_cons.1 h with rfl | h
      · exact hp
      · exact mem_takeWhile h
    · simp at h
theorem ahead_lt {l : List F} {no : Int} {f : F} (h : f ∈ l.take (pos l no)) : f.1 < no := by
  rw [take_pos] at h
  simpa using mem_takeWhile h
/-- What stands at the place of no, and behind, isn't less. -/
theorem behind_le {l : List F} (hr : Rises l) {no : Int} {f : F} (h : f ∈ l.drop (pos l no)) : no ≤ f.1 := by
  rw [drop_pos] at h
  induction l with
  | nil => simp at h
  | cons a r ih =>
    rw [List.dropWhile_cons] at h
    have hr' := List.pairwise_cons.1 hr
    split at h
    · exact ih hr'.2 h
    · rename_i hn
      have : ¬ a.1 < no := by simpa using hn
      rcases List.mem_cons.1 h with rfl | h
      · omega
      · have := hr'.1 f h; omega
/-- Whether no is freed is told by what stands at its place. -/
theorem at_pos {l : List F} (hr : Rises l) (no : Int) : (∃ f, l[pos l no]? = some f ∧ f.1 = no) ↔ ∃ f ∈ l, f.1 = no := by
  constructor
  · rintro ⟨f, hf, e⟩; exact ⟨f, List.mem_of_getElem? hf, e⟩
  · rintro ⟨f, hf, e⟩
    have hl : l = l.take (pos l no) ++ l.drop (pos l no) := (List.take_append_drop _ _).symm
    rw [hl] at hf
    rcases List.mem_append.1 hf with h | h
    · have := ahead_lt h; omega
    · cases hd : l.drop (pos l no) with
      | nil => rw [hd] at h; simp at h
      | cons a r =>
        have ha : l[pos l no]? = some a := by
          have : (l.drop (pos l no))[0]? = some a := by rw [hd]; rfl
          rwa [List.getElem?_drop, Nat.add_zero] at this
        refine ⟨a, ha, ?_⟩
        have h1 := behind_le hr (no := no) (f := a) (by rw [hd]; simp)
        rw [hd] at h
        rcases List.mem_cons.1 h with h | h
        · rw [← h, e]
        · have hp : (a :: r).Pairwise fun a b : F => a.1 < b.1 := by
            rw [← hd]; exact hr.sublist (List.drop_sublist _ _)
          have := (List.pairwise_cons.1 hp).1 f h
          omega
theorem look_none {l : List F} {no : Int} : look l no = none ↔ ¬ ∃ f ∈ l, f.1 = no := by
  unfold look
  rw [Option.map_eq_none_iff, List.find?_eq_none]
  constructor
  · rintro h ⟨f, hf, e⟩; exact absurd (by simpa using e) (h f hf)
  · intro h f hf e
    exact h ⟨f, hf, by simpa using e⟩
theorem look_mem {l : List F} {no : Int} {g : Nat} (h : look l no = some g) : (no, g) ∈ l := by
  unfold look at h
  rw [Option.map_eq_some_iff] at h
  obtain ⟨f, hf, e⟩ := h
  have h1 := List.mem_of_find?_eq_some hf
  have h2 := List.find?_some hf
  obtain ⟨a, b⟩ := f
  simp at h2 e
  subst h2 e
  exact h1
theorem rises_inj {l : List F} (hr : Rises l) {f g : F} (hf : f ∈ l) (hg : g ∈ l) (h : f.1 = g.1) : f = g := by
  induction l with
  | nil => simp at hf
  | cons a r ih =>
    have hr' := List.pairwise_cons.1 hr
    rcases List.mem_cons.1 hf with rfl | hf'
    · rcases List.mem_cons.1 hg with rfl | hg'
      · rfl
      · have := hr'.1 g hg'; omega
    · rcases List.mem_cons.1 hg with rfl | hg'
      · have := hr'.1 f hf'; omega
      · exact ih hr'.2 hf' hg'
theorem look_iff {l : List F} (hr : Rises l) {no : Int} {g : Nat} : look l no = some g ↔ (no, g) ∈ l := by
  refine ⟨look_mem, fun h => ?_⟩
  cases hl : look l no with
  | none => exact absurd ⟨_, h, rfl⟩ (look_none.1 hl)
  | some g' =>
    have := rises_inj hr h (look_mem hl) rfl
    simp at this
    rw [this]
theorem ins_mem {l : List F} {no : Int} {g : Nat} {f : F} : f ∈ ins l no g ↔ f = (no, g) ∨ f ∈ l := by
  unfold ins
  rw [List.mem_append, List.mem_cons]
  conv => rhs; rw [← List.take_append_drop (pos l no) l]
  rw [List.mem_append]
  constructor
  · rintro (h | h | h)
    · exact .inr (.inl h)
    · exact .inl h
    · exact .inr (.inr h)
  · rintro (h | h | h)
    · exact .inr (.inl h)
    · exact .inl h
    · exact .inr (.inr h)
theorem ins_rises {l : List F} (hr : Rises l) {no : Int} {g : Nat} (hn : ¬ ∃ f ∈ l, f.1 = no) : Rises (ins l no g) := by
  unfold ins Rises
  have ht : Rises (l.take (pos l no)) := hr.sublist (List.take_sublist _ _)
  have hd : Rises (l.drop (pos l no)) := hr.sublist (List.drop_sublist _ _)
  refine List.pairwise_append.2 ⟨ht, List.pairwise_cons.2 ⟨fun f hf => ?_, hd⟩, fun a ha b hb => ?_⟩
  · have h1 := behind_le hr hf
    have h2 : f.1 ≠ no := fun e => hn ⟨f, List.mem_of_mem_drop hf, e⟩
    show no < f.1
    omega
  · have h1 := ahead_lt ha
    rcases List.mem_cons.1 hb with rfl | hb
    · exact h1
    · have := behind_le hr hb; omega
theorem ins_len (l : List F) (no : Int) (g : Nat) : (ins l no g).length = l.length + 1 := by
  unfold ins
  have := pos_le l no
  rw [List.length_append, List.length_cons, List.length_take, List.length_drop]
  omega
theorem look_ins {l : List F} (hr : Rises l) {no : Int} {g : Nat} (hn : ¬ ∃ f ∈ l, f.1 = no) (k : Int) : look (ins l no g) k = if k = no then some g else look l k := by
  have hi := ins_rises hr (g := g) hn
  by_cases hk : k = no
  · rw [if_pos hk, hk]
    exact (look_iff hi).2 (ins_mem.2 (.inl rfl))
  · rw [if_neg hk]
    cases hl : look l k with
    | none =>
      rw [look_none] at hl ⊢
      rintro ⟨f, hf, e⟩
      rcases ins_mem.1 hf with rfl | hf
      · exact hk e.symm
      · exact hl ⟨f, hf, e⟩
    | some g' => exact (look_iff hi).2 (ins_mem.2 (.inr (look_mem hl)))
theorem cut_rises {l : List F} (hr : Rises l) (i : Nat) : Rises (cut l i) := by
  unfold cut
  have h : (l.take i ++ l.drop (i + 1)).Sublist l := by
    conv => rhs; rw [← List.take_append_drop i l]
    refine List.Sublist.append (List.Sublist.refl _) ?_
    rw [← List.drop_drop]
    exact List.drop_sublist _ _
  exact hr.sublist h
theorem cut_len {l : List F} {i : Nat} (h : i < l.length) : (cut l i).length = l.length - 1 := by
  unfold cut
  rw [List.length_append, List.length_take, List.length_drop]
  omega
theorem cut_mem {l : List F} (hr : Rises l) {i : Nat} {x : F} (hx : l[i]? = some x) {f : F} : f ∈ cut l i ↔ f ∈ l ∧ f.1 ≠ x.1 := by
  have hi : i < l.length := (List.getElem?_eq_some_iff.1 hx).1
  have hd : l.drop i = x :: l.drop (i + 1) := by
    rw [List.drop_eq_getElem_cons hi]
    congr 1
    exact (List.getElem?_eq_some_iff.1 hx).2
  have hl : l = l.take i ++ x :: l.drop (i + 1) := by rw [← hd, List.take_append_drop]
  have hp : (l.take i ++ x :: l.drop (i + 1)).Pairwise fun a b : F => a.1 < b.1 := by rw [← hl]; exact hr
  obtain ⟨_, p2, p3⟩ := List.pairwise_append.1 hp
  have p2' := List.pairwise_cons.1 p2
  unfold cut
  rw [List.mem_append]
  constructor
  · rintro (h | h)
    · exact ⟨List.mem_of_mem_take h, by have := p3 f h x (by simp); omega⟩
    · exact ⟨List.mem_of_mem_drop h, by have := p2'.1 f h; omega⟩
  · rintro ⟨h, hne⟩
    rw [hl] at h
    rcases List.mem_append.1 h with h | h
    · exact .inl h
    · rcases List.mem_cons.1 h with rfl | h
      · exact absurd rfl hne
      · exact .inr h
theorem look_cut {l : List F} (hr : Rises l) {i : Nat} {x : F} (hx : l[i]? = some x) (k : Int) : look (cut l i) k = if k = x.1 then none else look l k := by
  have hc := cut_rises hr i
  by_cases hk : k = x.1
  · rw [if_pos hk, look_none]
    rintro ⟨f, hf, e⟩
    exact ((cut_mem hr hx).1 hf).2 (by rw [e, hk])
  · rw [if_neg hk]
    cases hl : look l k with
    | none =>
      rw [look_none] at hl ⊢
      rintro ⟨f, hf, e⟩
      exact hl ⟨f, ((cut_mem hr hx).1 hf).1, e⟩
    | some g => exact (look_iff hc).2 ((cut_mem hr hx).2 ⟨look_mem hl, hk⟩)
/-- Two lists that rise are the same where they are looked up the same. -/
theorem look_ext {l m : List F} (hl : Rises l) (hm : Rises m) (h : ∀ k, look l k = look m k) : l = m := by
  have hmem : ∀ f : F, f ∈ l ↔ f ∈ m := by
    rintro ⟨a, b⟩
    rw [← look_iff hl, ← look_iff hm, h]
  clear h
  induction l generalizing m with
  | nil =>
    cases m with
    | nil => rfl
    | cons b s => exact absurd ((hmem b).2 (by simp)) (by simp)
  | cons a r ih =>
    cases m with
    | nil => exact absurd ((hmem a).1 (by simp)) (by simp)
    | cons b s =>
      have hl' := List.pairwise_cons.1 hl
      have hm' := List.pairwise_cons.1 hm
      have e : a = b := by
        rcases List.mem_cons.1 ((hmem a).1 (by simp)) with h | h
        · exact h
        · rcases List.mem_cons.1 ((hmem b).2 (by simp)) with h' | h'
          · exact h'.symm
          · have h1 := hm'.1 a h
            have h2 := hl'.1 b h'
            omega
      subst e
      congr 1
      refine ih hl'.2 hm'.2 fun f => ⟨fun h => ?_, fun h => ?_⟩
      · rcases List.mem_cons.1 ((hmem f).1 (by simp [h])) with e | h'
        · have := hl'.1 f h; rw [e] at this; omega
        · exact h'
      · rcases List.mem_cons.1 ((hmem f).2 (by simp [h])) with e | h'
        · have := hm'.1 f h; rw [e] at this; omega
        · exact h'

end Go.Proofs.Ytmcldkcmialfeaa.Pl
namespace Go.Proofs.Ytmcldkcmialfeaa.Pl
open Nm
set_option linter.unusedVariables false

structure Pd where
  cap : Int
  high : Int
  l : List F
/-- As said: at most one of each page, each 2 at least and below the high mark; versions of 64 bits. -/
structure Ok (p : Pd) : Prop where
  cap : p.cap ≤ 2048
  two : 2 ≤ p.high
  high : p.high ≤ p.cap
  rises : Rises p.l
  ins : ∀ f ∈ p.l, 2 ≤ f.1 ∧ f.1 < p.high
  gens : ∀ f ∈ p.l, f.2 < 18446744073709551616
def freeCode (p : Pd) (no : Int) : Int := if no < 2 ∨ p.high ≤ no then 1 else if (look p.l no).isSome then 8 else 0
def free (p : Pd) (no : Int) (g : Nat) : Pd := if freeCode p no = 0 then { p with l := ins p.l no g } else p
/-- The first that may be used. -/
def first (l : List F) (h : Nat) : Option Nat := l.findIdx? fun f => decide (f.2 ≤ h)
def alloc (p : Pd) (h : Nat) : Pd := match first p.l h with
  | some i => { p with l := cut p.l i }
  | none => if p.cap ≤ p.high then p else { p with high := p.high + 1 }
def allocNo (p : Pd) (h : Nat) : Int := match first p.l h with
  | some i => (p.l[i]?.map (·.1)).getD 0
  | none => if p.cap ≤ p.high then 0 else p.high
def allocCode (p : Pd) (h : Nat) : Int := match first p.l h with
  | some _ => 0
  | none => if p.cap ≤ p.high then 2 else 0
/-- May the last page go? -/
def goes (p : Pd) (h : Nat) : Prop := 2 < p.high ∧ ∃ g, look p.l (p.high - 1) = some g ∧ g ≤ h
instance (p : Pd) (h : Nat) : Decidable (goes p h) :=
  decidable_of_iff (2 < p.high ∧ (match look p.l (p.high - 1) with | some g => decide (g ≤ h) | none => false) = true) (by
    unfold goes
    cases look p.l (p.high - 1) <;> simp)
def off (p : Pd) : Pd := { p with high := p.high - 1, l := cut p.l (p.l.length - 1) }
/-- Trimmed, k times at most: the pool, and how many went. -/
def trimTo (h : Nat) : Nat → Pd → Pd × Nat
  | 0, p => (p, 0)
  | k + 1, p => if goes p h then ((trimTo h k (off p)).1, (trimTo h k (off p)).2 + 1) else (p, 0)
def trim (p : Pd) (h : Nat) : Pd × Nat := trimTo h p.high.toNat p

theorem look_free {p : Pd} {no : Int} : (look p.l no).isSome = true ↔ ∃ f ∈ p.l, f.1 = no := by
  rw [Option.isSome_iff_ne_none, ne_eq, look_none]
  exact Classical.not_not
theorem free_ok {p : Pd} (h : Ok p) (no : Int) (g : Nat) (hg : g < 18446744073709551616) : Ok (free p no g) := by
  unfold free
  split
  · rename_i hc
    unfold freeCode at hc
    split at hc
    · omega
    · rename_i hr
      split at hc
      · omega
      · rename_i hl
        have hn : ¬ ∃ f ∈ p.l, f.1 = no := fun e => hl (look_free.2 e)
        refine ⟨h.cap, h.two, h.high, ins_rises h.rises hn, fun f hf => ?_, fun f hf => ?_⟩
        · rcases ins_mem.1 hf with rfl | hf
          · exact ⟨by show 2 ≤ no; omega, by show no < p.high; omega⟩
          · exact h.ins f hf
        · rcases ins_mem.1 hf with rfl | hf
          · exact hg
          · exact h.gens f hf
  · exact h
/-- What the first is. -/
theorem first_some {l : List F} {h i : Nat} (hf : first l h = some i) : ∃ f, l[i]? = some f ∧ f.2 ≤ h ∧ ∀ j x, j < i → l[j]? = some x → h < x.2 := by
  unfold first at hf
  rw [List.findIdx?_eq_some_iff_getElem] at hf
  obtain ⟨hi, h1, h2⟩ := hf
  refine ⟨l[i], List.getElem?_eq_getElem hi, by simpa using h1, fun j x hj hx => ?_⟩
  obtain ⟨hjl, rfl⟩ := List.getElem?_eq_some_iff.1 hx
  have := h2 j hj
  simpa using this
theorem first_none {l : List F} {h : Nat} (hf : first l h = none) : ∀ f ∈ l, h < f.2 := by
  unfold first at hf
  rw [List.findIdx?_eq_none_iff] at hf
  intro f hm
  have := hf f hm
  simpa using this
/-- The first that may be used is the least page that may be. -/
theorem first_least {l : List F} (hr : Rises l) {h i : Nat} {f : F} (hf : first l h = some i) (hx : l[i]? = some f) : look l f.1 = some f.2 ∧ f.2 ≤ h ∧ ∀ k g, look l k = some g → g ≤ h → f.1 ≤ k := by
  obtain ⟨f', hf', hle, hmin⟩ := first_some hf
  rw [hx] at hf'
  injection hf' with hf'
  subst hf'
  refine ⟨(look_iff hr).2 (List.mem_of_getElem? hx), hle, fun k g hk hg => ?_⟩
  have hm := look_mem hk
  obtain ⟨j, hj, e⟩ := List.mem_iff_getElem.1 hm
  have hji : ¬ j < i := fun hlt => by
    have := hmin j _ hlt (List.getElem?_eq_getElem hj)
    rw [e] at this
    simp at this
    omega
  rcases Nat.lt_or_eq_of_le (Nat.not_lt.1 hji) with hlt | heq
  · obtain ⟨hil, e2⟩ := List.getElem?_eq_some_iff.1 hx
    have := List.pairwise_iff_getElem.1 hr i j hil hj hlt
    rw [e, e2] at this
    simp at this
    omega
  · subst heq
    obtain ⟨hil, e2⟩ := List.getElem?_eq_some_iff.1 hx
    rw [e2] at e
    rw [e]
    simp
theorem alloc_ok {p : Pd} (h : Ok p) (hz : Nat) : Ok (alloc p hz) := by
  unfold alloc
  split
  · rename_i i hi
    obtain ⟨f, hf, _, _⟩ := first_some hi
    exact ⟨h.cap, h.two, h.high, cut_rises h.rises i, fun g hg => h.ins g ((cut_mem h.rises hf).1 hg).1, fun g hg => h.gens g ((cut_mem h.rises hf).1 hg).1⟩
  · split
    · exact h
    · rename_i hc
      exact ⟨h.cap, by show 2 ≤ p.high + 1; have := h.two; omega, by show p.high + 1 ≤ p.cap; omega, h.rises, fun f hf => ⟨(h.ins f hf).1, by have := (h.ins f hf).2; show f.1 < p.high + 1; omega⟩, h.gens⟩
/-- The last freed page is the greatest. -/
theorem last_top {l : List F} (hr : Rises l) {x : F} (hx : l[l.length - 1]? = some x) : ∀ f ∈ l, f.1 ≤ x.1 := by
  intro f hf
  obtain ⟨j, hj, e⟩ := List.mem_iff_getElem.1 hf
  obtain ⟨hil, e2⟩ := List.getElem?_eq_some_iff.1 hx
  rcases Nat.lt_or_eq_of_le (show j ≤ l.length - 1 by omega) with h | h
  · have := List.pairwise_iff_getElem.1 hr j (l.length - 1) hj hil h
    rw [e, e2] at this
    exact Int.le_of_lt this
  · subst h
    rw [e2] at e
    rw [e]
    exact Int.le_refl _
/-- The last page is freed just if the last freed page is it. -/
theorem goes_iff {p : Pd} (h : Ok p) (hz : Nat) : goes p hz ↔ 2 < p.high ∧ ∃ x, p.l[p.l.length - 1]? = some x ∧ x.1 = p.high - 1 ∧ x.2 ≤ hz := by
  unfold goes
  constructor
  · rintro ⟨h1, g, hg, hle⟩
    have hm := look_mem hg
    refine ⟨h1, ?_⟩
    have hl : p.l.length - 1 < p.l.length := by have := List.length_pos_of_mem hm; omega
    have hx := List.getElem?_eq_getElem hl
    have ht := last_top h.rises hx _ hm
    have hi := (h.ins _ (List.mem_of_getElem? hx)).2
    have e := rises_inj h.rises hm (List.mem_of_getElem? hx) (by show p.high - 1 = _; simp only at ht; omega)
    exact ⟨_, hx, by rw [← e], by rw [← e]; exact hle⟩
  · rintro ⟨h1, x, hx, e, hle⟩
    exact ⟨h1, x.2, (look_iff h.rises).2 (by rw [← e]; exact List.mem_of_getElem? hx), hle⟩
theorem off_ok {p : Pd} (h : Ok p) {hz : Nat} (hg : goes p hz) : Ok (off p) := by
  obtain ⟨h2, x, hx, e, _⟩ := (goes_iff h hz).1 hg
  refine ⟨h.cap, by show 2 ≤ p.high - 1; omega, by show p.high - 1 ≤ p.cap; have := h.high; omega, cut_rises h.rises _, fun f hf => ?_, fun f hf => h.gens f ((cut_mem h.rises hx).1 hf).1⟩
  obtain ⟨hm, hne⟩ := (cut_mem h.rises hx).1 hf
  have h1 := h.ins f hm
  exact ⟨h1.1, by show f.1 < p.high - 1; omega⟩
theorem look_off {p : Pd} (h : Ok p) {hz : Nat} (hg : goes p hz) (k : Int) : look (off p).l k = if k = p.high - 1 then none else look p.l k := by
  obtain ⟨h2, x, hx, e, _⟩ := (goes_iff h hz).1 hg
  show look (cut p.l (p.l.length - 1)) k = _
  rw [look_cut h.rises hx, e]
theorem trimTo_ok {hz : Nat} : ∀ (k : Nat) {p : Pd}, Ok p → Ok (trimTo hz k p).1
  | 0, p, h => h
  | k + 1, p, h => by
    unfold trimTo
    split
    · rename_i hg
      exact trimTo_ok k (off_ok h hg)
    · exact h
theorem trim_ok {p : Pd} (h : Ok p) (hz : Nat) : Ok (trim p hz).1 := trimTo_ok _ h
/-- Enough is enough. -/
theorem trimTo_more {hz : Nat} : ∀ (k j : Nat) {p : Pd}, p.high.toNat ≤ k → p.high.toNat ≤ j → trimTo hz k p = trimTo hz j p
  | 0, 0, p, _, _ => rfl
  | 0, j + 1, p, h1, _ => by
    unfold trimTo
    rw [if_neg]
    rintro ⟨h, _⟩
    omega
  | k + 1, 0, p, _, h2 => by
    unfold trimTo
    rw [if_neg]
    rintro ⟨h, _⟩
    omega
  | k + 1, j + 1, p, h1, h2 => by
    unfold trimTo
    split
    · rename_i hg
      have hh : (off p).high.toNat ≤ k ∧ (off p).high.toNat ≤ j := by
        have := hg.1
        show (p.high - 1).toNat ≤ k ∧ (p.high - 1).toNat ≤ j
        omega
      rw [trimTo_more k j hh.1 hh.2]
    · rfl
theorem trim_goes {p : Pd} {hz : Nat} (hg : goes p hz) : trim p hz = ((trim (off p) hz).1, (trim (off p) hz).2 + 1) := by
  have h := hg.1
  unfold trim
  obtain ⟨k, hk⟩ : ∃ k, p.high.toNat = k + 1 := ⟨p.high.toNat - 1, by omega⟩
  rw [hk]
  have e : trimTo hz k (off p) = trimTo hz (off p).high.toNat (off p) := trimTo_more k _ (by show (p.high - 1).toNat ≤ k; omega) (Nat.le_refl _)
  rw [trimTo, if_pos hg, e]
theorem trim_stays {p : Pd} {hz : Nat} (hg : ¬ goes p hz) : trim p hz = (p, 0) := by
  unfold trim
  cases p.high.toNat with
  | zero => rfl
  | succ k => rw [trimTo, if_neg hg]

end Go.Proofs.Ytmcldkcmialfeaa.Pl
namespace Go.Proofs.Ytmcldkcmialfeaa.Pr
set_option linter.unusedVariables false

section
variable {α : Type}
/-- The page no says g. -/
def upd (l : List (F α)) (no : Int) (g : α) : List (F α) := l.map fun f => (f.1, if f.1 = no then g else f.2)
/-- The page no is gone. -/
def rem (l : List (F α)) (no : Int) : List (F α) := l.filter fun f => !(f.1 == no)
theorem upd_keys (l : List (F α)) (no : Int) (g : α) : (upd l no g).map (·.1) = l.map (·.1) := by unfold upd; rw [List.map_map]; rfl
theorem upd_len (l : List (F α)) (no : Int) (g : α) : (upd l no g).length = l.length := by unfold upd; rw [List.length_map]
theorem rises_map {l m : List (F α)} (h : m.map (·.1) = l.map (·.1)) (hr : Rises l) : Rises m := by
  have h1 : (l.map (·.1)).Pairwise (· < ·) := List.pairwise_map.2 hr
  rw [← h] at h1
  exact List.pairwise_map.1 h1
theorem upd_rises {l : List (F α)} (hr : Rises l) (no : Int) (g : α) : Rises (upd l no g) := rises_map (upd_keys l no g) hr
theorem rem_rises {l : List (F α)} (hr : Rises l) (no : Int) : Rises (rem l no) := hr.sublist List.filter_sublist
theorem look_cons (f : F α) (r : List (F α)) (k : Int) : look (f :: r) k = if f.1 = k then some f.2 else look r k := by
  unfold look
  rw [List.find?_cons]
  by_cases h : f.1 = k
  · rw [show (f.1 == k) = true by simpa using h, if_pos h]; rfl
  · rw [show (f.1 == k) = false by simpa using h, if_neg h]
theorem look_upd (l : List (F α)) (no : Int) (g : α) (k : Int) : look (upd l no g) k = if k = no then (look l no).map fun _ => g else look l k := by
  induction l with
  | nil => unfold upd look; simp
  | cons f r ih =>
    have e : upd (f :: r) no g = (f.1, if f.1 = no then g else f.2) :: upd r no g := rfl
    rw [e, look_cons, look_cons, look_cons, ih]
    by_cases h : f.1 = k
    · subst h
      by_cases h2 : f.1 = no
      · simp [h2]
      · simp [h2]
    · rw [if_neg h, if_neg h]
      by_cases hk : k = no
      · subst hk
        rw [if_pos rfl, if_pos rfl, if_neg h]
      · rw [if_neg hk, if_neg hk]
theorem look_rem (l : List (F α)) (no k : Int) : look (rem l no) k = if k = no then none else look l k := by
  induction l with
  | nil => unfold rem look; simp
  | cons f r ih =>
    have e : rem (f :: r) no = if f.1 = no then rem r no else f :: rem r no := by
      unfold rem
      rw [List.filter_cons]
      by_cases h : f.1 = no
      · rw [if_neg (by simp [h]), if_pos h]
      · rw [if_pos (by simp [h]), if_neg h]
    rw [e, look_cons]
    by_cases h : f.1 = no
    · rw [if_pos h, ih]
      by_cases hk : k = no
      · rw [if_pos hk, if_pos hk]
      · rw [if_neg hk, if_neg hk, if_neg (by omega)]
    · rw [if_neg h, look_cons, ih]
      by_cases hk : f.1 = k
      · rw [if_pos hk, if_pos hk, if_neg (by omega)]
      · rw [if_neg hk, if_neg hk]
theorem rem_mem {l : List (F α)} {no : Int} {f : F α} : f ∈ rem l no ↔ f ∈ l ∧ f.1 ≠ no := by
  unfold rem
  rw [List.mem_filter]
  simp
theorem rem_none {l : List (F α)} {no : Int} (h : look l no = none) : rem l no = l := by
  unfold rem
  refine List.filter_eq_self.2 fun f hf => ?_
  have := look_none.1 h
  have h1 : ¬ f.1 = no := fun e => this ⟨f, hf, e⟩
  simpa using h1
theorem look_some_iff {l : List (F α)} {no : Int} : (look l no).isSome = true ↔ ∃ f ∈ l, f.1 = no := by
  rw [Option.isSome_iff_ne_none, ne_eq, look_none]
  exact Classical.not_not
/-- Set, whether it is there or not. -/
theorem set_any {l : List (F α)} (hr : Rises l) (no : Int) (g : α) : ∃ m, Rises m ∧ ∀ k, look m k = if k = no then some g else look l k := by
  cases h : look l no with
  | none => exact ⟨ins l no g, ins_rises hr (look_none.1 h), look_ins hr (look_none.1 h)⟩
  | some x => exact ⟨upd l no g, upd_rises hr no g, fun k => by rw [look_upd, h]; rfl⟩
/-- Rising keys between two bounds. -/
theorem few_of {β : Type} {hi : Int} : ∀ (l : List (F β)) (a : Int), Rises l → (∀ f ∈ l, a ≤ f.1 ∧ f.1 < hi) → a ≤ hi → (l.length : Int) ≤ hi - a := by
  intro l
  induction l with
  | nil => intro a _ _ ha; simp; omega
  | cons x l ih =>
    intro a hr hb ha
    have hx := hb x (by simp)
    have := ih (x.1 + 1) (List.Pairwise.of_cons hr) (fun f hf => ⟨by have := List.rel_of_pairwise_cons hr hf; omega, (hb f (by simp [hf])).2⟩) (by omega)
    simp; omega
end

structure Pa where
  disk : Dk.Pd
  pool : Pl.Pd
  gen : Nat
  hz : Nat
  l : List (F (List Nat))
/-- As said: fresh pages rise, each of them 1016 bytes, none of them freed, none above the high mark. -/
structure Ok (a : Pa) : Prop where
  pool : Pl.Ok a.pool
  rises : Rises a.l
  ins : ∀ f ∈ a.l, 2 ≤ f.1 ∧ f.1 < a.pool.high ∧ Pl.look a.pool.l f.1 = none
  says : ∀ f ∈ a.l, f.2.length = 1016 ∧ ∀ x ∈ f.2, x < 256
  gen : a.gen < 18446744073709551616
  hz : a.hz < 18446744073709551616
def putCode (a : Pa) (pay : List Nat) : Int := if 1016 < pay.length then 1 else Pl.allocCode a.pool a.hz
def putNo (a : Pa) (pay : List Nat) : Int := if putCode a pay = 0 then Pl.allocNo a.pool a.hz else 0
def put (a : Pa) (pay : List Nat) : Pa := if putCode a pay = 0 then { a with pool := Pl.alloc a.pool a.hz, l := ins a.l (Pl.allocNo a.pool a.hz) (Pg.fill pay) } else a
def setCode (a : Pa) (no : Int) (pay : List Nat) : Int := if (look a.l no).isSome ∧ pay.length ≤ 1016 then 0 else 1
def set (a : Pa) (no : Int) (pay : List Nat) : Pa := if setCode a no pay = 0 then { a with l := upd a.l no (Pg.fill pay) } else a
def drop (a : Pa) (no : Int) : Pa := if (look a.l no).isSome then { a with l := rem a.l no, pool := Pl.free a.pool no 0 } else { a with pool := Pl.free a.pool no a.gen }
open Classical in
/-- What the disk's page says, if it can be opened. -/
noncomputable def dsays (d : Dk.Pd) (no : Int) : Option (List Nat) := if 0 ≤ no ∧ no < (d.pages.length : Int) ∧ Pg.Opens no (Dk.seen d no.toNat) then some ((Dk.seen d no.toNat).take 1016) else none
noncomputable def says (a : Pa) (no : Int) : Option (List Nat) := match look a.l no with
  | some b => some b
  | none => dsays a.disk no

theorem alloc_new {p : Pl.Pd} (h : Pl.Ok p) (hz : Nat) (hc : Pl.allocCode p hz = 0) :
    2 ≤ Pl.allocNo p hz ∧ Pl.allocNo p hz < (Pl.alloc p hz).high ∧ Pl.look (Pl.alloc p hz).l (Pl.allocNo p hz) = none ∧ p.high ≤ (Pl.alloc p hz).high ∧
      (∀ k, Pl.look (Pl.alloc p hz).l k = if k = Pl.allocNo p hz then none else Pl.look p.l k) ∧ (Pl.look p.l (Pl.allocNo p hz) ≠ none ∨ Pl.allocNo p hz = p.high) := by
  unfold Pl.alloc Pl.allocNo Pl.allocCode at *
  cases hf : Pl.first p.l hz with
  | some i =>
    obtain ⟨f, hx, _, _⟩ := Pl.first_some hf
    have hm := List.mem_of_getElem? hx
    have hi := h.ins _ hm
    simp only [hx, Option.map_some, Option.getD_some]
    have hl := fun k => Pl.look_cut h.rises hx k
    refine ⟨hi.1, hi.2, by rw [hl, if_pos rfl], Int.le_refl _, hl, .inl ?_⟩
    rw [(Pl.look_iff h.rises (no := f.1) (g := f.2)).2 hm]
    exact Option.some_ne_none _
  | none =>
    rw [hf] at hc
    simp only at hc ⊢
    split at hc
    · omega
    · rename_i hcap
      have h2 := h.two
      have hn : Pl.look p.l p.high = none := Pl.look_none.2 (by rintro ⟨f, hf, e⟩; have := (h.ins f hf).2; omega)
      rw [if_neg hcap, if_neg hcap]
      refine ⟨h2, by show p.high < p.high + 1; omega, hn, by show p.high ≤ p.high + 1; omega, fun k => ?_, .inr rfl⟩
      by_cases hk : k = p.high
      · rw [if_pos hk, hk]; exact hn
      · rw [if_neg hk]
theorem alloc_code (p : Pl.Pd) (hz : Nat) : Pl.allocCode p hz = 0 ∨ Pl.allocCode p hz = 2 ∧ Pl.alloc p hz = p ∧ Pl.allocNo p hz = 0 := by
  unfold Pl.allocCode Pl.alloc Pl.allocNo
  split
  · exact .inl rfl
  · split
    · exact .inr ⟨rfl, rfl, rfl⟩
    · exact .inl rfl
theorem alloc_fresh {a : Pa} (h : Ok a) (hc : Pl.allocCode a.pool a.hz = 0) : look a.l (Pl.allocNo a.pool a.hz) = none := by
  obtain ⟨_, _, _, _, _, hor⟩ := alloc_new h.pool a.hz hc
  rw [look_none]
  rintro ⟨f, hf, e⟩
  have hi := h.ins f hf
  rw [e] at hi
  rcases hor with hor | hor
  · exact hor hi.2.2
  · omega
theorem put_ok {a : Pa} (h : Ok a) (pay : List Nat) (hlt : ∀ x ∈ pay, x < 256) : Ok (put a pay) := by
  unfold put
  split
  · rename_i hc
    have hc2 : Pl.allocCode a.pool a.hz = 0 ∧ pay.length ≤ 1016 := by
      unfold putCode at hc; split at hc
      · omega
      · exact ⟨hc, by omega⟩
    have hn := alloc_fresh h hc2.1
    obtain ⟨h1, h2, h3, h4, h5, _⟩ := alloc_new h.pool a.hz hc2.1
    refine ⟨Pl.alloc_ok h.pool _, ins_rises h.rises (look_none.1 hn), fun f hf => ?_, fun f hf => ?_, h.gen, h.hz⟩
    · rcases ins_mem.1 hf with rfl | hf
      · exact ⟨h1, h2, h3⟩
      · have hi := h.ins f hf
        refine ⟨hi.1, Int.lt_of_lt_of_le hi.2.1 h4, ?_⟩
        show Pl.look (Pl.alloc a.pool a.hz).l f.1 = none
        rw [h5, hi.2.2]; split <;> rfl
    · rcases ins_mem.1 hf with rfl | hf
      · exact ⟨Pg.fill_len hc2.2, Pg.fill_lt hlt⟩
      · exact h.says f hf
  · exact h
theorem set_ok {a : Pa} (h : Ok a) (no : Int) (pay : List Nat) (hlt : ∀ x ∈ pay, x < 256) : Ok (set a no pay) := by
  unfold set
  split
  · rename_i hc
    have hc2 : pay.length ≤ 1016 := by
      unfold setCode at hc; split at hc
      · rename_i h; exact h.2
      · omega
    refine ⟨h.pool, upd_rises h.rises _ _, fun f hf => ?_, fun f hf => ?_, h.gen, h.hz⟩
    · obtain ⟨g, hg, rfl⟩ := List.mem_map.1 hf
      exact h.ins g hg
    · obtain ⟨g, hg, rfl⟩ := List.mem_map.1 hf
      simp only
      split
      · exact ⟨Pg.fill_len hc2, Pg.fill_lt hlt⟩
      · exact h.says g hg
  · exact h
theorem free_look {p : Pl.Pd} (h : Pl.Ok p) (no : Int) (g : Nat) (k : Int) (hk : k ≠ no) : Pl.look (Pl.free p no g).l k = Pl.look p.l k := by
  unfold Pl.free
  split
  · rename_i hc
    have hn : Pl.look p.l no = none := by
      unfold Pl.freeCode at hc
      split at hc
      · omega
      · split at hc
        · omega
        · rename_i h2; simpa using h2
    show Pl.look (Pl.ins p.l no g) k = _
    rw [Pl.look_ins h.rises (Pl.look_none.1 hn), if_neg hk]
  · rfl
theorem free_high (p : Pl.Pd) (no : Int) (g : Nat) : (Pl.free p no g).high = p.high := by unfold Pl.free; split <;> rfl
theorem free_cap (p : Pl.Pd) (no : Int) (g : Nat) : (Pl.free p no g).cap = p.cap := by unfold Pl.free; split <;> rfl
theorem drop_ok {a : Pa} (h : Ok a) (no : Int) : Ok (drop a no) := by
  unfold drop
  split
  · refine ⟨Pl.free_ok h.pool no 0 (by omega), rem_rises h.rises _, fun f hf => ?_, fun f hf => h.says f (rem_mem.1 hf).1, h.gen, h.hz⟩
    obtain ⟨hm, hne⟩ := rem_mem.1 hf
    have hi := h.ins f hm
    refine ⟨hi.1, ?_, ?_⟩
    · show f.1 < (Pl.free a.pool no 0).high
      rw [free_high]; exact hi.2.1
    · show Pl.look (Pl.free a.pool no 0).l f.1 = none
      rw [free_look h.pool _ _ _ hne]; exact hi.2.2
  · rename_i hn
    refine ⟨Pl.free_ok h.pool no a.gen h.gen, h.rises, fun f hf => ?_, h.says, h.gen, h.hz⟩
    have hi := h.ins f hf
    have hne : f.1 ≠ no := fun e => hn (look_some_iff.2 ⟨f, hf, e⟩)
    refine ⟨hi.1, ?_, ?_⟩
    · show f.1 < (Pl.free a.pool no a.gen).high
      rw [free_high]; exact hi.2.1
    · show Pl.look (Pl.free a.pool no a.gen).l f.1 = none
      rw [free_look h.pool _ _ _ hne]; exact hi.2.2
theorem rem_ok {a : Pa} (h : Ok a) (no : Int) : Ok { a with l := rem a.l no } :=
  ⟨h.pool, rem_rises h.rises _, fun f hf => h.ins f (rem_mem.1 hf).1, fun f hf => h.says f (rem_mem.1 hf).1, h.gen, h.hz⟩
theorem pool_ok {a : Pa} (h : Ok a) : Ok { a with pool := Pl.alloc a.pool a.hz } := by
  refine ⟨Pl.alloc_ok h.pool _, h.rises, fun f hf => ?_, h.says, h.gen, h.hz⟩
  have hi := h.ins f hf
  rcases alloc_code a.pool a.hz with hc | ⟨_, he, _⟩
  · obtain ⟨h1, h2, h3, h4, h5, _⟩ := alloc_new h.pool a.hz hc
    refine ⟨hi.1, Int.lt_of_lt_of_le hi.2.1 h4, ?_⟩
    show Pl.look (Pl.alloc a.pool a.hz).l f.1 = none
    rw [h5, hi.2.2]; split <;> rfl
  · show 2 ≤ f.1 ∧ f.1 < (Pl.alloc a.pool a.hz).high ∧ Pl.look (Pl.alloc a.pool a.hz).l f.1 = none
    rw [he]; exact hi
theorem few {a : Pa} (h : Ok a) : a.l.length ≤ 2048 := by
  have := few_of a.l 2 h.rises (fun f hf => ⟨(h.ins f hf).1, (h.ins f hf).2.1⟩) h.pool.two
  have h1 := h.pool.high
  have h2 := h.pool.cap
  omega
theorem i64 {a : Pa} (h : Ok a) {f : F (List Nat)} (hf : f ∈ a.l) : -9223372036854775808 ≤ f.1 ∧ f.1 ≤ 9223372036854775807 := by
  have := h.ins f hf
  have h1 := h.pool.high
  have h2 := h.pool.cap
  omega
theorem alloc_i64 {p : Pl.Pd} (h : Pl.Ok p) (hz : Nat) : -9223372036854775808 ≤ Pl.allocNo p hz ∧ Pl.allocNo p hz ≤ 9223372036854775807 := by
  rcases alloc_code p hz with hc | ⟨_, _, h0⟩
  · obtain ⟨h1, h2, _⟩ := alloc_new h hz hc
    have ho := Pl.alloc_ok h hz
    have h3 := ho.high
    have h4 := ho.cap
    omega
  · rw [h0]; omega

end Go.Proofs.Ytmcldkcmialfeaa.Pr
namespace Go.Proofs.Ytmcldkcmialfeaa.Nd
open Nm
set_option linter.unusedVariables false

def LMay (next : Int) (b : List Nat) : Prop := (1 ≤ b.length ∧ b.length ≤ 1010) ∧ 0 ≤ next ∧ next ≤ 2147483647
instance (next : Int) (b : List Nat) : Decidable (LMay next b) := inferInstanceAs (Decidable (_ ∧ _))
def link (next : Int) (b : List Nat) : List Nat := be 4 next.toNat ++ (be 2 b.length ++ b)
def linkOf (next : Int) (b : List Nat) : List Nat := if LMay next b then link next b else []
def linkFull (next : Int) (b : List Nat) : List Nat := link next b ++ List.replicate (1016 - (link next b).length) 0
def lnext (r : List Nat) : Nat := fromBe (r.take 4)
def lcount (r : List Nat) : Nat := fromBe ((r.drop 4).take 2)
def lbytes (r : List Nat) : List Nat := (r.drop 6).take (lcount r)
def LSays (r : List Nat) : Prop := r.length = 1016 ∧ LMay (lnext r : Int) (lbytes r) ∧ linkFull (lnext r : Int) (lbytes r) = r
instance (r : List Nat) : Decidable (LSays r) := inferInstanceAs (Decidable (_ ∧ _))

theorem link_len (next : Int) (b : List Nat) : (link next b).length = 6 + b.length := by
  unfold link; rw [List.length_append, List.length_append, be_len, be_len]; omega
theorem link_lt {next : Int} {b : List Nat} (hb : ∀ x ∈ b, x < 256) : ∀ x ∈ link next b, x < 256 := by
  intro x hx
  rcases List.mem_append.1 hx with h | h
  · exact be_lt _ _ x h
  · rcases List.mem_append.1 h with h | h
    · exact be_lt _ _ x h
    · exact hb x h
theorem linkOf_lt {next : Int} {b : List Nat} (hb : ∀ x ∈ b, x < 256) : ∀ x ∈ linkOf next b, x < 256 := by
  unfold linkOf; split
  · exact link_lt hb
  · simp
theorem linkFull_len {next : Int} {b : List Nat} (h : b.length ≤ 1010) : (linkFull next b).length = 1016 := by
  unfold linkFull; rw [List.length_append, List.length_replicate, link_len]; omega
theorem linkFull_lt {next : Int} {b : List Nat} (hb : ∀ x ∈ b, x < 256) : ∀ x ∈ linkFull next b, x < 256 := by
  intro x hx
  rcases List.mem_append.1 hx with h | h
  · exact link_lt hb x h
  · have := List.eq_of_mem_replicate h; omega
theorem of_link {next : Int} {b : List Nat} (h : LMay next b) : (lnext (linkFull next b) : Int) = next ∧ lcount (linkFull next b) = b.length ∧ lbytes (linkFull next b) = b := by
  obtain ⟨⟨h1, h2⟩, h3, h4⟩ := h
  have e : linkFull next b = be 4 next.toNat ++ (be 2 b.length ++ (b ++ List.replicate (1016 - (link next b).length) 0)) := by
    unfold linkFull; generalize List.replicate _ _ = Z; unfold link; simp only [List.append_assoc]
  have d4 : (linkFull next b).drop 4 = be 2 b.length ++ (b ++ List.replicate (1016 - (link next b).length) 0) := by
    rw [e, show (4 : Nat) = 4 + 0 from rfl, Mt.drop_app (be_len 4 _), List.drop_zero]
  have d6 : (linkFull next b).drop 6 = b ++ List.replicate (1016 - (link next b).length) 0 := by
    rw [show 6 = 4 + 2 from rfl, ← List.drop_drop, d4, show (2 : Nat) = 2 + 0 from rfl, Mt.drop_app (be_len 2 _), List.drop_zero]
  have n1 : lnext (linkFull next b) = next.toNat := by
    unfold lnext; rw [e, Mt.take_app (be_len 4 _), fromBe_be 4 _ (by have : (256 : Nat) ^ 4 = 4294967296 := by decide
                                                                     omega)]
  have n2 : lcount (linkFull next b) = b.length := by
    unfold lcount; rw [d4, Mt.take_app (be_len 2 _), fromBe_be 2 _ (by have : (256 : Nat) ^ 2 = 65536 := by decide
                                                                       omega)]
  exact ⟨by rw [n1]; omega, n2, by unfold lbytes; rw [n2, d6, Mt.take_app rfl]⟩
theorem lsays_full {next : Int} {b : List Nat} (h : LMay next b) : LSays (linkFull next b) := by
  obtain ⟨e1, e2, e3⟩ := of_link h
  refine ⟨linkFull_len h.1.2, ?_, ?_⟩
  · rw [e1, e3]; exact h
  · rw [e1, e3]
theorem lbytes_len {r : List Nat} (hl : r.length = 1016) (h : lcount r ≤ 1010) : (lbytes r).length = lcount r := by
  unfold lbytes; rw [List.length_take, List.length_drop]; omega
/-- Whatever is behind what a chain's page says. -/
theorem link_front {r : List Nat} (hl : r.length = 1016) (hb : ∀ x ∈ r, x < 256) (h : lcount r ≤ 1010) : link (lnext r : Int) (lbytes r) = r.take (6 + lcount r) := by
  have p : ∀ a k, a + k ≤ 1016 → be k (fromBe ((r.drop a).take k)) = (r.drop a).take k := fun a k h => Mt.be_of (by rw [List.length_take, List.length_drop]; omega) fun x hx => hb x (List.mem_of_mem_drop (List.mem_of_mem_take hx))
  have p0 := p 0 4 (by omega)
  rw [List.drop_zero] at p0
  have p4 := p 4 2 (by omega)
  unfold link
  rw [lbytes_len hl h, Int.toNat_natCast]
  have e1 : be 4 (lnext r) = r.take 4 := p0
  have e2 : be 2 (lcount r) = (r.drop 4).take 2 := p4
  rw [e1, e2]
  unfold lbytes
  rw [show 6 + lcount r = 4 + (2 + lcount r) by omega, List.take_add, List.take_add, List.drop_drop]
/-- When bytes are a chain's page, part by part. -/
theorem lsays_iff {r : List Nat} (hl : r.length = 1016) (hb : ∀ x ∈ r, x < 256) :
    LSays r ↔ ((1 ≤ lcount r ∧ lcount r ≤ 1010) ∧ lnext r ≤ 2147483647) ∧ r.drop (6 + lcount r) = List.replicate (1016 - (6 + lcount r)) 0 := by
  constructor
  · rintro ⟨_, hm, hf⟩
    have hc := (of_link hm).2.1
    rw [hf] at hc
    have h1 := hm.1
    have h2 := hm.2
    rw [← hc] at h1
    refine ⟨⟨h1, by omega⟩, ?_⟩
    have hlen := link_len (lnext r : Int) (lbytes r)
    rw [← hc] at hlen
    have hd : (linkFull (lnext r : Int) (lbytes r)).drop (6 + lcount r + 0) = List.replicate (1016 - (6 + lcount r)) 0 := by
      unfold linkFull
      rw [Mt.drop_app hlen, List.drop_zero, hlen]
    rw [hf] at hd
    exact hd
  · rintro ⟨⟨h1, h2⟩, hz⟩
    have hbl := lbytes_len hl h1.2
    refine ⟨hl, ⟨by rw [hbl]; exact h1, by omega, by omega⟩, ?_⟩
    unfold linkFull
    rw [link_len, hbl, link_front hl hb h1.2, ← hz, List.take_append_drop]
theorem lcount_two {r : List Nat} {x y : Nat} (hx : r[4]? = some x) (hy : r[5]? = some y) : lcount r = 256 * x + y := by
  match r, hx, hy with
  | a :: b :: c :: d :: e :: f :: t, hx, hy =>
    simp at hx hy
    subst hx hy
    simp [lcount, fromBe]; omega
end Go.Proofs.Ytmcldkcmialfeaa.Nd
namespace Go.Proofs.Ytmcldkcmialfeaa.Nd
open Nm
set_option linter.unusedVariables false

structure Cell where
  key : List Nat
  inl : List Nat
  size : Int
  head : Int
def Page (z : Int) : Prop := 2 ≤ z ∧ z ≤ 2147483647
instance (z : Int) : Decidable (Page z) := inferInstanceAs (Decidable (_ ∧ _))
def KeyOk (k : List Nat) : Prop := 1 ≤ k.length ∧ k.length ≤ 100
instance (k : List Nat) : Decidable (KeyOk k) := inferInstanceAs (Decidable (_ ∧ _))
/-- Keys that may be, and rise. -/
def Rises : List (List Nat) → Prop
  | [] => True
  | [_] => True
  | a :: b :: r => lexLess a b = true ∧ Rises (b :: r)
instance : ∀ l, Decidable (Rises l)
  | [] => inferInstanceAs (Decidable True)
  | [_] => inferInstanceAs (Decidable True)
  | a :: b :: r => @instDecidableAnd _ _ _ (instDecidableRises (b :: r))
def Keys (l : List (List Nat)) : Prop := (∀ k ∈ l, KeyOk k) ∧ Rises l
instance (l : List (List Nat)) : Decidable (Keys l) := inferInstanceAs (Decidable (_ ∧ _))
theorem rises_snoc : ∀ (l : List (List Nat)) (a b : List Nat), Rises (l ++ [a] ++ [b]) ↔ Rises (l ++ [a]) ∧ lexLess a b = true
  | [], a, b => by simp [Rises]
  | [x], a, b => by simp [Rises]
  | x :: y :: r, a, b => by
    have ih := rises_snoc (y :: r) a b
    simp only [List.cons_append, Rises] at ih ⊢
    rw [ih, and_assoc]

def Cell.Plain (c : Cell) : Prop := c.size = 0 ∧ c.head = 0 ∧ c.inl.length ≤ 200
def Cell.Chain (c : Cell) : Prop := (200 < c.size ∧ c.size ≤ 16384) ∧ Page c.head ∧ c.inl.length = 0
instance (c : Cell) : Decidable c.Plain := inferInstanceAs (Decidable (_ ∧ _))
instance (c : Cell) : Decidable c.Chain := inferInstanceAs (Decidable (_ ∧ _))
def Cell.Ok (c : Cell) : Prop := c.Plain ∨ c.Chain
instance (c : Cell) : Decidable c.Ok := inferInstanceAs (Decidable (_ ∨ _))
def Cell.len (c : Cell) : Nat := 3 + c.key.length + (if c.size = 0 then c.inl.length else 6)
def lens (cs : List Cell) : Nat := (cs.map Cell.len).sum
def leafLen (cs : List Cell) : Nat := 3 + lens cs
def klens (ks : List (List Nat)) : Nat := (ks.map fun k => 5 + k.length).sum
def branchLen (ks : List (List Nat)) : Nat := 7 + klens ks
def LeafMay (cs : List Cell) : Prop := leafLen cs ≤ 1016 ∧ (∀ c ∈ cs, c.Ok) ∧ Keys (cs.map Cell.key)
instance (cs : List Cell) : Decidable (LeafMay cs) := inferInstanceAs (Decidable (_ ∧ _))
def BranchMay (ks : List (List Nat)) (kids : List Int) : Prop := branchLen ks ≤ 1016 ∧ (∀ p ∈ kids, Page p) ∧ Keys ks ∧ kids.length = ks.length + 1
instance (ks : List (List Nat)) (kids : List Int) : Decidable (BranchMay ks kids) := inferInstanceAs (Decidable (_ ∧ _))
theorem lens_cons (c : Cell) (r : List Cell) : lens (c :: r) = c.len + lens r := by simp [lens]
theorem lens_snoc (r : List Cell) (c : Cell) : lens (r ++ [c]) = lens r + c.len := by simp [lens]
theorem klens_cons (k : List Nat) (r : List (List Nat)) : klens (k :: r) = 5 + k.length + klens r := by simp [klens]
theorem klens_snoc (r : List (List Nat)) (k : List Nat) : klens (r ++ [k]) = klens r + (5 + k.length) := by simp [klens]

/-! What pages say. -/
def val (c : Cell) : List Nat := if c.size = 0 then be 2 c.inl.length ++ c.inl else be 2 c.size.toNat ++ (be 4 c.head.toNat ++ [0, 0])
def one (c : Cell) : List Nat := c.key.length :: (c.key ++ val c)
def all (cs : List Cell) : List Nat := cs.flatMap one
def leafPay (cs : List Cell) : List Nat := 1 :: (be 2 cs.length ++ all cs)
def oneK (p : List Nat × Int) : List Nat := p.1.length :: (p.1 ++ be 4 p.2.toNat)
def allK (ps : List (List Nat × Int)) : List Nat := ps.flatMap oneK
def branchPay (ks : List (List Nat)) (kid : Int) (kids : List Int) : List Nat := 2 :: (be 2 ks.length ++ (be 4 kid.toNat ++ allK (ks.zip kids)))
def fill (l : List Nat) : List Nat := l ++ List.replicate (1016 - l.length) 0
theorem val_len (c : Cell) : (val c).length = 2 + (if c.size = 0 then c.inl.length else 6) := by
  unfold val; split
  · rw [List.length_append, be_len]
  · rw [List.length_append, List.length_append, be_len, be_len]; rfl
theorem one_len (c : Cell) : (one c).length = c.len := by
  unfold one Cell.len
  rw [List.length_cons, List.length_append, val_len]; omega
theorem all_len : ∀ cs : List Cell, (all cs).length = lens cs
  | [] => rfl
  | c :: r => by
    show (one c ++ all r).length = _
    rw [List.length_append, one_len, all_len r, lens_cons]
theorem leafPay_len (cs : List Cell) : (leafPay cs).length = leafLen cs := by
  unfold leafPay leafLen
  rw [List.length_cons, List.length_append, be_len, all_len]; omega
theorem oneK_len (p : List Nat × Int) : (oneK p).length = 5 + p.1.length := by
  unfold oneK; rw [List.length_cons, List.length_append, be_len]; omega
theorem allK_len : ∀ (ks : List (List Nat)) (kids : List Int), ks.length = kids.length → (allK (ks.zip kids)).length = klens ks
  | [], _, _ => by simp [allK, klens]
  | k :: r, [], h => by simp at h
  | k :: r, p :: q, h => by
    show (oneK (k, p) ++ allK (r.zip q)).length = _
    rw [List.length_append, oneK_len, allK_len r q (by simpa using h), klens_cons]
theorem branchPay_len {ks : List (List Nat)} {kid : Int} {kids : List Int} (h : ks.length = kids.length) : (branchPay ks kid kids).length = branchLen ks := by
  unfold branchPay branchLen
  rw [List.length_cons, List.length_append, List.length_append, be_len, be_len, allK_len _ _ h]; omega
theorem all_snoc (l : List Cell) (c : Cell) : all (l ++ [c]) = all l ++ one c := by simp [all]
theorem allK_snoc (l : List (List Nat × Int)) (c : List Nat × Int) : allK (l ++ [c]) = allK l ++ oneK c := by simp [allK]
theorem fill_len {l : List Nat} (h : l.length ≤ 1016) : (fill l).length = 1016 := by
  unfold fill; rw [List.length_append, List.length_replicate]; omega
theorem fill_lt {l : List Nat} (h : ∀ x ∈ l, x < 256) : ∀ x ∈ fill l, x < 256 := by
  intro x hx
  rcases List.mem_append.1 hx with h1 | h1
  · exact h x h1
  · have := List.eq_of_mem_replicate h1; omega
/-- All bytes of a cell. -/
def Cell.Lt (c : Cell) : Prop := (∀ x ∈ c.key, x < 256) ∧ ∀ x ∈ c.inl, x < 256
theorem one_lt {c : Cell} (h : c.Lt) (hk : c.key.length < 256) : ∀ x ∈ one c, x < 256 := by
  intro x hx
  unfold one at hx
  rcases List.mem_cons.1 hx with rfl | hx
  · exact hk
  rcases List.mem_append.1 hx with hx | hx
  · exact h.1 x hx
  unfold val at hx
  split at hx
  · rcases List.mem_append.1 hx with hx | hx
    · exact be_lt _ _ x hx
    · exact h.2 x hx
  · rcases List.mem_append.1 hx with hx | hx
    · exact be_lt _ _ x hx
    · rcases List.mem_append.1 hx with hx | hx
      · exact be_lt _ _ x hx
      · simp at hx; omega
theorem be_inj {k n m : Nat} (hn : n < 256 ^ k) (hm : m < 256 ^ k) (h : be k n = be k m) : n = m := by
  have := congrArg fromBe h
  rwa [fromBe_be k n hn, fromBe_be k m hm] at this
theorem p2 : (256 : Nat) ^ 2 = 65536 := by decide
theorem p4 : (256 : Nat) ^ 4 = 4294967296 := by decide
/-- How long the value is said to be. -/
def Cell.tell (c : Cell) : Nat := if c.size = 0 then c.inl.length else c.size.toNat
theorem val_inj {c d : Cell} {r s : List Nat} (hc : c.Ok) (hd : d.Ok) (h : val c ++ r = val d ++ s) : (c.inl = d.inl ∧ c.size = d.size ∧ c.head = d.head) ∧ r = s := by
  unfold val at h
  rcases hc with ⟨c1, c2, c3⟩ | ⟨⟨c1, c1'⟩, ⟨c2, c2'⟩, c3⟩ <;> rcases hd with ⟨d1, d2, d3⟩ | ⟨⟨d1, d1'⟩, ⟨d2, d2'⟩, d3⟩
  · rw [if_pos c1, if_pos d1, List.append_assoc, List.append_assoc] at h
    obtain ⟨h1, h2⟩ := List.append_inj h (by rw [be_len, be_len])
    have e := be_inj (by rw [p2]; omega) (by rw [p2]; omega) h1
    obtain ⟨h3, h4⟩ := List.append_inj h2 e
    exact ⟨⟨h3, by omega, by omega⟩, h4⟩
  · rw [if_pos c1, if_neg (by omega), List.append_assoc, List.append_assoc] at h
    obtain ⟨h1, _⟩ := List.append_inj h (by rw [be_len, be_len])
    have e := be_inj (by rw [p2]; omega) (by rw [p2]; omega) h1
    omega
  · rw [if_neg (by omega), if_pos d1, List.append_assoc, List.append_assoc, List.append_assoc] at h
    obtain ⟨h1, _⟩ := List.append_inj h (by rw [be_len, be_len])
    have e := be_inj (by rw [p2]; omega) (by rw [p2]; omega) h1
    omega
  · rw [if_neg (by omega), if_neg (by omega), List.append_assoc, List.append_assoc, List.append_assoc, List.append_assoc] at h
    obtain ⟨h1, h2⟩ := List.append_inj h (by rw [be_len, be_len])
    have e := be_inj (by rw [p2]; omega) (by rw [p2]; omega) h1
    obtain ⟨h3, h4⟩ := List.append_inj h2 (by rw [be_len, be_len])
    have e2 := be_inj (by rw [p4]; omega) (by rw [p4]; omega) h3
    refine ⟨⟨?_, by omega, by omega⟩, by simpa using h4⟩
    rw [List.eq_nil_of_length_eq_zero c3, List.eq_nil_of_length_eq_zero d3]
theorem one_inj {c d : Cell} {r s : List Nat} (hc : c.Ok) (hd : d.Ok) (h : one c ++ r = one d ++ s) : c = d ∧ r = s := by
  unfold one at h
  rw [List.cons_append, List.cons_append, List.append_assoc, List.append_assoc] at h
  injection h with h1 h2
  obtain ⟨h3, h4⟩ := List.append_inj h2 h1
  obtain ⟨⟨e1, e2, e3⟩, h5⟩ := val_inj hc hd h4
  refine ⟨?_, h5⟩
  obtain ⟨ck, ci, cs, ch⟩ := c
  obtain ⟨dk, di, ds, dh⟩ := d
  simp only at h3 e1 e2 e3
  subst h3 e1 e2 e3
  rfl
theorem all_inj : ∀ {cs ds : List Cell} {r s : List Nat}, cs.length = ds.length → (∀ c ∈ cs, c.Ok) → (∀ c ∈ ds, c.Ok) → all cs ++ r = all ds ++ s → cs = ds
  | [], [], _, _, _, _, _, _ => rfl
  | c :: cs, d :: ds, r, s, hl, hc, hd, h => by
    have h' : one c ++ (all cs ++ r) = one d ++ (all ds ++ s) := by rw [← List.append_assoc, ← List.append_assoc]; exact h
    obtain ⟨e, h2⟩ := one_inj (hc c (by simp)) (hd d (by simp)) h'
    rw [e, all_inj (by simpa using hl) (fun x hx => hc x (by simp [hx])) (fun x hx => hd x (by simp [hx])) h2]
/-- No two leaves say the same. -/
theorem leaf_inj {cs ds : List Cell} (hc : LeafMay cs) (hd : LeafMay ds) (h : fill (leafPay cs) = fill (leafPay ds)) : cs = ds := by
  have bound : ∀ {l : List Cell}, LeafMay l → l.length ≤ 1016 := fun {l} hl => by
    have h1 := hl.1
    unfold leafLen at h1
    have h2 : ∀ l : List Cell, l.length ≤ lens l := fun l => by
      induction l with
      | nil => simp [lens]
      | cons c r ih => rw [lens_cons, List.length_cons]; unfold Cell.len; omega
    have := h2 l; omega
  unfold fill leafPay at h
  rw [List.cons_append, List.cons_append, List.append_assoc, List.append_assoc] at h
  injection h with _ h2
  obtain ⟨h3, h4⟩ := List.append_inj h2 (by rw [be_len, be_len])
  have e := be_inj (by have := bound hc; rw [p2]; omega) (by have := bound hd; rw [p2]; omega) h3
  exact all_inj e hc.2.1 hd.2.1 h4
theorem oneK_inj {p q : List Nat × Int} {r s : List Nat} (hp : Page p.2) (hq : Page q.2) (h : oneK p ++ r = oneK q ++ s) : p = q ∧ r = s := by
  unfold oneK at h
  rw [List.cons_append, List.cons_append, List.append_assoc, List.append_assoc] at h
  injection h with h1 h2
  obtain ⟨h3, h4⟩ := List.append_inj h2 h1
  obtain ⟨h5, h6⟩ := List.append_inj h4 (by rw [be_len, be_len])
  have e := be_inj (by have := hp.2; rw [p4]; omega) (by have := hq.2; rw [p4]; omega) h5
  refine ⟨Prod.ext h3 ?_, h6⟩
  have := hp.1; have := hq.1; omega
theorem allK_inj : ∀ {ks ls : List (List Nat)} {ps qs : List Int} {r s : List Nat}, ks.length = ls.length → ks.length = ps.length → ls.length = qs.length → (∀ p ∈ ps, Page p) → (∀ p ∈ qs, Page p) → allK (ks.zip ps) ++ r = allK (ls.zip qs) ++ s → ks = ls ∧ ps = qs
  | [], [], [], [], _, _, _, _, _, _, _, _ => ⟨rfl, rfl⟩
  | k :: ks, l :: ls, p :: ps, q :: qs, r, s, h0, h1, h2, hp, hq, h => by
    have h' : oneK (k, p) ++ (allK (ks.zip ps) ++ r) = oneK (l, q) ++ (allK (ls.zip qs) ++ s) := by rw [← List.append_assoc, ← List.append_assoc]; exact h
    obtain ⟨e, h3⟩ := oneK_inj (hp p (by simp)) (hq q (by simp)) h'
    obtain ⟨e1, e2⟩ := allK_inj (by simpa using h0) (by simpa using h1) (by simpa using h2) (fun x hx => hp x (by simp [hx])) (fun x hx => hq x (by simp [hx])) h3
    injection e with ea eb
    exact ⟨by rw [ea, e1], by rw [eb, e2]⟩
/-- No two branches say the same. -/
theorem branch_inj {ks ls : List (List Nat)} {p q : Int} {ps qs : List Int} (hc : BranchMay ks (p :: ps)) (hd : BranchMay ls (q :: qs)) (h : fill (branchPay ks p ps) = fill (branchPay ls q qs)) : ks = ls ∧ p = q ∧ ps = qs := by
  have bound : ∀ {l : List (List Nat)}, branchLen l ≤ 1016 → l.length ≤ 1016 := fun {l} h1 => by
    unfold branchLen at h1
    have h2 : ∀ l : List (List Nat), l.length ≤ klens l := fun l => by
      induction l with
      | nil => simp [klens]
      | cons c r ih => rw [klens_cons, List.length_cons]; omega
    have := h2 l; omega
  unfold fill branchPay at h
  rw [List.cons_append, List.cons_append, List.append_assoc, List.append_assoc, List.append_assoc, List.append_assoc] at h
  injection h with _ h2
  obtain ⟨h3, h4⟩ := List.append_inj h2 (by rw [be_len, be_len])
  have e := be_inj (by have := bound hc.1; rw [p2]; omega) (by have := bound hd.1; rw [p2]; omega) h3
  obtain ⟨h5, h6⟩ := List.append_inj h4 (by rw [be_len, be_len])
  have hp := hc.2.1 p (by simp)
  have hq := hd.2.1 q (by simp)
  have e2 := be_inj (by have := hp.2; rw [p4]; omega) (by have := hq.2; rw [p4]; omega) h5
  obtain ⟨e3, e4⟩ := allK_inj e (by have := hc.2.2.2; simp at this; omega) (by have := hd.2.2.2; simp at this; omega) (fun x hx => hc.2.1 x (by simp [hx])) (fun x hx => hd.2.1 x (by simp [hx])) h6
  exact ⟨e3, by have := hp.1; have := hq.1; omega, e4⟩
/-- A leaf's page isn't a branch's. -/
theorem leaf_branch {cs : List Cell} {ks : List (List Nat)} {p : Int} {ps : List Int} (h : fill (leafPay cs) = fill (branchPay ks p ps)) : False := by
  unfold fill leafPay branchPay at h
  rw [List.cons_append, List.cons_append] at h
  injection h with h1 _
  cases h1

/-! Where a leaf's page says its cells. -/
theorem all_at : ∀ {cs : List Cell} {i : Nat} {c : Cell}, cs[i]? = some c → (all cs).drop (lens (cs.take i)) = one c ++ all (cs.drop (i + 1))
  | [], i, c, h => by simp at h
  | d :: r, 0, c, h => by
    simp at h
    subst h
    show (one d ++ all r).drop 0 = one d ++ all r
    rfl
  | d :: r, i + 1, c, h => by
    show (one d ++ all r).drop (lens ((d :: r).take (i + 1))) = one c ++ all (r.drop (i + 1))
    rw [List.take_succ_cons, lens_cons, Mt.drop_app (one_len d)]
    exact all_at (by simpa using h)
theorem leaf_at {cs : List Cell} {i : Nat} {c : Cell} (h : cs[i]? = some c) :
    (fill (leafPay cs)).drop (3 + lens (cs.take i)) = one c ++ (all (cs.drop (i + 1)) ++ List.replicate (1016 - leafLen cs) 0) := by
  have hle : lens (cs.take i) ≤ (all cs).length := by
    rw [all_len]
    have e : lens cs = lens (cs.take i) + lens (cs.drop i) := by
      have h' : lens (cs.take i ++ cs.drop i) = lens (cs.take i) + lens (cs.drop i) := by unfold lens; rw [List.map_append, List.sum_append]
      rwa [List.take_append_drop] at h'
    omega
  unfold fill
  rw [leafPay_len]
  generalize List.replicate (1016 - leafLen cs) 0 = Z
  have e : leafPay cs ++ Z = (1 :: be 2 cs.length) ++ (all cs ++ Z) := by unfold leafPay; simp [List.append_assoc]
  rw [e, Mt.drop_app (show (1 :: be 2 cs.length).length = 3 by rw [List.length_cons, be_len]), List.drop_append_of_le_length hle, all_at h, List.append_assoc]
theorem leaf_end (cs : List Cell) : (fill (leafPay cs)).drop (3 + lens cs) = List.replicate (1016 - leafLen cs) 0 := by
  unfold fill
  have e := leafPay_len cs
  unfold leafLen at e
  rw [show 3 + lens cs = (3 + lens cs) + 0 from rfl, Mt.drop_app e, List.drop_zero, leafPay_len]
end Go.Proofs.Ytmcldkcmialfeaa.Nd
namespace Go.Proofs.Ytmcldkcmialfeaa.Nd
open Nm
set_option linter.unusedVariables false

theorem lens_one (c : Cell) : lens [c] = c.len := by simp [lens]
theorem leafMay_one (c : Cell) : LeafMay [c] ↔ 3 + c.len ≤ 1016 ∧ c.Ok ∧ KeyOk c.key := by
  unfold LeafMay leafLen Keys
  rw [lens_one]
  simp [Rises]
theorem len_le {cs : List Cell} {c : Cell} (h : c ∈ cs) : c.len ≤ lens cs := by
  induction cs with
  | nil => cases h
  | cons d r ih =>
    rw [lens_cons]
    rcases List.mem_cons.1 h with rfl | h
    · omega
    · have := ih h; omega
/-- A leaf may be just if each cell may, their keys rise, and it isn't too long. -/
theorem leafMay_iff (cs : List Cell) : LeafMay cs ↔ leafLen cs ≤ 1016 ∧ (∀ c ∈ cs, LeafMay [c]) ∧ Rises (cs.map Cell.key) := by
  constructor
  · rintro ⟨h1, h2, h3, h4⟩
    refine ⟨h1, fun c hc => (leafMay_one c).2 ⟨?_, h2 c hc, h3 _ (List.mem_map_of_mem hc)⟩, h4⟩
    have := len_le hc
    unfold leafLen at h1
    omega
  · rintro ⟨h1, h2, h3⟩
    refine ⟨h1, fun c hc => ((leafMay_one c).1 (h2 c hc)).2.1, fun k hk => ?_, h3⟩
    obtain ⟨c, hc, rfl⟩ := List.mem_map.1 hk
    exact ((leafMay_one c).1 (h2 c hc)).2.2
theorem rises_take_one {l : List (List Nat)} {b : List Nat} (h : l[0]? = some b) : Rises (l.take 1) := by
  match l, h with
  | x :: r, _ => simp [Rises]
/-- One key more. -/
theorem rises_take_succ {l : List (List Nat)} {k : Nat} {a b : List Nat} (ha : l[k]? = some a) (hb : l[k + 1]? = some b) : Rises (l.take (k + 2)) ↔ Rises (l.take (k + 1)) ∧ lexLess a b = true := by
  have e1 : l.take (k + 1) = l.take k ++ [a] := by rw [List.take_add_one, ha]; rfl
  have e2 : l.take (k + 2) = l.take k ++ [a] ++ [b] := by rw [List.take_add_one, hb, e1]; rfl
  rw [e2, e1, rises_snoc]
theorem keys_take_zero (l : List (List Nat)) : Keys (l.take 0) := ⟨by simp, by simp [Rises]⟩
theorem keys_take_one {l : List (List Nat)} {b : List Nat} (h : l[0]? = some b) : Keys (l.take 1) ↔ KeyOk b := by
  match l, h with
  | x :: r, h =>
    simp at h
    subst h
    simp [Keys, Rises]
theorem keys_take_succ {l : List (List Nat)} {k : Nat} {a b : List Nat} (ha : l[k]? = some a) (hb : l[k + 1]? = some b) : Keys (l.take (k + 2)) ↔ Keys (l.take (k + 1)) ∧ KeyOk b ∧ lexLess a b = true := by
  unfold Keys
  rw [rises_take_succ ha hb]
  have e : l.take (k + 2) = l.take (k + 1) ++ [b] := by rw [List.take_add_one (i := k + 1), hb]; rfl
  rw [e]
  constructor
  · rintro ⟨h1, h2, h3⟩
    exact ⟨⟨fun x hx => h1 x (by simp [hx]), h2⟩, h1 b (by simp), h3⟩
  · rintro ⟨⟨h1, h2⟩, h3, h4⟩
    refine ⟨fun x hx => ?_, h2, h4⟩
    rcases List.mem_append.1 hx with h | h
    · exact h1 x h
    · simp at h; subst h; exact h3
/-- What doesn't rise at the beginning doesn't. -/
theorem rises_take : ∀ {l : List (List Nat)} (k : Nat), Rises l → Rises (l.take k)
  | [], k, _ => by simp [Rises]
  | [x], 0, _ => by simp [Rises]
  | [x], k + 1, _ => by simp [Rises]
  | x :: y :: r, 0, _ => by simp [Rises]
  | x :: y :: r, 1, _ => by simp [Rises]
  | x :: y :: r, k + 2, h => by
    have ih := rises_take (l := y :: r) (k + 1) h.2
    simp only [List.take_succ_cons] at ih ⊢
    exact ⟨h.1, ih⟩
theorem keys_take {l : List (List Nat)} (k : Nat) (h : Keys l) : Keys (l.take k) := ⟨fun x hx => h.1 x (List.mem_of_mem_take hx), rises_take k h.2⟩
end Go.Proofs.Ytmcldkcmialfeaa.Nd
namespace Go.Proofs.Ytmcldkcmialfeaa.Nd
open Nm
set_option linter.unusedVariables false

/-- The cell with which bytes begin, and what is behind. -/
def readCell : List Nat → Option (Cell × List Nat)
  | [] => none
  | k :: r => if r.length < k + 2 then none else
    if fromBe ((r.drop k).take 2) ≤ 200 then
      if r.length < k + 2 + fromBe ((r.drop k).take 2) then none else some (⟨r.take k, (r.drop (k + 2)).take (fromBe ((r.drop k).take 2)), 0, 0⟩, r.drop (k + 2 + fromBe ((r.drop k).take 2)))
    else if r.length < k + 8 then none else some (⟨r.take k, [], (fromBe ((r.drop k).take 2) : Int), (fromBe ((r.drop (k + 2)).take 4) : Int)⟩, r.drop (k + 8))
theorem drop_at {a b : List Nat} {k n : Nat} (h : a.length = k) : (a ++ b).drop (k + n) = b.drop n := Mt.drop_app h
theorem drop_at0 {a b : List Nat} {k : Nat} (h : a.length = k) : (a ++ b).drop k = b := by
  have := drop_at (b := b) (n := 0) h
  simpa using this
/-- A cell that is said is read. -/
theorem readCell_one {c : Cell} (h : c.Ok) (rest : List Nat) : readCell (one c ++ rest) = some (c, rest) := by
  obtain ⟨key, inl, size, head⟩ := c
  rcases h with ⟨h1, h2, h3⟩ | ⟨⟨h1, h1'⟩, ⟨h2, h2'⟩, h3⟩
  · simp only at h1 h2 h3
    subst h1 h2
    have e : one ⟨key, inl, 0, 0⟩ ++ rest = key.length :: (key ++ (be 2 inl.length ++ (inl ++ rest))) := by
      unfold one val; simp [List.append_assoc]
    have d0 : (key ++ (be 2 inl.length ++ (inl ++ rest))).drop key.length = be 2 inl.length ++ (inl ++ rest) := drop_at0 rfl
    have d2 : (key ++ (be 2 inl.length ++ (inl ++ rest))).drop (key.length + 2) = inl ++ rest := by rw [drop_at rfl]; exact drop_at0 (be_len 2 _)
    have n2 : fromBe ((be 2 inl.length ++ (inl ++ rest)).take 2) = inl.length := by rw [Mt.take_app (be_len 2 _), fromBe_be 2 _ (by rw [p2]; omega)]
    have d3 : (key ++ (be 2 inl.length ++ (inl ++ rest))).drop (key.length + 2 + inl.length) = rest := by
      rw [← List.drop_drop, d2]; exact drop_at0 rfl
    have hl : (key ++ (be 2 inl.length ++ (inl ++ rest))).length = key.length + 2 + inl.length + rest.length := by simp [be_len]; omega
    rw [e]
    unfold readCell; dsimp only
    rw [d0, n2, if_neg (by omega), if_pos h3, if_neg (by omega), d2, d3, Mt.take_app rfl, Mt.take_app rfl]
  · simp only at h1 h1' h2 h2' h3
    have hi : inl = [] := List.eq_nil_of_length_eq_zero h3
    subst hi
    have hs : ¬ size = 0 := by omega
    have e : one ⟨key, [], size, head⟩ ++ rest = key.length :: (key ++ (be 2 size.toNat ++ (be 4 head.toNat ++ ([0, 0] ++ rest)))) := by
      unfold one val; simp only; rw [if_neg hs]; simp [List.append_assoc]
    have d0 : (key ++ (be 2 size.toNat ++ (be 4 head.toNat ++ ([0, 0] ++ rest)))).drop key.length = be 2 size.toNat ++ (be 4 head.toNat ++ ([0, 0] ++ rest)) := drop_at0 rfl
    have d2 : (key ++ (be 2 size.toNat ++ (be 4 head.toNat ++ ([0, 0] ++ rest)))).drop (key.length + 2) = be 4 head.toNat ++ ([0, 0] ++ rest) := by rw [drop_at rfl]; exact drop_at0 (be_len 2 _)
    have n2 : fromBe ((be 2 size.toNat ++ (be 4 head.toNat ++ ([0, 0] ++ rest))).take 2) = size.toNat := by rw [Mt.take_app (be_len 2 _), fromBe_be 2 _ (by rw [p2]; omega)]
    have n4 : fromBe ((be 4 head.toNat ++ ([0, 0] ++ rest)).take 4) = head.toNat := by rw [Mt.take_app (be_len 4 _), fromBe_be 4 _ (by rw [p4]; omega)]
    have d8 : (key ++ (be 2 size.toNat ++ (be 4 head.toNat ++ ([0, 0] ++ rest)))).drop (key.length + 8) = rest := by
      rw [show key.length + 8 = key.length + 2 + (4 + 2) by omega, ← List.drop_drop, d2, drop_at (be_len 4 _)]; rfl
    have hl : (key ++ (be 2 size.toNat ++ (be 4 head.toNat ++ ([0, 0] ++ rest)))).length = key.length + 8 + rest.length := by simp [be_len]; omega
    rw [e]
    unfold readCell; dsimp only
    rw [d0, n2, if_neg (by omega), if_neg (by omega), if_neg (by omega), d2, d8, n4, Mt.take_app rfl]
    simp only [Option.some.injEq, Prod.mk.injEq, Cell.mk.injEq, true_and, and_true]
    omega
/-- A cell that is read is said, if the two bytes behind a chain's head are 0. -/
theorem one_readCell {b r : List Nat} {c : Cell} (hb : ∀ x ∈ b, x < 256) (h : readCell b = some (c, r)) :
    c.size = 0 ∧ c.head = 0 ∧ c.inl.length ≤ 200 ∧ b = one c ++ r ∨
    200 < c.size ∧ c.size < 65536 ∧ c.inl = [] ∧ 0 ≤ c.head ∧ c.head < 4294967296 ∧ ∃ z, z.length = 2 ∧ b = c.key.length :: (c.key ++ (be 2 c.size.toNat ++ (be 4 c.head.toNat ++ (z ++ r)))) := by
  match b, h with
  | k :: t, h =>
    unfold readCell at h; dsimp only at h
    have ht : ∀ x ∈ t, x < 256 := fun x hx => hb x (by simp [hx])
    have p : ∀ a j, a + j ≤ t.length → be j (fromBe ((t.drop a).take j)) = (t.drop a).take j := fun a j h => Mt.be_of (by rw [List.length_take, List.length_drop]; omega) fun x hx => ht x (List.mem_of_mem_drop (List.mem_of_mem_take hx))
    have lt : ∀ a j, fromBe ((t.drop a).take j) < 256 ^ j := fun a j => Nat.lt_of_lt_of_le (fromBe_lt _ fun x hx => ht x (List.mem_of_mem_drop (List.mem_of_mem_take hx))) (Nat.pow_le_pow_right (by omega) (by rw [List.length_take]; omega))
    split at h
    · cases h
    rename_i h0
    have pk := p k 2 (by omega)
    have lk := lt k 2
    generalize fromBe ((t.drop k).take 2) = s at *
    split at h
    · rename_i h1
      split at h
      · cases h
      rename_i h2
      simp only [Option.some.injEq, Prod.mk.injEq] at h
      obtain ⟨rfl, rfl⟩ := h
      refine .inl ⟨rfl, rfl, ?_, ?_⟩
      · simp only; rw [List.length_take]; omega
      · unfold one val
        simp only [if_true]
        have e1 : (t.take k).length = k := by rw [List.length_take]; omega
        have e2 : ((t.drop (k + 2)).take s).length = s := by rw [List.length_take, List.length_drop]; omega
        rw [e1, e2, pk, List.cons_append, List.append_assoc, List.append_assoc]
        congr 1
        rw [← List.drop_drop (i := s), List.take_append_drop, ← List.drop_drop (i := 2), List.take_append_drop, List.take_append_drop]
    · rename_i h1
      split at h
      · cases h
      rename_i h2
      have p4' := p (k + 2) 4 (by omega)
      have l4 := lt (k + 2) 4
      rw [p4] at l4
      rw [p2] at lk
      generalize fromBe ((t.drop (k + 2)).take 4) = hd at *
      simp only [Option.some.injEq, Prod.mk.injEq] at h
      obtain ⟨rfl, rfl⟩ := h
      refine .inr ⟨?_, ?_, rfl, ?_, ?_, (t.drop (k + 6)).take 2, ?_, ?_⟩
      · simp only; omega
      · simp only; omega
      · simp only; omega
      · simp only; omega
      · rw [List.length_take, List.length_drop]; omega
      · simp only [Int.toNat_natCast]
        have e1 : (t.take k).length = k := by rw [List.length_take]; omega
        rw [e1, pk, p4']
        congr 1
        have q6 := Mt.cut_eq t (k + 6) 2
        have q2 := Mt.cut_eq t (k + 2) 4
        have q0 := Mt.cut_eq t k 2
        have q := (List.take_append_drop k t).symm
        rw [show k + 8 = k + 6 + 2 by omega, ← q6, show k + 6 = k + 2 + 4 by omega, ← q2, ← q0]
        exact q
/-- So many cells. -/
def readCells : Nat → List Nat → Option (List Cell × List Nat)
  | 0, b => some ([], b)
  | n + 1, b => match readCell b with
    | none => none
    | some (c, r) => match readCells n r with
      | none => none
      | some (cs, q) => some (c :: cs, q)
theorem readCells_all : ∀ {cs : List Cell}, (∀ c ∈ cs, c.Ok) → ∀ rest, readCells cs.length (all cs ++ rest) = some (cs, rest)
  | [], _, rest => rfl
  | c :: r, h, rest => by
    have e : all (c :: r) ++ rest = one c ++ (all r ++ rest) := by show (one c ++ all r) ++ rest = _; rw [List.append_assoc]
    rw [e, List.length_cons, readCells, readCell_one (h c (by simp))]
    simp only
    rw [readCells_all (fun x hx => h x (by simp [hx]))]

/-- The key, and the kid behind it, with which bytes begin. -/
def readK : List Nat → Option ((List Nat × Int) × List Nat)
  | [] => none
  | k :: r => if r.length < k + 4 then none else some ((r.take k, (fromBe ((r.drop k).take 4) : Int)), r.drop (k + 4))
theorem readK_one {p : List Nat × Int} (h : Page p.2) (rest : List Nat) : readK (oneK p ++ rest) = some (p, rest) := by
  obtain ⟨key, kid⟩ := p
  obtain ⟨h1, h2⟩ := h
  simp only at h1 h2
  have e : oneK (key, kid) ++ rest = key.length :: (key ++ (be 4 kid.toNat ++ rest)) := by unfold oneK; simp [List.append_assoc]
  have d0 : (key ++ (be 4 kid.toNat ++ rest)).drop key.length = be 4 kid.toNat ++ rest := drop_at0 rfl
  have d4 : (key ++ (be 4 kid.toNat ++ rest)).drop (key.length + 4) = rest := by rw [drop_at rfl]; exact drop_at0 (be_len 4 _)
  have n4 : fromBe ((be 4 kid.toNat ++ rest).take 4) = kid.toNat := by rw [Mt.take_app (be_len 4 _), fromBe_be 4 _ (by rw [p4]; omega)]
  have hl : (key ++ (be 4 kid.toNat ++ rest)).length = key.length + 4 + rest.length := by simp [be_len]; omega
  rw [e]
  unfold readK; dsimp only
  rw [d0, d4, n4, if_neg (by omega), Mt.take_app rfl]
  simp only [Option.some.injEq, Prod.mk.injEq, true_and, and_true]
  omega
theorem oneK_read {b r : List Nat} {p : List Nat × Int} (hb : ∀ x ∈ b, x < 256) (h : readK b = some (p, r)) : b = oneK p ++ r ∧ 0 ≤ p.2 ∧ p.2 < 4294967296 := by
  match b, h with
  | k :: t, h =>
    unfold readK at h; dsimp only at h
    have ht : ∀ x ∈ t, x < 256 := fun x hx => hb x (by simp [hx])
    split at h
    · cases h
    rename_i h0
    have pk : be 4 (fromBe ((t.drop k).take 4)) = (t.drop k).take 4 := Mt.be_of (by rw [List.length_take, List.length_drop]; omega) fun x hx => ht x (List.mem_of_mem_drop (List.mem_of_mem_take hx))
    have lk : fromBe ((t.drop k).take 4) < 256 ^ 4 := Nat.lt_of_lt_of_le (fromBe_lt _ fun x hx => ht x (List.mem_of_mem_drop (List.mem_of_mem_take hx))) (Nat.pow_le_pow_right (by omega) (by rw [List.length_take]; omega))
    rw [p4] at lk
    generalize fromBe ((t.drop k).take 4) = s at *
    simp only [Option.some.injEq, Prod.mk.injEq] at h
    obtain ⟨rfl, rfl⟩ := h
    refine ⟨?_, by simp only; omega, by simp only; omega⟩
    unfold oneK
    simp only [Int.toNat_natCast]
    have e1 : (t.take k).length = k := by rw [List.length_take]; omega
    rw [e1, pk, List.cons_append, List.append_assoc]
    congr 1
    rw [← List.drop_drop (i := 4), List.take_append_drop, List.take_append_drop]
end Go.Proofs.Ytmcldkcmialfeaa.Nd
namespace Go.Proofs.Ytmcldkcmialfeaa.Nd
open Nm
set_option linter.unusedVariables false

def tk (n : Nat) (r : List Nat) : List Nat × List Nat := if r.length < n then ([], []) else (r.take n, r.drop n)
def nb (k : Nat) (r : List Nat) : Nat × List Nat := (fromBe (tk k r).1, (tk k r).2)
def pkey (r : List Nat) : List Nat × List Nat := tk (nb 1 r).1 (nb 1 r).2
def pcell (r : List Nat) : Cell × List Nat :=
  let a := pkey r
  let s := nb 2 a.2
  if s.1 ≤ 200 then (⟨a.1, (tk s.1 s.2).1, 0, 0⟩, (tk s.1 s.2).2)
  else (⟨a.1, [], (s.1 : Int), ((nb 4 s.2).1 : Int)⟩, (tk 2 (nb 4 s.2).2).2)
def pcells : Nat → List Nat → List Cell
  | 0, _ => []
  | n + 1, r => if r.length = 0 then [] else (pcell r).1 :: pcells n (pcell r).2
def pkids : Nat → List Nat → List (List Nat × Int)
  | 0, _ => []
  | n + 1, r => if r.length = 0 then [] else ((pkey r).1, ((nb 4 (pkey r).2).1 : Int)) :: pkids n (nb 4 (pkey r).2).2
theorem tk_app {n : Nat} {a b : List Nat} (h : a.length = n) : tk n (a ++ b) = (a, b) := by
  unfold tk
  rw [if_neg (by rw [List.length_append]; omega), Mt.take_app h, drop_at0 h]
theorem nb_app {k m : Nat} {b : List Nat} (h : m < 256 ^ k) : nb k (be k m ++ b) = (m, b) := by
  unfold nb
  rw [tk_app (be_len k m), fromBe_be k m h]
theorem nb_one {x : Nat} {b : List Nat} : nb 1 (x :: b) = (x, b) := by
  unfold nb
  rw [show x :: b = [x] ++ b from rfl, tk_app (n := 1) (a := [x]) rfl]
  simp [fromBe]
theorem pkey_app {key rest : List Nat} : pkey (key.length :: (key ++ rest)) = (key, rest) := by
  unfold pkey
  rw [nb_one, tk_app rfl]
theorem pcell_one {c : Cell} (h : c.Ok) (rest : List Nat) : pcell (one c ++ rest) = (c, rest) := by
  obtain ⟨key, inl, size, head⟩ := c
  rcases h with ⟨h1, h2, h3⟩ | ⟨⟨h1, h1'⟩, ⟨h2, h2'⟩, h3⟩
  · simp only at h1 h2 h3
    subst h1 h2
    have e : one ⟨key, inl, 0, 0⟩ ++ rest = key.length :: (key ++ (be 2 inl.length ++ (inl ++ rest))) := by
      unfold one val; simp [List.append_assoc]
    rw [e]
    unfold pcell
    rw [pkey_app]
    simp only
    rw [nb_app (by rw [p2]; omega), if_pos h3, tk_app rfl]
  · simp only at h1 h1' h2 h2' h3
    have hi : inl = [] := List.eq_nil_of_length_eq_zero h3
    subst hi
    have hs : ¬ size = 0 := by omega
    have e : one ⟨key, [], size, head⟩ ++ rest = key.length :: (key ++ (be 2 size.toNat ++ (be 4 head.toNat ++ ([0, 0] ++ rest)))) := by
      unfold one val; simp only; rw [if_neg hs]; simp [List.append_assoc]
    rw [e]
    unfold pcell
    rw [pkey_app]
    simp only
    rw [nb_app (by rw [p2]; omega), if_neg (by simp only; omega)]
    simp only
    rw [nb_app (by rw [p4]; omega)]
    simp only
    rw [tk_app (n := 2) (a := [0, 0]) rfl]
    simp only [Prod.mk.injEq, Cell.mk.injEq, true_and, and_true]
    omega
theorem pcells_all : ∀ {cs : List Cell}, (∀ c ∈ cs, c.Ok) → ∀ rest, pcells cs.length (all cs ++ rest) = cs
  | [], _, rest => rfl
  | c :: r, h, rest => by
    have e : all (c :: r) ++ rest = one c ++ (all r ++ rest) := by show (one c ++ all r) ++ rest = _; rw [List.append_assoc]
    rw [e, List.length_cons, pcells, if_neg (by rw [List.length_append, one_len]; unfold Cell.len; omega), pcell_one (h c (by simp))]
    simp only
    rw [pcells_all (fun x hx => h x (by simp [hx]))]
theorem pkids_all : ∀ {ks : List (List Nat)} {q : List Int}, ks.length = q.length → (∀ p ∈ q, Page p) → ∀ rest, pkids ks.length (allK (ks.zip q) ++ rest) = ks.zip q
  | [], [], _, _, rest => rfl
  | k :: ks, p :: q, hl, h, rest => by
    have e : allK ((k :: ks).zip (p :: q)) ++ rest = oneK (k, p) ++ (allK (ks.zip q) ++ rest) := by show (oneK (k, p) ++ allK (ks.zip q)) ++ rest = _; rw [List.append_assoc]
    have e2 : oneK (k, p) ++ (allK (ks.zip q) ++ rest) = k.length :: (k ++ (be 4 p.toNat ++ (allK (ks.zip q) ++ rest))) := by unfold oneK; simp [List.append_assoc]
    have hp := h p (by simp)
    rw [e, e2, List.length_cons, pkids, if_neg (by simp), pkey_app]
    simp only
    rw [nb_app (by have := hp.2; rw [p4]; omega)]
    simp only
    rw [pkids_all (by simpa using hl) (fun x hx => h x (by simp [hx]))]
    simp only [List.zip_cons_cons, List.cons.injEq, Prod.mk.injEq, true_and, and_true]
    have := hp.1; omega
/-! Bounds. -/
theorem tk_lt {n : Nat} {r : List Nat} (h : ∀ x ∈ r, x < 256) : (∀ x ∈ (tk n r).1, x < 256) ∧ ∀ x ∈ (tk n r).2, x < 256 := by
  unfold tk; split
  · simp
  · exact ⟨fun x hx => h x (List.mem_of_mem_take hx), fun x hx => h x (List.mem_of_mem_drop hx)⟩
theorem tk_len (n : Nat) (r : List Nat) : (tk n r).1.length ≤ n ∧ (tk n r).1.length ≤ r.length ∧ (tk n r).2.length ≤ r.length - n := by
  unfold tk; split
  · simp
  · simp; omega
theorem nb_lt {k : Nat} {r : List Nat} (h : ∀ x ∈ r, x < 256) : (nb k r).1 < 256 ^ k ∧ ∀ x ∈ (nb k r).2, x < 256 := by
  have h1 := tk_lt (n := k) h
  refine ⟨Nat.lt_of_lt_of_le (fromBe_lt _ h1.1) (Nat.pow_le_pow_right (by omega) (tk_len k r).1), h1.2⟩
theorem pkey_lt {r : List Nat} (h : ∀ x ∈ r, x < 256) : (∀ x ∈ (pkey r).1, x < 256) ∧ ∀ x ∈ (pkey r).2, x < 256 := tk_lt (nb_lt h).2
theorem pkey_len (r : List Nat) : (pkey r).1.length ≤ r.length ∧ (pkey r).2.length ≤ r.length - 1 := by
  unfold pkey
  have h1 := tk_len (nb 1 r).1 (nb 1 r).2
  have h2 := tk_len 1 r
  have e : (nb 1 r).2 = (tk 1 r).2 := rfl
  rw [e] at h1 ⊢
  omega
theorem pcell_lt {r : List Nat} (h : ∀ x ∈ r, x < 256) : ∀ x ∈ (pcell r).2, x < 256 := by
  unfold pcell
  simp only
  have h2 := nb_lt (k := 2) (pkey_lt h).2
  split
  · exact (tk_lt h2.2).2
  · exact (tk_lt (nb_lt (k := 4) h2.2).2).2
theorem pcell_len (r : List Nat) : (pcell r).1.len ≤ 9 + 2 * r.length ∧ (pcell r).2.length ≤ r.length - 1 := by
  have h1 := pkey_len r
  have h2 := tk_len 2 (pkey r).2
  unfold pcell
  simp only
  have e : (nb 2 (pkey r).2).2 = (tk 2 (pkey r).2).2 := rfl
  have h3 := tk_len (nb 2 (pkey r).2).1 (nb 2 (pkey r).2).2
  have h4 := tk_len 4 (nb 2 (pkey r).2).2
  have e4 : (nb 4 (nb 2 (pkey r).2).2).2 = (tk 4 (nb 2 (pkey r).2).2).2 := rfl
  have h5 := tk_len 2 (nb 4 (nb 2 (pkey r).2).2).2
  rw [e] at h3 h4
  rw [e4, e] at h5
  split
  · unfold Cell.len
    simp only [if_true]
    rw [e]
    omega
  · rename_i hs
    unfold Cell.len
    simp only
    rw [if_neg (by omega), e4, e]
    omega
theorem pcells_len : ∀ (n : Nat) (r : List Nat), (pcells n r).length ≤ r.length ∧ lens (pcells n r) ≤ r.length * (9 + 2 * r.length)
  | 0, r => by simp [pcells, lens]
  | n + 1, r => by
    unfold pcells
    split
    · simp [lens]
    · have h := pcell_len r
      have ih := pcells_len n (pcell r).2
      rw [List.length_cons, lens_cons]
      generalize (pcell r).2.length = m at *
      generalize (pcell r).1.len = q at *
      have h2 : m * (9 + 2 * m) ≤ (r.length - 1) * (9 + 2 * r.length) := Nat.mul_le_mul h.2 (by omega)
      have h3 : r.length * (9 + 2 * r.length) = (r.length - 1) * (9 + 2 * r.length) + (9 + 2 * r.length) := by
        have : r.length = (r.length - 1) + 1 := by omega
        conv => lhs; rw [this, Nat.add_mul, Nat.one_mul]
        rw [← this]
      omega
theorem pkids_len : ∀ (n : Nat) (r : List Nat), (pkids n r).length ≤ r.length ∧ klens ((pkids n r).map Prod.fst) ≤ r.length * (5 + r.length)
  | 0, r => by simp [pkids, klens]
  | n + 1, r => by
    unfold pkids
    split
    · simp [klens]
    · have h := pkey_len r
      have h4 := tk_len 4 (pkey r).2
      have e4 : (nb 4 (pkey r).2).2 = (tk 4 (pkey r).2).2 := rfl
      have ih := pkids_len n (nb 4 (pkey r).2).2
      rw [e4] at ih
      rw [List.length_cons, List.map_cons, klens_cons, e4]
      simp only
      generalize (tk 4 (pkey r).2).2.length = m at *
      generalize (pkey r).1.length = q at *
      have h2 : m * (5 + m) ≤ (r.length - 1) * (5 + r.length) := Nat.mul_le_mul (by omega) (by omega)
      have h3 : r.length * (5 + r.length) = (r.length - 1) * (5 + r.length) + (5 + r.length) := by
        have : r.length = (r.length - 1) + 1 := by omega
        conv => lhs; rw [this, Nat.add_mul, Nat.one_mul]
        rw [← this]
      omega
/-! The whole page. -/
def pleaf (b : List Nat) : List Cell := pcells (nb 2 (nb 1 b).2).1 (nb 2 (nb 1 b).2).2
def pkid (b : List Nat) : Int := ((nb 4 (nb 2 (nb 1 b).2).2).1 : Int)
def pbranch (b : List Nat) : List (List Nat × Int) := pkids (nb 2 (nb 1 b).2).1 (nb 4 (nb 2 (nb 1 b).2).2).2
theorem count_lt {cs : List Cell} (h : LeafMay cs) : cs.length < 256 ^ 2 := by
  have h1 := h.1
  unfold leafLen at h1
  have h2 : ∀ l : List Cell, l.length ≤ lens l := fun l => by
    induction l with
    | nil => simp [lens]
    | cons c r ih => rw [lens_cons, List.length_cons]; unfold Cell.len; omega
  have := h2 cs
  rw [p2]; omega
theorem kcount_lt {ks : List (List Nat)} (h : branchLen ks ≤ 1016) : ks.length < 256 ^ 2 := by
  unfold branchLen at h
  have h2 : ∀ l : List (List Nat), l.length ≤ klens l := fun l => by
    induction l with
    | nil => simp [klens]
    | cons c r ih => rw [klens_cons, List.length_cons]; omega
  have := h2 ks
  rw [p2]; omega
theorem pleaf_fill {cs : List Cell} (h : LeafMay cs) : (nb 1 (fill (leafPay cs))).1 = 1 ∧ pleaf (fill (leafPay cs)) = cs := by
  unfold fill
  generalize List.replicate _ _ = Z
  have e : leafPay cs ++ Z = 1 :: (be 2 cs.length ++ (all cs ++ Z)) := by unfold leafPay; simp [List.append_assoc]
  unfold pleaf
  rw [e, nb_one]
  refine ⟨rfl, ?_⟩
  simp only
  rw [nb_app (count_lt h)]
  exact pcells_all h.2.1 Z
theorem pbranch_fill {ks : List (List Nat)} {p : Int} {q : List Int} (h : BranchMay ks (p :: q)) : (nb 1 (fill (branchPay ks p q))).1 = 2 ∧ pkid (fill (branchPay ks p q)) = p ∧ pbranch (fill (branchPay ks p q)) = ks.zip q := by
  unfold fill
  generalize List.replicate _ _ = Z
  have e : branchPay ks p q ++ Z = 2 :: (be 2 ks.length ++ (be 4 p.toNat ++ (allK (ks.zip q) ++ Z))) := by unfold branchPay; simp [List.append_assoc]
  have hp := h.2.1 p (by simp)
  unfold pbranch pkid
  rw [e, nb_one]
  refine ⟨rfl, ?_⟩
  simp only
  rw [nb_app (kcount_lt h.1)]
  simp only
  rw [nb_app (by have := hp.2; rw [p4]; omega)]
  refine ⟨by have := hp.1; simp only; omega, ?_⟩
  exact pkids_all (by have := h.2.2.2; simp at this; omega) (fun x hx => h.2.1 x (by simp [hx])) Z
end Go.Proofs.Ytmcldkcmialfeaa.Nd
namespace Go.Proofs.Ytmcldkcmialfeaa.Pr
set_option linter.unusedVariables false

theorem ins_end {α : Type} {l : List (F α)} {no : Int} {g : α} (h : ∀ f ∈ l, f.1 < no) : ins l no g = l ++ [(no, g)] := by
  have hp : pos l no = l.length := by
    unfold pos
    congr 1
    have : ∀ m : List (F α), (∀ f ∈ m, f.1 < no) → (m.takeWhile fun f => decide (f.1 < no)) = m := by
      intro m hm
      induction m with
      | nil => rfl
      | cons f r ih => rw [List.takeWhile_cons, if_pos (by simpa using hm f (by simp)), ih (fun g hg => hm g (by simp [hg]))]
    exact this l h
  unfold ins
  rw [hp, List.take_length, List.drop_length]
/-- The pages from the number a on. -/
def pagesFrom : Int → List (List Nat) → List (F (List Nat))
  | _, [] => []
  | a, b :: ls => (a, Pg.fill b) :: pagesFrom (a + 1) ls
theorem pagesFrom_len : ∀ (ls : List (List Nat)) (a : Int), (pagesFrom a ls).length = ls.length
  | [], _ => rfl
  | b :: ls, a => by simp [pagesFrom, pagesFrom_len ls]
theorem pagesFrom_snoc : ∀ (ls : List (List Nat)) (a : Int) (b : List Nat), pagesFrom a (ls ++ [b]) = pagesFrom a ls ++ [(a + ls.length, Pg.fill b)]
  | [], a, b => by simp [pagesFrom]
  | c :: ls, a, b => by
    simp only [List.cons_append, pagesFrom, pagesFrom_snoc ls, List.length_cons]
    rw [show a + 1 + (ls.length : Int) = a + ((ls.length + 1 : Nat) : Int) by omega]
theorem pagesFrom_mem : ∀ (ls : List (List Nat)) (a : Int) {f : F (List Nat)}, f ∈ pagesFrom a ls → a ≤ f.1 ∧ f.1 < a + ls.length
  | [], a, f, h => by cases h
  | c :: ls, a, f, h => by
    rcases List.mem_cons.1 h with rfl | h
    · simp; omega
    · have := pagesFrom_mem ls (a + 1) h
      simp; omega
theorem look_pages : ∀ (ls : List (List Nat)) (a : Int) (i : Nat), look (pagesFrom a ls) (a + i) = ls[i]?.map Pg.fill
  | [], a, i => rfl
  | c :: ls, a, 0 => by
    rw [pagesFrom, look_cons, if_pos (by simp)]; rfl
  | c :: ls, a, i + 1 => by
    rw [pagesFrom, look_cons, if_neg (by show ¬ a = a + ((i + 1 : Nat) : Int); omega)]
    have := look_pages ls (a + 1) i
    rw [show a + 1 + (i : Int) = a + ((i + 1 : Nat) : Int) by omega] at this
    rw [this]; rfl
theorem look_out {ls : List (List Nat)} {a k : Int} (h : ¬ (a ≤ k ∧ k < a + ls.length)) : look (pagesFrom a ls) k = none := by
  rw [look_none]
  rintro ⟨f, hf, rfl⟩
  exact h (pagesFrom_mem ls a hf)
/-- A pager with the pages ls put, the first of them being the page 2. -/
def seqd (d : Dk.Pd) (cap : Int) (gen hz : Nat) (ls : List (List Nat)) : Pa := ⟨d, ⟨cap, 2 + ls.length, []⟩, gen, hz, pagesFrom 2 ls⟩
theorem seqd_code {d : Dk.Pd} {cap : Int} {gen hz : Nat} {ls : List (List Nat)} (hc : 2 + (ls.length : Int) < cap) {b : List Nat} (hb : b.length ≤ 1016) : putCode (seqd d cap gen hz ls) b = 0 ∧ putNo (seqd d cap gen hz ls) b = 2 + ls.length := by
  have h1 : Pl.allocCode (seqd d cap gen hz ls).pool (seqd d cap gen hz ls).hz = 0 := by
    unfold Pl.allocCode seqd
    simp only [Pl.first, List.findIdx?_nil]
    rw [if_neg (by omega)]
  have h2 : Pl.allocNo (seqd d cap gen hz ls).pool (seqd d cap gen hz ls).hz = 2 + ls.length := by
    unfold Pl.allocNo seqd
    simp only [Pl.first, List.findIdx?_nil]
    rw [if_neg (by omega)]
  have h3 : putCode (seqd d cap gen hz ls) b = 0 := by unfold putCode; rw [if_neg (by omega)]; exact h1
  exact ⟨h3, by unfold putNo; rw [if_pos h3]; exact h2⟩
theorem seqd_put {d : Dk.Pd} {cap : Int} {gen hz : Nat} {ls : List (List Nat)} (hc : 2 + (ls.length : Int) < cap) {b : List Nat} (hb : b.length ≤ 1016) : put (seqd d cap gen hz ls) b = seqd d cap gen hz (ls ++ [b]) := by
  obtain ⟨h1, _⟩ := seqd_code (d := d) (gen := gen) (hz := hz) hc hb
  unfold put
  rw [if_pos h1]
  unfold seqd Pl.alloc Pl.allocNo
  simp only [Pl.first, List.findIdx?_nil]
  rw [if_neg (by omega), if_neg (by omega), ins_end (fun f hf => (pagesFrom_mem ls 2 hf).2), pagesFrom_snoc]
  simp only [List.length_append, List.length_singleton]
  rw [show (2 : Int) + ((ls.length + 1 : Nat) : Int) = 2 + (ls.length : Int) + 1 by omega]
theorem seqd_nil (d : Dk.Pd) (cap : Int) (gen hz : Nat) : seqd d cap gen hz [] = ⟨d, ⟨cap, 2, []⟩, gen, hz, []⟩ := rfl
theorem set_look {a : Pa} {no : Int} {pay : List Nat} (k : Int) : look (set a no pay).l k = if setCode a no pay = 0 ∧ k = no then some (Pg.fill pay) else look a.l k := by
  unfold set
  by_cases h : setCode a no pay = 0
  · rw [if_pos h]
    show look (upd a.l no (Pg.fill pay)) k = _
    rw [look_upd]
    by_cases hk : k = no
    · rw [if_pos hk, if_pos ⟨h, hk⟩]
      have : (look a.l no).isSome = true := by
        unfold setCode at h
        split at h
        · rename_i h'; exact h'.1
        · omega
      obtain ⟨b, hb⟩ := Option.isSome_iff_exists.1 this
      rw [hb]; rfl
    · rw [if_neg hk, if_neg (fun h => hk h.2)]
  · rw [if_neg h, if_neg (fun h' => h h'.1)]
theorem set_len (a : Pa) (no : Int) (pay : List Nat) : (set a no pay).l.length = a.l.length := by
  unfold set; split
  · exact upd_len _ _ _
  · rfl
theorem set_disk (a : Pa) (no : Int) (pay : List Nat) : (set a no pay).disk = a.disk := by unfold set; split <;> rfl
theorem seqd_set {d : Dk.Pd} {cap : Int} {gen hz : Nat} {ls : List (List Nat)} {k : Int} (hk : 2 ≤ k) {pay : List Nat} (hp : pay.length ≤ 1016) :
    setCode (seqd d cap gen hz ls) k pay = if k < 2 + ls.length then 0 else 1 := by
  unfold setCode seqd
  simp only
  by_cases h : k < 2 + ls.length
  · rw [if_pos h, if_pos]
    refine ⟨?_, hp⟩
    obtain ⟨i, rfl⟩ : ∃ i : Nat, k = 2 + (i : Int) := ⟨(k - 2).toNat, by omega⟩
    rw [look_pages, List.getElem?_eq_getElem (by omega)]; rfl
  · rw [if_neg h, if_neg]
    rintro ⟨h1, _⟩
    rw [look_out (by omega)] at h1
    cases h1
theorem says_fresh {a : Pa} {no : Int} {b : List Nat} (h : look a.l no = some b) : says a no = some b := by unfold says; rw [h]

end Go.Proofs.Ytmcldkcmialfeaa.Pr
