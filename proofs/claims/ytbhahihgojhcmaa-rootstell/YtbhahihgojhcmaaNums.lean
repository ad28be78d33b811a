/-
  Plain facts on short numbers and numbers in order, as lists of bytes (natural numbers). No Go here.
-/
namespace Go.Proofs.Ytbhahihgojhcmaa.Nm

def putN : Nat → Nat → List Nat
  | 0, _ => []
  | f + 1, v => if v < 128 then [v] else (v % 128 + 128) :: putN f (v / 128)
def put (v : Nat) : List Nat := putN 10 v

def mayEnd (b i : Nat) : Bool := if i = 9 then b == 1 else (i == 0 || b != 0)

def getR : Nat → Nat → Nat → List Nat → Nat × Nat
  | 0, _, _, _ => (0, 0)
  | _ + 1, _, _, [] => (0, 0)
  | f + 1, i, acc, b :: r => if b < 128 then (if mayEnd b i then (acc + b * 128 ^ i, i + 1) else (0, 0)) else getR f (i + 1) (acc + (b - 128) * 128 ^ i) r
def get (l : List Nat) : Nat × Nat := getR 10 0 0 l

/-- The number that the bytes say, seven bits of each. -/
def val : List Nat → Nat
  | [] => 0
  | b :: r => b % 128 + 128 * val r

theorem putN_lt (f v : Nat) : ∀ x ∈ putN f v, x < 256 := by
  induction f generalizing v with
  | zero => intro x hx; simp [putN] at hx
  | succ f ih =>
    intro x hx
    unfold putN at hx
    by_cases h : v < 128
    · rw [if_pos h] at hx; simp at hx; omega
    · rw [if_neg h] at hx
      rcases List.mem_cons.1 hx with h' | h'
      · omega
      · exact ih _ x h'
theorem put_lt (v : Nat) : ∀ x ∈ put v, x < 256 := putN_lt 10 v

theorem putN_len (f v : Nat) : (putN f v).length ≤ f := by
  induction f generalizing v with
  | zero => simp [putN]
  | succ f ih =>
    unfold putN
    by_cases h : v < 128
    · rw [if_pos h]; simp
    · rw [if_neg h]; simp; exact ih _
theorem put_len (v : Nat) : (put v).length ≤ 10 := putN_len 10 v
theorem putN_pos (f v : Nat) : 0 < (putN (f + 1) v).length := by
  unfold putN; split <;> simp
theorem put_pos (v : Nat) : 0 < (put v).length := putN_pos 9 v
theorem putN_small (f v : Nat) (h : v < 128) : putN (f + 1) v = [v] := by unfold putN; rw [if_pos h]
theorem putN_great (f v : Nat) (h : ¬ v < 128) : putN (f + 1) v = (v % 128 + 128) :: putN f (v / 128) := by
  conv => lhs; unfold putN
  rw [if_neg h]

theorem putN_len_le (f n v : Nat) (hn : 0 < n) (h : v < 128 ^ n) : (putN f v).length ≤ n := by
  induction f generalizing v n with
  | zero => simp [putN]
  | succ f ih =>
    by_cases hv : v < 128
    · rw [putN_small f v hv]; simp; omega
    · rw [putN_great f v hv]
      simp only [List.length_cons]
      match n, hn, h with
      | 1, _, h => simp at h; omega
      | n + 2, _, h =>
        have : v / 128 < 128 ^ (n + 1) := by rw [Nat.pow_succ] at h; exact Nat.div_lt_of_lt_mul (by rw [Nat.mul_comm]; exact h)
        have := ih (n + 1) (v / 128) (by omega) this
        omega
theorem putN_lt_len (f v : Nat) (h : v < 128 ^ f) : v < 128 ^ (putN f v).length := by
  induction f generalizing v with
  | zero => simpa [putN] using h
  | succ f ih =>
    by_cases hv : v < 128
    · rw [putN_small f v hv]; simpa using hv
    · rw [putN_great f v hv]
      have h1 : v / 128 < 128 ^ f := by rw [Nat.pow_succ] at h; exact Nat.div_lt_of_lt_mul (by rw [Nat.mul_comm]; exact h)
      have := ih (v / 128) h1
      simp only [List.length_cons, Nat.pow_succ]
      omega
theorem val_putN (f v : Nat) (h : v < 128 ^ f) : val (putN f v) = v := by
  induction f generalizing v with
  | zero => simp at h; simp [putN, val, h]
  | succ f ih =>
    by_cases hv : v < 128
    · rw [putN_small f v hv]; simp [val]; omega
    · rw [putN_great f v hv]
      have h1 : v / 128 < 128 ^ f := by rw [Nat.pow_succ] at h; exact Nat.div_lt_of_lt_mul (by rw [Nat.mul_comm]; exact h)
      simp only [val, ih _ h1]; omega
theorem pow_128_10 : (128 : Nat) ^ 10 = 1180591620717411303424 := by decide
theorem val_put (v : Nat) (h : v < 18446744073709551616) : val (put v) = v := val_putN 10 v (by rw [pow_128_10]; omega)

/-- What was put is got again, whatever stands behind. -/
theorem getR_putN (f : Nat) : ∀ (i acc v : Nat) (b : List Nat), i + f = 10 → v < 128 ^ f → v * 128 ^ i < 18446744073709551616 → (i = 0 ∨ v ≠ 0) →
    getR f i acc (putN f v ++ b) = (acc + v * 128 ^ i, i + (putN f v).length) := by
  induction f with
  | zero => intro i acc v b hi hv _ h0; simp at hv; omega
  | succ f ih =>
    intro i acc v b hi hv hm h0
    by_cases hs : v < 128
    · rw [putN_small f v hs]
      have hme : mayEnd v i = true := by
        unfold mayEnd
        by_cases h9 : i = 9
        · subst h9
          have : v < 2 := by
            have : (128 : Nat) ^ 9 = 9223372036854775808 := by decide
            rw [this] at hm; omega
          simp; omega
        · rw [if_neg h9]; rcases h0 with h0 | h0 <;> simp [h0]
      simp [getR, hs, hme]
    · rw [putN_great f v hs]
      have h1 : v / 128 < 128 ^ f := by rw [Nat.pow_succ] at hv; exact Nat.div_lt_of_lt_mul (by rw [Nat.mul_comm]; exact hv)
      have e : v * 128 ^ i = v % 128 * 128 ^ i + v / 128 * 128 ^ (i + 1) := by
        conv => lhs; rw [← Nat.mod_add_div v 128, Nat.add_mul]
        rw [Nat.pow_succ]
        congr 1
        rw [Nat.mul_comm 128 (v / 128), Nat.mul_assoc, Nat.mul_comm 128]
      have hb : ¬ v % 128 + 128 < 128 := by omega
      have := ih (i + 1) (acc + v % 128 * 128 ^ i) (v / 128) b (by omega) h1 (by omega) (.inr (by omega))
      simp only [List.cons_append, getR, hb, if_false, Nat.add_sub_cancel, this, List.length_cons]
      rw [e]
      congr 1 <;> omega
theorem get_put (v : Nat) (b : List Nat) (h : v < 18446744073709551616) : get (put v ++ b) = (v, (put v).length) := by
  have := getR_putN 10 0 0 v b rfl (by rw [pow_128_10]; omega) (by simpa using h) (.inl rfl)
  simpa [get, put] using this

/-! ### Reading, by the place of the first byte below 128 -/
theorem getR_none (f : Nat) : ∀ (i acc : Nat) (l : List Nat), (∀ j, j < f → ∀ x, l[j]? = some x → 128 ≤ x) → getR f i acc l = (0, 0) := by
  induction f with
  | zero => intro i acc l _; rfl
  | succ f ih =>
    intro i acc l h
    match l with
    | [] => rfl
    | b :: r =>
      have hb : ¬ b < 128 := by have := h 0 (by omega) b rfl; omega
      simp only [getR, hb, if_false]
      exact ih _ _ _ fun j hj x hx => h (j + 1) (by omega) x (by simpa using hx)
theorem getR_at (n : Nat) : ∀ (f i acc : Nat) (l : List Nat) (c : Nat), n < f → (∀ j, j < n → ∀ x, l[j]? = some x → 128 ≤ x ∧ x < 256) → l[n]? = some c → c < 128 →
    getR f i acc l = if mayEnd c (i + n) then (acc + val (l.take (n + 1)) * 128 ^ i, i + n + 1) else (0, 0) := by
  induction n with
  | zero =>
    intro f i acc l c hf _ hc hlt
    match f, l, hf, hc with
    | f + 1, b :: r, _, hc =>
      simp at hc; subst hc
      simp only [getR, hlt, if_true, Nat.add_zero]
      have : b % 128 = b := Nat.mod_eq_of_lt hlt
      simp [val, this]
  | succ n ih =>
    intro f i acc l c hf hb hc hlt
    match f, l, hf, hc with
    | f + 1, b :: r, hf, hc =>
      have h0 := hb 0 (by omega) b rfl
      have hn : ¬ b < 128 := by omega
      simp only [getR, hn, if_false]
      rw [ih f (i + 1) _ r c (by omega) (fun j hj x hx => hb (j + 1) (by omega) x (by simpa using hx)) (by simpa using hc) hlt]
      have e1 : i + 1 + n = i + (n + 1) := by omega
      rw [e1]
      have e2 : b % 128 = b - 128 := by omega
      have e3 : val ((b :: r).take (n + 1 + 1)) = (b - 128) + 128 * val (r.take (n + 1)) := by simp only [List.take_succ_cons, val, e2]
      rw [e3]
      split
      · congr 1
        rw [Nat.add_mul, Nat.pow_succ, ← Nat.add_assoc]
        congr 1
        rw [Nat.mul_comm 128 (val _), Nat.mul_assoc, Nat.mul_comm 128]
      · rfl
theorem val_lt (l : List Nat) : val l < 128 ^ l.length := by
  induction l with
  | nil => simp [val]
  | cons b r ih => simp only [val, List.length_cons, Nat.pow_succ]; omega
theorem putN_val (n : Nat) : ∀ (f : Nat) (l : List Nat) (c : Nat), n < f → l.length = n + 1 → (∀ j, j < n → ∀ x, l[j]? = some x → 128 ≤ x ∧ x < 256) → l[n]? = some c → c < 128 → (n = 0 ∨ c ≠ 0) →
    putN f (val l) = l ∧ (c ≠ 0 → 0 < val l) := by
  induction n with
  | zero =>
    intro f l c hf hl _ hc hlt _
    match f, l, hf, hl, hc with
    | f + 1, [b], _, _, hc =>
      simp at hc; subst hc
      have : b % 128 = b := Nat.mod_eq_of_lt hlt
      simp only [val, this, Nat.mul_zero, Nat.add_zero]
      exact ⟨putN_small f b hlt, fun h => by omega⟩
  | succ n ih =>
    intro f l c hf hl hb hc hlt h0
    match f, l, hf, hl, hc with
    | f + 1, b :: r, hf, hl, hc =>
      have hb0 := hb 0 (by omega) b rfl
      have hc0 : c ≠ 0 := by omega
      obtain ⟨h1, h2⟩ := ih f r c (by omega) (by simpa using hl) (fun j hj x hx => hb (j + 1) (by omega) x (by simpa using hx)) (by simpa using hc) hlt (.inr hc0)
      have h3 := h2 hc0
      have e : val (b :: r) = b % 128 + 128 * val r := rfl
      have hg : ¬ val (b :: r) < 128 := by omega
      refine ⟨?_, fun _ => by omega⟩
      rw [putN_great f _ hg]
      have e1 : val (b :: r) % 128 + 128 = b := by omega
      have e2 : val (b :: r) / 128 = val r := by omega
      rw [e1, e2, h1]
theorem val_append_one (l : List Nat) (c : Nat) : val (l ++ [c]) = val l + c % 128 * 128 ^ l.length := by
  induction l with
  | nil => simp [val]
  | cons b r ih => simp only [List.cons_append, val, ih, List.length_cons, Nat.pow_succ, Nat.mul_add]; rw [← Nat.add_assoc, Nat.mul_comm 128 (c % 128 * _), Nat.mul_assoc]

/-- The document's way of reading: the bytes up to the first one below 128, and whether they are what would be put. -/
theorem get_at (l : List Nat) (n c : Nat) (hn : n < 10) (hb : ∀ j, j < n → ∀ x, l[j]? = some x → 128 ≤ x ∧ x < 256) (hc : l[n]? = some c) (hlt : c < 128) :
    get l = if put (val (l.take (n + 1)) % 18446744073709551616) = l.take (n + 1) then (val (l.take (n + 1)) % 18446744073709551616, n + 1) else (0, 0) := by
  have hget := getR_at n 10 0 0 l c hn hb hc hlt
  have hln : n < l.length := by
    rcases Nat.lt_or_ge n l.length with h | h
    · exact h
    · rw [List.getElem?_eq_none h] at hc; cases hc
  have hlen : (l.take (n + 1)).length = n + 1 := by simp; omega
  have hsplit : l.take (n + 1) = l.take n ++ [c] := by
    rw [List.take_add_one, hc]; rfl
  have hval : val (l.take (n + 1)) = val (l.take n) + c * 128 ^ n := by
    rw [hsplit, val_append_one]
    have : c % 128 = c := Nat.mod_eq_of_lt hlt
    rw [this, List.length_take, Nat.min_eq_left (by omega)]
  have hlow : val (l.take n) < 128 ^ n := by
    have := val_lt (l.take n)
    have e : (l.take n).length = n := by simp; omega
    rwa [e] at this
  have hbt : ∀ j, j < n → ∀ x, (l.take (n + 1))[j]? = some x → 128 ≤ x ∧ x < 256 := fun j hj x hx => hb j hj x (by rw [List.getElem?_take] at hx; simpa [show j < n + 1 by omega] using hx)
  have hct : (l.take (n + 1))[n]? = some c := by rw [List.getElem?_take, if_pos (by omega)]; exact hc
  have h9 : (128 : Nat) ^ 9 = 9223372036854775808 := by decide
  simp only [get]
  rw [hget]
  simp only [Nat.zero_add, Nat.pow_zero, Nat.mul_one]
  by_cases hme : mayEnd c n = true
  · rw [if_pos hme]
    have hcan : n = 0 ∨ c ≠ 0 := by
      unfold mayEnd at hme
      by_cases h : n = 9
      · rw [if_pos h] at hme; right; simp at hme; omega
      · rw [if_neg h] at hme; simpa using hme
    have hsm : val (l.take (n + 1)) < 18446744073709551616 := by
      by_cases h : n = 9
      · subst h
        unfold mayEnd at hme
        simp at hme
        subst hme
        rw [hval, h9]; rw [h9] at hlow; omega
      · have h1 := val_lt (l.take (n + 1))
        rw [hlen] at h1
        have h2 : (128 : Nat) ^ (n + 1) ≤ 128 ^ 9 := Nat.pow_le_pow_right (by omega) (by omega)
        omega
    have hp := (putN_val n 10 (l.take (n + 1)) c hn hlen hbt hct hlt hcan).1
    rw [Nat.mod_eq_of_lt hsm]
    have hp' : put (val (l.take (n + 1))) = l.take (n + 1) := hp
    rw [if_pos hp']
  · rw [if_neg hme]
    have : ¬ put (val (l.take (n + 1)) % 18446744073709551616) = l.take (n + 1) := by
      intro hp
      have hx : val (l.take (n + 1)) % 18446744073709551616 < 18446744073709551616 := Nat.mod_lt _ (by omega)
      have hv := val_put _ hx
      rw [hp] at hv
      apply hme
      unfold mayEnd
      have hc0 : n = 0 ∨ c ≠ 0 := by
        rcases Nat.eq_zero_or_pos n with h | h
        · exact .inl h
        · right
          intro h0
          have hle : val (l.take (n + 1)) < 128 ^ n := by rw [hval, h0]; omega
          have := putN_len_le 10 n (val (l.take (n + 1)) % 18446744073709551616) h (by omega)
          rw [show putN 10 _ = put _ from rfl, hp, hlen] at this
          omega
      by_cases h : n = 9
      · rw [if_pos h]
        subst h
        have : c < 2 := by rw [h9] at hval; omega
        simp; omega
      · rw [if_neg h]; simpa using hc0
    rw [if_neg this]
theorem get_none (l : List Nat) (h : ∀ j, j < 10 → ∀ x, l[j]? = some x → 128 ≤ x) : get l = (0, 0) := getR_none 10 0 0 l h
theorem get_fst_lt (l : List Nat) (hb : ∀ x ∈ l, x < 256) : (get l).1 < 18446744073709551616 := by
  by_cases h : ∀ j, j < 10 → ∀ x, l[j]? = some x → 128 ≤ x
  · rw [get_none l h]; decide
  · have : ∃ n, n < 10 ∧ (∀ j, j < n → ∀ x, l[j]? = some x → 128 ≤ x) ∧ ∃ c, l[n]? = some c ∧ c < 128 := by
      have key : ∀ m, m ≤ 10 → (∀ j, j < m → ∀ x, l[j]? = some x → 128 ≤ x) ∨ ∃ n, n < m ∧ (∀ j, j < n → ∀ x, l[j]? = some x → 128 ≤ x) ∧ ∃ c, l[n]? = some c ∧ c < 128 := by
        intro m
        induction m with
        | zero => intro _; left; intro j hj; omega
        | succ m ih =>
          intro hm
          rcases ih (by omega) with h1 | ⟨n, h1, h2⟩
          · cases hc : l[m]? with
            | none => left; intro j hj x hx; rcases Nat.lt_or_ge j m with h | h
                      · exact h1 j h x hx
                      · have : j = m := by omega
                        subst this; rw [hc] at hx; cases hx
            | some c =>
              by_cases hl : c < 128
              · right; exact ⟨m, by omega, h1, c, hc, hl⟩
              · left; intro j hj x hx; rcases Nat.lt_or_ge j m with h | h
                · exact h1 j h x hx
                · have : j = m := by omega
                  subst this; rw [hc] at hx; cases hx; omega
          · right; exact ⟨n, by omega, h2⟩
      rcases key 10 (by omega) with h1 | ⟨n, h1, h2⟩
      · exact absurd h1 h
      · exact ⟨n, h1, h2⟩
    obtain ⟨n, hn, h1, c, hc, hl⟩ := this
    rw [get_at l n c hn (fun j hj x hx => ⟨h1 j hj x hx, hb x (List.mem_of_getElem? hx)⟩) hc hl]
    split
    · exact Nat.mod_lt _ (by omega)
    · decide

/-! ### The last byte, and doubles -/
theorem putN_last (f v : Nat) (h : v < 128 ^ f) (hv : 0 < v) : (putN f v).getD ((putN f v).length - 1) 0 ≠ 0 := by
  induction f generalizing v with
  | zero => simp at h; omega
  | succ f ih =>
    by_cases hs : v < 128
    · rw [putN_small f v hs]; simp; omega
    · rw [putN_great f v hs]
      have h1 : v / 128 < 128 ^ f := by rw [Nat.pow_succ] at h; exact Nat.div_lt_of_lt_mul (by rw [Nat.mul_comm]; exact h)
      have := ih (v / 128) h1 (by omega)
      have hp : 0 < (putN f (v / 128)).length := by
        cases f with
        | zero => simp at h1; omega
        | succ f => exact putN_pos f _
      simp only [List.length_cons, Nat.add_sub_cancel]
      rw [show (putN f (v / 128)).length = ((putN f (v / 128)).length - 1) + 1 by omega, List.getD_cons_succ]
      exact this
theorem put_double (v : Nat) (h : v < 18446744073709551616) : (put (2 * v)).length ≤ (put v).length + 1 := by
  have h1 : v < 128 ^ (put v).length := putN_lt_len 10 v (by rw [pow_128_10]; omega)
  exact putN_len_le 10 _ _ (by omega) (by rw [Nat.pow_succ]; omega)
/-- A number with a sign and the one with all bits turned: 2u and 2u + 1. -/
theorem put_pair (u : Nat) : ∃ c r, put (2 * u) = c :: r ∧ put (2 * u + 1) = (c + 1) :: r ∧ c % 2 = 0 := by
  have e : ∀ f v, putN (f + 1) v = (if v < 128 then v else v % 128 + 128) :: (if v < 128 then [] else putN f (v / 128)) := by
    intro f v; by_cases h : v < 128
    · rw [putN_small f v h, if_pos h, if_pos h]
    · rw [putN_great f v h, if_neg h, if_neg h]
  refine ⟨_, _, e 9 (2 * u), ?_, ?_⟩
  · show putN (9 + 1) (2 * u + 1) = _
    rw [e 9 (2 * u + 1)]
    by_cases h : 2 * u < 128
    · have h' : 2 * u + 1 < 128 := by omega
      simp [h, h']
    · have h' : ¬ 2 * u + 1 < 128 := by omega
      have e1 : (2 * u + 1) / 128 = 2 * u / 128 := by omega
      simp only [h, h', if_false, e1]
      congr 1; omega
  · by_cases h : 2 * u < 128 <;> simp only [h, if_true, if_false] <;> omega

/-! ### Numbers in order: the greatest byte first -/
def be : Nat → Nat → List Nat
  | 0, _ => []
  | n + 1, v => be n (v / 256) ++ [v % 256]
def fromBe (l : List Nat) : Nat := l.foldl (fun a b => a * 256 + b) 0
theorem be_len (n v : Nat) : (be n v).length = n := by
  induction n generalizing v with
  | zero => rfl
  | succ n ih => simp [be, ih]
theorem be_lt (n v : Nat) : ∀ x ∈ be n v, x < 256 := by
  induction n generalizing v with
  | zero => intro x hx; simp [be] at hx
  | succ n ih =>
    intro x hx
    rcases List.mem_append.1 hx with h | h
    · exact ih _ x h
    · simp at h; omega
theorem fromBe_snoc (l : List Nat) (b : Nat) : fromBe (l ++ [b]) = fromBe l * 256 + b := by simp [fromBe]
theorem fromBe_be (n v : Nat) (h : v < 256 ^ n) : fromBe (be n v) = v := by
  induction n generalizing v with
  | zero => simp at h; simp [be, fromBe, h]
  | succ n ih =>
    have h1 : v / 256 < 256 ^ n := by rw [Nat.pow_succ] at h; exact Nat.div_lt_of_lt_mul (by rw [Nat.mul_comm]; exact h)
    simp only [be, fromBe_snoc, ih _ h1]; omega
theorem foldl_lt (l : List Nat) (hb : ∀ x ∈ l, x < 256) (a : Nat) : l.foldl (fun a b => a * 256 + b) a < (a + 1) * 256 ^ l.length := by
  induction l generalizing a with
  | nil => simp
  | cons b r ih =>
    have h1 := ih (fun x hx => hb x (by simp [hx])) (a * 256 + b)
    have h2 := hb b (by simp)
    simp only [List.foldl_cons, List.length_cons, Nat.pow_succ]
    have h3 : (a * 256 + b + 1) * 256 ^ r.length ≤ (a + 1) * (256 ^ r.length * 256) := by
      rw [Nat.mul_comm (256 ^ r.length) 256, ← Nat.mul_assoc]
      exact Nat.mul_le_mul_right _ (by omega)
    omega
theorem fromBe_lt (l : List Nat) (hb : ∀ x ∈ l, x < 256) : fromBe l < 256 ^ l.length := by
  have := foldl_lt l hb 0; simpa [fromBe] using this
theorem foldl_eq (l : List Nat) (a : Nat) : l.foldl (fun a b => a * 256 + b) a = a * 256 ^ l.length + fromBe l := by
  induction l generalizing a with
  | nil => simp [fromBe]
  | cons b r ih =>
    simp only [List.foldl_cons, List.length_cons, Nat.pow_succ, fromBe, Nat.zero_mul, Nat.zero_add]
    rw [ih (a * 256 + b), ih b, Nat.add_mul, Nat.mul_comm (256 ^ r.length) 256, ← Nat.mul_assoc, Nat.add_assoc]
theorem fromBe_cons (b : Nat) (r : List Nat) : fromBe (b :: r) = b * 256 ^ r.length + fromBe r := by
  have := foldl_eq r b
  simpa [fromBe] using this

/-- Which row comes first, byte by byte. -/
def lexLess : List Nat → List Nat → Bool
  | [], [] => false
  | [], _ :: _ => true
  | _ :: _, [] => false
  | a :: r, b :: s => if a = b then lexLess r s else decide (a < b)
theorem lexLess_fromBe (l m : List Nat) (hl : l.length = m.length) (h1 : ∀ x ∈ l, x < 256) (h2 : ∀ x ∈ m, x < 256) : lexLess l m = decide (fromBe l < fromBe m) := by
  induction l generalizing m with
  | nil =>
    match m, hl with
    | [], _ => simp [lexLess]
  | cons a r ih =>
    match m, hl with
    | b :: s, hl =>
      have hlen : r.length = s.length := by simpa using hl
      have i1 := fromBe_lt r fun x hx => h1 x (by simp [hx])
      have i2 := fromBe_lt s fun x hx => h2 x (by simp [hx])
      rw [fromBe_cons, fromBe_cons, hlen]
      rw [hlen] at i1
      unfold lexLess
      by_cases h : a = b
      · subst h
        rw [if_pos rfl, ih s hlen (fun x hx => h1 x (by simp [hx])) (fun x hx => h2 x (by simp [hx]))]
        congr 1
        apply propext
        omega
      · rw [if_neg h]
        congr 1
        apply propext
        constructor
        · intro hab
          have : (a + 1) * 256 ^ s.length ≤ b * 256 ^ s.length := Nat.mul_le_mul_right _ (by omega)
          rw [Nat.add_mul] at this; omega
        · intro hab
          rcases Nat.lt_or_ge a b with h' | h'
          · exact h'
          · have : (b + 1) * 256 ^ s.length ≤ a * 256 ^ s.length := Nat.mul_le_mul_right _ (by omega)
            rw [Nat.add_mul] at this; omega
theorem lexLess_be (n x y : Nat) (hx : x < 256 ^ n) (hy : y < 256 ^ n) : lexLess (be n x) (be n y) = decide (x < y) := by
  rw [lexLess_fromBe _ _ (by simp [be_len]) (be_lt n x) (be_lt n y), fromBe_be n x hx, fromBe_be n y hy]
end Go.Proofs.Ytbhahihgojhcmaa.Nm
