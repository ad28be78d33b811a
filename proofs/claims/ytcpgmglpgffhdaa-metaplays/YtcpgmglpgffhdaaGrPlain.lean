/-
  Plain facts on short numbers and numbers in order, as lists of bytes (natural numbers). No Go here.
-/
/-
  The sum of bytes (CRC-32C), plainly: one bit at a time, on natural numbers. No Go here.
-/
/-
  A page, plainly: what it says, filled up, its number, the sum of all that stands ahead. No Go here.
-/
/-
  A disk, plainly: what is safe, what waits, how many acts are left till the power goes, whether it is gone. No Go here.
-/
/-
  A meta, plainly: whether it is one, what its page says, which meta a page says. No Go here.
-/
/-
  When a page says a meta, part by part. No Go here.
-/
/-
  Which meta a place of a disk tells, and which is the newest. No Go here.
-/
/-
  Metas on a disk of two pages, plainly: what is newest behind writes, and behind a loss of power. No Go here.
-/
namespace Go.Proofs.Ytcpgmglpgffhdaa.Nm

def putN : Nat → Nat → List Nat
  | 0, _ => []
  | f + 1, v => if v < 128 then [v] else (v % 128 + 128) :: putN f (v / 128)
def put (v : Nat) : List Nat := putN 10 v

def mayEnd (b i : Nat) : Bool := if i = 9 then b == 1 else (i == 0 || b != 0)

def getR : Nat → Nat → Nat → List Nat → Nat × Nat
  | 0, _, _, _ => (0, 0)
  | _ + 1, _, _, [] => (0, 0)
  | f + 1, i, acc, b :: r => if b < 128 then (if mayEnd b i then (acc + b * 128 ^ i, i + 1) else (0, 0)) else getR f (i + 1) (acc + (b - 128) * 128 ^ i) r
def get (l : List Nat) : Nat × Nat := getR 10 0 0 l

/-- The number that the bytes say, seven bits of each. -/
def val : List Nat → Nat
  | [] => 0
  | b :: r => b % 128 + 128 * val r

theorem putN_lt (f v : Nat) : ∀ x ∈ putN f v, x < 256 := by
  induction f generalizing v with
  | zero => intro x hx; simp [putN] at hx
  | succ f ih =>
    intro x hx
    unfold putN at hx
    by_cases h : v < 128
    · rw [if_pos h] at hx; simp at hx; omega
    · rw [if_neg h] at hx
      rcases List.mem_cons.1 hx with h' | h'
      · omega
      · exact ih _ x h'
theorem put_lt (v : Nat) : ∀ x ∈ put v, x < 256 := putN_lt 10 v

theorem putN_len (f v : Nat) : (putN f v).length ≤ f := by
  induction f generalizing v with
  | zero => simp [putN]
  | succ f ih =>
    unfold putN
    by_cases h : v < 128
    · rw [if_pos h]; simp
    · rw [if_neg h]; simp; exact ih _
theorem put_len (v : Nat) : (put v).length ≤ 10 := putN_len 10 v
theorem putN_pos (f v : Nat) : 0 < (putN (f + 1) v).length := by
  unfold putN; split <;> simp
theorem put_pos (v : Nat) : 0 < (put v).length := putN_pos 9 v
theorem putN_small (f v : Nat) (h : v < 128) : putN (f + 1) v = [v] := by unfold putN; rw [if_pos h]
theorem putN_great (f v : Nat) (h : ¬ v < 128) : putN (f + 1) v = (v % 128 + 128) :: putN f (v / 128) := by
  conv => lhs; unfold putN
  rw [if_neg h]

theorem putN_len_le (f n v : Nat) (hn : 0 < n) (h : v < 128 ^ n) : (putN f v).length ≤ n := by
  induction f generalizing v n with
  | zero => simp [putN]
  | succ f ih =>
    by_cases hv : v < 128
    · rw [putN_small f v hv]; simp; omega
    · rw [putN_great f v hv]
      simp only [List.length_cons]
      match n, hn, h with
      | 1, _, h => simp at h; omega
      | n + 2, _, h =>
        have : v / 128 < 128 ^ (n + 1) := by rw [Nat.pow_succ] at h; exact Nat.div_lt_of_lt_mul (by rw [Nat.mul_comm]; exact h)
        have := ih (n + 1) (v / 128) (by omega) this
        omega
theorem putN_lt_len (f v : Nat) (h : v < 128 ^ f) : v < 128 ^ (putN f v).length := by
  induction f generalizing v with
  | zero => simpa [putN] using h
  | succ f ih =>
    by_cases hv : v < 128
    · rw [putN_small f v hv]; simpa using hv
    · rw [putN_great f v hv]
      have h1 : v / 128 < 128 ^ f := by rw [Nat.pow_succ] at h; exact Nat.div_lt_of_lt_mul (by rw [Nat.mul_comm]; exact h)
      have := ih (v / 128) h1
      simp only [List.length_cons, Nat.pow_succ]
      omega
theorem val_putN (f v : Nat) (h : v < 128 ^ f) : val (putN f v) = v := by
  induction f generalizing v with
  | zero => simp at h; simp [putN, val, h]
  | succ f ih =>
    by_cases hv : v < 128
    · rw [putN_small f v hv]; simp [val]; omega
    · rw [putN_great f v hv]
      have h1 : v / 128 < 128 ^ f := by rw [Nat.pow_succ] at h; exact Nat.div_lt_of_lt_mul (by rw [Nat.mul_comm]; exact h)
      simp only [val, ih _ h1]; omega
theorem pow_128_10 : (128 : Nat) ^ 10 = 1180591620717411303424 := by decide
theorem val_put (v : Nat) (h : v < 18446744073709551616) : val (put v) = v := val_putN 10 v (by rw [pow_128_10]; omega)

/-- What was put is got again, whatever stands behind. -/
theorem getR_putN (f : Nat) : ∀ (i acc v : Nat) (b : List Nat), i + f = 10 → v < 128 ^ f → v * 128 ^ i < 18446744073709551616 → (i = 0 ∨ v ≠ 0) →
    getR f i acc (putN f v ++ b) = (acc + v * 128 ^ i, i + (putN f v).length) := by
  induction f with
  | zero => intro i acc v b hi hv _ h0; simp at hv; omega
  | succ f ih =>
    intro i acc v b hi hv hm h0
    by_cases hs : v < 128
    · rw [putN_small f v hs]
      have hme : mayEnd v i = true := by
        unfold mayEnd
        by_cases h9 : i = 9
        · subst h9
          have : v < 2 := by
            have : (128 : Nat) ^ 9 = 9223372036854775808 := by decide
            rw [this] at hm; omega
          simp; omega
        · rw [if_neg h9]; rcases h0 with h0 | h0 <;> simp [h0]
      simp [getR, hs, hme]
    · rw [putN_great f v hs]
      have h1 : v / 128 < 128 ^ f := by rw [Nat.pow_succ] at hv; exact Nat.div_lt_of_lt_mul (by rw [Nat.mul_comm]; exact hv)
      have e : v * 128 ^ i = v % 128 * 128 ^ i + v / 128 * 128 ^ (i + 1) := by
        conv => lhs; rw [← Nat.mod_add_div v 128, Nat.add_mul]
        rw [Nat.pow_succ]
        congr 1
        rw [Nat.mul_comm 128 (v / 128), Nat.mul_assoc, Nat.mul_comm 128]
      have hb : ¬ v % 128 + 128 < 128 := by omega
      have := ih (i + 1) (acc + v % 128 * 128 ^ i) (v / 128) b (by omega) h1 (by omega) (.inr (by omega))
      simp only [List.cons_append, getR, hb, if_false, Nat.add_sub_cancel, this, List.length_cons]
      rw [e]
      congr 1 <;> omega
theorem get_put (v : Nat) (b : List Nat) (h : v < 18446744073709551616) : get (put v ++ b) = (v, (put v).length) := by
  have := getR_putN 10 0 0 v b rfl (by rw [pow_128_10]; omega) (by simpa using h) (.inl rfl)
  simpa [get, put] using this

/-! ### Reading, by the place of the first byte below 128 -/
theorem getR_none (f : Nat) : ∀ (i acc : Nat) (l : List Nat), (∀ j, j < f → ∀ x, l[j]? = some x → 128 ≤ x) → getR f i acc l = (0, 0) := by
  induction f with
  | zero => intro i acc l _; rfl
  | succ f ih =>
    intro i acc l h
    match l with
    | [] => rfl
    | b :: r =>
      have hb : ¬ b < 128 := by have := h 0 (by omega) b rfl; omega
      simp only [getR, hb, if_false]
      exact ih _ _ _ fun j hj x hx => h (j + 1) (by omega) x (by simpa using hx)
theorem getR_at (n : Nat) : ∀ (f i acc : Nat) (l : List Nat) (c : Nat), n < f → (∀ j, j < n → ∀ x, l[j]? = some x → 128 ≤ x ∧ x < 256) → l[n]? = some c → c < 128 →
    getR f i acc l = if mayEnd c (i + n) then (acc + val (l.take (n + 1)) * 128 ^ i, i + n + 1) else (0, 0) := by
  induction n with
  | zero =>
    intro f i acc l c hf _ hc hlt
    match f, l, hf, hc with
    | f + 1, b :: r, _, hc =>
      simp at hc; subst hc
      simp only [getR, hlt, if_true, Nat.add_zero]
      have : b % 128 = b := Nat.mod_eq_of_lt hlt
      simp [val, this]
  | succ n ih =>
    intro f i acc l c hf hb hc hlt
    match f, l, hf, hc with
    | f + 1, b :: r, hf, hc =>
      have h0 := hb 0 (by omega) b rfl
      have hn : ¬ b < 128 := by omega
      simp only [getR, hn, if_false]
      rw [ih f (i + 1) _ r c (by omega) (fun j hj x hx => hb (j + 1) (by omega) x (by simpa using hx)) (by simpa using hc) hlt]
      have e1 : i + 1 + n = i + (n + 1) := by omega
      rw [e1]
      have e2 : b % 128 = b - 128 := by omega
      have e3 : val ((b :: r).take (n + 1 + 1)) = (b - 128) + 128 * val (r.take (n + 1)) := by simp only [List.take_succ_cons, val, e2]
      rw [e3]
      split
      · congr 1
        rw [Nat.add_mul, Nat.pow_succ, ← Nat.add_assoc]
        congr 1
        rw [Nat.mul_comm 128 (val _), Nat.mul_assoc, Nat.mul_comm 128]
      · rfl
theorem val_lt (l : List Nat) : val l < 128 ^ l.length := by
  induction l with
  | nil => simp [val]
  | cons b r ih => simp only [val, List.length_cons, Nat.pow_succ]; omega
theorem putN_val (n : Nat) : ∀ (f : Nat) (l : List Nat) (c : Nat), n < f → l.length = n + 1 → (∀ j, j < n → ∀ x, l[j]? = some x → 128 ≤ x ∧ x < 256) → l[n]? = some c → c < 128 → (n = 0 ∨ c ≠ 0) →
    putN f (val l) = l ∧ (c ≠ 0 → 0 < val l) := by
  induction n with
  | zero =>
    intro f l c hf hl _ hc hlt _
    match f, l, hf, hl, hc with
    | f + 1, [b], _, _, hc =>
      simp at hc; subst hc
      have : b % 128 = b := Nat.mod_eq_of_lt hlt
      simp only [val, this, Nat.mul_zero, Nat.add_zero]
      exact ⟨putN_small f b hlt, fun h => by omega⟩
  | succ n ih =>
    intro f l c hf hl hb hc hlt h0
    match f, l, hf, hl, hc with
    | f + 1, b :: r, hf, hl, hc =>
      have hb0 := hb 0 (by omega) b rfl
      have hc0 : c ≠ 0 := by omega
      obtain ⟨h1, h2⟩ := ih f r c (by omega) (by simpa using hl) (fun j hj x hx => hb (j + 1) (by omega) x (by simpa using hx)) (by simpa using hc) hlt (.inr hc0)
      have h3 := h2 hc0
      have e : val (b :: r) = b % 128 + 128 * val r := rfl
      have hg : ¬ val (b :: r) < 128 := by omega
      refine ⟨?_, fun _ => by omega⟩
      rw [putN_great f _ hg]
      have e1 : val (b :: r) % 128 + 128 = b := by omega
      have e2 : val (b :: r) / 128 = val r := by omega
      rw [e1, e2, h1]
theorem val_append_one (l : List Nat) (c : Nat) : val (l ++ [c]) = val l + c % 128 * 128 ^ l.length := by
  induction l with
  | nil => simp [val]
  | cons b r ih => simp only [List.cons_append, val, ih, List.length_cons, Nat.pow_succ, Nat.mul_add]; rw [← Nat.add_assoc, Nat.mul_comm 128 (c % 128 * _), Nat.mul_assoc]

/-- The document's way of reading: the bytes up to the first one below 128, and whether they are what would be put. -/
theorem get_at (l : List Nat) (n c : Nat) (hn : n < 10) (hb : ∀ j, j < n → ∀ x, l[j]? = some x → 128 ≤ x ∧ x < 256) (hc : l[n]? = some c) (hlt : c < 128) :
    get l = if put (val (l.take (n + 1)) % 18446744073709551616) = l.take (n + 1) then (val (l.take (n + 1)) % 18446744073709551616, n + 1) else (0, 0) := by
  have hget := getR_at n 10 0 0 l c hn hb hc hlt
  have hln : n < l.length := by
    rcases Nat.lt_or_ge n l.length with h | h
    · exact h
    · rw [List.getElem?_eq_none h] at hc; cases hc
  have hlen : (l.take (n + 1)).length = n + 1 := by simp; omega
  have hsplit : l.take (n + 1) = l.take n ++ [c] := by
    rw [List.take_add_one, hc]; rfl
  have hval : val (l.take (n + 1)) = val (l.take n) + c * 128 ^ n := by
    rw [hsplit, val_append_one]
    have : c % 128 = c := Nat.mod_eq_of_lt hlt
    rw [this, List.length_take, Nat.min_eq_left (by omega)]
  have hlow : val (l.take n) < 128 ^ n := by
    have := val_lt (l.take n)
    have e : (l.take n).length = n := by simp; omega
    rwa [e] at this
  have hbt : ∀ j, j < n → ∀ x, (l.take (n + 1))[j]? = some x → 128 ≤ x ∧ x < 256 := fun j hj x hx => hb j hj x (by rw [List.getElem?_take] at hx; simpa [show j < n + 1 by omega] using hx)
  have hct : (l.take (n + 1))[n]? = some c := by rw [List.getElem?_take, if_pos (by omega)]; exact hc
  have h9 : (128 : Nat) ^ 9 = 9223372036854775808 := by decide
  simp only [get]
  rw [hget]
  simp only [Nat.zero_add, Nat.pow_zero, Nat.mul_one]
  by_cases hme : mayEnd c n = true
  · rw [if_pos hme]
    have hcan : n = 0 ∨ c ≠ 0 := by
      unfold mayEnd at hme
      by_cases h : n = 9
      · rw [if_pos h] at hme; right; simp at hme; omega
      · rw [if_neg h] at hme; simpa using hme
    have hsm : val (l.take (n + 1)) < 18446744073709551616 := by
      by_cases h : n = 9
      · subst h
        unfold mayEnd at hme
        simp at hme
        subst hme
        rw [hval, h9]; rw [h9] at hlow; omega
      · have h1 := val_lt (l.take (n + 1))
        rw [hlen] at h1
        have h2 : (128 : Nat) ^ (n + 1) ≤ 128 ^ 9 := Nat.pow_le_pow_right (by omega) (by omega)
        omega
    have hp := (putN_val n 10 (l.take (n + 1)) c hn hlen hbt hct hlt hcan).1
    rw [Nat.mod_eq_of_lt hsm]
    have hp' : put (val (l.take (n + 1))) = l.take (n + 1) := hp
    rw [if_pos hp']
  · rw [if_neg hme]
    have : ¬ put (val (l.take (n + 1)) % 18446744073709551616) = l.take (n + 1) := by
      intro hp
      have hx : val (l.take (n + 1)) % 18446744073709551616 < 18446744073709551616 := Nat.mod_lt _ (by omega)
      have hv := val_put _ hx
      rw [hp] at hv
      apply hme
      unfold mayEnd
      have hc0 : n = 0 ∨ c ≠ 0 := by
        rcases Nat.eq_zero_or_pos n with h | h
        · exact .inl h
        · right
          intro h0
          have hle : val (l.take (n + 1)) < 128 ^ n := by rw [hval, h0]; omega
          have := putN_len_le 10 n (val (l.take (n + 1)) % 18446744073709551616) h (by omega)
          rw [show putN 10 _ = put _ from rfl, hp, hlen] at this
          omega
      by_cases h : n = 9
      · rw [if_pos h]
        subst h
        have : c < 2 := by rw [h9] at hval; omega
        simp; omega
      · rw [if_neg h]; simpa using hc0
    rw [if_neg this]
theorem get_none (l : List Nat) (h : ∀ j, j < 10 → ∀ x, l[j]? = some x → 128 ≤ x) : get l = (0, 0) := getR_none 10 0 0 l h
theorem get_fst_lt (l : List Nat) (hb : ∀ x ∈ l, x < 256) : (get l).1 < 18446744073709551616 := by
  by_cases h : ∀ j, j < 10 → ∀ x, l[j]? = some x → 128 ≤ x
  · rw [get_none l h]; decide
  · have : ∃ n, n < 10 ∧ (∀ j, j < n → ∀ x, l[j]? = some x → 128 ≤ x) ∧ ∃ c, l[n]? = some c ∧ c < 128 := by
      have key : ∀ m, m ≤ 10 → (∀ j, j < m → ∀ x, l[j]? = some x → 128 ≤ x) ∨ ∃ n, n < m ∧ (∀ j, j < n → ∀ x, l[j]? = some x → 128 ≤ x) ∧ ∃ c, l[n]? = some c ∧ c < 128 := by
        intro m
        induction m with
        | zero => intro _; left; intro j hj; omega
        | succ m ih =>
          intro hm
          rcases ih (by omega) with h1 | ⟨n, h1, h2⟩
          · cases hc : l[m]? with
            | none => left; intro j hj x hx; rcases Nat.lt_or_ge j m with h | h
                      · exact h1 j h x hx
                      · have : j = m := by omega
                        subst this; rw [hc] at hx; cases hx
            | some c =>
              by_cases hl : c < 128
              · right; exact ⟨m, by omega, h1, c, hc, hl⟩
              · left; intro j hj x hx; rcases Nat.lt_or_ge j m with h | h
                · exact h1 j h x hx
                · have : j = m := by omega
                  subst this; rw [hc] at hx; cases hx; omega
          · right; exact ⟨n, by omega, h2⟩
      rcases key 10 (by omega) with h1 | ⟨n, h1, h2⟩
      · exact absurd h1 h
      · exact ⟨n, h1, h2⟩
    obtain ⟨n, hn, h1, c, hc, hl⟩ := this
    rw [get_at l n c hn (fun j hj x hx => ⟨h1 j hj x hx, hb x (List.mem_of_getElem? hx)⟩) hc hl]
    split
    · exact Nat.mod_lt _ (by omega)
    · decide

/-! ### The last byte, and doubles -/
theorem putN_last (f v : Nat) (h : v < 128 ^ f) (hv : 0 < v) : (putN f v).getD ((putN f v).length - 1) 0 ≠ 0 := by
  induction f generalizing v with
  | zero => simp at h; omega
  | succ f ih =>
    by_cases hs : v < 128
    · rw [putN_small f v hs]; simp; omega
    · rw [putN_great f v hs]
      have h1 : v / 128 < 128 ^ f := by rw [Nat.pow_succ] at h; exact Nat.div_lt_of_lt_mul (by rw [Nat.mul_comm]; exact h)
      have := ih (v / 128) h1 (by omega)
      have hp : 0 < (putN f (v / 128)).length := by
        cases f with
        | zero => simp at h1; omega
        | succ f => exact putN_pos f _
      simp only [List.length_cons, Nat.add_sub_cancel]
      rw [show (putN f (v / 128)).length = ((putN f (v / 128)).length - 1) + 1 by omega, List.getD_cons_succ]
      exact this
theorem put_double (v : Nat) (h : v < 18446744073709551616) : (put (2 * v)).length ≤ (put v).length + 1 := by
  have h1 : v < 128 ^ (put v).length := putN_lt_len 10 v (by rw [pow_128_10]; omega)
  exact putN_len_le 10 _ _ (by omega) (by rw [Nat.pow_succ]; omega)
/-- A number with a sign and the one with all bits turned: 2u and 2u + 1. -/
theorem put_pair (u : Nat) : ∃ c r, put (2 * u) = c :: r ∧ put (2 * u + 1) = (c + 1) :: r ∧ c % 2 = 0 := by
  have e : ∀ f v, putN (f + 1) v = (if v < 128 then v else v % 128 + 128) :: (if v < 128 then [] else putN f (v / 128)) := by
    intro f v; by_cases h : v < 128
    · rw [putN_small f v h, if_pos h, if_pos h]
    · rw [putN_great f v h, if_neg h, if_neg h]
  refine ⟨_, _, e 9 (2 * u), ?_, ?_⟩
  · show putN (9 + 1) (2 * u + 1) = _
    rw [e 9 (2 * u + 1)]
    by_cases h : 2 * u < 128
    · have h' : 2 * u + 1 < 128 := by omega
      simp [h, h']
    · have h' : ¬ 2 * u + 1 < 128 := by omega
      have e1 : (2 * u + 1) / 128 = 2 * u / 128 := by omega
      simp only [h, h', if_false, e1]
      congr 1; omega
  · by_cases h : 2 * u < 128 <;> simp only [h, if_true, if_false] <;> omega

/-! ### Numbers in order: the greatest byte first -/
def be : Nat → Nat → List Nat
  | 0, _ => []
  | n + 1, v => be n (v / 256) ++ [v % 256]
def fromBe (l : List Nat) : Nat := l.foldl (fun a b => a * 256 + b) 0
theorem be_len (n v : Nat) : (be n v).length = n := by
  induction n generalizing v with
  | zero => rfl
  | succ n ih => simp [be, ih]
theorem be_lt (n v : Nat) : ∀ x ∈ be n v, x < 256 := by
  induction n generalizing v with
  | zero => intro x hx; simp [be] at hx
  | succ n ih =>
    intro x hx
    rcases List.mem_append.1 hx with h | h
    · exact ih _ x h
    · simp at h; omega
theorem fromBe_snoc (l : List Nat) (b : Nat) : fromBe (l ++ [b]) = fromBe l * 256 + b := by simp [fromBe]
theorem fromBe_be (n v : Nat) (h : v < 256 ^ n) : fromBe (be n v) = v := by
  induction n generalizing v with
  | zero => simp at h; simp [be, fromBe, h]
  | succ n ih =>
    have h1 : v / 256 < 256 ^ n := by rw [Nat.pow_succ] at h; exact Nat.div_lt_of_lt_mul (by rw [Nat.mul_comm]; exact h)
    simp only [be, fromBe_snoc, ih _ h1]; omega
theorem foldl_lt (l : List Nat) (hb : ∀ x ∈ l, x < 256) (a : Nat) : l.foldl (fun a b => a * 256 + b) a < (a + 1) * 256 ^ l.length := by
  induction l generalizing a with
  | nil => simp
  | cons b r ih =>
    have h1 := ih (fun x hx => hb x (by simp [hx])) (a * 256 + b)
    have h2 := hb b (by simp)
    simp only [List.foldl_cons, List.length_cons, Nat.pow_succ]
    have h3 : (a * 256 + b + 1) * 256 ^ r.length ≤ (a + 1) * (256 ^ r.length * 256) := by
      rw [Nat.mul_comm (256 ^ r.length) 256, ← Nat.mul_assoc]
      exact Nat.mul_le_mul_right _ (by omega)
    omega
theorem fromBe_lt (l : List Nat) (hb : ∀ x ∈ l, x < 256) : fromBe l < 256 ^ l.length := by
  have := foldl_lt l hb 0; simpa [fromBe] using this
theorem foldl_eq (l : List Nat) (a : Nat) : l.foldl (fun a b => a * 256 + b) a = a * 256 ^ l.length + fromBe l := by
  induction l generalizing a with
  | nil => simp [fromBe]
  | cons b r ih =>
    simp only [List.foldl_cons, List.length_cons, Nat.pow_succ, fromBe, Nat.zero_mul, Nat.zero_add]
    rw [ih (a * 256 + b), ih b, Nat.add_mul, Nat.mul_comm (256 ^ r.length) 256, ← Nat.mul_assoc, Nat.add_assoc]
theorem fromBe_cons (b : Nat) (r : List Nat) : fromBe (b :: r) = b * 256 ^ r.length + fromBe r := by
  have := foldl_eq r b
  simpa [fromBe] using this

/-- Which row comes first, byte by byte. -/
def lexLess : List Nat → List Nat → Bool
  | [], [] => false
  | [], _ :: _ => true
  | _ :: _, [] => false
  | a :: r, b :: s => if a = b then lexLess r s else decide (a < b)
theorem lexLess_fromBe (l m : List Nat) (hl : l.length = m.length) (h1 : ∀ x ∈ l, x < 256) (h2 : ∀ x ∈ m, x < 256) : lexLess l m = decide (fromBe l < fromBe m) := by
  induction l generalizing m with
  | nil =>
    match m, hl with
    | [], _ => simp [lexLess]
  | cons a r ih =>
    match m, hl with
    | b :: s, hl =>
      have hlen : r.length = s.length := by simpa using hl
      have i1 := fromBe_lt r fun x hx => h1 x (by simp [hx])
      have i2 := fromBe_lt s fun x hx => h2 x (by simp [hx])
      rw [fromBe_cons, fromBe_cons, hlen]
      rw [hlen] at i1
      unfold lexLess
      by_cases h : a = b
      · subst h
        rw [if_pos rfl, ih s hlen (fun x hx => h1 x (by simp [hx])) (fun x hx => h2 x (by simp [hx]))]
        congr 1
        apply propext
        omega
      · rw [if_neg h]
        congr 1
        apply propext
        constructor
        · intro hab
          have : (a + 1) * 256 ^ s.length ≤ b * 256 ^ s.length := Nat.mul_le_mul_right _ (by omega)
          rw [Nat.add_mul] at this; omega
        · intro hab
          rcases Nat.lt_or_ge a b with h' | h'
          · exact h'
          · have : (b + 1) * 256 ^ s.length ≤ a * 256 ^ s.length := Nat.mul_le_mul_right _ (by omega)
            rw [Nat.add_mul] at this; omega
theorem lexLess_be (n x y : Nat) (hx : x < 256 ^ n) (hy : y < 256 ^ n) : lexLess (be n x) (be n y) = decide (x < y) := by
  rw [lexLess_fromBe _ _ (by simp [be_len]) (be_lt n x) (be_lt n y), fromBe_be n x hx, fromBe_be n y hy]
end Go.Proofs.Ytcpgmglpgffhdaa.Nm
namespace Go.Proofs.Ytcpgmglpgffhdaa.Cr

/-- One bit out. -/
def T (s : Nat) : Nat := if s % 2 = 1 then s / 2 ^^^ 2197175160 else s / 2
def Tn : Nat → Nat → Nat
  | 0, s => s
  | n + 1, s => Tn n (T s)
/-- One byte in. -/
def step (v b : Nat) : Nat := Tn 8 (v ^^^ b)
def run (v : Nat) (l : List Nat) : Nat := l.foldl step v
/-- The sum of bytes behind others that had the sum s. -/
def more (s : Nat) (l : List Nat) : Nat := 4294967295 - run (4294967295 - s) l
def sum (l : List Nat) : Nat := more 0 l

theorem lt_xor {a b : Nat} (ha : a < 4294967296) (hb : b < 4294967296) : a ^^^ b < 4294967296 := Nat.xor_lt_two_pow (n := 32) ha hb
theorem T_lt {s : Nat} (h : s < 4294967296) : T s < 4294967296 := by
  unfold T
  split
  · exact lt_xor (by omega) (by omega)
  · omega
theorem Tn_lt (n : Nat) {s : Nat} (h : s < 4294967296) : Tn n s < 4294967296 := by
  induction n generalizing s with
  | zero => exact h
  | succ n ih => exact ih (T_lt h)
theorem step_lt {v b : Nat} (h : v < 4294967296) (hb : b < 256) : step v b < 4294967296 := Tn_lt 8 (lt_xor h (by omega))
theorem run_lt {v : Nat} (h : v < 4294967296) (l : List Nat) (hl : ∀ x ∈ l, x < 256) : run v l < 4294967296 := by
  induction l generalizing v with
  | nil => exact h
  | cons x l ih => exact ih (step_lt h (hl x (by simp))) fun y hy => hl y (by simp [hy])
theorem more_lt (s : Nat) (l : List Nat) : more s l < 4294967296 := by unfold more; omega

theorem run_nil (v : Nat) : run v [] = v := rfl
theorem run_append (v : Nat) (a b : List Nat) : run v (a ++ b) = run (run v a) b := List.foldl_append
theorem run_snoc (v : Nat) (a : List Nat) (x : Nat) : run v (a ++ [x]) = step (run v a) x := by rw [run_append]; rfl
theorem more_nil {s : Nat} (h : s < 4294967296) : more s [] = s := by unfold more; rw [run_nil]; omega
theorem more_more {s : Nat} (h : s < 4294967296) (a b : List Nat) (ha : ∀ x ∈ a, x < 256) : more (more s a) b = more s (a ++ b) := by
  unfold more
  rw [run_append]
  have := run_lt (v := 4294967295 - s) (by omega) a ha
  congr 2; omega
theorem sum_more (a b : List Nat) (ha : ∀ x ∈ a, x < 256) : more (sum a) b = sum (a ++ b) := more_more (by omega) a b ha
theorem sum_nil : sum [] = 0 := rfl
theorem sum_known : sum [49, 50, 51, 52, 53, 54, 55, 56, 57] = 3808858755 := by decide +kernel

theorem xor_four (a b c d : Nat) : (a ^^^ b) ^^^ (c ^^^ d) = (a ^^^ c) ^^^ (b ^^^ d) := by
  rw [Nat.xor_assoc, Nat.xor_assoc, ← Nat.xor_assoc b c d, Nat.xor_comm b c, Nat.xor_assoc c b d]
theorem T_xor (a b : Nat) : T (a ^^^ b) = T a ^^^ T b := by
  unfold T
  have hd : (a ^^^ b) / 2 = a / 2 ^^^ b / 2 := Nat.xor_div_two
  have hm : (a ^^^ b) % 2 = a % 2 ^^^ b % 2 := Nat.xor_mod_two_pow (n := 1)
  rcases Nat.mod_two_eq_zero_or_one a with ha | ha <;> rcases Nat.mod_two_eq_zero_or_one b with hb | hb <;> rw [ha, hb] at hm <;> simp only [Nat.xor_zero, Nat.zero_xor, Nat.xor_self] at hm
  · rw [if_neg (by omega), if_neg (by omega), if_neg (by omega), hd]
  · rw [if_pos (by omega), if_neg (by omega), if_pos (by omega), hd, Nat.xor_assoc]
  · rw [if_pos (by omega), if_pos (by omega), if_neg (by omega), hd, Nat.xor_assoc, Nat.xor_assoc, Nat.xor_comm (b / 2)]
  · rw [if_neg (by omega), if_pos (by omega), if_pos (by omega), hd, xor_four, Nat.xor_self, Nat.xor_zero]
theorem Tn_xor (n a b : Nat) : Tn n (a ^^^ b) = Tn n a ^^^ Tn n b := by
  induction n generalizing a b with
  | zero => rfl
  | succ n ih => show Tn n (T _) = Tn n (T _) ^^^ Tn n (T _); rw [T_xor, ih]
theorem T_double (s : Nat) : T (2 * s) = s := by unfold T; rw [if_neg (by omega)]; omega
theorem Tn_out4 (s : Nat) : Tn 4 (16 * s) = s := by
  have h1 : 16 * s = 2 * (2 * (2 * (2 * s))) := by omega
  rw [h1]
  show T (T (T (T _))) = s
  simp only [T_double]
theorem Tn_add (m n s : Nat) : Tn (m + n) s = Tn n (Tn m s) := by
  induction m generalizing s with
  | zero => rw [Nat.zero_add]; rfl
  | succ m ih => rw [Nat.succ_add]; exact ih _
theorem Tn_out8 (s : Nat) : Tn 8 (256 * s) = s := by
  rw [show (8 : Nat) = 4 + 4 from rfl, Tn_add, show 256 * s = 16 * (16 * s) by omega, Tn_out4, Tn_out4]
theorem xor_low (q r : Nat) (h : r < 16) : 16 * q ^^^ r = 16 * q + r := by
  apply Nat.eq_of_testBit_eq
  intro i
  have e := Nat.testBit_two_pow_mul_add q (i := 4) (b := r) h i
  have e2 := Nat.testBit_two_pow_mul (i := 4) (a := q) (j := i)
  rw [show (2 : Nat) ^ 4 = 16 from rfl] at e e2
  rw [Nat.testBit_xor, e, e2]
  by_cases hi : i < 4
  · simp [hi, show ¬ 4 ≤ i by omega]
  · have : r.testBit i = false := Nat.testBit_lt_two_pow (Nat.lt_of_lt_of_le h (Nat.pow_le_pow_right (n := 2) (by decide) (by omega : 4 ≤ i)))
    simp [hi, this, show 4 ≤ i by omega]
/-- Four bits at a time: what falls out is looked up. -/
theorem Tn4 (s : Nat) : Tn 4 s = s / 16 ^^^ Tn 4 (s % 16) := by
  have h : s = 16 * (s / 16) ^^^ s % 16 := by rw [xor_low _ _ (by omega)]; omega
  conv => lhs; rw [h]
  rw [Tn_xor, Tn_out4]
theorem step_two (v b : Nat) : step v b = Tn 4 (Tn 4 (v ^^^ b)) := rfl

theorem eq_of_xor {a b : Nat} (h : a ^^^ b = 0) : a = b := by
  have : a ^^^ b ^^^ b = 0 ^^^ b := by rw [h]
  rw [Nat.xor_assoc, Nat.xor_self, Nat.xor_zero, Nat.zero_xor] at this
  exact this
theorem T_zero {s : Nat} (h : s < 4294967296) (h0 : T s = 0) : s = 0 := by
  unfold T at h0
  split at h0
  · have := eq_of_xor h0; omega
  · omega
theorem Tn_zero (n : Nat) {s : Nat} (h : s < 4294967296) (h0 : Tn n s = 0) : s = 0 := by
  induction n generalizing s with
  | zero => exact h0
  | succ n ih => exact T_zero h (ih (T_lt h) h0)
theorem Tn_inj (n : Nat) {a b : Nat} (ha : a < 4294967296) (hb : b < 4294967296) (h : Tn n a = Tn n b) : a = b :=
  eq_of_xor (Tn_zero n (lt_xor ha hb) (by rw [Tn_xor, h, Nat.xor_self]))
theorem xor_left {a b c : Nat} (h : a ^^^ b = a ^^^ c) : b = c := by
  have : a ^^^ (a ^^^ b) = a ^^^ (a ^^^ c) := by rw [h]
  rwa [← Nat.xor_assoc, ← Nat.xor_assoc, Nat.xor_self, Nat.zero_xor, Nat.zero_xor] at this
theorem step_inj {u v b : Nat} (hu : u < 4294967296) (hv : v < 4294967296) (hb : b < 256) (h : step u b = step v b) : u = v := by
  have := Tn_inj 8 (lt_xor hu (by omega)) (lt_xor hv (by omega)) h
  rw [Nat.xor_comm u, Nat.xor_comm v] at this
  exact xor_left this
theorem run_inj {u v : Nat} (hu : u < 4294967296) (hv : v < 4294967296) (l : List Nat) (hl : ∀ x ∈ l, x < 256) (h : run u l = run v l) : u = v := by
  induction l generalizing u v with
  | nil => exact h
  | cons x l ih =>
    have hx := hl x (by simp)
    exact step_inj hu hv hx (ih (step_lt hu hx) (step_lt hv hx) (fun y hy => hl y (by simp [hy])) h)
/-- What is exclusive or'd in comes out by itself. -/
theorem step_xor (v d b e : Nat) : step (v ^^^ d) (b ^^^ e) = step v b ^^^ step d e := by
  unfold step; rw [xor_four, Tn_xor]
theorem back {a b : Nat} (ha : a < 4294967296) (hb : b < 16777216) (h : Tn 8 a = b) : a = 256 * b :=
  Tn_inj 8 ha (by omega) (by rw [h, Tn_out8])
theorem undo {a b c : Nat} (h : a ^^^ b = c) : a = b ^^^ c := by
  rw [← h, Nat.xor_comm a b, ← Nat.xor_assoc, Nat.xor_self, Nat.zero_xor]
/-- Four bytes that are exclusive or'd in come out again, unless they are 0. -/
theorem four_zero {e0 e1 e2 e3 : Nat} (h0 : e0 < 256) (h1 : e1 < 256) (h2 : e2 < 256) (h3 : e3 < 256) (h : run 0 [e0, e1, e2, e3] = 0) : e0 = 0 ∧ e1 = 0 ∧ e2 = 0 ∧ e3 = 0 := by
  have L1 : step 0 e0 < 4294967296 := step_lt (by omega) h0
  have L2 : step (step 0 e0) e1 < 4294967296 := step_lt L1 h1
  have L3 : step (step (step 0 e0) e1) e2 < 4294967296 := step_lt L2 h2
  have a3 : step (step (step 0 e0) e1) e2 = e3 := eq_of_xor (Tn_zero 8 (lt_xor L3 (by omega)) h)
  have a2 : step (step 0 e0) e1 = e2 ^^^ 256 * e3 := undo (back (lt_xor L2 (by omega)) (by omega) a3)
  have b2 : e2 ^^^ 256 * e3 < 65536 := Nat.xor_lt_two_pow (n := 16) (by omega) (by omega)
  have a1 : step 0 e0 = e1 ^^^ 256 * (e2 ^^^ 256 * e3) := undo (back (lt_xor L1 (by omega)) (by omega) a2)
  have b1 : e1 ^^^ 256 * (e2 ^^^ 256 * e3) < 16777216 := Nat.xor_lt_two_pow (n := 24) (by omega) (by omega)
  have a0 : 0 ^^^ e0 = 256 * (e1 ^^^ 256 * (e2 ^^^ 256 * e3)) := back (lt_xor (by omega) (by omega)) (by omega) a1
  rw [Nat.zero_xor] at a0
  have z1 : e1 ^^^ 256 * (e2 ^^^ 256 * e3) = 0 := by omega
  have q1 := eq_of_xor z1
  have z2 : e2 ^^^ 256 * e3 = 0 := by omega
  have q2 := eq_of_xor z2
  omega
/-- Bits that are turned within four bytes that stand together: another sum. -/
theorem turned {v : Nat} (hv : v < 4294967296) (p q : List Nat) (hp : ∀ x ∈ p, x < 256) (hq : ∀ x ∈ q, x < 256) {x0 x1 x2 x3 e0 e1 e2 e3 : Nat}
    (hx0 : x0 < 256) (hx1 : x1 < 256) (hx2 : x2 < 256) (hx3 : x3 < 256) (h0 : e0 < 256) (h1 : e1 < 256) (h2 : e2 < 256) (h3 : e3 < 256) :
    run v (p ++ [x0 ^^^ e0, x1 ^^^ e1, x2 ^^^ e2, x3 ^^^ e3] ++ q) = run v (p ++ [x0, x1, x2, x3] ++ q) ↔ (e0 = 0 ∧ e1 = 0 ∧ e2 = 0 ∧ e3 = 0) := by
  have hxor : ∀ {a b : Nat}, a < 256 → b < 256 → a ^^^ b < 256 := fun ha hb => Nat.xor_lt_two_pow (n := 8) ha hb
  constructor
  · intro h
    rw [run_append, run_append, run_append, run_append] at h
    have hV := run_lt hv p hp
    generalize run v p = V at h hV
    have hb : ∀ x ∈ [x0 ^^^ e0, x1 ^^^ e1, x2 ^^^ e2, x3 ^^^ e3], x < 256 := by
      intro x hx
      simp only [List.mem_cons, List.not_mem_nil, or_false] at hx
      rcases hx with rfl | rfl | rfl | rfl
      · exact hxor hx0 h0
      · exact hxor hx1 h1
      · exact hxor hx2 h2
      · exact hxor hx3 h3
    have hc : ∀ x ∈ [x0, x1, x2, x3], x < 256 := by
      intro x hx
      simp only [List.mem_cons, List.not_mem_nil, or_false] at hx
      rcases hx with rfl | rfl | rfl | rfl <;> assumption
    have h' := run_inj (run_lt hV _ hb) (run_lt hV _ hc) q hq h
    have e : run V [x0 ^^^ e0, x1 ^^^ e1, x2 ^^^ e2, x3 ^^^ e3] = run V [x0, x1, x2, x3] ^^^ run 0 [e0, e1, e2, e3] := by
      simp only [run, List.foldl_cons, List.foldl_nil]
      rw [← step_xor, ← step_xor, ← step_xor, ← step_xor, Nat.xor_zero]
    rw [e] at h'
    refine four_zero h0 h1 h2 h3 ?_
    exact xor_left (a := run V [x0, x1, x2, x3]) (by rw [h', Nat.xor_zero])
  · rintro ⟨rfl, rfl, rfl, rfl⟩
    simp only [Nat.xor_zero]

end Go.Proofs.Ytcpgmglpgffhdaa.Cr
namespace Go.Proofs.Ytcpgmglpgffhdaa.Pg

def fill (l : List Nat) : List Nat := l ++ List.replicate (1016 - l.length) 0
/-- All that stands ahead of the sum. -/
def ahead (no : Nat) (l : List Nat) : List Nat := fill l ++ Nm.be 4 no
def page (no : Nat) (l : List Nat) : List Nat := ahead no l ++ Nm.be 4 (Cr.sum (ahead no l))
/-- The row l is opened at the place no. -/
def Opens (no : Int) (l : List Nat) : Prop := (0 ≤ no ∧ no ≤ 2147483647) ∧ l.length = 1024 ∧ Nm.fromBe (l.drop 1020) = Cr.sum (l.take 1020) ∧ (Nm.fromBe ((l.drop 1016).take 4) : Int) = no
def torn (l : List Nat) : List Nat := l.set (l.length - 1) (l.getD (l.length - 1) 0 ^^^ 255)

theorem fill_len {l : List Nat} (h : l.length ≤ 1016) : (fill l).length = 1016 := by simp [fill]; omega
theorem fill_lt {l : List Nat} (h : ∀ x ∈ l, x < 256) : ∀ x ∈ fill l, x < 256 := by
  intro x hx
  rcases List.mem_append.1 hx with h1 | h1
  · exact h x h1
  · have := List.eq_of_mem_replicate h1; omega
theorem fill_full {l : List Nat} (h : l.length = 1016) : fill l = l := by simp [fill, h]
theorem fill_more (l : List Nat) (k : Nat) (h : l.length + k ≤ 1016) : fill (l ++ List.replicate k 0) = fill l := by
  unfold fill
  rw [List.append_assoc, List.replicate_append_replicate, List.length_append, List.length_replicate]
  congr 2; omega
theorem fill_begin (l : List Nat) : (fill l).take l.length = l := by simp [fill]
theorem ahead_len {l : List Nat} (no : Nat) (h : l.length ≤ 1016) : (ahead no l).length = 1020 := by simp [ahead, fill_len h, Nm.be_len]
theorem ahead_lt {l : List Nat} (no : Nat) (h : ∀ x ∈ l, x < 256) : ∀ x ∈ ahead no l, x < 256 := by
  intro x hx
  rcases List.mem_append.1 hx with h1 | h1
  · exact fill_lt h x h1
  · exact Nm.be_lt _ _ x h1
theorem page_len {l : List Nat} (no : Nat) (h : l.length ≤ 1016) : (page no l).length = 1024 := by simp [page, ahead_len no h, Nm.be_len]
theorem page_lt {l : List Nat} (no : Nat) (h : ∀ x ∈ l, x < 256) : ∀ x ∈ page no l, x < 256 := by
  intro x hx
  rcases List.mem_append.1 hx with h1 | h1
  · exact ahead_lt no h x h1
  · exact Nm.be_lt _ _ x h1
theorem page_fill {l : List Nat} (no : Nat) (h : l.length ≤ 1016) : page no (fill l) = page no l := by
  unfold page ahead
  rw [fill_full (fill_len h)]
theorem page_ahead {l : List Nat} (no : Nat) (h : l.length ≤ 1016) : (page no l).take 1020 = ahead no l := by
  unfold page; rw [List.take_append_of_le_length (by rw [ahead_len no h]; omega), List.take_of_length_le (by rw [ahead_len no h]; omega)]
theorem page_sum {l : List Nat} (no : Nat) (h : l.length ≤ 1016) : (page no l).drop 1020 = Nm.be 4 (Cr.sum (ahead no l)) := by
  unfold page
  rw [List.drop_append_of_le_length (by rw [ahead_len no h]; omega), List.drop_eq_nil_of_le (by rw [ahead_len no h]; omega)]; rfl
theorem page_pay {l : List Nat} (no : Nat) (h : l.length ≤ 1016) : (page no l).take 1016 = fill l := by
  have e := page_ahead no h
  have : (page no l).take 1016 = ((page no l).take 1020).take 1016 := by rw [List.take_take]; rfl
  rw [this, e]; unfold ahead
  rw [List.take_append_of_le_length (by rw [fill_len h]; omega), List.take_of_length_le (by rw [fill_len h]; omega)]
theorem mid_eq (l : List Nat) : (l.drop 1016).take 4 = (l.take 1020).drop 1016 := by rw [List.take_drop]
theorem page_no {l : List Nat} (no : Nat) (h : l.length ≤ 1016) : ((page no l).drop 1016).take 4 = Nm.be 4 no := by
  rw [mid_eq, page_ahead no h]; unfold ahead
  rw [List.drop_append_of_le_length (by rw [fill_len h]; omega), List.drop_eq_nil_of_le (by rw [fill_len h]; omega)]; rfl
theorem four_of (v : Nat) (h : v < 4294967296) : Nm.fromBe (Nm.be 4 v) = v := by
  have e : (256 : Nat) ^ 4 = 4294967296 := by decide
  exact Nm.fromBe_be 4 v (by omega)
theorem foldl_inj (l m : List Nat) (hl : l.length = m.length) (h1 : ∀ x ∈ l, x < 256) (h2 : ∀ x ∈ m, x < 256) (h : Nm.fromBe l = Nm.fromBe m) : l = m := by
  induction l generalizing m with
  | nil => match m, hl with
    | [], _ => rfl
  | cons a r ih =>
    match m, hl with
    | b :: s, hl =>
      have hlen : r.length = s.length := by simpa using hl
      have i1 := Nm.fromBe_lt r fun x hx => h1 x (by simp [hx])
      have i2 := Nm.fromBe_lt s fun x hx => h2 x (by simp [hx])
      rw [Nm.fromBe_cons, Nm.fromBe_cons, hlen] at h
      rw [hlen] at i1
      have hab : a = b := by
        rcases Nat.lt_trichotomy a b with h' | h' | h'
        · have : (a + 1) * 256 ^ s.length ≤ b * 256 ^ s.length := Nat.mul_le_mul_right _ (by omega)
          rw [Nat.add_mul] at this; omega
        · exact h'
        · have : (b + 1) * 256 ^ s.length ≤ a * 256 ^ s.length := Nat.mul_le_mul_right _ (by omega)
          rw [Nat.add_mul] at this; omega
      subst hab
      rw [ih s hlen (fun x hx => h1 x (by simp [hx])) (fun x hx => h2 x (by simp [hx])) (by omega)]
/-- What is opened at a place is the page of that place. -/
theorem opens_page {no : Int} {l : List Nat} (hl : ∀ x ∈ l, x < 256) (h : Opens no l) : l = page no.toNat (l.take 1016) := by
  obtain ⟨h0, h1, h2, h3⟩ := h
  have t1016 : (l.take 1016).length = 1016 := by simp; omega
  have e1 : (l.drop 1016).take 4 = Nm.be 4 no.toNat := by
    refine foldl_inj _ _ (by simp [Nm.be_len]; omega) (fun x hx => hl x (List.mem_of_mem_drop (List.mem_of_mem_take hx))) (Nm.be_lt _ _) ?_
    rw [four_of _ (by omega)]; omega
  have e2 : ahead no.toNat (l.take 1016) = l.take 1020 := by
    unfold ahead
    rw [fill_full t1016, ← e1, mid_eq]
    conv => rhs; rw [← List.take_append_drop 1016 (l.take 1020)]
    rw [List.take_take]; rfl
  have e3 : l.drop 1020 = Nm.be 4 (Cr.sum (l.take 1020)) := by
    have hs : Cr.sum (l.take 1020) < 4294967296 := Cr.more_lt _ _
    refine foldl_inj _ _ (by simp [Nm.be_len]; omega) (fun x hx => hl x (List.mem_of_mem_drop hx)) (Nm.be_lt _ _) ?_
    rw [four_of _ hs]; exact h2
  unfold page
  rw [e2, ← e3, List.take_append_drop]
/-- The page of a place is opened there, and nowhere else. -/
theorem page_opens {l : List Nat} {no : Nat} (h : l.length ≤ 1016) (hno : no ≤ 2147483647) (other : Int) : Opens other (page no l) ↔ other = (no : Int) := by
  unfold Opens
  have hs : Cr.sum (ahead no l) < 4294967296 := Cr.more_lt _ _
  rw [page_len no h, page_sum no h, page_ahead no h, page_no no h, four_of _ hs, four_of _ (by omega)]
  constructor
  · rintro ⟨_, _, _, h4⟩; exact h4.symm
  · rintro rfl; exact ⟨by omega, rfl, rfl, rfl⟩
theorem opens_iff {no : Int} {l : List Nat} (hl : ∀ x ∈ l, x < 256) (hn : l.length = 1024) : Opens no l ↔ (0 ≤ no ∧ no ≤ 2147483647) ∧ page no.toNat (l.take 1016) = l := by
  constructor
  · intro h; exact ⟨h.1, (opens_page hl h).symm⟩
  · rintro ⟨h0, h1⟩
    rw [← h1]
    exact (page_opens (by simp; omega) (by omega) no).2 (by omega)
/-- Two rows that are opened at one place, and say the same, are the same. -/
theorem opens_same {no : Int} {l m : List Nat} (hl : ∀ x ∈ l, x < 256) (hm : ∀ x ∈ m, x < 256) (h1 : Opens no l) (h2 : Opens no m) (h : l.take 1016 = m.take 1016) : l = m := by
  rw [opens_page hl h1, opens_page hm h2, h]
theorem torn_len (l : List Nat) : (torn l).length = l.length := by simp [torn]
theorem xor_byte_lt {x : Nat} (h : x < 256) : x ^^^ 255 < 256 := Nat.xor_lt_two_pow (n := 8) h (by decide)
theorem torn_lt {l : List Nat} (h : ∀ x ∈ l, x < 256) : ∀ x ∈ torn l, x < 256 := by
  intro x hx
  rcases List.mem_or_eq_of_mem_set hx with h1 | h1
  · exact h x h1
  · subst h1
    refine xor_byte_lt ?_
    rw [List.getD_eq_getElem?_getD]
    cases hc : l[l.length - 1]? with
    | none => simp
    | some y => exact h y (List.mem_of_getElem? hc)
theorem torn_ne {l : List Nat} (h : 0 < l.length) : torn l ≠ l := by
  intro e
  have h1 : (torn l)[l.length - 1]? = l[l.length - 1]? := by rw [e]
  unfold torn at h1
  rw [List.getElem?_set_self (by omega), List.getD_eq_getElem?_getD, List.getElem?_eq_getElem (by omega), Option.getD_some] at h1
  injection h1 with h1
  have h2 : l[l.length - 1] ^^^ (l[l.length - 1] ^^^ 255) = l[l.length - 1] ^^^ l[l.length - 1] := by rw [h1]
  rw [← Nat.xor_assoc, Nat.xor_self, Nat.zero_xor] at h2
  exact absurd h2 (by decide)
theorem torn_shut {no : Int} {l : List Nat} (hl : ∀ x ∈ l, x < 256) (h : Opens no l) : ¬ Opens no (torn l) := by
  intro h2
  refine torn_ne (by have := h.2.1; omega) (opens_same (torn_lt hl) hl h2 h ?_)
  unfold torn
  rw [List.take_set, List.set_eq_of_length_le (by simp; have := h.2.1; omega)]

end Go.Proofs.Ytcpgmglpgffhdaa.Pg
namespace Go.Proofs.Ytcpgmglpgffhdaa.Dk

structure Pd where
  pages : List (List Nat)
  waits : List (Nat × List Nat)
  left : Nat
  down : Bool

/-- One more act, the power being there. -/
def act (d : Pd) : Pd := if d.left = 0 then d else { d with left := d.left - 1, down := decide (d.left = 1) }
def code (d : Pd) : Int := if d.down then 3 else 0
/-- One write more waits. -/
def push (d : Pd) (no : Nat) (l : List Nat) : Pd := { d with waits := d.waits ++ [(no, l)] }
/-- The pages behind the first k writes that wait. -/
def stTo (d : Pd) : Nat → List (List Nat)
  | 0 => d.pages
  | k + 1 => match d.waits[k]? with
    | some x => (stTo d k).set x.1 x.2
    | none => stTo d k
def settled (d : Pd) : Pd := { d with pages := stTo d d.waits.length, waits := [] }
def kept (keep : List Bool) (k : Nat) : Bool := keep.getD k false
/-- What survives of a write. -/
def left_ (torn : Int) (k : Nat) (l : List Nat) : List Nat := if (k : Int) = torn then Pg.torn l else l
/-- The pages behind the first k writes, of which some survive. -/
def crTo (d : Pd) (keep : List Bool) (torn : Int) : Nat → List (List Nat)
  | 0 => d.pages
  | k + 1 => match d.waits[k]? with
    | some x => if kept keep k then (crTo d keep torn k).set x.1 (left_ torn k x.2) else crTo d keep torn k
    | none => crTo d keep torn k
def crashed (d : Pd) (keep : List Bool) (torn : Int) : Pd := { pages := crTo d keep torn d.waits.length, waits := [], left := 0, down := false }
/-- The page no, as seen behind the first k writes. -/
def seenTo (d : Pd) (no : Nat) : Nat → List Nat
  | 0 => d.pages.getD no []
  | k + 1 => match d.waits[k]? with
    | some x => if x.1 = no then x.2 else seenTo d no k
    | none => seenTo d no k
def seen (d : Pd) (no : Nat) : List Nat := seenTo d no d.waits.length
def armed (d : Pd) (n : Nat) : Pd := { d with left := n }
def fresh (n : Nat) : Pd := { pages := List.replicate n (List.replicate 1024 0), waits := [], left := 0, down := false }
/-- Is there such a page? -/
def has (d : Pd) (no : Int) : Prop := 0 ≤ no ∧ no < (d.pages.length : Int)
instance (d : Pd) (no : Int) : Decidable (has d no) := inferInstanceAs (Decidable (_ ∧ _))

/-- A write, whole. -/
def write (d : Pd) (no : Int) (l : List Nat) : Pd := if has d no ∧ l.length = 1024 then (if d.down then d else act (push d no.toNat l)) else d
def writeCode (d : Pd) (no : Int) (l : List Nat) : Int := if has d no ∧ l.length = 1024 then (if d.down then 3 else code (act (push d no.toNat l))) else 1
/-- A sync, whole. -/
def sync (d : Pd) : Pd := if d.down then d else if (act d).down then act d else settled (act d)
def syncCode (d : Pd) : Int := if d.down then 3 else if (act d).down then 3 else 0

theorem act_pages (d : Pd) : (act d).pages = d.pages := by unfold act; split <;> rfl
theorem act_waits (d : Pd) : (act d).waits = d.waits := by unfold act; split <;> rfl
theorem act_left (d : Pd) : (act d).left ≤ d.left := by unfold act; split <;> simp
theorem stTo_len (d : Pd) : ∀ k, (stTo d k).length = d.pages.length
  | 0 => rfl
  | k + 1 => by
    unfold stTo
    split
    · rw [List.length_set, stTo_len d k]
    · exact stTo_len d k
theorem crTo_len (d : Pd) (keep : List Bool) (torn : Int) : ∀ k, (crTo d keep torn k).length = d.pages.length
  | 0 => rfl
  | k + 1 => by
    unfold crTo
    split
    · split
      · rw [List.length_set, crTo_len d keep torn k]
      · exact crTo_len d keep torn k
    · exact crTo_len d keep torn k
theorem cr_stay {d : Pd} {keep : List Bool} {torn : Int} {k : Nat} (hk : kept keep k = false) : crTo d keep torn (k + 1) = crTo d keep torn k := by
  rw [crTo]; split <;> simp [hk]
theorem crTo_far (d : Pd) (keep : List Bool) (torn : Int) : ∀ j, crTo d keep torn (keep.length + j) = crTo d keep torn keep.length
  | 0 => rfl
  | j + 1 => by
    have : kept keep (keep.length + j) = false := by unfold kept; rw [List.getD_eq_getElem?_getD, List.getElem?_eq_none (by omega)]; rfl
    rw [← Nat.add_assoc, cr_stay this, crTo_far d keep torn j]
theorem crTo_min (d : Pd) (keep : List Bool) (torn : Int) : crTo d keep torn (min d.waits.length keep.length) = crTo d keep torn d.waits.length := by
  rcases Nat.le_total d.waits.length keep.length with h | h
  · rw [Nat.min_eq_left h]
  · rw [Nat.min_eq_right h]
    have := crTo_far d keep torn (d.waits.length - keep.length)
    rw [← this]; congr 1; omega
theorem crTo_nil (d : Pd) (torn : Int) (k : Nat) : crTo d [] torn k = d.pages := by
  have := crTo_far d [] torn k
  simpa [crTo] using this
theorem st_step {d : Pd} {k : Nat} {x : Nat × List Nat} (h : d.waits[k]? = some x) : stTo d (k + 1) = (stTo d k).set x.1 x.2 := by
  rw [stTo, h]
theorem cr_step {d : Pd} {keep : List Bool} {torn : Int} {k : Nat} {x : Nat × List Nat} (h : d.waits[k]? = some x) (hk : kept keep k = true) : crTo d keep torn (k + 1) = (crTo d keep torn k).set x.1 (left_ torn k x.2) := by
  rw [crTo, h]; simp [hk]
theorem seen_step {d : Pd} {no k : Nat} {x : Nat × List Nat} (h : d.waits[k]? = some x) : seenTo d no (k + 1) = if x.1 = no then x.2 else seenTo d no k := by
  rw [seenTo, h]
/-- What is seen is what is safe behind a sync. -/
theorem st_seen (d : Pd) (hw : ∀ x ∈ d.waits, x.1 < d.pages.length) (no : Nat) : ∀ k, (stTo d k).getD no [] = seenTo d no k
  | 0 => rfl
  | k + 1 => by
    have ih := st_seen d hw no k
    unfold stTo seenTo
    split
    · rename_i x hx
      have hlt := hw x (List.mem_of_getElem? hx)
      rw [List.getD_eq_getElem?_getD, List.getElem?_set, stTo_len]
      by_cases he : x.1 = no
      · subst he; simp [hlt]
      · rw [if_neg he, if_neg he, ← List.getD_eq_getElem?_getD, ih]
    · exact ih
theorem seenTo_push (d : Pd) (no : Nat) (l : List Nat) (q : Nat) : ∀ k, k ≤ d.waits.length → seenTo (push d no l) q k = seenTo d q k
  | 0, _ => rfl
  | k + 1, h => by
    unfold seenTo
    have : (push d no l).waits[k]? = d.waits[k]? := by unfold push; simp only []; rw [List.getElem?_append_left (by omega)]
    rw [this]
    rw [seenTo_push d no l q k (by omega)]
theorem seen_push (d : Pd) (no : Nat) (l : List Nat) (q : Nat) : seen (push d no l) q = if no = q then l else seen d q := by
  unfold seen
  have hl : (push d no l).waits.length = d.waits.length + 1 := by simp [push]
  rw [hl, seen_step (x := (no, l)) (by simp [push]), seenTo_push d no l q _ (Nat.le_refl _)]
theorem seen_none (d : Pd) (no : Nat) (h : d.waits.any (fun x => x.1 == no) = false) : ∀ k, seenTo d no k = d.pages.getD no []
  | 0 => rfl
  | k + 1 => by
    unfold seenTo
    split
    · rename_i x hx
      have := List.any_eq_false.1 h x (List.mem_of_getElem? hx)
      rw [if_neg (by simpa using this)]
      exact seen_none d no h k
    · exact seen_none d no h k
theorem seen_eq {d e : Pd} (hp : d.pages = e.pages) (hw : d.waits = e.waits) (no : Nat) : seen d no = seen e no := by
  have : ∀ k, seenTo d no k = seenTo e no k := by
    intro k
    induction k with
    | zero => simp [seenTo, hp]
    | succ k ih => unfold seenTo; rw [hw, ih]
  unfold seen
  rw [hw, this]
theorem seen_act (d : Pd) (no : Nat) : seen (act d) no = seen d no := seen_eq (act_pages d) (act_waits d) no

end Go.Proofs.Ytcpgmglpgffhdaa.Dk
namespace Go.Proofs.Ytcpgmglpgffhdaa.Mt
open Nm

structure M where
  gen : Nat
  high : Int
  root : Int
  free : Int

/-- A page from 2 on and below high, or 0. -/
def At (high z : Int) : Prop := z = 0 ∨ 2 ≤ z ∧ z < high
instance (high z : Int) : Decidable (At high z) := inferInstanceAs (Decidable (_ ∨ _))
def May (m : M) : Prop := (1 ≤ m.gen ∧ m.gen ≤ 1152921504606846976) ∧ (2 ≤ m.high ∧ m.high ≤ 2048) ∧ At m.high m.root ∧ At m.high m.free
instance (m : M) : Decidable (May m) := inferInstanceAs (Decidable (_ ∧ _))
def pay (m : M) : List Nat := [67, 65, 77, 66] ++ (be 8 m.gen ++ (be 4 m.high.toNat ++ (be 4 m.root.toNat ++ be 4 m.free.toNat)))
/-- .. filled up. -/
def full (m : M) : List Nat := pay m ++ List.replicate 992 0
/-- The numbers where a page says them. -/
def of (b : List Nat) : M := ⟨fromBe ((b.drop 4).take 8), (fromBe ((b.drop 12).take 4) : Int), (fromBe ((b.drop 16).take 4) : Int), (fromBe ((b.drop 20).take 4) : Int)⟩
def Says (b : List Nat) : Prop := b.length = 1016 ∧ May (of b) ∧ full (of b) = b
instance (b : List Nat) : Decidable (Says b) := inferInstanceAs (Decidable (_ ∧ _))

theorem pay_len (m : M) : (pay m).length = 24 := by simp [pay, be_len]
theorem full_len (m : M) : (full m).length = 1016 := by unfold full; rw [List.length_append, pay_len, List.length_replicate]
theorem pay_lt (m : M) : ∀ x ∈ pay m, x < 256 := by
  intro x hx
  simp only [pay, List.mem_append] at hx
  rcases hx with h | h | h | h | h
  · simp at h; omega
  · exact be_lt _ _ x h
  · exact be_lt _ _ x h
  · exact be_lt _ _ x h
  · exact be_lt _ _ x h
theorem full_lt (m : M) : ∀ x ∈ full m, x < 256 := by
  intro x hx
  rcases List.mem_append.1 hx with h | h
  · exact pay_lt m x h
  · have := List.eq_of_mem_replicate h; omega
theorem drop_app {α : Type} {a b : List α} {k n : Nat} (h : a.length = k) : (a ++ b).drop (k + n) = b.drop n := by
  subst h; rw [List.drop_append]
  simp
theorem take_app {α : Type} {a b : List α} {k : Nat} (h : a.length = k) : (a ++ b).take k = a := by subst h; simp
theorem of_full (m : M) (h : May m) : of (full m) = m := by
  obtain ⟨g, hi, ro, fr⟩ := m
  obtain ⟨⟨g1, g2⟩, ⟨h1, h2⟩, r, f⟩ := h
  simp only at g1 g2 h1 h2
  have r' : 0 ≤ ro ∧ ro < 2048 := by rcases r with r | r <;> simp only at r <;> omega
  have f' : 0 ≤ fr ∧ fr < 2048 := by rcases f with f | f <;> simp only at f <;> omega
  have e : full ⟨g, hi, ro, fr⟩ = [67, 65, 77, 66] ++ (be 8 g ++ (be 4 hi.toNat ++ (be 4 ro.toNat ++ (be 4 fr.toNat ++ List.replicate 992 0)))) := by unfold full pay; generalize List.replicate 992 0 = Z; simp only [List.append_assoc]
  have d4 : (full ⟨g, hi, ro, fr⟩).drop 4 = be 8 g ++ (be 4 hi.toNat ++ (be 4 ro.toNat ++ (be 4 fr.toNat ++ List.replicate 992 0))) := by rw [e]; rfl
  have d12 : (full ⟨g, hi, ro, fr⟩).drop 12 = be 4 hi.toNat ++ (be 4 ro.toNat ++ (be 4 fr.toNat ++ List.replicate 992 0)) := by
    rw [show 12 = 4 + 8 from rfl, ← List.drop_drop, d4, show (8 : Nat) = 8 + 0 from rfl, drop_app (be_len 8 g), List.drop_zero]
  have d16 : (full ⟨g, hi, ro, fr⟩).drop 16 = be 4 ro.toNat ++ (be 4 fr.toNat ++ List.replicate 992 0) := by
    rw [show 16 = 12 + 4 from rfl, ← List.drop_drop, d12, show (4 : Nat) = 4 + 0 from rfl, drop_app (be_len 4 _), List.drop_zero]
  have d20 : (full ⟨g, hi, ro, fr⟩).drop 20 = be 4 fr.toNat ++ List.replicate 992 0 := by
    rw [show 20 = 16 + 4 from rfl, ← List.drop_drop, d16, show (4 : Nat) = 4 + 0 from rfl, drop_app (be_len 4 _), List.drop_zero]
  unfold of
  rw [d4, d12, d16, d20, take_app (be_len 8 g), take_app (be_len 4 _), take_app (be_len 4 _), take_app (be_len 4 _), fromBe_be 8 g (by omega), fromBe_be 4 _ (by omega), fromBe_be 4 _ (by omega), fromBe_be 4 _ (by omega)]
  congr <;> omega
theorem says_full (m : M) (h : May m) : Says (full m) := ⟨full_len m, by rw [of_full m h]; exact h, by rw [of_full m h]⟩
theorem full_inj {a b : M} (ha : May a) (hb : May b) (h : full a = full b) : a = b := by rw [← of_full a ha, h, of_full b hb]
theorem pay_inj {a b : M} (ha : May a) (hb : May b) (h : pay a = pay b) : a = b := full_inj ha hb (by unfold full; rw [h])

end Go.Proofs.Ytcpgmglpgffhdaa.Mt
namespace Go.Proofs.Ytcpgmglpgffhdaa.Mt
open Nm
set_option linter.unusedVariables false

theorem be_of {k : Nat} {l : List Nat} (hl : l.length = k) (hb : ∀ x ∈ l, x < 256) : be k (fromBe l) = l := by
  have h := fromBe_lt l hb
  rw [hl] at h
  exact Pg.foldl_inj _ _ (by rw [be_len, hl]) (be_lt _ _) hb (fromBe_be k _ h)
theorem cut_eq (l : List Nat) (a k : Nat) : l.drop a = (l.drop a).take k ++ l.drop (a + k) := by
  rw [← List.drop_drop, List.take_append_drop]
theorem says_iff {l : List Nat} (hl : l.length = 1016) (hb : ∀ x ∈ l, x < 256) : Says l ↔ (l.take 4 = [67, 65, 77, 66] ∧ l.drop 24 = List.replicate 992 0) ∧ May (of l) := by
  constructor
  · rintro ⟨_, h1, h2⟩
    refine ⟨⟨?_, ?_⟩, h1⟩
    · rw [← h2]; rfl
    · rw [← h2]
      unfold full
      rw [show (24 : Nat) = 24 + 0 from rfl, drop_app (pay_len _), List.drop_zero]
  · rintro ⟨⟨h1, h2⟩, h3⟩
    refine ⟨hl, h3, ?_⟩
    have p : ∀ a k, a + k ≤ 1016 → be k (fromBe ((l.drop a).take k)) = (l.drop a).take k := fun a k h => be_of (by rw [List.length_take, List.length_drop]; omega) fun x hx => hb x (List.mem_of_mem_drop (List.mem_of_mem_take hx))
    unfold full pay of
    simp only [Int.toNat_natCast]
    rw [p 4 8 (by omega), p 12 4 (by omega), p 16 4 (by omega), p 20 4 (by omega), ← h1, ← h2]
    simp only [List.append_assoc]
    rw [← cut_eq l 20 4, ← cut_eq l 16 4, ← cut_eq l 12 4, ← cut_eq l 4 8, List.take_append_drop]

end Go.Proofs.Ytcpgmglpgffhdaa.Mt
namespace Go.Proofs.Ytcpgmglpgffhdaa.Mt
open Nm
set_option linter.unusedVariables false

def zero : M := ⟨0, 0, 0, 0⟩
/-- A row of bytes at the place no tells a meta. -/
def Told (no : Nat) (l : List Nat) : Prop := Pg.Opens (no : Int) l ∧ Says (l.take 1016) ∧ (of (l.take 1016)).gen % 2 = no
instance (no : Int) (l : List Nat) : Decidable (Pg.Opens no l) := inferInstanceAs (Decidable (_ ∧ _))
instance (no : Nat) (l : List Nat) : Decidable (Told no l) := inferInstanceAs (Decidable (_ ∧ _))
def toldBy (no : Nat) (l : List Nat) : Option M := if Told no l then some (of (l.take 1016)) else none
def tells (d : Dk.Pd) (no : Nat) : Option M := if no < d.pages.length then toldBy no (Dk.seen d no) else none
def top (a : M) (o : Option M) : M := match o with
  | some m => if a.gen < m.gen then m else a
  | none => a
def newest (d : Dk.Pd) : M := top (top zero (tells d 0)) (tells d 1)
def newestCode (d : Dk.Pd) : Int := if (newest d).gen = 0 then 7 else 0

theorem top_zero {a : M} {o : Option M} (h : (top a o).gen = 0) : top a o = a ∧ a.gen = 0 := by
  unfold top at h ⊢
  split at h
  · split at h
    · omega
    · exact ⟨if_neg (by assumption), h⟩
  · exact ⟨rfl, h⟩
theorem newest_zero {d : Dk.Pd} (h : (newest d).gen = 0) : newest d = zero := by
  have h1 := top_zero h
  have h2 := top_zero h1.2
  unfold newest
  rw [h1.1, h2.1]
theorem toldBy_lt {no : Nat} {l : List Nat} {m : M} (h : toldBy no l = some m) : May m := by
  unfold toldBy at h
  split at h
  · rename_i ht
    injection h with h
    subst h
    exact ht.2.1.2.1
  · cases h
theorem tells_may {d : Dk.Pd} {no : Nat} {m : M} (h : tells d no = some m) : May m := by
  unfold tells at h
  split at h
  · exact toldBy_lt h
  · cases h
theorem may_gen {m : M} (h : May m) : 1 ≤ m.gen ∧ m.gen ≤ 1152921504606846976 := h.1
theorem top_le {a : M} {o : Option M} (ha : a.gen ≤ 1152921504606846976) (ho : ∀ m, o = some m → May m) : (top a o).gen ≤ 1152921504606846976 := by
  unfold top
  split
  · split
    · exact (ho _ rfl).1.2
    · exact ha
  · exact ha
theorem newest_le (d : Dk.Pd) : (newest d).gen ≤ 1152921504606846976 := top_le (top_le (by decide) fun _ h => tells_may h) fun _ h => tells_may h

/-- The page of a meta. -/
def pageOf (m : M) : List Nat := Pg.page (m.gen % 2) (pay m)
theorem pageOf_len (m : M) : (pageOf m).length = 1024 := Pg.page_len _ (by rw [pay_len]; omega)
theorem pageOf_lt (m : M) : ∀ x ∈ pageOf m, x < 256 := Pg.page_lt _ (pay_lt m)
theorem pageOf_take (m : M) : (pageOf m).take 1016 = full m := by
  unfold pageOf
  rw [Pg.page_pay _ (by rw [pay_len]; omega)]
  unfold Pg.fill full
  rw [pay_len]
theorem toldBy_page {m : M} (h : May m) (no : Nat) (hno : no < 2) : toldBy no (pageOf m) = if m.gen % 2 = no then some m else none := by
  have h1 : Pg.Opens (no : Int) (pageOf m) ↔ m.gen % 2 = no := by
    unfold pageOf
    rw [Pg.page_opens (by rw [pay_len]; omega) (by omega)]
    omega
  have hT : Told no (pageOf m) ↔ m.gen % 2 = no := by
    unfold Told
    rw [pageOf_take, of_full m h, h1]
    exact ⟨fun h => h.1, fun hg => ⟨hg, says_full m h, hg⟩⟩
  unfold toldBy
  by_cases hg : m.gen % 2 = no
  · rw [if_pos (hT.2 hg), if_pos hg, pageOf_take, of_full m h]
  · rw [if_neg (fun h => hg (hT.1 h)), if_neg hg]
/-- A page that is torn tells nothing. -/
theorem toldBy_torn {m : M} (no : Nat) : toldBy no (Pg.torn (pageOf m)) = none := by
  unfold toldBy
  rw [if_neg]
  rintro ⟨h, _⟩
  have hs : Pg.Opens ((m.gen % 2 : Nat) : Int) (pageOf m) := by
    unfold pageOf
    exact (Pg.page_opens (by rw [pay_len]; omega) (by omega) _).2 rfl
  -- the number is the same, so it is its own place
  have e1 : ((Pg.torn (pageOf m)).drop 1016).take 4 = ((pageOf m).drop 1016).take 4 := by
    have e0 : (Pg.torn (pageOf m)).take 1020 = (pageOf m).take 1020 := by
      unfold Pg.torn
      rw [List.take_set, List.set_eq_of_length_le (by rw [List.length_take, pageOf_len]; omega)]
    rw [Pg.mid_eq, Pg.mid_eq, e0]
  have e2 : ((m.gen % 2 : Nat) : Int) = (no : Int) := by
    rw [← h.2.2.2, e1]
    exact hs.2.2.2.symm
  rw [e2] at hs
  exact Pg.torn_shut (pageOf_lt m) hs h

/-- A meta comes to its place. -/
def write (d : Dk.Pd) (m : M) : Dk.Pd := if May m then Dk.write d ((m.gen % 2 : Nat) : Int) (pageOf m) else d
def writeCode (d : Dk.Pd) (m : M) : Int := if May m then Dk.writeCode d ((m.gen % 2 : Nat) : Int) (pageOf m) else 1

end Go.Proofs.Ytcpgmglpgffhdaa.Mt
namespace Go.Proofs.Ytcpgmglpgffhdaa.Mt
open Nm
set_option linter.unusedVariables false

theorem zeros_told (no n : Nat) : toldBy no (List.replicate n 0) = none := by
  unfold toldBy
  rw [if_neg]
  rintro ⟨_, h, _⟩
  have h2 := h.2.2
  have : (List.take 1016 (List.replicate n 0))[0]? = some 67 := by rw [← h2]; rfl
  rw [List.take_replicate, List.getElem?_replicate] at this
  split at this
  · injection this with this; omega
  · cases this
theorem tells_fresh (n no : Nat) : tells (Dk.fresh n) no = none := by
  unfold tells
  split
  · rename_i h
    have : Dk.seen (Dk.fresh n) no = List.replicate 1024 0 := by
      unfold Dk.seen Dk.fresh
      simp only [List.length_nil, Dk.seenTo]
      have h' : no < n := by
        have e : (Dk.fresh n).pages.length = n := List.length_replicate
        omega
      rw [List.getD_eq_getElem?_getD, List.getElem?_replicate, if_pos h', Option.getD_some]
    rw [this, zeros_told]
  · rfl
/-- Nothing is armed, the power is there. -/
def Calm (d : Dk.Pd) : Prop := d.left = 0 ∧ d.down = false
theorem write_calm {d : Dk.Pd} {no : Nat} {l : List Nat} (hc : Calm d) (hn : no < d.pages.length) (hl : l.length = 1024) : Dk.write d (no : Int) l = Dk.push d no l ∧ Dk.writeCode d (no : Int) l = 0 := by
  have hh : Dk.has d (no : Int) ∧ l.length = 1024 := ⟨⟨by omega, by omega⟩, hl⟩
  unfold Dk.write Dk.writeCode
  rw [if_pos hh, if_pos hh, hc.2]
  simp only [Bool.false_eq_true, if_false]
  have ha : Dk.act (Dk.push d (no : Int).toNat l) = Dk.push d (no : Int).toNat l := if_pos hc.1
  rw [ha]
  refine ⟨by simp, ?_⟩
  show (if d.down then (3 : Int) else 0) = 0
  rw [hc.2]; rfl
theorem push_calm {d : Dk.Pd} {no : Nat} {l : List Nat} (hc : Calm d) : Calm (Dk.push d no l) := hc
theorem tells_push (d : Dk.Pd) (no : Nat) (l : List Nat) (k : Nat) (hn : no < d.pages.length) : tells (Dk.push d no l) k = if no = k then toldBy k l else tells d k := by
  unfold tells
  rw [Dk.seen_push]
  show (if k < d.pages.length then _ else _) = _
  by_cases he : no = k
  · subst he; rw [if_pos hn, if_pos rfl, if_pos rfl]
  · rw [if_neg he, if_neg he]
theorem mwrite_calm {d : Dk.Pd} {m : M} (hc : Calm d) (h2 : d.pages.length = 2) (hm : May m) : write d m = Dk.push d (m.gen % 2) (pageOf m) ∧ writeCode d m = 0 := by
  unfold write writeCode
  rw [if_pos hm, if_pos hm]
  exact write_calm hc (by omega) (pageOf_len m)
/-- What is seen is safe behind a sync. -/
theorem tells_settled (d : Dk.Pd) (hw : ∀ x ∈ d.waits, x.1 < d.pages.length) (k : Nat) : tells (Dk.settled d) k = tells d k := by
  unfold tells
  have h1 : (Dk.settled d).pages.length = d.pages.length := Dk.stTo_len d _
  have h2 : Dk.seen (Dk.settled d) k = Dk.seen d k := by
    unfold Dk.seen
    exact Dk.st_seen d hw k _
  rw [h1, h2]
theorem newest_of {d e : Dk.Pd} (h0 : tells d 0 = tells e 0) (h1 : tells d 1 = tells e 1) : newest d = newest e := by unfold newest; rw [h0, h1]

/-- Two metas, one behind the other, on a new disk. -/
theorem newest_two {a b : M} (ha : May a) (hb : May b) :
    writeCode (Dk.fresh 2) a = 0 ∧ writeCode (write (Dk.fresh 2) a) b = 0 ∧ Dk.syncCode (write (write (Dk.fresh 2) a) b) = 0 ∧
    newest (Dk.sync (write (write (Dk.fresh 2) a) b)) = (if a.gen % 2 ≠ b.gen % 2 ∧ b.gen < a.gen then a else b) ∧
    newest (write (write (Dk.fresh 2) a) b) = (if a.gen % 2 ≠ b.gen % 2 ∧ b.gen < a.gen then a else b) ∧ (write (write (Dk.fresh 2) a) b).waits.length = 2 ∧ (write (Dk.fresh 2) a).waits.length = 1 := by
  have c0 : Calm (Dk.fresh 2) := ⟨rfl, rfl⟩
  have p0 : (Dk.fresh 2).pages.length = 2 := rfl
  obtain ⟨w1, e1⟩ := mwrite_calm c0 p0 ha
  have c1 : Calm (Dk.push (Dk.fresh 2) (a.gen % 2) (pageOf a)) := c0
  have p1 : (Dk.push (Dk.fresh 2) (a.gen % 2) (pageOf a)).pages.length = 2 := rfl
  obtain ⟨w2, e2⟩ := mwrite_calm c1 p1 hb
  rw [w1, w2]
  generalize hD : Dk.push (Dk.push (Dk.fresh 2) (a.gen % 2) (pageOf a)) (b.gen % 2) (pageOf b) = D
  have cD : Calm D := by rw [← hD]; exact c0
  have pD : D.pages.length = 2 := by rw [← hD]; rfl
  have wD : D.waits = [(a.gen % 2, pageOf a), (b.gen % 2, pageOf b)] := by rw [← hD]; rfl
  have aD : Dk.act D = D := if_pos cD.1
  have tD : ∀ k, k < 2 → tells D k = if b.gen % 2 = k then some b else if a.gen % 2 = k then some a else none := by
    intro k hk
    rw [← hD, tells_push _ _ _ _ (by rw [p1]; omega), tells_push _ _ _ _ (by rw [p0]; omega), tells_fresh]
    by_cases h1 : b.gen % 2 = k
    · rw [if_pos h1, if_pos h1, toldBy_page hb k hk, if_pos h1]
    · rw [if_neg h1, if_neg h1]
      by_cases h2 : a.gen % 2 = k
      · rw [if_pos h2, if_pos h2, toldBy_page ha k hk, if_pos h2]
      · rw [if_neg h2, if_neg h2]
  have nD : newest D = (if a.gen % 2 ≠ b.gen % 2 ∧ b.gen < a.gen then a else b) := by
    have ga := ha.1.1
    have gb := hb.1.1
    unfold newest
    rw [tD 0 (by omega), tD 1 (by omega)]
    by_cases hab : a.gen % 2 = b.gen % 2
    · have eR : (if a.gen % 2 ≠ b.gen % 2 ∧ b.gen < a.gen then a else b) = b := if_neg (fun h => h.1 hab)
      rw [eR]
      by_cases h0 : b.gen % 2 = 0
      · rw [if_pos h0, if_neg (by omega), if_neg (by omega)]
        show top zero (some b) = b
        exact if_pos (show zero.gen < b.gen from gb)
      · rw [if_neg h0, if_neg (by omega), if_pos (by omega)]
        show top zero (some b) = b
        exact if_pos (show zero.gen < b.gen from gb)
    · by_cases h0 : b.gen % 2 = 0
      · rw [if_pos h0, if_neg (by omega), if_pos (by omega)]
        have e : top zero (some b) = b := if_pos (show zero.gen < b.gen from gb)
        rw [e]
        show (if b.gen < a.gen then a else b) = _
        by_cases hg : b.gen < a.gen
        · rw [if_pos hg, if_pos ⟨hab, hg⟩]
        · rw [if_neg hg, if_neg (fun h => hg h.2)]
      · rw [if_neg h0, if_pos (by omega), if_pos (by omega)]
        have e : top zero (some a) = a := if_pos (show zero.gen < a.gen from ga)
        rw [e]
        show (if a.gen < b.gen then b else a) = _
        by_cases hg : b.gen < a.gen
        · rw [if_neg (by omega), if_pos ⟨hab, hg⟩]
        · rw [if_pos (by omega), if_neg (fun h => hg h.2)]
  have hin : ∀ x ∈ D.waits, x.1 < D.pages.length := by
    rw [wD, pD]
    intro x hx
    simp at hx
    rcases hx with rfl | rfl <;> simp only <;> omega
  refine ⟨e1, e2, ?_, ?_, nD, by rw [wD]; rfl, rfl⟩
  · unfold Dk.syncCode
    rw [aD, cD.2]; rfl
  · unfold Dk.sync
    rw [aD, cD.2]
    simp only [Bool.false_eq_true, if_false]
    rw [newest_of (tells_settled D hin 0) (tells_settled D hin 1), nD]

/-- The meta of a version in MetaTurns. -/
def ver (g : Nat) : M := ⟨g, 2, 0, 0⟩
theorem ver_may {g : Nat} (h1 : 1 ≤ g) (h2 : g ≤ 1152921504606846976) : May (ver g) := ⟨⟨h1, h2⟩, ⟨by show (2 : Int) ≤ 2; decide, by show (2 : Int) ≤ 2048; decide⟩, .inl rfl, .inl rfl⟩
/-- At rest, g is the newest, at its place. -/
structure Good (d : Dk.Pd) (g : Nat) : Prop where
  calm : Calm d
  waits : d.waits = []
  two : d.pages.length = 2
  own : tells d (g % 2) = some (ver g)
  other : ∀ m, tells d ((g + 1) % 2) = some m → m.gen < g
theorem Good.newest {d : Dk.Pd} {g : Nat} (h : Good d g) (h1 : 1 ≤ g) : Mt.newest d = ver g := by
  have ho := h.own
  have hx := h.other
  unfold Mt.newest
  have e : top zero (some (ver g)) = ver g := if_pos (show zero.gen < g from h1)
  by_cases h0 : g % 2 = 0
  · rw [h0] at ho
    rw [show (g + 1) % 2 = 1 by omega] at hx
    rw [ho, e]
    cases ht : tells d 1 with
    | none => rfl
    | some m => exact if_neg (by have := hx m ht; show ¬ g < m.gen; omega)
  · rw [show g % 2 = 1 by omega] at ho
    rw [show (g + 1) % 2 = 0 by omega] at hx
    rw [ho]
    have hlt : (top zero (tells d 0)).gen < g := by
      cases ht : tells d 0 with
      | none => exact h1
      | some m =>
        have := hx m ht
        show (if zero.gen < m.gen then m else zero).gen < g
        split
        · exact this
        · exact h1
    exact if_pos hlt
theorem Good.code {d : Dk.Pd} {g : Nat} (h : Good d g) (h1 : 1 ≤ g) : newestCode d = 0 := by
  unfold newestCode
  rw [h.newest h1, if_neg (show ¬ (ver g).gen = 0 from by show ¬ g = 0; omega)]
/-- Seen and safe are the same where nothing waits. -/
theorem seen_safe {d : Dk.Pd} (h : d.waits = []) (k : Nat) : Dk.seen d k = d.pages.getD k [] := by
  unfold Dk.seen; rw [h]; rfl
theorem tells_set {d e : Dk.Pd} {no : Nat} {l : List Nat} (hd : d.waits = []) (he : e.waits = []) (hp : e.pages = d.pages.set no l) (hn : no < d.pages.length) (k : Nat) : tells e k = if no = k then toldBy k l else tells d k := by
  unfold tells
  rw [seen_safe hd, seen_safe he, hp, List.length_set]
  by_cases hk : no = k
  · subst hk
    rw [if_pos hn, if_pos rfl, List.getD_eq_getElem?_getD, List.getElem?_set_self hn, Option.getD_some]
  · rw [if_neg hk, List.getD_eq_getElem?_getD, List.getElem?_set_ne hk, ← List.getD_eq_getElem?_getD]
theorem tells_same {d e : Dk.Pd} (hd : d.waits = []) (he : e.waits = []) (hp : e.pages = d.pages) (k : Nat) : tells e k = tells d k := by
  unfold tells
  rw [seen_safe hd, seen_safe he, hp]
theorem Good.same {d e : Dk.Pd} {g : Nat} (h : Good d g) (hc : Calm e) (he : e.waits = []) (hp : e.pages = d.pages) : Good e g :=
  ⟨hc, he, by rw [hp]; exact h.two, by rw [tells_same h.waits he hp]; exact h.own, fun m hm => h.other m (by rw [← tells_same h.waits he hp]; exact hm)⟩
theorem Good.next {d e : Dk.Pd} {g : Nat} (h : Good d g) (h1 : 1 ≤ g) (h2 : g + 1 ≤ 1152921504606846976) (hc : Calm e) (he : e.waits = []) (hp : e.pages = d.pages.set ((g + 1) % 2) (pageOf (ver (g + 1)))) : Good e (g + 1) := by
  have t := tells_set h.waits he hp (by rw [h.two]; omega)
  refine ⟨hc, he, by rw [hp, List.length_set]; exact h.two, ?_, fun m hm => ?_⟩
  · rw [t, if_pos rfl, toldBy_page (ver_may (by omega) h2) _ (by omega)]
    exact if_pos rfl
  · rw [show (g + 1 + 1) % 2 = g % 2 by omega, t, if_neg (by omega), h.own] at hm
    injection hm with hm
    rw [← hm]
    show g < g + 1
    omega
theorem Good.torn {d e : Dk.Pd} {g : Nat} (h : Good d g) (hc : Calm e) (he : e.waits = []) (hp : e.pages = d.pages.set ((g + 1) % 2) (Pg.torn (pageOf (ver (g + 1))))) : Good e g := by
  have t := tells_set h.waits he hp (by rw [h.two]; omega)
  refine ⟨hc, he, by rw [hp, List.length_set]; exact h.two, ?_, fun m hm => ?_⟩
  · rw [t, if_neg (by omega), h.own]
  · rw [t, if_pos rfl, toldBy_torn] at hm
    cases hm
/-- One round of MetaTurns. -/
theorem Good.round {d : Dk.Pd} {g n : Nat} (h : Good d g) (h1 : 1 ≤ g) (h2 : g + 1 ≤ 1152921504606846976) (keep : List Bool) (torn : Int) :
    (write (Dk.armed d n) (ver (g + 1))).waits.length ≤ 1 ∧ (Dk.sync (write (Dk.armed d n) (ver (g + 1)))).waits.length ≤ 1 ∧
    ((Good (Dk.crashed (Dk.sync (write (Dk.armed d n) (ver (g + 1)))) keep torn) g ∧ ¬ (writeCode (Dk.armed d n) (ver (g + 1)) = 0 ∧ Dk.syncCode (write (Dk.armed d n) (ver (g + 1))) = 0)) ∨
      Good (Dk.crashed (Dk.sync (write (Dk.armed d n) (ver (g + 1)))) keep torn) (g + 1)) := by
  obtain ⟨P, W, L, D⟩ := d
  have hw : W = [] := h.waits
  have hc : D = false := h.calm.2
  have h2p : P.length = 2 := h.two
  subst hw hc
  have hm : May (ver (g + 1)) := ver_may (by omega) h2
  generalize hpg : pageOf (ver (g + 1)) = pg
  have hpl : pg.length = 1024 := by rw [← hpg]; exact pageOf_len _
  have hno : (ver (g + 1)).gen % 2 = (g + 1) % 2 := rfl
  -- whatever waits: one write at the other place
  have crash : ∀ (L' : Nat) (D' : Bool), Good (Dk.crashed ⟨P, [((g + 1) % 2, pg)], L', D'⟩ keep torn) g ∨ Good (Dk.crashed ⟨P, [((g + 1) % 2, pg)], L', D'⟩ keep torn) (g + 1) := by
    intro L' D'
    have hcr : (Dk.crashed ⟨P, [((g + 1) % 2, pg)], L', D'⟩ keep torn).pages = if Dk.kept keep 0 then P.set ((g + 1) % 2) (Dk.left_ torn 0 pg) else P := rfl
    by_cases hk : Dk.kept keep 0 = true
    · rw [if_pos hk] at hcr
      by_cases ht : ((0 : Nat) : Int) = torn
      · refine .inl (h.torn ⟨rfl, rfl⟩ rfl ?_)
        rw [hcr, hpg]
        unfold Dk.left_
        rw [if_pos ht]
      · refine .inr (h.next h1 h2 ⟨rfl, rfl⟩ rfl ?_)
        rw [hcr, hpg]
        unfold Dk.left_
        rw [if_neg ht]
    · rw [if_neg hk] at hcr
      exact .inl (h.same ⟨rfl, rfl⟩ rfl hcr)
  have hwr : write (Dk.armed ⟨P, [], L, false⟩ n) (ver (g + 1)) = Dk.act ⟨P, [((g + 1) % 2, pg)], n, false⟩ ∧ writeCode (Dk.armed ⟨P, [], L, false⟩ n) (ver (g + 1)) = Dk.code (Dk.act ⟨P, [((g + 1) % 2, pg)], n, false⟩) := by
    unfold write writeCode
    rw [if_pos hm, if_pos hm, hno, hpg]
    unfold Dk.write Dk.writeCode
    have hh : Dk.has (Dk.armed ⟨P, [], L, false⟩ n) (((g + 1) % 2 : Nat) : Int) ∧ pg.length = 1024 := ⟨⟨by omega, by show (((g + 1) % 2 : Nat) : Int) < (P.length : Int); omega⟩, hpl⟩
    rw [if_pos hh, if_pos hh]
    exact ⟨rfl, rfl⟩
  rw [hwr.1, hwr.2]
  by_cases n1 : n = 1
  · subst n1
    have ha : Dk.act ⟨P, [((g + 1) % 2, pg)], 1, false⟩ = ⟨P, [((g + 1) % 2, pg)], 0, true⟩ := rfl
    rw [ha]
    refine ⟨Nat.le_refl _, Nat.le_refl _, ?_⟩
    rcases crash 0 true with c | c
    · exact .inl ⟨c, fun hh => by have h3 : (3 : Int) = 0 := hh.1; omega⟩
    · exact .inr c
  · by_cases n2 : n = 2
    · subst n2
      have ha : Dk.act ⟨P, [((g + 1) % 2, pg)], 2, false⟩ = ⟨P, [((g + 1) % 2, pg)], 1, false⟩ := rfl
      rw [ha]
      refine ⟨Nat.le_refl _, Nat.le_refl _, ?_⟩
      rcases crash 0 true with c | c
      · exact .inl ⟨c, fun hh => by have h3 : (3 : Int) = 0 := hh.2; omega⟩
      · exact .inr c
    · -- the power stays: what was written is safe
      obtain ⟨n', hn', hl⟩ : ∃ n', Dk.act ⟨P, [((g + 1) % 2, pg)], n, false⟩ = ⟨P, [((g + 1) % 2, pg)], n', false⟩ ∧ (n' = 0 ∨ 2 ≤ n') := by
        by_cases n0 : n = 0
        · subst n0; exact ⟨0, rfl, .inl rfl⟩
        · refine ⟨n - 1, ?_, by omega⟩
          unfold Dk.act
          rw [if_neg (by show ¬ n = 0; exact n0)]
          show (⟨P, [((g + 1) % 2, pg)], n - 1, decide (n = 1)⟩ : Dk.Pd) = _
          rw [decide_eq_false n1]
      rw [hn']
      obtain ⟨n'', hn''⟩ : ∃ n'', Dk.act ⟨P, [((g + 1) % 2, pg)], n', false⟩ = ⟨P, [((g + 1) % 2, pg)], n'', false⟩ := by
        rcases hl with rfl | hl
        · exact ⟨0, rfl⟩
        · refine ⟨n' - 1, ?_⟩
          unfold Dk.act
          rw [if_neg (by show ¬ n' = 0; omega)]
          show (⟨P, [((g + 1) % 2, pg)], n' - 1, decide (n' = 1)⟩ : Dk.Pd) = _
          rw [decide_eq_false (by omega)]
      have hs : Dk.sync ⟨P, [((g + 1) % 2, pg)], n', false⟩ = ⟨P.set ((g + 1) % 2) pg, [], n'', false⟩ := by
        unfold Dk.sync
        rw [hn'']
        rfl
      rw [hs]
      refine ⟨Nat.le_refl _, Nat.zero_le _, .inr (h.next h1 h2 ⟨rfl, rfl⟩ rfl ?_)⟩
      rw [hpg]; rfl
/-- How MetaTurns begins. -/
theorem good_first {g : Nat} (h1 : 1 ≤ g) (h2 : g ≤ 1152921504606846976) :
    writeCode (Dk.fresh 2) (ver g) = 0 ∧ Dk.syncCode (write (Dk.fresh 2) (ver g)) = 0 ∧ (write (Dk.fresh 2) (ver g)).waits.length = 1 ∧ Good (Dk.sync (write (Dk.fresh 2) (ver g))) g := by
  have hm := ver_may h1 h2
  have c0 : Calm (Dk.fresh 2) := ⟨rfl, rfl⟩
  obtain ⟨w1, e1⟩ := mwrite_calm c0 rfl hm
  rw [w1]
  have hs : Dk.sync (Dk.push (Dk.fresh 2) ((ver g).gen % 2) (pageOf (ver g))) = Dk.settled (Dk.push (Dk.fresh 2) ((ver g).gen % 2) (pageOf (ver g))) := rfl
  have hin : ∀ x ∈ (Dk.push (Dk.fresh 2) ((ver g).gen % 2) (pageOf (ver g))).waits, x.1 < (Dk.push (Dk.fresh 2) ((ver g).gen % 2) (pageOf (ver g))).pages.length := by
    intro x hx
    have : x = ((ver g).gen % 2, pageOf (ver g)) := by
      have hx' : x ∈ [((ver g).gen % 2, pageOf (ver g))] := hx
      simpa using hx'
    subst this
    show g % 2 < 2
    omega
  have t : ∀ k, tells (Dk.sync (Dk.push (Dk.fresh 2) ((ver g).gen % 2) (pageOf (ver g)))) k = if g % 2 = k then toldBy k (pageOf (ver g)) else none := by
    intro k
    rw [hs, tells_settled _ hin, tells_push _ _ _ _ (by show g % 2 < 2; omega), tells_fresh]
    rfl
  refine ⟨e1, rfl, rfl, ⟨rfl, rfl⟩, rfl, ?_, ?_, ?_⟩
  · rw [hs]; exact Dk.stTo_len _ _
  · rw [t, if_pos rfl, toldBy_page hm _ (by omega)]
    exact if_pos rfl
  · intro m hm'
    rw [t, if_neg (by omega)] at hm'
    cases hm'

end Go.Proofs.Ytcpgmglpgffhdaa.Mt
