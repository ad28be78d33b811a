/-
  The sum of bytes (CRC-32C), plainly: one bit at a time, on natural numbers. No Go here.
-/
namespace Go.Proofs.Ytbhahihgojhcmaa.Cr

/-- One bit out. -/
def T (s : Nat) : Nat := if s % 2 = 1 then s / 2 ^^^ 2197175160 else s / 2
def Tn : Nat → Nat → Nat
  | 0, s => s
  | n + 1, s => Tn n (T s)
/-- One byte in. -/
def step (v b : Nat) : Nat := Tn 8 (v ^^^ b)
def run (v : Nat) (l : List Nat) : Nat := l.foldl step v
/-- The sum of bytes behind others that had the sum s. -/
def more (s : Nat) (l : List Nat) : Nat := 4294967295 - run (4294967295 - s) l
def sum (l : List Nat) : Nat := more 0 l

theorem lt_xor {a b : Nat} (ha : a < 4294967296) (hb : b < 4294967296) : a ^^^ b < 4294967296 := Nat.xor_lt_two_pow (n := 32) ha hb
theorem T_lt {s : Nat} (h : s < 4294967296) : T s < 4294967296 := by
  unfold T
  split
  · exact lt_xor (by omega) (by omega)
  · omega
theorem Tn_lt (n : Nat) {s : Nat} (h : s < 4294967296) : Tn n s < 4294967296 := by
  induction n generalizing s with
  | zero => exact h
  | succ n ih => exact ih (T_lt h)
theorem step_lt {v b : Nat} (h : v < 4294967296) (hb : b < 256) : step v b < 4294967296 := Tn_lt 8 (lt_xor h (by omega))
theorem run_lt {v : Nat} (h : v < 4294967296) (l : List Nat) (hl : ∀ x ∈ l, x < 256) : run v l < 4294967296 := by
  induction l generalizing v with
  | nil => exact h
  | cons x l ih => exact ih (step_lt h (hl x (by simp))) fun y hy => hl y (by simp [hy])
theorem more_lt (s : Nat) (l : List Nat) : more s l < 4294967296 := by unfold more; omega

theorem run_nil (v : Nat) : run v [] = v := rfl
theorem run_append (v : Nat) (a b : List Nat) : run v (a ++ b) = run (run v a) b := List.foldl_append
theorem run_snoc (v : Nat) (a : List Nat) (x : Nat) : run v (a ++ [x]) = step (run v a) x := by rw [run_append]; rfl
theorem more_nil {s : Nat} (h : s < 4294967296) : more s [] = s := by unfold more; rw [run_nil]; omega
theorem more_more {s : Nat} (h : s < 4294967296) (a b : List Nat) (ha : ∀ x ∈ a, x < 256) : more (more s a) b = more s (a ++ b) := by
  unfold more
  rw [run_append]
  have := run_lt (v := 4294967295 - s) (by omega) a ha
  congr 2; omega
theorem sum_more (a b : List Nat) (ha : ∀ x ∈ a, x < 256) : more (sum a) b = sum (a ++ b) := more_more (by omega) a b ha
theorem sum_nil : sum [] = 0 := rfl
theorem sum_known : sum [49, 50, 51, 52, 53, 54, 55, 56, 57] = 3808858755 := by decide +kernel

theorem xor_four (a b c d : Nat) : (a ^^^ b) ^^^ (c ^^^ d) = (a ^^^ c) ^^^ (b ^^^ d) := by
  rw [Nat.xor_assoc, Nat.xor_assoc, ← Nat.xor_assoc b c d, Nat.xor_comm b c, Nat.xor_assoc c b d]
theorem T_xor (a b : Nat) : T (a ^^^ b) = T a ^^^ T b := by
  unfold T
  have hd : (a ^^^ b) / 2 = a / 2 ^^^ b / 2 := Nat.xor_div_two
  have hm : (a ^^^ b) % 2 = a % 2 ^^^ b % 2 := Nat.xor_mod_two_pow (n := 1)
  rcases Nat.mod_two_eq_zero_or_one a with ha | ha <;> rcases Nat.mod_two_eq_zero_or_one b with hb | hb <;> rw [ha, hb] at hm <;> simp only [Nat.xor_zero, Nat.zero_xor, Nat.xor_self] at hm
  · rw [if_neg (by omega), if_neg (by omega), if_neg (by omega), hd]
  · rw [if_pos (by omega), if_neg (by omega), if_pos (by omega), hd, Nat.xor_assoc]
  · rw [if_pos (by omega), if_pos (by omega), if_neg (by omega), hd, Nat.xor_assoc, Nat.xor_assoc, Nat.xor_comm (b / 2)]
  · rw [if_neg (by omega), if_pos (by omega), if_pos (by omega), hd, xor_four, Nat.xor_self, Nat.xor_zero]
theorem Tn_xor (n a b : Nat) : Tn n (a ^^^ b) = Tn n a ^^^ Tn n b := by
  induction n generalizing a b with
  | zero => rfl
  | succ n ih => show Tn n (T _) = Tn n (T _) ^^^ Tn n (T _); rw [T_xor, ih]
theorem T_double (s : Nat) : T (2 * s) = s := by unfold T; rw [if_neg (by omega)]; omega
theorem Tn_out4 (s : Nat) : Tn 4 (16 * s) = s := by
  have h1 : 16 * s = 2 * (2 * (2 * (2 * s))) := by omega
  rw [h1]
  show T (T (T (T _))) = s
  simp only [T_double]
theorem Tn_add (m n s : Nat) : Tn (m + n) s = Tn n (Tn m s) := by
  induction m generalizing s with
  | zero => rw [Nat.zero_add]; rfl
  | succ m ih => rw [Nat.succ_add]; exact ih _
theorem Tn_out8 (s : Nat) : Tn 8 (256 * s) = s := by
  rw [show (8 : Nat) = 4 + 4 from rfl, Tn_add, show 256 * s = 16 * (16 * s) by omega, Tn_out4, Tn_out4]
theorem xor_low (q r : Nat) (h : r < 16) : 16 * q ^^^ r = 16 * q + r := by
  apply Nat.eq_of_testBit_eq
  intro i
  have e := Nat.testBit_two_pow_mul_add q (i := 4) (b := r) h i
  have e2 := Nat.testBit_two_pow_mul (i := 4) (a := q) (j := i)
  rw [show (2 : Nat) ^ 4 = 16 from rfl] at e e2
  rw [Nat.testBit_xor, e, e2]
  by_cases hi : i < 4
  · simp [hi, show ¬ 4 ≤ i by omega]
  · have : r.testBit i = false := Nat.testBit_lt_two_pow (Nat.lt_of_lt_of_le h (Nat.pow_le_pow_right (n := 2) (by decide) (by omega : 4 ≤ i)))
    simp [hi, this, show 4 ≤ i by omega]
/-- Four bits at a time: what falls out is looked up. -/
theorem Tn4 (s : Nat) : Tn 4 s = s / 16 ^^^ Tn 4 (s % 16) := by
  have h : s = 16 * (s / 16) ^^^ s % 16 := by rw [xor_low _ _ (by omega)]; omega
  conv => lhs; rw [h]
  rw [Tn_xor, Tn_out4]
theorem step_two (v b : Nat) : step v b = Tn 4 (Tn 4 (v ^^^ b)) := rfl

theorem eq_of_xor {a b : Nat} (h : a ^^^ b = 0) : a = b := by
  have : a ^^^ b ^^^ b = 0 ^^^ b := by rw [h]
  rw [Nat.xor_assoc, Nat.xor_self, Nat.xor_zero, Nat.zero_xor] at this
  exact this
theorem T_zero {s : Nat} (h : s < 4294967296) (h0 : T s = 0) : s = 0 := by
  unfold T at h0
  split at h0
  · have := eq_of_xor h0; omega
  · omega
theorem Tn_zero (n : Nat) {s : Nat} (h : s < 4294967296) (h0 : Tn n s = 0) : s = 0 := by
  induction n generalizing s with
  | zero => exact h0
  | succ n ih => exact T_zero h (ih (T_lt h) h0)
theorem Tn_inj (n : Nat) {a b : Nat} (ha : a < 4294967296) (hb : b < 4294967296) (h : Tn n a = Tn n b) : a = b :=
  eq_of_xor (Tn_zero n (lt_xor ha hb) (by rw [Tn_xor, h, Nat.xor_self]))
theorem xor_left {a b c : Nat} (h : a ^^^ b = a ^^^ c) : b = c := by
  have : a ^^^ (a ^^^ b) = a ^^^ (a ^^^ c) := by rw [h]
  rwa [← Nat.xor_assoc, ← Nat.xor_assoc, Nat.xor_self, Nat.zero_xor, Nat.zero_xor] at this
theorem step_inj {u v b : Nat} (hu : u < 4294967296) (hv : v < 4294967296) (hb : b < 256) (h : step u b = step v b) : u = v := by
  have := Tn_inj 8 (lt_xor hu (by omega)) (lt_xor hv (by omega)) h
  rw [Nat.xor_comm u, Nat.xor_comm v] at this
  exact xor_left this
theorem run_inj {u v : Nat} (hu : u < 4294967296) (hv : v < 4294967296) (l : List Nat) (hl : ∀ x ∈ l, x < 256) (h : run u l = run v l) : u = v := by
  induction l generalizing u v with
  | nil => exact h
  | cons x l ih =>
    have hx := hl x (by simp)
    exact step_inj hu hv hx (ih (step_lt hu hx) (step_lt hv hx) (fun y hy => hl y (by simp [hy])) h)
/-- What is exclusive or'd in comes out by itself. -/
theorem step_xor (v d b e : Nat) : step (v ^^^ d) (b ^^^ e) = step v b ^^^ step d e := by
  unfold step; rw [xor_four, Tn_xor]
theorem back {a b : Nat} (ha : a < 4294967296) (hb : b < 16777216) (h : Tn 8 a = b) : a = 256 * b :=
  Tn_inj 8 ha (by omega) (by rw [h, Tn_out8])
theorem undo {a b c : Nat} (h : a ^^^ b = c) : a = b ^^^ c := by
  rw [← h, Nat.xor_comm a b, ← Nat.xor_assoc, Nat.xor_self, Nat.zero_xor]
/-- Four bytes that are exclusive or'd in come out again, unless they are 0. -/
theorem four_zero {e0 e1 e2 e3 : Nat} (h0 : e0 < 256) (h1 : e1 < 256) (h2 : e2 < 256) (h3 : e3 < 256) (h : run 0 [e0, e1, e2, e3] = 0) : e0 = 0 ∧ e1 = 0 ∧ e2 = 0 ∧ e3 = 0 := by
  have L1 : step 0 e0 < 4294967296 := step_lt (by omega) h0
  have L2 : step (step 0 e0) e1 < 4294967296 := step_lt L1 h1
  have L3 : step (step (step 0 e0) e1) e2 < 4294967296 := step_lt L2 h2
  have a3 : step (step (step 0 e0) e1) e2 = e3 := eq_of_xor (Tn_zero 8 (lt_xor L3 (by omega)) h)
  have a2 : step (step 0 e0) e1 = e2 ^^^ 256 * e3 := undo (back (lt_xor L2 (by omega)) (by omega) a3)
  have b2 : e2 ^^^ 256 * e3 < 65536 := Nat.xor_lt_two_pow (n := 16) (by omega) (by omega)
  have a1 : step 0 e0 = e1 ^^^ 256 * (e2 ^^^ 256 * e3) := undo (back (lt_xor L1 (by omega)) (by omega) a2)
  have b1 : e1 ^^^ 256 * (e2 ^^^ 256 * e3) < 16777216 := Nat.xor_lt_two_pow (n := 24) (by omega) (by omega)
  have a0 : 0 ^^^ e0 = 256 * (e1 ^^^ 256 * (e2 ^^^ 256 * e3)) := back (lt_xor (by omega) (by omega)) (by omega) a1
  rw [Nat.zero_xor] at a0
  have z1 : e1 ^^^ 256 * (e2 ^^^ 256 * e3) = 0 := by omega
  have q1 := eq_of_xor z1
  have z2 : e2 ^^^ 256 * e3 = 0 := by omega
  have q2 := eq_of_xor z2
  omega
/-- Bits that are turned within four bytes that stand together: another sum. -/
theorem turned {v : Nat} (hv : v < 4294967296) (p q : List Nat) (hp : ∀ x ∈ p, x < 256) (hq : ∀ x ∈ q, x < 256) {x0 x1 x2 x3 e0 e1 e2 e3 : Nat}
    (hx0 : x0 < 256) (hx1 : x1 < 256) (hx2 : x2 < 256) (hx3 : x3 < 256) (h0 : e0 < 256) (h1 : e1 < 256) (h2 : e2 < 256) (h3 : e3 < 256) :
    run v (p ++ [x0 ^^^ e0, x1 ^^^ e1, x2 ^^^ e2, x3 ^^^ e3] ++ q) = run v (p ++ [x0, x1, x2, x3] ++ q) ↔ (e0 = 0 ∧ e1 = 0 ∧ e2 = 0 ∧ e3 = 0) := by
  have hxor : ∀ {a b : Nat}, a < 256 → b < 256 → a ^^^ b < 256 := fun ha hb => Nat.xor_lt_two_pow (n := 8) ha hb
  constructor
  · intro h
    rw [run_append, run_append, run_append, run_append] at h
    have hV := run_lt hv p hp
    generalize run v p = V at h hV
    have hb : ∀ x ∈ [x0 ^^^ e0, x1 ^^^ e1, x2 ^^^ e2, x3 ^^^ e3], x < 256 := by
      intro x hx
      simp only [List.mem_cons, List.not_mem_nil, or_false] at hx
      rcases hx with rfl | rfl | rfl | rfl
      · exact hxor hx0 h0
      · exact hxor hx1 h1
      · exact hxor hx2 h2
      · exact hxor hx3 h3
    have hc : ∀ x ∈ [x0, x1, x2, x3], x < 256 := by
      intro x hx
      simp only [List.mem_cons, List.not_mem_nil, or_false] at hx
      rcases hx with rfl | rfl | rfl | rfl <;> assumption
    have h' := run_inj (run_lt hV _ hb) (run_lt hV _ hc) q hq h
    have e : run V [x0 ^^^ e0, x1 ^^^ e1, x2 ^^^ e2, x3 ^^^ e3] = run V [x0, x1, x2, x3] ^^^ run 0 [e0, e1, e2, e3] := by
      simp only [run, List.foldl_cons, List.foldl_nil]
      rw [← step_xor, ← step_xor, ← step_xor, ← step_xor, Nat.xor_zero]
    rw [e] at h'
    refine four_zero h0 h1 h2 h3 ?_
    exact xor_left (a := run V [x0, x1, x2, x3]) (by rw [h', Nat.xor_zero])
  · rintro ⟨rfl, rfl, rfl, rfl⟩
    simp only [Nat.xor_zero]

end Go.Proofs.Ytbhahihgojhcmaa.Cr
