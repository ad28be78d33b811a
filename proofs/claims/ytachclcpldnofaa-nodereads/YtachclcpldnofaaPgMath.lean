/-
  A page, plainly: what it says, filled up, its number, the sum of all that stands ahead. No Go here.
-/
import Derived.Test.YtachclcpldnofaaNums
import Derived.Test.YtachclcpldnofaaCrMath
namespace Go.Proofs.Ytachclcpldnofaa.Pg

def fill (l : List Nat) : List Nat := l ++ List.replicate (1016 - l.length) 0
/-- All that stands ahead of the sum. -/
def ahead (no : Nat) (l : List Nat) : List Nat := fill l ++ Nm.be 4 no
def page (no : Nat) (l : List Nat) : List Nat := ahead no l ++ Nm.be 4 (Cr.sum (ahead no l))
/-- The row l is opened at the place no. -/
def Opens (no : Int) (l : List Nat) : Prop := (0 ≤ no ∧ no ≤ 2147483647) ∧ l.length = 1024 ∧ Nm.fromBe (l.drop 1020) = Cr.sum (l.take 1020) ∧ (Nm.fromBe ((l.drop 1016).take 4) : Int) = no
def torn (l : List Nat) : List Nat := l.set (l.length - 1) (l.getD (l.length - 1) 0 ^^^ 255)

theorem fill_len {l : List Nat} (h : l.length ≤ 1016) : (fill l).length = 1016 := by simp [fill]; omega
theorem fill_lt {l : List Nat} (h : ∀ x ∈ l, x < 256) : ∀ x ∈ fill l, x < 256 := by
  intro x hx
  rcases List.mem_append.1 hx with h1 | h1
  · exact h x h1
  · have := List.eq_of_mem_replicate h1; omega
theorem fill_full {l : List Nat} (h : l.length = 1016) : fill l = l := by simp [fill, h]
theorem fill_more (l : List Nat) (k : Nat) (h : l.length + k ≤ 1016) : fill (l ++ List.replicate k 0) = fill l := by
  unfold fill
  rw [List.append_assoc, List.replicate_append_replicate, List.length_append, List.length_replicate]
  congr 2; omega
theorem fill_begin (l : List Nat) : (fill l).take l.length = l := by simp [fill]
theorem ahead_len {l : List Nat} (no : Nat) (h : l.length ≤ 1016) : (ahead no l).length = 1020 := by simp [ahead, fill_len h, Nm.be_len]
theorem ahead_lt {l : List Nat} (no : Nat) (h : ∀ x ∈ l, x < 256) : ∀ x ∈ ahead no l, x < 256 := by
  intro x hx
  rcases List.mem_append.1 hx with h1 | h1
  · exact fill_lt h x h1
  · exact Nm.be_lt _ _ x h1
theorem page_len {l : List Nat} (no : Nat) (h : l.length ≤ 1016) : (page no l).length = 1024 := by simp [page, ahead_len no h, Nm.be_len]
theorem page_lt {l : List Nat} (no : Nat) (h : ∀ x ∈ l, x < 256) : ∀ x ∈ page no l, x < 256 := by
  intro x hx
  rcases List.mem_append.1 hx with h1 | h1
  · exact ahead_lt no h x h1
  · exact Nm.be_lt _ _ x h1
theorem page_fill {l : List Nat} (no : Nat) (h : l.length ≤ 1016) : page no (fill l) = page no l := by
  unfold page ahead
  rw [fill_full (fill_len h)]
theorem page_ahead {l : List Nat} (no : Nat) (h : l.length ≤ 1016) : (page no l).take 1020 = ahead no l := by
  unfold page; rw [List.take_append_of_le_length (by rw [ahead_len no h]; omega), List.take_of_length_le (by rw [ahead_len no h]; omega)]
theorem page_sum {l : List Nat} (no : Nat) (h : l.length ≤ 1016) : (page no l).drop 1020 = Nm.be 4 (Cr.sum (ahead no l)) := by
  unfold page
  rw [List.drop_append_of_le_length (by rw [ahead_len no h]; omega), List.drop_eq_nil_of_le (by rw [ahead_len no h]; omega)]; rfl
theorem page_pay {l : List Nat} (no : Nat) (h : l.length ≤ 1016) : (page no l).take 1016 = fill l := by
  have e := page_ahead no h
  have : (page no l).take 1016 = ((page no l).take 1020).take 1016 := by rw [List.take_take]; rfl
  rw [this, e]; unfold ahead
  rw [List.take_append_of_le_length (by rw [fill_len h]; omega), List.take_of_length_le (by rw [fill_len h]; omega)]
theorem mid_eq (l : List Nat) : (l.drop 1016).take 4 = (l.take 1020).drop 1016 := by rw [List.take_drop]
theorem page_no {l : List Nat} (no : Nat) (h : l.length ≤ 1016) : ((page no l).drop 1016).take 4 = Nm.be 4 no := by
  rw [mid_eq, page_ahead no h]; unfold ahead
  rw [List.drop_append_of_le_length (by rw [fill_len h]; omega), List.drop_eq_nil_of_le (by rw [fill_len h]; omega)]; rfl
theorem four_of (v : Nat) (h : v < 4294967296) : Nm.fromBe (Nm.be 4 v) = v := by
  have e : (256 : Nat) ^ 4 = 4294967296 := by decide
  exact Nm.fromBe_be 4 v (by omega)
theorem foldl_inj (l m : List Nat) (hl : l.length = m.length) (h1 : ∀ x ∈ l, x < 256) (h2 : ∀ x ∈ m, x < 256) (h : Nm.fromBe l = Nm.fromBe m) : l = m := by
  induction l generalizing m with
  | nil => match m, hl with
    | [], _ => rfl
  | cons a r ih =>
    match m, hl with
    | b :: s, hl =>
      have hlen : r.length = s.length := by simpa using hl
      have i1 := Nm.fromBe_lt r fun x hx => h1 x (by simp [hx])
      have i2 := Nm.fromBe_lt s fun x hx => h2 x (by simp [hx])
      rw [Nm.fromBe_cons, Nm.fromBe_cons, hlen] at h
      rw [hlen] at i1
      have hab : a = b := by
        rcases Nat.lt_trichotomy a b with h' | h' | h'
        · have : (a + 1) * 256 ^ s.length ≤ b * 256 ^ s.length := Nat.mul_le_mul_right _ (by omega)
          rw [Nat.add_mul] at this; omega
        · exact h'
        · have : (b + 1) * 256 ^ s.length ≤ a * 256 ^ s.length := Nat.mul_le_mul_right _ (by omega)
          rw [Nat.add_mul] at this; omega
      subst hab
      rw [ih s hlen (fun x hx => h1 x (by simp [hx])) (fun x hx => h2 x (by simp [hx])) (by omega)]
/-- What is opened at a place is the page of that place. -/
theorem opens_page {no : Int} {l : List Nat} (hl : ∀ x ∈ l, x < 256) (h : Opens no l) : l = page no.toNat (l.take 1016) := by
  obtain ⟨h0, h1, h2, h3⟩ := h
  have t1016 : (l.take 1016).length = 1016 := by simp; omega
  have e1 : (l.drop 1016).take 4 = Nm.be 4 no.toNat := by
    refine foldl_inj _ _ (by simp [Nm.be_len]; omega) (fun x hx => hl x (List.mem_of_mem_drop (List.mem_of_mem_take hx))) (Nm.be_lt _ _) ?_
    rw [four_of _ (by omega)]; omega
  have e2 : ahead no.toNat (l.take 1016) = l.take 1020 := by
    unfold ahead
    rw [fill_full t1016, ← e1, mid_eq]
    conv => rhs; rw [← List.take_append_drop 1016 (l.take 1020)]
    rw [List.take_take]; rfl
  have e3 : l.drop 1020 = Nm.be 4 (Cr.sum (l.take 1020)) := by
    have hs : Cr.sum (l.take 1020) < 4294967296 := Cr.more_lt _ _
    refine foldl_inj _ _ (by simp [Nm.be_len]; omega) (fun x hx => hl x (List.mem_of_mem_drop hx)) (Nm.be_lt _ _) ?_
    rw [four_of _ hs]; exact h2
  unfold page
  rw [e2, ← e3, List.take_append_drop]
/-- The page of a place is opened there, and nowhere else. -/
theorem page_opens {l : List Nat} {no : Nat} (h : l.length ≤ 1016) (hno : no ≤ 2147483647) (other : Int) : Opens other (page no l) ↔ other = (no : Int) := by
  unfold Opens
  have hs : Cr.sum (ahead no l) < 4294967296 := Cr.more_lt _ _
  rw [page_len no h, page_sum no h, page_ahead no h, page_no no h, four_of _ hs, four_of _ (by omega)]
  constructor
  · rintro ⟨_, _, _, h4⟩; exact h4.symm
  · rintro rfl; exact ⟨by omega, rfl, rfl, rfl⟩
theorem opens_iff {no : Int} {l : List Nat} (hl : ∀ x ∈ l, x < 256) (hn : l.length = 1024) : Opens no l ↔ (0 ≤ no ∧ no ≤ 2147483647) ∧ page no.toNat (l.take 1016) = l := by
  constructor
  · intro h; exact ⟨h.1, (opens_page hl h).symm⟩
  · rintro ⟨h0, h1⟩
    rw [← h1]
    exact (page_opens (by simp; omega) (by omega) no).2 (by omega)
/-- Two rows that are opened at one place, and say the same, are the same. -/
theorem opens_same {no : Int} {l m : List Nat} (hl : ∀ x ∈ l, x < 256) (hm : ∀ x ∈ m, x < 256) (h1 : Opens no l) (h2 : Opens no m) (h : l.take 1016 = m.take 1016) : l = m := by
  rw [opens_page hl h1, opens_page hm h2, h]
theorem torn_len (l : List Nat) : (torn l).length = l.length := by simp [torn]
theorem xor_byte_lt {x : Nat} (h : x < 256) : x ^^^ 255 < 256 := Nat.xor_lt_two_pow (n := 8) h (by decide)
theorem torn_lt {l : List Nat} (h : ∀ x ∈ l, x < 256) : ∀ x ∈ torn l, x < 256 := by
  intro x hx
  rcases List.mem_or_eq_of_mem_set hx with h1 | h1
  · exact h x h1
  · subst h1
    refine xor_byte_lt ?_
    rw [List.getD_eq_getElem?_getD]
    cases hc : l[l.length - 1]? with
    | none => simp
    | some y => exact h y (List.mem_of_getElem? hc)
theorem torn_ne {l : List Nat} (h : 0 < l.length) : torn l ≠ l := by
  intro e
  have h1 : (torn l)[l.length - 1]? = l[l.length - 1]? := by rw [e]
  unfold torn at h1
  rw [List.getElem?_set_self (by omega), List.getD_eq_getElem?_getD, List.getElem?_eq_getElem (by omega), Option.getD_some] at h1
  injection h1 with h1
  have h2 : l[l.length - 1] ^^^ (l[l.length - 1] ^^^ 255) = l[l.length - 1] ^^^ l[l.length - 1] := by rw [h1]
  rw [← Nat.xor_assoc, Nat.xor_self, Nat.zero_xor] at h2
  exact absurd h2 (by decide)
theorem torn_shut {no : Int} {l : List Nat} (hl : ∀ x ∈ l, x < 256) (h : Opens no l) : ¬ Opens no (torn l) := by
  intro h2
  refine torn_ne (by have := h.2.1; omega) (opens_same (torn_lt hl) hl h2 h ?_)
  unfold torn
  rw [List.take_set, List.set_eq_of_length_le (by simp; have := h.2.1; omega)]

end Go.Proofs.Ytachclcpldnofaa.Pg
