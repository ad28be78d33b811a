/-
  Which trees there are, plainly: what a root may be, roots, those with one and without one, what their page says, which roots a page says. No Go here.
-/
import Derived.Test.YtbhahihgojhcmaaNums
namespace Go.Proofs.Ytbhahihgojhcmaa.Rm
open Nm

structure R where
  name : List Nat
  page : Int
  count : Int

def Low (x : Nat) : Prop := x = 45 ∨ (97 ≤ x ∧ x ≤ 122)
instance (x : Nat) : Decidable (Low x) := inferInstanceAs (Decidable (_ ∨ _))
def NameOk (l : List Nat) : Prop := (1 ≤ l.length ∧ l.length ≤ 24) ∧ ∀ x ∈ l, Low x
instance (l : List Nat) : Decidable (NameOk l) := inferInstanceAs (Decidable (_ ∧ _))
def Nums (p c : Int) : Prop := (p = 0 ∧ c = 0) ∨ ((2 ≤ p ∧ p ≤ 2147483647) ∧ (1 ≤ c ∧ c ≤ 2147483647))
instance (p c : Int) : Decidable (Nums p c) := inferInstanceAs (Decidable (_ ∨ _))
def One (r : R) : Prop := NameOk r.name ∧ Nums r.page r.count
instance (r : R) : Decidable (One r) := inferInstanceAs (Decidable (_ ∧ _))
def rise : List Nat → List R → Bool
  | _, [] => true
  | b, r :: t => decide (One r) && lexLess b r.name && rise r.name t
def may (L : List R) : Bool := decide (L.length ≤ 12) && rise [] L
def enc (r : R) : List Nat := r.name.length :: (r.name ++ (be 4 r.page.toNat ++ be 4 r.count.toNat))
def encs (L : List R) : List Nat := L.flatMap enc
def pay (L : List R) : List Nat := [67, 82, 79, 79] ++ (L.length :: encs L)
def full (L : List R) : List Nat := pay L ++ List.replicate (1016 - (pay L).length) 0
def without (L : List R) (nm : List Nat) : List R := L.filter fun r => !decide (r.name = nm)
def ins (L : List R) (r : R) : List R := L.takeWhile (fun x => !lexLess r.name x.name) ++ r :: L.dropWhile (fun x => !lexLess r.name x.name)
def insR (L : List R) (r : R) : List R := L.takeWhile (fun x => lexLess x.name r.name) ++ r :: L.dropWhile (fun x => lexLess x.name r.name)
def find (L : List R) (nm : List Nat) : Option R := L.find? fun r => decide (r.name = nm)
def Says (b : List Nat) (L : List R) : Prop := may L = true ∧ full L = b

/-! ### Names in order -/
theorem less_self : ∀ l : List Nat, lexLess l l = false
  | [] => rfl
  | a :: l => by simp [lexLess, less_self l]
theorem less_other : ∀ (a b : List Nat), a ≠ b → lexLess a b = !lexLess b a
  | [], [], h => absurd rfl h
  | [], _ :: _, _ => rfl
  | _ :: _, [], _ => rfl
  | x :: a, y :: b, h => by
    by_cases e : x = y
    · subst e
      have : a ≠ b := fun h' => h (by rw [h'])
      simp [lexLess, less_other a b this]
    · have e' : ¬ y = x := fun h => e h.symm
      simp only [lexLess, e, e', if_false]
      by_cases hl : x < y
      · simp [hl]; omega
      · simp [hl]; omega
theorem less_trans : ∀ (a b c : List Nat), lexLess a b = true → lexLess b c = true → lexLess a c = true
  | [], [], _, h, _ => by simp [lexLess] at h
  | [], _ :: _, [], _, h => by simp [lexLess] at h
  | [], _ :: _, _ :: _, _, _ => rfl
  | _ :: _, [], _, h, _ => by simp [lexLess] at h
  | _ :: _, _ :: _, [], _, h => by simp [lexLess] at h
  | x :: a, y :: b, z :: c, h1, h2 => by
    simp only [lexLess] at h1 h2 ⊢
    by_cases e1 : x = y
    · subst e1
      by_cases e2 : x = z
      · subst e2; simp only [if_true] at h1 h2 ⊢; exact less_trans a b c h1 h2
      · simp only [e2, if_false] at h2 ⊢; exact h2
    · by_cases e2 : y = z
      · subst e2; simp only [e1, if_false] at h1 ⊢; exact h1
      · simp only [e1, e2, if_false, decide_eq_true_eq] at h1 h2
        have : ¬ x = z := by omega
        simp only [this, if_false, decide_eq_true_eq]; omega
theorem less_ne {a b : List Nat} (h : lexLess a b = true) : a ≠ b := fun e => by subst e; rw [less_self] at h; cases h
theorem less_nil {l : List Nat} (h : 1 ≤ l.length) : lexLess [] l = true := by cases l with | nil => simp at h | cons _ _ => rfl
theorem One.pos {r : R} (h : One r) : 1 ≤ r.name.length := h.1.1.1

/-! ### Roots -/
theorem rise_cons {b : List Nat} {r : R} {t : List R} : rise b (r :: t) = true ↔ One r ∧ lexLess b r.name = true ∧ rise r.name t = true := by
  simp [rise, and_assoc]
theorem rise_lower : ∀ (L : List R) (a b : List Nat), lexLess a b = true → rise b L = true → rise a L = true
  | [], _, _, _, _ => rfl
  | r :: t, a, b, h, hr => by
    obtain ⟨h1, h2, h3⟩ := rise_cons.1 hr
    exact rise_cons.2 ⟨h1, less_trans _ _ _ h h2, h3⟩
theorem rise_filter (p : R → Bool) : ∀ (L : List R) (b : List Nat), rise b L = true → rise b (L.filter p) = true
  | [], _, _ => rfl
  | r :: t, b, hr => by
    obtain ⟨h1, h2, h3⟩ := rise_cons.1 hr
    have ih := rise_filter p t r.name h3
    by_cases hp : p r = true
    · rw [List.filter_cons_of_pos hp]; exact rise_cons.2 ⟨h1, h2, ih⟩
    · rw [List.filter_cons_of_neg hp]; exact rise_lower _ _ _ h2 ih
theorem rise_ins (r : R) (h : One r) : ∀ (L : List R) (b : List Nat), rise b L = true → lexLess b r.name = true → (∀ x ∈ L, x.name ≠ r.name) → rise b (ins L r) = true
  | [], b, _, hb, _ => rise_cons.2 ⟨h, hb, rfl⟩
  | x :: t, b, hr, hb, hn => by
    obtain ⟨h1, h2, h3⟩ := rise_cons.1 hr
    have hx := hn x (by simp)
    cases hl : lexLess r.name x.name with
    | true =>
      have e : ins (x :: t) r = r :: x :: t := by simp [ins, hl]
      rw [e]
      exact rise_cons.2 ⟨h, hb, rise_cons.2 ⟨h1, hl, h3⟩⟩
    | false =>
      have e : ins (x :: t) r = x :: ins t r := by simp [ins, hl]
      rw [e]
      have hl' : lexLess x.name r.name = true := by rw [less_other _ _ hx, hl]; rfl
      exact rise_cons.2 ⟨h1, h2, rise_ins r h t x.name h3 hl' fun y hy => hn y (by simp [hy])⟩
theorem ins_len (L : List R) (r : R) : (ins L r).length = L.length + 1 := by
  unfold ins
  rw [List.length_append, List.length_cons, ← Nat.add_assoc, ← List.length_append, List.takeWhile_append_dropWhile]
theorem ins_mem {L : List R} {r x : R} : x ∈ ins L r ↔ x = r ∨ x ∈ L := by
  have e : ∀ y, y ∈ L ↔ y ∈ L.takeWhile (fun x => !lexLess r.name x.name) ∨ y ∈ L.dropWhile (fun x => !lexLess r.name x.name) := fun y => by
    rw [← List.mem_append, List.takeWhile_append_dropWhile]
  unfold ins
  rw [List.mem_append, List.mem_cons, e]
  constructor
  · rintro (h | h | h)
    · exact .inr (.inl h)
    · exact .inl h
    · exact .inr (.inr h)
  · rintro (h | h | h)
    · exact .inr (.inl h)
    · exact .inl h
    · exact .inr (.inr h)
theorem ins_insR : ∀ (L : List R) (r : R), (∀ x ∈ L, x.name ≠ r.name) → insR L r = ins L r
  | [], _, _ => rfl
  | x :: t, r, h => by
    have e := less_other _ _ (h x (by simp))
    have ih := ins_insR t r fun y hy => h y (by simp [hy])
    unfold ins insR at *
    cases hl : lexLess r.name x.name with
    | true => rw [hl] at e; simp [hl, e]
    | false => rw [hl] at e; simp [hl, e, ih]
theorem without_mem {L : List R} {nm : List Nat} {x : R} : x ∈ without L nm ↔ x ∈ L ∧ x.name ≠ nm := by simp [without]
theorem without_len (L : List R) (nm : List Nat) : (without L nm).length ≤ L.length := List.length_filter_le _ _
theorem may_len {L : List R} (h : may L = true) : L.length ≤ 12 := by simp [may] at h; exact h.1
theorem may_rise {L : List R} (h : may L = true) : rise [] L = true := by simp [may] at h; exact h.2
theorem may_mk {L : List R} (h : L.length ≤ 12) (h2 : rise [] L = true) : may L = true := by simp [may, h, h2]
theorem rise_one : ∀ (L : List R) (b : List Nat), rise b L = true → ∀ r ∈ L, One r
  | [], _, _, r, hr => by simp at hr
  | x :: t, b, h, r, hr => by
    obtain ⟨h1, _, h3⟩ := rise_cons.1 h
    rcases List.mem_cons.1 hr with rfl | hm
    · exact h1
    · exact rise_one t _ h3 r hm
theorem may_one {L : List R} (h : may L = true) : ∀ r ∈ L, One r := rise_one L [] (may_rise h)
theorem may_nil : may [] = true := by decide
theorem may_without {L : List R} (h : may L = true) (nm : List Nat) : may (without L nm) = true :=
  may_mk (Nat.le_trans (without_len L nm) (may_len h)) (rise_filter _ _ _ (may_rise h))
theorem may_with {L : List R} (h : may L = true) {r : R} (h1 : One r) (hl : (without L r.name).length < 12) : may (ins (without L r.name) r) = true :=
  may_mk (by rw [ins_len]; omega) (rise_ins r h1 _ _ (may_rise (may_without h _)) (less_nil h1.pos) fun x hx => (without_mem.1 hx).2)
theorem find_with (L : List R) (r : R) : find (ins (without L r.name) r) r.name = some r := by
  have hn : ∀ x ∈ (without L r.name).takeWhile (fun x => !lexLess r.name x.name), decide (x.name = r.name) = false := by
    intro x hx
    have : x ∈ without L r.name := (List.takeWhile_prefix _).subset hx
    simp [(without_mem.1 this).2]
  unfold find ins
  rw [List.find?_append, List.find?_eq_none.2 (fun x hx => by simp [hn x hx])]
  simp
/-! ### What their page says -/
def In32 (r : R) : Prop := (0 ≤ r.page ∧ r.page < 4294967296) ∧ (0 ≤ r.count ∧ r.count < 4294967296)
theorem One.in32 {r : R} (h : One r) : In32 r := by
  obtain ⟨_, h⟩ := h
  unfold Nums at h
  unfold In32
  omega
theorem enc_len (r : R) : (enc r).length = r.name.length + 9 := by simp [enc, be_len]
theorem encs_cons (r : R) (t : List R) : encs (r :: t) = enc r ++ encs t := rfl
theorem encs_app (a b : List R) : encs (a ++ b) = encs a ++ encs b := by simp [encs]
theorem encs_one (r : R) : encs [r] = enc r := by simp [encs]
theorem encs_len : ∀ (L : List R), (∀ r ∈ L, r.name.length ≤ 24) → (encs L).length ≤ L.length * 33
  | [], _ => by simp [encs]
  | r :: t, h => by
    have ih := encs_len t fun x hx => h x (by simp [hx])
    have h1 := h r (by simp)
    rw [encs_cons, List.length_append, enc_len, List.length_cons]
    omega
theorem pay_len (L : List R) : (pay L).length = 5 + (encs L).length := by simp [pay]; omega
theorem pay_le {L : List R} (h : may L = true) : (pay L).length ≤ 401 := by
  have h1 := encs_len L fun r hr => (may_one h r hr).1.1.2
  have h2 := may_len h
  rw [pay_len]; omega
theorem full_len {L : List R} (h : may L = true) : (full L).length = 1016 := by
  have := pay_le h
  unfold full
  rw [List.length_append, List.length_replicate]; omega
theorem enc_lt {r : R} (h : One r) : ∀ x ∈ enc r, x < 256 := by
  intro x hx
  obtain ⟨⟨⟨h1, h2⟩, h3⟩, _⟩ := h
  rcases List.mem_cons.1 hx with rfl | hx
  · omega
  · rcases List.mem_append.1 hx with hx | hx
    · have := h3 x hx; unfold Low at this; omega
    · rcases List.mem_append.1 hx with hx | hx
      · exact be_lt _ _ x hx
      · exact be_lt _ _ x hx
theorem encs_lt {L : List R} (h : ∀ r ∈ L, One r) : ∀ x ∈ encs L, x < 256 := by
  intro x hx
  obtain ⟨r, hr, hx⟩ := List.mem_flatMap.1 hx
  exact enc_lt (h r hr) x hx
theorem pay_lt {L : List R} (h : may L = true) : ∀ x ∈ pay L, x < 256 := by
  intro x hx
  have hl := may_len h
  rcases List.mem_append.1 hx with hx | hx
  · simp at hx; omega
  · rcases List.mem_cons.1 hx with rfl | hx
    · omega
    · exact encs_lt (may_one h) x hx
theorem full_lt {L : List R} (h : may L = true) : ∀ x ∈ full L, x < 256 := by
  intro x hx
  rcases List.mem_append.1 hx with hx | hx
  · exact pay_lt h x hx
  · have := (List.mem_replicate.1 hx).2; omega
theorem be4_inj {a b : Int} (ha : 0 ≤ a ∧ a < 4294967296) (hb : 0 ≤ b ∧ b < 4294967296) (h : be 4 a.toNat = be 4 b.toNat) : a = b := by
  have e : (256 : Nat) ^ 4 = 4294967296 := by decide
  have h1 := fromBe_be 4 a.toNat (by omega)
  have h2 := fromBe_be 4 b.toNat (by omega)
  rw [h] at h1
  omega
theorem enc_inj {r s : R} (hr : In32 r) (hs : In32 s) {X Y : List Nat} (h : enc r ++ X = enc s ++ Y) : r = s ∧ X = Y := by
  unfold enc at h
  rw [List.cons_append, List.cons_append, List.cons.injEq] at h
  obtain ⟨h1, h2⟩ := h
  simp only [List.append_assoc] at h2
  obtain ⟨h3, h4⟩ := List.append_inj h2 h1
  obtain ⟨h5, h6⟩ := List.append_inj h4 (by rw [be_len, be_len])
  obtain ⟨h7, h8⟩ := List.append_inj h6 (by rw [be_len, be_len])
  have p := be4_inj hr.1 hs.1 h5
  have c := be4_inj hr.2 hs.2 h7
  cases r; cases s
  simp only at h3 p c
  subst h3 p c
  exact ⟨rfl, h8⟩
theorem encs_split : ∀ (A L : List R) (X Y : List Nat), (∀ r ∈ A, In32 r) → (∀ r ∈ L, In32 r) → encs A ++ X = encs L ++ Y → A.length ≤ L.length → ∃ L2, L = A ++ L2 ∧ X = encs L2 ++ Y
  | [], L, X, Y, _, _, h, _ => ⟨L, rfl, h⟩
  | r :: A, [], X, Y, _, _, _, hl => by simp at hl
  | r :: A, s :: L, X, Y, hA, hL, h, hl => by
    rw [encs_cons, encs_cons, List.append_assoc, List.append_assoc] at h
    obtain ⟨rfl, h'⟩ := enc_inj (hA r (by simp)) (hL s (by simp)) h
    obtain ⟨L2, rfl, h2⟩ := encs_split A L X Y (fun x hx => hA x (by simp [hx])) (fun x hx => hL x (by simp [hx])) h' (by simpa using hl)
    exact ⟨L2, rfl, h2⟩
theorem full_eq (L : List R) : full L = [67, 82, 79, 79] ++ (L.length :: (encs L ++ List.replicate (1016 - (pay L).length) 0)) := by simp [full, pay]
theorem says_inj {b : List Nat} {L M : List R} (h : Says b L) (h2 : Says b M) : L = M := by
  have e := h.2.trans h2.2.symm
  rw [full_eq, full_eq] at e
  have e1 := List.append_cancel_left e
  rw [List.cons.injEq] at e1
  obtain ⟨l, e2⟩ := e1
  obtain ⟨L2, rfl, _⟩ := encs_split L M _ _ (fun r hr => (may_one h.1 r hr).in32) (fun r hr => (may_one h2.1 r hr).in32) e2 (by omega)
  have : L2.length = 0 := by simp at l; simp [l]
  rw [List.eq_nil_of_length_eq_zero this, List.append_nil]
/-- What the bytes behind the mark are: so many roots, read one by one. -/
structure Read (k : Nat) (b : List Nat) (L : List R) (rest : List Nat) : Prop where
  len : L.length = k
  eq : b = encs L ++ rest
  nm : ∀ r ∈ L, r.name.length ≤ 24
  in32 : ∀ r ∈ L, In32 r
theorem says_read {b : List Nat} {M : List R} (h : Says b M) : b.length = 1016 ∧ b.take 4 = [67, 82, 79, 79] ∧ b.drop 5 = encs M ++ List.replicate (1016 - (pay M).length) 0 ∧ b[4]? = some M.length ∧ M.length ≤ 12 := by
  obtain ⟨h1, rfl⟩ := h
  refine ⟨full_len h1, ?_, ?_, ?_, may_len h1⟩
  · rw [full_eq]; rfl
  · rw [full_eq]; rfl
  · rw [full_eq]; rfl
/-- Whatever was read up to some place: if a page says M, then what was read is M's beginning. -/
theorem read_says {b : List Nat} {M L : List R} {k : Nat} {rest : List Nat} (h : Says b M) (hr : Read k (b.drop 5) L rest) (hk : k ≤ M.length) : ∃ L2, M = L ++ L2 ∧ rest = encs L2 ++ List.replicate (1016 - (pay M).length) 0 := by
  obtain ⟨_, _, h3, _, _⟩ := says_read h
  exact encs_split L M _ _ hr.in32 (fun r hr => (may_one h.1 r hr).in32) (by rw [← hr.eq, h3]) (by rw [hr.len]; exact hk)
theorem says_of {b : List Nat} {L : List R} {rest : List Nat} (hb : b.length = 1016) (hm : b.take 4 = [67, 82, 79, 79]) (h4 : b[4]? = some L.length) (hr : Read L.length (b.drop 5) L rest) (hL : may L = true) (hz : ∀ x ∈ rest, x = 0) : Says b L := by
  refine ⟨hL, ?_⟩
  have e : b = b.take 4 ++ b.drop 4 := (List.take_append_drop 4 b).symm
  have e2 : b.drop 4 = L.length :: b.drop 5 := by
    have hlt : 4 < b.length := by omega
    rw [List.drop_eq_getElem_cons hlt]
    rw [List.getElem?_eq_getElem hlt] at h4
    injection h4 with h4
    rw [h4]
  have hl : b.length = 5 + (encs L).length + rest.length := by
    rw [e, hm, e2, hr.eq]; simp; omega
  have hrest : rest = List.replicate (1016 - (pay L).length) 0 := by
    rw [List.eq_replicate_iff]
    exact ⟨by rw [pay_len]; omega, hz⟩
  rw [full_eq, ← hrest, ← hr.eq, ← e2, ← hm]
  exact e.symm
end Go.Proofs.Ytbhahihgojhcmaa.Rm
