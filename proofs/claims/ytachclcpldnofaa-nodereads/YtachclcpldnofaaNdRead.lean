/-
  A tree's node, read from bytes, plainly: cell by cell, key by key. No Go here.
-/
import Derived.Test.YtachclcpldnofaaNdMath
namespace Go.Proofs.Ytachclcpldnofaa.Nd
open Nm
set_option linter.unusedVariables false

/-- The cell with which bytes begin, and what is behind. -/
def readCell : List Nat → Option (Cell × List Nat)
  | [] => none
  | k :: r => if r.length < k + 2 then none else
    if fromBe ((r.drop k).take 2) ≤ 200 then
      if r.length < k + 2 + fromBe ((r.drop k).take 2) then none else some (⟨r.take k, (r.drop (k + 2)).take (fromBe ((r.drop k).take 2)), 0, 0⟩, r.drop (k + 2 + fromBe ((r.drop k).take 2)))
    else if r.length < k + 8 then none else some (⟨r.take k, [], (fromBe ((r.drop k).take 2) : Int), (fromBe ((r.drop (k + 2)).take 4) : Int)⟩, r.drop (k + 8))
theorem drop_at {a b : List Nat} {k n : Nat} (h : a.length = k) : (a ++ b).drop (k + n) = b.drop n := Mt.drop_app h
theorem drop_at0 {a b : List Nat} {k : Nat} (h : a.length = k) : (a ++ b).drop k = b := by
  have := drop_at (b := b) (n := 0) h
  simpa using this
/-- A cell that is said is read. -/
theorem readCell_one {c : Cell} (h : c.Ok) (rest : List Nat) : readCell (one c ++ rest) = some (c, rest) := by
  obtain ⟨key, inl, size, head⟩ := c
  rcases h with ⟨h1, h2, h3⟩ | ⟨⟨h1, h1'⟩, ⟨h2, h2'⟩, h3⟩
  · simp only at h1 h2 h3
    subst h1 h2
    have e : one ⟨key, inl, 0, 0⟩ ++ rest = key.length :: (key ++ (be 2 inl.length ++ (inl ++ rest))) := by
      unfold one val; simp [List.append_assoc]
    have d0 : (key ++ (be 2 inl.length ++ (inl ++ rest))).drop key.length = be 2 inl.length ++ (inl ++ rest) := drop_at0 rfl
    have d2 : (key ++ (be 2 inl.length ++ (inl ++ rest))).drop (key.length + 2) = inl ++ rest := by rw [drop_at rfl]; exact drop_at0 (be_len 2 _)
    have n2 : fromBe ((be 2 inl.length ++ (inl ++ rest)).take 2) = inl.length := by rw [Mt.take_app (be_len 2 _), fromBe_be 2 _ (by rw [p2]; omega)]
    have d3 : (key ++ (be 2 inl.length ++ (inl ++ rest))).drop (key.length + 2 + inl.length) = rest := by
      rw [← List.drop_drop, d2]; exact drop_at0 rfl
    have hl : (key ++ (be 2 inl.length ++ (inl ++ rest))).length = key.length + 2 + inl.length + rest.length := by simp [be_len]; omega
    rw [e]
    unfold readCell; dsimp only
    rw [d0, n2, if_neg (by omega), if_pos h3, if_neg (by omega), d2, d3, Mt.take_app rfl, Mt.take_app rfl]
  · simp only at h1 h1' h2 h2' h3
    have hi : inl = [] := List.eq_nil_of_length_eq_zero h3
    subst hi
    have hs : ¬ size = 0 := by omega
    have e : one ⟨key, [], size, head⟩ ++ rest = key.length :: (key ++ (be 2 size.toNat ++ (be 4 head.toNat ++ ([0, 0] ++ rest)))) := by
      unfold one val; simp only; rw [if_neg hs]; simp [List.append_assoc]
    have d0 : (key ++ (be 2 size.toNat ++ (be 4 head.toNat ++ ([0, 0] ++ rest)))).drop key.length = be 2 size.toNat ++ (be 4 head.toNat ++ ([0, 0] ++ rest)) := drop_at0 rfl
    have d2 : (key ++ (be 2 size.toNat ++ (be 4 head.toNat ++ ([0, 0] ++ rest)))).drop (key.length + 2) = be 4 head.toNat ++ ([0, 0] ++ rest) := by rw [drop_at rfl]; exact drop_at0 (be_len 2 _)
    have n2 : fromBe ((be 2 size.toNat ++ (be 4 head.toNat ++ ([0, 0] ++ rest))).take 2) = size.toNat := by rw [Mt.take_app (be_len 2 _), fromBe_be 2 _ (by rw [p2]; omega)]
    have n4 : fromBe ((be 4 head.toNat ++ ([0, 0] ++ rest)).take 4) = head.toNat := by rw [Mt.take_app (be_len 4 _), fromBe_be 4 _ (by rw [p4]; omega)]
    have d8 : (key ++ (be 2 size.toNat ++ (be 4 head.toNat ++ ([0, 0] ++ rest)))).drop (key.length + 8) = rest := by
      rw [show key.length + 8 = key.length + 2 + (4 + 2) by omega, ← List.drop_drop, d2, drop_at (be_len 4 _)]; rfl
    have hl : (key ++ (be 2 size.toNat ++ (be 4 head.toNat ++ ([0, 0] ++ rest)))).length = key.length + 8 + rest.length := by simp [be_len]; omega
    rw [e]
    unfold readCell; dsimp only
    rw [d0, n2, if_neg (by omega), if_neg (by omega), if_neg (by omega), d2, d8, n4, Mt.take_app rfl]
    simp only [Option.some.injEq, Prod.mk.injEq, Cell.mk.injEq, true_and, and_true]
    omega
/-- A cell that is read is said, if the two bytes behind a chain's head are 0. -/
theorem one_readCell {b r : List Nat} {c : Cell} (hb : ∀ x ∈ b, x < 256) (h : readCell b = some (c, r)) :
    c.size = 0 ∧ c.head = 0 ∧ c.inl.length ≤ 200 ∧ b = one c ++ r ∨
    200 < c.size ∧ c.size < 65536 ∧ c.inl = [] ∧ 0 ≤ c.head ∧ c.head < 4294967296 ∧ ∃ z, z.length = 2 ∧ b = c.key.length :: (c.key ++ (be 2 c.size.toNat ++ (be 4 c.head.toNat ++ (z ++ r)))) := by
  match b, h with
  | k :: t, h =>
    unfold readCell at h; dsimp only at h
    have ht : ∀ x ∈ t, x < 256 := fun x hx => hb x (by simp [hx])
    have p : ∀ a j, a + j ≤ t.length → be j (fromBe ((t.drop a).take j)) = (t.drop a).take j := fun a j h => Mt.be_of (by rw [List.length_take, List.length_drop]; omega) fun x hx => ht x (List.mem_of_mem_drop (List.mem_of_mem_take hx))
    have lt : ∀ a j, fromBe ((t.drop a).take j) < 256 ^ j := fun a j => Nat.lt_of_lt_of_le (fromBe_lt _ fun x hx => ht x (List.mem_of_mem_drop (List.mem_of_mem_take hx))) (Nat.pow_le_pow_right (by omega) (by rw [List.length_take]; omega))
    split at h
    · cases h
    rename_i h0
    have pk := p k 2 (by omega)
    have lk := lt k 2
    generalize fromBe ((t.drop k).take 2) = s at *
    split at h
    · rename_i h1
      split at h
      · cases h
      rename_i h2
      simp only [Option.some.injEq, Prod.mk.injEq] at h
      obtain ⟨rfl, rfl⟩ := h
      refine .inl ⟨rfl, rfl, ?_, ?_⟩
      · simp only; rw [List.length_take]; omega
      · unfold one val
        simp only [if_true]
        have e1 : (t.take k).length = k := by rw [List.length_take]; omega
        have e2 : ((t.drop (k + 2)).take s).length = s := by rw [List.length_take, List.length_drop]; omega
        rw [e1, e2, pk, List.cons_append, List.append_assoc, List.append_assoc]
        congr 1
        rw [← List.drop_drop (i := s), List.take_append_drop, ← List.drop_drop (i := 2), List.take_append_drop, List.take_append_drop]
    · rename_i h1
      split at h
      · cases h
      rename_i h2
      have p4' := p (k + 2) 4 (by omega)
      have l4 := lt (k + 2) 4
      rw [p4] at l4
      rw [p2] at lk
      generalize fromBe ((t.drop (k + 2)).take 4) = hd at *
      simp only [Option.some.injEq, Prod.mk.injEq] at h
      obtain ⟨rfl, rfl⟩ := h
      refine .inr ⟨?_, ?_, rfl, ?_, ?_, (t.drop (k + 6)).take 2, ?_, ?_⟩
      · simp only; omega
      · simp only; omega
      · simp only; omega
      · simp only; omega
      · rw [List.length_take, List.length_drop]; omega
      · simp only [Int.toNat_natCast]
        have e1 : (t.take k).length = k := by rw [List.length_take]; omega
        rw [e1, pk, p4']
        congr 1
        have q6 := Mt.cut_eq t (k + 6) 2
        have q2 := Mt.cut_eq t (k + 2) 4
        have q0 := Mt.cut_eq t k 2
        have q := (List.take_append_drop k t).symm
        rw [show k + 8 = k + 6 + 2 by omega, ← q6, show k + 6 = k + 2 + 4 by omega, ← q2, ← q0]
        exact q
/-- So many cells. -/
def readCells : Nat → List Nat → Option (List Cell × List Nat)
  | 0, b => some ([], b)
  | n + 1, b => match readCell b with
    | none => none
    | some (c, r) => match readCells n r with
      | none => none
      | some (cs, q) => some (c :: cs, q)
theorem readCells_all : ∀ {cs : List Cell}, (∀ c ∈ cs, c.Ok) → ∀ rest, readCells cs.length (all cs ++ rest) = some (cs, rest)
  | [], _, rest => rfl
  | c :: r, h, rest => by
    have e : all (c :: r) ++ rest = one c ++ (all r ++ rest) := by show (one c ++ all r) ++ rest = _; rw [List.append_assoc]
    rw [e, List.length_cons, readCells, readCell_one (h c (by simp))]
    simp only
    rw [readCells_all (fun x hx => h x (by simp [hx]))]

/-- The key, and the kid behind it, with which bytes begin. -/
def readK : List Nat → Option ((List Nat × Int) × List Nat)
  | [] => none
  | k :: r => if r.length < k + 4 then none else some ((r.take k, (fromBe ((r.drop k).take 4) : Int)), r.drop (k + 4))
theorem readK_one {p : List Nat × Int} (h : Page p.2) (rest : List Nat) : readK (oneK p ++ rest) = some (p, rest) := by
  obtain ⟨key, kid⟩ := p
  obtain ⟨h1, h2⟩ := h
  simp only at h1 h2
  have e : oneK (key, kid) ++ rest = key.length :: (key ++ (be 4 kid.toNat ++ rest)) := by unfold oneK; simp [List.append_assoc]
  have d0 : (key ++ (be 4 kid.toNat ++ rest)).drop key.length = be 4 kid.toNat ++ rest := drop_at0 rfl
  have d4 : (key ++ (be 4 kid.toNat ++ rest)).drop (key.length + 4) = rest := by rw [drop_at rfl]; exact drop_at0 (be_len 4 _)
  have n4 : fromBe ((be 4 kid.toNat ++ rest).take 4) = kid.toNat := by rw [Mt.take_app (be_len 4 _), fromBe_be 4 _ (by rw [p4]; omega)]
  have hl : (key ++ (be 4 kid.toNat ++ rest)).length = key.length + 4 + rest.length := by simp [be_len]; omega
  rw [e]
  unfold readK; dsimp only
  rw [d0, d4, n4, if_neg (by omega), Mt.take_app rfl]
  simp only [Option.some.injEq, Prod.mk.injEq, true_and, and_true]
  omega
theorem oneK_read {b r : List Nat} {p : List Nat × Int} (hb : ∀ x ∈ b, x < 256) (h : readK b = some (p, r)) : b = oneK p ++ r ∧ 0 ≤ p.2 ∧ p.2 < 4294967296 := by
  match b, h with
  | k :: t, h =>
    unfold readK at h; dsimp only at h
    have ht : ∀ x ∈ t, x < 256 := fun x hx => hb x (by simp [hx])
    split at h
    · cases h
    rename_i h0
    have pk : be 4 (fromBe ((t.drop k).take 4)) = (t.drop k).take 4 := Mt.be_of (by rw [List.length_take, List.length_drop]; omega) fun x hx => ht x (List.mem_of_mem_drop (List.mem_of_mem_take hx))
    have lk : fromBe ((t.drop k).take 4) < 256 ^ 4 := Nat.lt_of_lt_of_le (fromBe_lt _ fun x hx => ht x (List.mem_of_mem_drop (List.mem_of_mem_take hx))) (Nat.pow_le_pow_right (by omega) (by rw [List.length_take]; omega))
    rw [p4] at lk
    generalize fromBe ((t.drop k).take 4) = s at *
    simp only [Option.some.injEq, Prod.mk.injEq] at h
    obtain ⟨rfl, rfl⟩ := h
    refine ⟨?_, by simp only; omega, by simp only; omega⟩
    unfold oneK
    simp only [Int.toNat_natCast]
    have e1 : (t.take k).length = k := by rw [List.length_take]; omega
    rw [e1, pk, List.cons_append, List.append_assoc]
    congr 1
    rw [← List.drop_drop (i := 4), List.take_append_drop, List.take_append_drop]
end Go.Proofs.Ytachclcpldnofaa.Nd
