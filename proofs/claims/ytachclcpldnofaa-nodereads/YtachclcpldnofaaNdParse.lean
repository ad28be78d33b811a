/-
  What the program's reader makes of bytes, plainly: what is beyond their end is nothing and 0. No Go here.
-/
import Derived.Test.YtachclcpldnofaaNdRead
namespace Go.Proofs.Ytachclcpldnofaa.Nd
open Nm
set_option linter.unusedVariables false

def tk (n : Nat) (r : List Nat) : List Nat × List Nat := if r.length < n then ([], []) else (r.take n, r.drop n)
def nb (k : Nat) (r : List Nat) : Nat × List Nat := (fromBe (tk k r).1, (tk k r).2)
def pkey (r : List Nat) : List Nat × List Nat := tk (nb 1 r).1 (nb 1 r).2
def pcell (r : List Nat) : Cell × List Nat :=
  let a := pkey r
  let s := nb 2 a.2
  if s.1 ≤ 200 then (⟨a.1, (tk s.1 s.2).1, 0, 0⟩, (tk s.1 s.2).2)
  else (⟨a.1, [], (s.1 : Int), ((nb 4 s.2).1 : Int)⟩, (tk 2 (nb 4 s.2).2).2)
def pcells : Nat → List Nat → List Cell
  | 0, _ => []
  | n + 1, r => if r.length = 0 then [] else (pcell r).1 :: pcells n (pcell r).2
def pkids : Nat → List Nat → List (List Nat × Int)
  | 0, _ => []
  | n + 1, r => if r.length = 0 then [] else ((pkey r).1, ((nb 4 (pkey r).2).1 : Int)) :: pkids n (nb 4 (pkey r).2).2
theorem tk_app {n : Nat} {a b : List Nat} (h : a.length = n) : tk n (a ++ b) = (a, b) := by
  unfold tk
  rw [if_neg (by rw [List.length_append]; omega), Mt.take_app h, drop_at0 h]
theorem nb_app {k m : Nat} {b : List Nat} (h : m < 256 ^ k) : nb k (be k m ++ b) = (m, b) := by
  unfold nb
  rw [tk_app (be_len k m), fromBe_be k m h]
theorem nb_one {x : Nat} {b : List Nat} : nb 1 (x :: b) = (x, b) := by
  unfold nb
  rw [show x :: b = [x] ++ b from rfl, tk_app (n := 1) (a := [x]) rfl]
  simp [fromBe]
theorem pkey_app {key rest : List Nat} : pkey (key.length :: (key ++ rest)) = (key, rest) := by
  unfold pkey
  rw [nb_one, tk_app rfl]
theorem pcell_one {c : Cell} (h : c.Ok) (rest : List Nat) : pcell (one c ++ rest) = (c, rest) := by
  obtain ⟨key, inl, size, head⟩ := c
  rcases h with ⟨h1, h2, h3⟩ | ⟨⟨h1, h1'⟩, ⟨h2, h2'⟩, h3⟩
  · simp only at h1 h2 h3
    subst h1 h2
    have e : one ⟨key, inl, 0, 0⟩ ++ rest = key.length :: (key ++ (be 2 inl.length ++ (inl ++ rest))) := by
      unfold one val; simp [List.append_assoc]
    rw [e]
    unfold pcell
    rw [pkey_app]
    simp only
    rw [nb_app (by rw [p2]; omega), if_pos h3, tk_app rfl]
  · simp only at h1 h1' h2 h2' h3
    have hi : inl = [] := List.eq_nil_of_length_eq_zero h3
    subst hi
    have hs : ¬ size = 0 := by omega
    have e : one ⟨key, [], size, head⟩ ++ rest = key.length :: (key ++ (be 2 size.toNat ++ (be 4 head.toNat ++ ([0, 0] ++ rest)))) := by
      unfold one val; simp only; rw [if_neg hs]; simp [List.append_assoc]
    rw [e]
    unfold pcell
    rw [pkey_app]
    simp only
    rw [nb_app (by rw [p2]; omega), if_neg (by simp only; omega)]
    simp only
    rw [nb_app (by rw [p4]; omega)]
    simp only
    rw [tk_app (n := 2) (a := [0, 0]) rfl]
    simp only [Prod.mk.injEq, Cell.mk.injEq, true_and, and_true]
    omega
theorem pcells_all : ∀ {cs : List Cell}, (∀ c ∈ cs, c.Ok) → ∀ rest, pcells cs.length (all cs ++ rest) = cs
  | [], _, rest => rfl
  | c :: r, h, rest => by
    have e : all (c :: r) ++ rest = one c ++ (all r ++ rest) := by show (one c ++ all r) ++ rest = _; rw [List.append_assoc]
    rw [e, List.length_cons, pcells, if_neg (by rw [List.length_append, one_len]; unfold Cell.len; omega), pcell_one (h c (by simp))]
    simp only
    rw [pcells_all (fun x hx => h x (by simp [hx]))]
theorem pkids_all : ∀ {ks : List (List Nat)} {q : List Int}, ks.length = q.length → (∀ p ∈ q, Page p) → ∀ rest, pkids ks.length (allK (ks.zip q) ++ rest) = ks.zip q
  | [], [], _, _, rest => rfl
  | k :: ks, p :: q, hl, h, rest => by
    have e : allK ((k :: ks).zip (p :: q)) ++ rest = oneK (k, p) ++ (allK (ks.zip q) ++ rest) := by show (oneK (k, p) ++ allK (ks.zip q)) ++ rest = _; rw [List.append_assoc]
    have e2 : oneK (k, p) ++ (allK (ks.zip q) ++ rest) = k.length :: (k ++ (be 4 p.toNat ++ (allK (ks.zip q) ++ rest))) := by unfold oneK; simp [List.append_assoc]
    have hp := h p (by simp)
    rw [e, e2, List.length_cons, pkids, if_neg (by simp), pkey_app]
    simp only
    rw [nb_app (by have := hp.2; rw [p4]; omega)]
    simp only
    rw [pkids_all (by simpa using hl) (fun x hx => h x (by simp [hx]))]
    simp only [List.zip_cons_cons, List.cons.injEq, Prod.mk.injEq, true_and, and_true]
    have := hp.1; omega
/-! Bounds. -/
theorem tk_lt {n : Nat} {r : List Nat} (h : ∀ x ∈ r, x < 256) : (∀ x ∈ (tk n r).1, x < 256) ∧ ∀ x ∈ (tk n r).2, x < 256 := by
  unfold tk; split
  · simp
  · exact ⟨fun x hx => h x (List.mem_of_mem_take hx), fun x hx => h x (List.mem_of_mem_drop hx)⟩
theorem tk_len (n : Nat) (r : List Nat) : (tk n r).1.length ≤ n ∧ (tk n r).1.length ≤ r.length ∧ (tk n r).2.length ≤ r.length - n := by
  unfold tk; split
  · simp
  · simp; omega
theorem nb_lt {k : Nat} {r : List Nat} (h : ∀ x ∈ r, x < 256) : (nb k r).1 < 256 ^ k ∧ ∀ x ∈ (nb k r).2, x < 256 := by
  have h1 := tk_lt (n := k) h
  refine ⟨Nat.lt_of_lt_of_le (fromBe_lt _ h1.1) (Nat.pow_le_pow_right (by omega) (tk_len k r).1), h1.2⟩
theorem pkey_lt {r : List Nat} (h : ∀ x ∈ r, x < 256) : (∀ x ∈ (pkey r).1, x < 256) ∧ ∀ x ∈ (pkey r).2, x < 256 := tk_lt (nb_lt h).2
theorem pkey_len (r : List Nat) : (pkey r).1.length ≤ r.length ∧ (pkey r).2.length ≤ r.length - 1 := by
  unfold pkey
  have h1 := tk_len (nb 1 r).1 (nb 1 r).2
  have h2 := tk_len 1 r
  have e : (nb 1 r).2 = (tk 1 r).2 := rfl
  rw [e] at h1 ⊢
  omega
theorem pcell_lt {r : List Nat} (h : ∀ x ∈ r, x < 256) : ∀ x ∈ (pcell r).2, x < 256 := by
  unfold pcell
  simp only
  have h2 := nb_lt (k := 2) (pkey_lt h).2
  split
  · exact (tk_lt h2.2).2
  · exact (tk_lt (nb_lt (k := 4) h2.2).2).2
theorem pcell_len (r : List Nat) : (pcell r).1.len ≤ 9 + 2 * r.length ∧ (pcell r).2.length ≤ r.length - 1 := by
  have h1 := pkey_len r
  have h2 := tk_len 2 (pkey r).2
  unfold pcell
  simp only
  have e : (nb 2 (pkey r).2).2 = (tk 2 (pkey r).2).2 := rfl
  have h3 := tk_len (nb 2 (pkey r).2).1 (nb 2 (pkey r).2).2
  have h4 := tk_len 4 (nb 2 (pkey r).2).2
  have e4 : (nb 4 (nb 2 (pkey r).2).2).2 = (tk 4 (nb 2 (pkey r).2).2).2 := rfl
  have h5 := tk_len 2 (nb 4 (nb 2 (pkey r).2).2).2
  rw [e] at h3 h4
  rw [e4, e] at h5
  split
  · unfold Cell.len
    simp only [if_true]
    rw [e]
    omega
  · rename_i hs
    unfold Cell.len
    simp only
    rw [if_neg (by omega), e4, e]
    omega
theorem pcells_len : ∀ (n : Nat) (r : List Nat), (pcells n r).length ≤ r.length ∧ lens (pcells n r) ≤ r.length * (9 + 2 * r.length)
  | 0, r => by simp [pcells, lens]
  | n + 1, r => by
    unfold pcells
    split
    · simp [lens]
    · have h := pcell_len r
      have ih := pcells_len n (pcell r).2
      rw [List.length_cons, lens_cons]
      generalize (pcell r).2.length = m at *
      generalize (pcell r).1.len = q at *
      have h2 : m * (9 + 2 * m) ≤ (r.length - 1) * (9 + 2 * r.length) := Nat.mul_le_mul h.2 (by omega)
      have h3 : r.length * (9 + 2 * r.length) = (r.length - 1) * (9 + 2 * r.length) + (9 + 2 * r.length) := by
        have : r.length = (r.length - 1) + 1 := by omega
        conv => lhs; rw [this, Nat.add_mul, Nat.one_mul]
        rw [← this]
      omega
theorem pkids_len : ∀ (n : Nat) (r : List Nat), (pkids n r).length ≤ r.length ∧ klens ((pkids n r).map Prod.fst) ≤ r.length * (5 + r.length)
  | 0, r => by simp [pkids, klens]
  | n + 1, r => by
    unfold pkids
    split
    · simp [klens]
    · have h := pkey_len r
      have h4 := tk_len 4 (pkey r).2
      have e4 : (nb 4 (pkey r).2).2 = (tk 4 (pkey r).2).2 := rfl
      have ih := pkids_len n (nb 4 (pkey r).2).2
      rw [e4] at ih
      rw [List.length_cons, List.map_cons, klens_cons, e4]
      simp only
      generalize (tk 4 (pkey r).2).2.length = m at *
      generalize (pkey r).1.length = q at *
      have h2 : m * (5 + m) ≤ (r.length - 1) * (5 + r.length) := Nat.mul_le_mul (by omega) (by omega)
      have h3 : r.length * (5 + r.length) = (r.length - 1) * (5 + r.length) + (5 + r.length) := by
        have : r.length = (r.length - 1) + 1 := by omega
        conv => lhs; rw [this, Nat.add_mul, Nat.one_mul]
        rw [← this]
      omega
/-! The whole page. -/
def pleaf (b : List Nat) : List Cell := pcells (nb 2 (nb 1 b).2).1 (nb 2 (nb 1 b).2).2
def pkid (b : List Nat) : Int := ((nb 4 (nb 2 (nb 1 b).2).2).1 : Int)
def pbranch (b : List Nat) : List (List Nat × Int) := pkids (nb 2 (nb 1 b).2).1 (nb 4 (nb 2 (nb 1 b).2).2).2
theorem count_lt {cs : List Cell} (h : LeafMay cs) : cs.length < 256 ^ 2 := by
  have h1 := h.1
  unfold leafLen at h1
  have h2 : ∀ l : List Cell, l.length ≤ lens l := fun l => by
    induction l with
    | nil => simp [lens]
    | cons c r ih => rw [lens_cons, List.length_cons]; unfold Cell.len; omega
  have := h2 cs
  rw [p2]; omega
theorem kcount_lt {ks : List (List Nat)} (h : branchLen ks ≤ 1016) : ks.length < 256 ^ 2 := by
  unfold branchLen at h
  have h2 : ∀ l : List (List Nat), l.length ≤ klens l := fun l => by
    induction l with
    | nil => simp [klens]
    | cons c r ih => rw [klens_cons, List.length_cons]; omega
  have := h2 ks
  rw [p2]; omega
theorem pleaf_fill {cs : List Cell} (h : LeafMay cs) : (nb 1 (fill (leafPay cs))).1 = 1 ∧ pleaf (fill (leafPay cs)) = cs := by
  unfold fill
  generalize List.replicate _ _ = Z
  have e : leafPay cs ++ Z = 1 :: (be 2 cs.length ++ (all cs ++ Z)) := by unfold leafPay; simp [List.append_assoc]
  unfold pleaf
  rw [e, nb_one]
  refine ⟨rfl, ?_⟩
  simp only
  rw [nb_app (count_lt h)]
  exact pcells_all h.2.1 Z
theorem pbranch_fill {ks : List (List Nat)} {p : Int} {q : List Int} (h : BranchMay ks (p :: q)) : (nb 1 (fill (branchPay ks p q))).1 = 2 ∧ pkid (fill (branchPay ks p q)) = p ∧ pbranch (fill (branchPay ks p q)) = ks.zip q := by
  unfold fill
  generalize List.replicate _ _ = Z
  have e : branchPay ks p q ++ Z = 2 :: (be 2 ks.length ++ (be 4 p.toNat ++ (allK (ks.zip q) ++ Z))) := by unfold branchPay; simp [List.append_assoc]
  have hp := h.2.1 p (by simp)
  unfold pbranch pkid
  rw [e, nb_one]
  refine ⟨rfl, ?_⟩
  simp only
  rw [nb_app (kcount_lt h.1)]
  simp only
  rw [nb_app (by have := hp.2; rw [p4]; omega)]
  refine ⟨by have := hp.1; simp only; omega, ?_⟩
  exact pkids_all (by have := h.2.2.2; simp at this; omega) (fun x hx => h.2.1 x (by simp [hx])) Z
end Go.Proofs.Ytachclcpldnofaa.Nd
