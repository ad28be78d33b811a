/-
  A tree's node, plainly: how long it is, whether it may be, what its page says; that no two say the same. No Go here.
-/
import Derived.Test.YtachclcpldnofaaNdLink
namespace Go.Proofs.Ytachclcpldnofaa.Nd
open Nm
set_option linter.unusedVariables false

structure Cell where
  key : List Nat
  inl : List Nat
  size : Int
  head : Int
def Page (z : Int) : Prop := 2 ≤ z ∧ z ≤ 2147483647
instance (z : Int) : Decidable (Page z) := inferInstanceAs (Decidable (_ ∧ _))
def KeyOk (k : List Nat) : Prop := 1 ≤ k.length ∧ k.length ≤ 100
instance (k : List Nat) : Decidable (KeyOk k) := inferInstanceAs (Decidable (_ ∧ _))
/-- Keys that may be, and rise. -/
def Rises : List (List Nat) → Prop
  | [] => True
  | [_] => True
  | a :: b :: r => lexLess a b = true ∧ Rises (b :: r)
instance : ∀ l, Decidable (Rises l)
  | [] => inferInstanceAs (Decidable True)
  | [_] => inferInstanceAs (Decidable True)
  | a :: b :: r => @instDecidableAnd _ _ _ (instDecidableRises (b :: r))
def Keys (l : List (List Nat)) : Prop := (∀ k ∈ l, KeyOk k) ∧ Rises l
instance (l : List (List Nat)) : Decidable (Keys l) := inferInstanceAs (Decidable (_ ∧ _))
theorem rises_snoc : ∀ (l : List (List Nat)) (a b : List Nat), Rises (l ++ [a] ++ [b]) ↔ Rises (l ++ [a]) ∧ lexLess a b = true
  | [], a, b => by simp [Rises]
  | [x], a, b => by simp [Rises]
  | x :: y :: r, a, b => by
    have ih := rises_snoc (y :: r) a b
    simp only [List.cons_append, Rises] at ih ⊢
    rw [ih, and_assoc]

def Cell.Plain (c : Cell) : Prop := c.size = 0 ∧ c.head = 0 ∧ c.inl.length ≤ 200
def Cell.Chain (c : Cell) : Prop := (200 < c.size ∧ c.size ≤ 16384) ∧ Page c.head ∧ c.inl.length = 0
instance (c : Cell) : Decidable c.Plain := inferInstanceAs (Decidable (_ ∧ _))
instance (c : Cell) : Decidable c.Chain := inferInstanceAs (Decidable (_ ∧ _))
def Cell.Ok (c : Cell) : Prop := c.Plain ∨ c.Chain
instance (c : Cell) : Decidable c.Ok := inferInstanceAs (Decidable (_ ∨ _))
def Cell.len (c : Cell) : Nat := 3 + c.key.length + (if c.size = 0 then c.inl.length else 6)
def lens (cs : List Cell) : Nat := (cs.map Cell.len).sum
def leafLen (cs : List Cell) : Nat := 3 + lens cs
def klens (ks : List (List Nat)) : Nat := (ks.map fun k => 5 + k.length).sum
def branchLen (ks : List (List Nat)) : Nat := 7 + klens ks
def LeafMay (cs : List Cell) : Prop := leafLen cs ≤ 1016 ∧ (∀ c ∈ cs, c.Ok) ∧ Keys (cs.map Cell.key)
instance (cs : List Cell) : Decidable (LeafMay cs) := inferInstanceAs (Decidable (_ ∧ _))
def BranchMay (ks : List (List Nat)) (kids : List Int) : Prop := branchLen ks ≤ 1016 ∧ (∀ p ∈ kids, Page p) ∧ Keys ks ∧ kids.length = ks.length + 1
instance (ks : List (List Nat)) (kids : List Int) : Decidable (BranchMay ks kids) := inferInstanceAs (Decidable (_ ∧ _))
theorem lens_cons (c : Cell) (r : List Cell) : lens (c :: r) = c.len + lens r := by simp [lens]
theorem lens_snoc (r : List Cell) (c : Cell) : lens (r ++ [c]) = lens r + c.len := by simp [lens]
theorem klens_cons (k : List Nat) (r : List (List Nat)) : klens (k :: r) = 5 + k.length + klens r := by simp [klens]
theorem klens_snoc (r : List (List Nat)) (k : List Nat) : klens (r ++ [k]) = klens r + (5 + k.length) := by simp [klens]

/-! What pages say. -/
def val (c : Cell) : List Nat := if c.size = 0 then be 2 c.inl.length ++ c.inl else be 2 c.size.toNat ++ (be 4 c.head.toNat ++ [0, 0])
def one (c : Cell) : List Nat := c.key.length :: (c.key ++ val c)
def all (cs : List Cell) : List Nat := cs.flatMap one
def leafPay (cs : List Cell) : List Nat := 1 :: (be 2 cs.length ++ all cs)
def oneK (p : List Nat × Int) : List Nat := p.1.length :: (p.1 ++ be 4 p.2.toNat)
def allK (ps : List (List Nat × Int)) : List Nat := ps.flatMap oneK
def branchPay (ks : List (List Nat)) (kid : Int) (kids : List Int) : List Nat := 2 :: (be 2 ks.length ++ (be 4 kid.toNat ++ allK (ks.zip kids)))
def fill (l : List Nat) : List Nat := l ++ List.replicate (1016 - l.length) 0
theorem val_len (c : Cell) : (val c).length = 2 + (if c.size = 0 then c.inl.length else 6) := by
  unfold val; split
  · rw [List.length_append, be_len]
  · rw [List.length_append, List.length_append, be_len, be_len]; rfl
theorem one_len (c : Cell) : (one c).length = c.len := by
  unfold one Cell.len
  rw [List.length_cons, List.length_append, val_len]; omega
theorem all_len : ∀ cs : List Cell, (all cs).length = lens cs
  | [] => rfl
  | c :: r => by
    show (one c ++ all r).length = _
    rw [List.length_append, one_len, all_len r, lens_cons]
theorem leafPay_len (cs : List Cell) : (leafPay cs).length = leafLen cs := by
  unfold leafPay leafLen
  rw [List.length_cons, List.length_append, be_len, all_len]; omega
theorem oneK_len (p : List Nat × Int) : (oneK p).length = 5 + p.1.length := by
  unfold oneK; rw [List.length_cons, List.length_append, be_len]; omega
theorem allK_len : ∀ (ks : List (List Nat)) (kids : List Int), ks.length = kids.length → (allK (ks.zip kids)).length = klens ks
  | [], _, _ => by simp [allK, klens]
  | k :: r, [], h => by simp at h
  | k :: r, p :: q, h => by
    show (oneK (k, p) ++ allK (r.zip q)).length = _
    rw [List.length_append, oneK_len, allK_len r q (by simpa using h), klens_cons]
theorem branchPay_len {ks : List (List Nat)} {kid : Int} {kids : List Int} (h : ks.length = kids.length) : (branchPay ks kid kids).length = branchLen ks := by
  unfold branchPay branchLen
  rw [List.length_cons, List.length_append, List.length_append, be_len, be_len, allK_len _ _ h]; omega
theorem all_snoc (l : List Cell) (c : Cell) : all (l ++ [c]) = all l ++ one c := by simp [all]
theorem allK_snoc (l : List (List Nat × Int)) (c : List Nat × Int) : allK (l ++ [c]) = allK l ++ oneK c := by simp [allK]
theorem fill_len {l : List Nat} (h : l.length ≤ 1016) : (fill l).length = 1016 := by
  unfold fill; rw [List.length_append, List.length_replicate]; omega
theorem fill_lt {l : List Nat} (h : ∀ x ∈ l, x < 256) : ∀ x ∈ fill l, x < 256 := by
  intro x hx
  rcases List.mem_append.1 hx with h1 | h1
  · exact h x h1
  · have := List.eq_of_mem_replicate h1; omega
/-- All bytes of a cell. -/
def Cell.Lt (c : Cell) : Prop := (∀ x ∈ c.key, x < 256) ∧ ∀ x ∈ c.inl, x < 256
theorem one_lt {c : Cell} (h : c.Lt) (hk : c.key.length < 256) : ∀ x ∈ one c, x < 256 := by
  intro x hx
  unfold one at hx
  rcases List.mem_cons.1 hx with rfl | hx
  · exact hk
  rcases List.mem_append.1 hx with hx | hx
  · exact h.1 x hx
  unfold val at hx
  split at hx
  · rcases List.mem_append.1 hx with hx | hx
    · exact be_lt _ _ x hx
    · exact h.2 x hx
  · rcases List.mem_append.1 hx with hx | hx
    · exact be_lt _ _ x hx
    · rcases List.mem_append.1 hx with hx | hx
      · exact be_lt _ _ x hx
      · simp at hx; omega
theorem be_inj {k n m : Nat} (hn : n < 256 ^ k) (hm : m < 256 ^ k) (h : be k n = be k m) : n = m := by
  have := congrArg fromBe h
  rwa [fromBe_be k n hn, fromBe_be k m hm] at this
theorem p2 : (256 : Nat) ^ 2 = 65536 := by decide
theorem p4 : (256 : Nat) ^ 4 = 4294967296 := by decide
/-- How long the value is said to be. -/
def Cell.tell (c : Cell) : Nat := if c.size = 0 then c.inl.length else c.size.toNat
theorem val_inj {c d : Cell} {r s : List Nat} (hc : c.Ok) (hd : d.Ok) (h : val c ++ r = val d ++ s) : (c.inl = d.inl ∧ c.size = d.size ∧ c.head = d.head) ∧ r = s := by
  unfold val at h
  rcases hc with ⟨c1, c2, c3⟩ | ⟨⟨c1, c1'⟩, ⟨c2, c2'⟩, c3⟩ <;> rcases hd with ⟨d1, d2, d3⟩ | ⟨⟨d1, d1'⟩, ⟨d2, d2'⟩, d3⟩
  · rw [if_pos c1, if_pos d1, List.append_assoc, List.append_assoc] at h
    obtain ⟨h1, h2⟩ := List.append_inj h (by rw [be_len, be_len])
    have e := be_inj (by rw [p2]; omega) (by rw [p2]; omega) h1
    obtain ⟨h3, h4⟩ := List.append_inj h2 e
    exact ⟨⟨h3, by omega, by omega⟩, h4⟩
  · rw [if_pos c1, if_neg (by omega), List.append_assoc, List.append_assoc] at h
    obtain ⟨h1, _⟩ := List.append_inj h (by rw [be_len, be_len])
    have e := be_inj (by rw [p2]; omega) (by rw [p2]; omega) h1
    omega
  · rw [if_neg (by omega), if_pos d1, List.append_assoc, List.append_assoc, List.append_assoc] at h
    obtain ⟨h1, _⟩ := List.append_inj h (by rw [be_len, be_len])
    have e := be_inj (by rw [p2]; omega) (by rw [p2]; omega) h1
    omega
  · rw [if_neg (by omega), if_neg (by omega), List.append_assoc, List.append_assoc, List.append_assoc, List.append_assoc] at h
    obtain ⟨h1, h2⟩ := List.append_inj h (by rw [be_len, be_len])
    have e := be_inj (by rw [p2]; omega) (by rw [p2]; omega) h1
    obtain ⟨h3, h4⟩ := List.append_inj h2 (by rw [be_len, be_len])
    have e2 := be_inj (by rw [p4]; omega) (by rw [p4]; omega) h3
    refine ⟨⟨?_, by omega, by omega⟩, by simpa using h4⟩
    rw [List.eq_nil_of_length_eq_zero c3, List.eq_nil_of_length_eq_zero d3]
theorem one_inj {c d : Cell} {r s : List Nat} (hc : c.Ok) (hd : d.Ok) (h : one c ++ r = one d ++ s) : c = d ∧ r = s := by
  unfold one at h
  rw [List.cons_append, List.cons_append, List.append_assoc, List.append_assoc] at h
  injection h with h1 h2
  obtain ⟨h3, h4⟩ := List.append_inj h2 h1
  obtain ⟨⟨e1, e2, e3⟩, h5⟩ := val_inj hc hd h4
  refine ⟨?_, h5⟩
  obtain ⟨ck, ci, cs, ch⟩ := c
  obtain ⟨dk, di, ds, dh⟩ := d
  simp only at h3 e1 e2 e3
  subst h3 e1 e2 e3
  rfl
theorem all_inj : ∀ {cs ds : List Cell} {r s : List Nat}, cs.length = ds.length → (∀ c ∈ cs, c.Ok) → (∀ c ∈ ds, c.Ok) → all cs ++ r = all ds ++ s → cs = ds
  | [], [], _, _, _, _, _, _ => rfl
  | c :: cs, d :: ds, r, s, hl, hc, hd, h => by
    have h' : one c ++ (all cs ++ r) = one d ++ (all ds ++ s) := by rw [← List.append_assoc, ← List.append_assoc]; exact h
    obtain ⟨e, h2⟩ := one_inj (hc c (by simp)) (hd d (by simp)) h'
    rw [e, all_inj (by simpa using hl) (fun x hx => hc x (by simp [hx])) (fun x hx => hd x (by simp [hx])) h2]
/-- No two leaves say the same. -/
theorem leaf_inj {cs ds : List Cell} (hc : LeafMay cs) (hd : LeafMay ds) (h : fill (leafPay cs) = fill (leafPay ds)) : cs = ds := by
  have bound : ∀ {l : List Cell}, LeafMay l → l.length ≤ 1016 := fun {l} hl => by
    have h1 := hl.1
    unfold leafLen at h1
    have h2 : ∀ l : List Cell, l.length ≤ lens l := fun l => by
      induction l with
      | nil => simp [lens]
      | cons c r ih => rw [lens_cons, List.length_cons]; unfold Cell.len; omega
    have := h2 l; omega
  unfold fill leafPay at h
  rw [List.cons_append, List.cons_append, List.append_assoc, List.append_assoc] at h
  injection h with _ h2
  obtain ⟨h3, h4⟩ := List.append_inj h2 (by rw [be_len, be_len])
  have e := be_inj (by have := bound hc; rw [p2]; omega) (by have := bound hd; rw [p2]; omega) h3
  exact all_inj e hc.2.1 hd.2.1 h4
theorem oneK_inj {p q : List Nat × Int} {r s : List Nat} (hp : Page p.2) (hq : Page q.2) (h : oneK p ++ r = oneK q ++ s) : p = q ∧ r = s := by
  unfold oneK at h
  rw [List.cons_append, List.cons_append, List.append_assoc, List.append_assoc] at h
  injection h with h1 h2
  obtain ⟨h3, h4⟩ := List.append_inj h2 h1
  obtain ⟨h5, h6⟩ := List.append_inj h4 (by rw [be_len, be_len])
  have e := be_inj (by have := hp.2; rw [p4]; omega) (by have := hq.2; rw [p4]; omega) h5
  refine ⟨Prod.ext h3 ?_, h6⟩
  have := hp.1; have := hq.1; omega
theorem allK_inj : ∀ {ks ls : List (List Nat)} {ps qs : List Int} {r s : List Nat}, ks.length = ls.length → ks.length = ps.length → ls.length = qs.length → (∀ p ∈ ps, Page p) → (∀ p ∈ qs, Page p) → allK (ks.zip ps) ++ r = allK (ls.zip qs) ++ s → ks = ls ∧ ps = qs
  | [], [], [], [], _, _, _, _, _, _, _, _ => ⟨rfl, rfl⟩
  | k :: ks, l :: ls, p :: ps, q :: qs, r, s, h0, h1, h2, hp, hq, h => by
    have h' : oneK (k, p) ++ (allK (ks.zip ps) ++ r) = oneK (l, q) ++ (allK (ls.zip qs) ++ s) := by rw [← List.append_assoc, ← List.append_assoc]; exact h
    obtain ⟨e, h3⟩ := oneK_inj (hp p (by simp)) (hq q (by simp)) h'
    obtain ⟨e1, e2⟩ := allK_inj (by simpa using h0) (by simpa using h1) (by simpa using h2) (fun x hx => hp x (by simp [hx])) (fun x hx => hq x (by simp [hx])) h3
    injection e with ea eb
    exact ⟨by rw [ea, e1], by rw [eb, e2]⟩
/-- No two branches say the same. -/
theorem branch_inj {ks ls : List (List Nat)} {p q : Int} {ps qs : List Int} (hc : BranchMay ks (p :: ps)) (hd : BranchMay ls (q :: qs)) (h : fill (branchPay ks p ps) = fill (branchPay ls q qs)) : ks = ls ∧ p = q ∧ ps = qs := by
  have bound : ∀ {l : List (List Nat)}, branchLen l ≤ 1016 → l.length ≤ 1016 := fun {l} h1 => by
    unfold branchLen at h1
    have h2 : ∀ l : List (List Nat), l.length ≤ klens l := fun l => by
      induction l with
      | nil => simp [klens]
      | cons c r ih => rw [klens_cons, List.length_cons]; omega
    have := h2 l; omega
  unfold fill branchPay at h
  rw [List.cons_append, List.cons_append, List.append_assoc, List.append_assoc, List.append_assoc, List.append_assoc] at h
  injection h with _ h2
  obtain ⟨h3, h4⟩ := List.append_inj h2 (by rw [be_len, be_len])
  have e := be_inj (by have := bound hc.1; rw [p2]; omega) (by have := bound hd.1; rw [p2]; omega) h3
  obtain ⟨h5, h6⟩ := List.append_inj h4 (by rw [be_len, be_len])
  have hp := hc.2.1 p (by simp)
  have hq := hd.2.1 q (by simp)
  have e2 := be_inj (by have := hp.2; rw [p4]; omega) (by have := hq.2; rw [p4]; omega) h5
  obtain ⟨e3, e4⟩ := allK_inj e (by have := hc.2.2.2; simp at this; omega) (by have := hd.2.2.2; simp at this; omega) (fun x hx => hc.2.1 x (by simp [hx])) (fun x hx => hd.2.1 x (by simp [hx])) h6
  exact ⟨e3, by have := hp.1; have := hq.1; omega, e4⟩
/-- A leaf's page isn't a branch's. -/
theorem leaf_branch {cs : List Cell} {ks : List (List Nat)} {p : Int} {ps : List Int} (h : fill (leafPay cs) = fill (branchPay ks p ps)) : False := by
  unfold fill leafPay branchPay at h
  rw [List.cons_append, List.cons_append] at h
  injection h with h1 _
  cases h1

/-! Where a leaf's page says its cells. -/
theorem all_at : ∀ {cs : List Cell} {i : Nat} {c : Cell}, cs[i]? = some c → (all cs).drop (lens (cs.take i)) = one c ++ all (cs.drop (i + 1))
  | [], i, c, h => by simp at h
  | d :: r, 0, c, h => by
    simp at h
    subst h
    show (one d ++ all r).drop 0 = one d ++ all r
    rfl
  | d :: r, i + 1, c, h => by
    show (one d ++ all r).drop (lens ((d :: r).take (i + 1))) = one c ++ all (r.drop (i + 1))
    rw [List.take_succ_cons, lens_cons, Mt.drop_app (one_len d)]
    exact all_at (by simpa using h)
theorem leaf_at {cs : List Cell} {i : Nat} {c : Cell} (h : cs[i]? = some c) :
    (fill (leafPay cs)).drop (3 + lens (cs.take i)) = one c ++ (all (cs.drop (i + 1)) ++ List.replicate (1016 - leafLen cs) 0) := by
  have hle : lens (cs.take i) ≤ (all cs).length := by
    rw [all_len]
    have e : lens cs = lens (cs.take i) + lens (cs.drop i) := by
      have h' : lens (cs.take i ++ cs.drop i) = lens (cs.take i) + lens (cs.drop i) := by unfold lens; rw [List.map_append, List.sum_append]
      rwa [List.take_append_drop] at h'
    omega
  unfold fill
  rw [leafPay_len]
  generalize List.replicate (1016 - leafLen cs) 0 = Z
  have e : leafPay cs ++ Z = (1 :: be 2 cs.length) ++ (all cs ++ Z) := by unfold leafPay; simp [List.append_assoc]
  rw [e, Mt.drop_app (show (1 :: be 2 cs.length).length = 3 by rw [List.length_cons, be_len]), List.drop_append_of_le_length hle, all_at h, List.append_assoc]
theorem leaf_end (cs : List Cell) : (fill (leafPay cs)).drop (3 + lens cs) = List.replicate (1016 - leafLen cs) 0 := by
  unfold fill
  have e := leafPay_len cs
  unfold leafLen at e
  rw [show 3 + lens cs = (3 + lens cs) + 0 from rfl, Mt.drop_app e, List.drop_zero, leafPay_len]
end Go.Proofs.Ytachclcpldnofaa.Nd
