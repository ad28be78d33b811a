/-
  A chain's page, plainly: what it says, what bytes say. No Go here.
-/
import Derived.Test.YtachclcpldnofaaMtSay
namespace Go.Proofs.Ytachclcpldnofaa.Nd
open Nm
set_option linter.unusedVariables false

def LMay (next : Int) (b : List Nat) : Prop := (1 ≤ b.length ∧ b.length ≤ 1010) ∧ 0 ≤ next ∧ next ≤ 2147483647
instance (next : Int) (b : List Nat) : Decidable (LMay next b) := inferInstanceAs (Decidable (_ ∧ _))
def link (next : Int) (b : List Nat) : List Nat := be 4 next.toNat ++ (be 2 b.length ++ b)
def linkOf (next : Int) (b : List Nat) : List Nat := if LMay next b then link next b else []
def linkFull (next : Int) (b : List Nat) : List Nat := link next b ++ List.replicate (1016 - (link next b).length) 0
def lnext (r : List Nat) : Nat := fromBe (r.take 4)
def lcount (r : List Nat) : Nat := fromBe ((r.drop 4).take 2)
def lbytes (r : List Nat) : List Nat := (r.drop 6).take (lcount r)
def LSays (r : List Nat) : Prop := r.length = 1016 ∧ LMay (lnext r : Int) (lbytes r) ∧ linkFull (lnext r : Int) (lbytes r) = r
instance (r : List Nat) : Decidable (LSays r) := inferInstanceAs (Decidable (_ ∧ _))

theorem link_len (next : Int) (b : List Nat) : (link next b).length = 6 + b.length := by
  unfold link; rw [List.length_append, List.length_append, be_len, be_len]; omega
theorem link_lt {next : Int} {b : List Nat} (hb : ∀ x ∈ b, x < 256) : ∀ x ∈ link next b, x < 256 := by
  intro x hx
  rcases List.mem_append.1 hx with h | h
  · exact be_lt _ _ x h
  · rcases List.mem_append.1 h with h | h
    · exact be_lt _ _ x h
    · exact hb x h
theorem linkOf_lt {next : Int} {b : List Nat} (hb : ∀ x ∈ b, x < 256) : ∀ x ∈ linkOf next b, x < 256 := by
  unfold linkOf; split
  · exact link_lt hb
  · simp
theorem linkFull_len {next : Int} {b : List Nat} (h : b.length ≤ 1010) : (linkFull next b).length = 1016 := by
  unfold linkFull; rw [List.length_append, List.length_replicate, link_len]; omega
theorem linkFull_lt {next : Int} {b : List Nat} (hb : ∀ x ∈ b, x < 256) : ∀ x ∈ linkFull next b, x < 256 := by
  intro x hx
  rcases List.mem_append.1 hx with h | h
  · exact link_lt hb x h
  · have := List.eq_of_mem_replicate h; omega
theorem of_link {next : Int} {b : List Nat} (h : LMay next b) : (lnext (linkFull next b) : Int) = next ∧ lcount (linkFull next b) = b.length ∧ lbytes (linkFull next b) = b := by
  obtain ⟨⟨h1, h2⟩, h3, h4⟩ := h
  have e : linkFull next b = be 4 next.toNat ++ (be 2 b.length ++ (b ++ List.replicate (1016 - (link next b).length) 0)) := by
    unfold linkFull; generalize List.replicate _ _ = Z; unfold link; simp only [List.append_assoc]
  have d4 : (linkFull next b).drop 4 = be 2 b.length ++ (b ++ List.replicate (1016 - (link next b).length) 0) := by
    rw [e, show (4 : Nat) = 4 + 0 from rfl, Mt.drop_app (be_len 4 _), List.drop_zero]
  have d6 : (linkFull next b).drop 6 = b ++ List.replicate (1016 - (link next b).length) 0 := by
    rw [show 6 = 4 + 2 from rfl, ← List.drop_drop, d4, show (2 : Nat) = 2 + 0 from rfl, Mt.drop_app (be_len 2 _), List.drop_zero]
  have n1 : lnext (linkFull next b) = next.toNat := by
    unfold lnext; rw [e, Mt.take_app (be_len 4 _), fromBe_be 4 _ (by have : (256 : Nat) ^ 4 = 4294967296 := by decide
                                                                     omega)]
  have n2 : lcount (linkFull next b) = b.length := by
    unfold lcount; rw [d4, Mt.take_app (be_len 2 _), fromBe_be 2 _ (by have : (256 : Nat) ^ 2 = 65536 := by decide
                                                                       omega)]
  exact ⟨by rw [n1]; omega, n2, by unfold lbytes; rw [n2, d6, Mt.take_app rfl]⟩
theorem lsays_full {next : Int} {b : List Nat} (h : LMay next b) : LSays (linkFull next b) := by
  obtain ⟨e1, e2, e3⟩ := of_link h
  refine ⟨linkFull_len h.1.2, ?_, ?_⟩
  · rw [e1, e3]; exact h
  · rw [e1, e3]
theorem lbytes_len {r : List Nat} (hl : r.length = 1016) (h : lcount r ≤ 1010) : (lbytes r).length = lcount r := by
  unfold lbytes; rw [List.length_take, List.length_drop]; omega
/-- Whatever is behind what a chain's page says. -/
theorem link_front {r : List Nat} (hl : r.length = 1016) (hb : ∀ x ∈ r, x < 256) (h : lcount r ≤ 1010) : link (lnext r : Int) (lbytes r) = r.take (6 + lcount r) := by
  have p : ∀ a k, a + k ≤ 1016 → be k (fromBe ((r.drop a).take k)) = (r.drop a).take k := fun a k h => Mt.be_of (by rw [List.length_take, List.length_drop]; omega) fun x hx => hb x (List.mem_of_mem_drop (List.mem_of_mem_take hx))
  have p0 := p 0 4 (by omega)
  rw [List.drop_zero] at p0
  have p4 := p 4 2 (by omega)
  unfold link
  rw [lbytes_len hl h, Int.toNat_natCast]
  have e1 : be 4 (lnext r) = r.take 4 := p0
  have e2 : be 2 (lcount r) = (r.drop 4).take 2 := p4
  rw [e1, e2]
  unfold lbytes
  rw [show 6 + lcount r = 4 + (2 + lcount r) by omega, List.take_add, List.take_add, List.drop_drop]
/-- When bytes are a chain's page, part by part. -/
theorem lsays_iff {r : List Nat} (hl : r.length = 1016) (hb : ∀ x ∈ r, x < 256) :
    LSays r ↔ ((1 ≤ lcount r ∧ lcount r ≤ 1010) ∧ lnext r ≤ 2147483647) ∧ r.drop (6 + lcount r) = List.replicate (1016 - (6 + lcount r)) 0 := by
  constructor
  · rintro ⟨_, hm, hf⟩
    have hc := (of_link hm).2.1
    rw [hf] at hc
    have h1 := hm.1
    have h2 := hm.2
    rw [← hc] at h1
    refine ⟨⟨h1, by omega⟩, ?_⟩
    have hlen := link_len (lnext r : Int) (lbytes r)
    rw [← hc] at hlen
    have hd : (linkFull (lnext r : Int) (lbytes r)).drop (6 + lcount r + 0) = List.replicate (1016 - (6 + lcount r)) 0 := by
      unfold linkFull
      rw [Mt.drop_app hlen, List.drop_zero, hlen]
    rw [hf] at hd
    exact hd
  · rintro ⟨⟨h1, h2⟩, hz⟩
    have hbl := lbytes_len hl h1.2
    refine ⟨hl, ⟨by rw [hbl]; exact h1, by omega, by omega⟩, ?_⟩
    unfold linkFull
    rw [link_len, hbl, link_front hl hb h1.2, ← hz, List.take_append_drop]
theorem lcount_two {r : List Nat} {x y : Nat} (hx : r[4]? = some x) (hy : r[5]? = some y) : lcount r = 256 * x + y := by
  match r, hx, hy with
  | a :: b :: c :: d :: e :: f :: t, hx, hy =>
    simp at hx hy
    subst hx hy
    simp [lcount, fromBe]; omega
end Go.Proofs.Ytachclcpldnofaa.Nd
