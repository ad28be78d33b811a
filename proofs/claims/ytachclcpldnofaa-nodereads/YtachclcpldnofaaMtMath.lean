/-
  A meta, plainly: whether it is one, what its page says, which meta a page says. No Go here.
-/
import Derived.Test.YtachclcpldnofaaNums
namespace Go.Proofs.Ytachclcpldnofaa.Mt
open Nm

structure M where
  gen : Nat
  high : Int
  root : Int
  free : Int

/-- A page from 2 on and below high, or 0. -/
def At (high z : Int) : Prop := z = 0 ∨ 2 ≤ z ∧ z < high
instance (high z : Int) : Decidable (At high z) := inferInstanceAs (Decidable (_ ∨ _))
def May (m : M) : Prop := (1 ≤ m.gen ∧ m.gen ≤ 1152921504606846976) ∧ (2 ≤ m.high ∧ m.high ≤ 2048) ∧ At m.high m.root ∧ At m.high m.free
instance (m : M) : Decidable (May m) := inferInstanceAs (Decidable (_ ∧ _))
def pay (m : M) : List Nat := [67, 65, 77, 66] ++ (be 8 m.gen ++ (be 4 m.high.toNat ++ (be 4 m.root.toNat ++ be 4 m.free.toNat)))
/-- .. filled up. -/
def full (m : M) : List Nat := pay m ++ List.replicate 992 0
/-- The numbers where a page says them. -/
def of (b : List Nat) : M := ⟨fromBe ((b.drop 4).take 8), (fromBe ((b.drop 12).take 4) : Int), (fromBe ((b.drop 16).take 4) : Int), (fromBe ((b.drop 20).take 4) : Int)⟩
def Says (b : List Nat) : Prop := b.length = 1016 ∧ May (of b) ∧ full (of b) = b
instance (b : List Nat) : Decidable (Says b) := inferInstanceAs (Decidable (_ ∧ _))

theorem pay_len (m : M) : (pay m).length = 24 := by simp [pay, be_len]
theorem full_len (m : M) : (full m).length = 1016 := by unfold full; rw [List.length_append, pay_len, List.length_replicate]
theorem pay_lt (m : M) : ∀ x ∈ pay m, x < 256 := by
  intro x hx
  simp only [pay, List.mem_append] at hx
  rcases hx with h | h | h | h | h
  · simp at h; omega
  · exact be_lt _ _ x h
  · exact be_lt _ _ x h
  · exact be_lt _ _ x h
  · exact be_lt _ _ x h
theorem full_lt (m : M) : ∀ x ∈ full m, x < 256 := by
  intro x hx
  rcases List.mem_append.1 hx with h | h
  · exact pay_lt m x h
  · have := List.eq_of_mem_replicate h; omega
theorem drop_app {α : Type} {a b : List α} {k n : Nat} (h : a.length = k) : (a ++ b).drop (k + n) = b.drop n := by
  subst h; rw [List.drop_append]
  simp
theorem take_app {α : Type} {a b : List α} {k : Nat} (h : a.length = k) : (a ++ b).take k = a := by subst h; simp
theorem of_full (m : M) (h : May m) : of (full m) = m := by
  obtain ⟨g, hi, ro, fr⟩ := m
  obtain ⟨⟨g1, g2⟩, ⟨h1, h2⟩, r, f⟩ := h
  simp only at g1 g2 h1 h2
  have r' : 0 ≤ ro ∧ ro < 2048 := by rcases r with r | r <;> simp only at r <;> omega
  have f' : 0 ≤ fr ∧ fr < 2048 := by rcases f with f | f <;> simp only at f <;> omega
  have e : full ⟨g, hi, ro, fr⟩ = [67, 65, 77, 66] ++ (be 8 g ++ (be 4 hi.toNat ++ (be 4 ro.toNat ++ (be 4 fr.toNat ++ List.replicate 992 0)))) := by unfold full pay; generalize List.replicate 992 0 = Z; simp only [List.append_assoc]
  have d4 : (full ⟨g, hi, ro, fr⟩).drop 4 = be 8 g ++ (be 4 hi.toNat ++ (be 4 ro.toNat ++ (be 4 fr.toNat ++ List.replicate 992 0))) := by rw [e]; rfl
  have d12 : (full ⟨g, hi, ro, fr⟩).drop 12 = be 4 hi.toNat ++ (be 4 ro.toNat ++ (be 4 fr.toNat ++ List.replicate 992 0)) := by
    rw [show 12 = 4 + 8 from rfl, ← List.drop_drop, d4, show (8 : Nat) = 8 + 0 from rfl, drop_app (be_len 8 g), List.drop_zero]
  have d16 : (full ⟨g, hi, ro, fr⟩).drop 16 = be 4 ro.toNat ++ (be 4 fr.toNat ++ List.replicate 992 0) := by
    rw [show 16 = 12 + 4 from rfl, ← List.drop_drop, d12, show (4 : Nat) = 4 + 0 from rfl, drop_app (be_len 4 _), List.drop_zero]
  have d20 : (full ⟨g, hi, ro, fr⟩).drop 20 = be 4 fr.toNat ++ List.replicate 992 0 := by
    rw [show 20 = 16 + 4 from rfl, ← List.drop_drop, d16, show (4 : Nat) = 4 + 0 from rfl, drop_app (be_len 4 _), List.drop_zero]
  unfold of
  rw [d4, d12, d16, d20, take_app (be_len 8 g), take_app (be_len 4 _), take_app (be_len 4 _), take_app (be_len 4 _), fromBe_be 8 g (by omega), fromBe_be 4 _ (by omega), fromBe_be 4 _ (by omega), fromBe_be 4 _ (by omega)]
  congr <;> omega
theorem says_full (m : M) (h : May m) : Says (full m) := ⟨full_len m, by rw [of_full m h]; exact h, by rw [of_full m h]⟩
theorem full_inj {a b : M} (ha : May a) (hb : May b) (h : full a = full b) : a = b := by rw [← of_full a ha, h, of_full b hb]
theorem pay_inj {a b : M} (ha : May a) (hb : May b) (h : pay a = pay b) : a = b := full_inj ha hb (by unfold full; rw [h])

end Go.Proofs.Ytachclcpldnofaa.Mt
