/-
  Which meta a place of a disk tells, and which is the newest. No Go here.
-/
import Derived.Test.YtcpgmglpgffhdaaMtSay
import Derived.Test.YtcpgmglpgffhdaaDkMath
namespace Go.Proofs.Ytcpgmglpgffhdaa.Mt
open Nm
set_option linter.unusedVariables false

def zero : M := ⟨0, 0, 0, 0⟩
/-- A row of bytes at the place no tells a meta. -/
def Told (no : Nat) (l : List Nat) : Prop := Pg.Opens (no : Int) l ∧ Says (l.take 1016) ∧ (of (l.take 1016)).gen % 2 = no
instance (no : Int) (l : List Nat) : Decidable (Pg.Opens no l) := inferInstanceAs (Decidable (_ ∧ _))
instance (no : Nat) (l : List Nat) : Decidable (Told no l) := inferInstanceAs (Decidable (_ ∧ _))
def toldBy (no : Nat) (l : List Nat) : Option M := if Told no l then some (of (l.take 1016)) else none
def tells (d : Dk.Pd) (no : Nat) : Option M := if no < d.pages.length then toldBy no (Dk.seen d no) else none
def top (a : M) (o : Option M) : M := match o with
  | some m => if a.gen < m.gen then m else a
  | none => a
def newest (d : Dk.Pd) : M := top (top zero (tells d 0)) (tells d 1)
def newestCode (d : Dk.Pd) : Int := if (newest d).gen = 0 then 7 else 0

theorem top_zero {a : M} {o : Option M} (h : (top a o).gen = 0) : top a o = a ∧ a.gen = 0 := by
  unfold top at h ⊢
  split at h
  · split at h
    · omega
    · exact ⟨if_neg (by assumption), h⟩
  · exact ⟨rfl, h⟩
theorem newest_zero {d : Dk.Pd} (h : (newest d).gen = 0) : newest d = zero := by
  have h1 := top_zero h
  have h2 := top_zero h1.2
  unfold newest
  rw [h1.1, h2.1]
theorem toldBy_lt {no : Nat} {l : List Nat} {m : M} (h : toldBy no l = some m) : May m := by
  unfold toldBy at h
  split at h
  · rename_i ht
    injection h with h
    subst h
    exact ht.2.1.2.1
  · cases h
theorem tells_may {d : Dk.Pd} {no : Nat} {m : M} (h : tells d no = some m) : May m := by
  unfold tells at h
  split at h
  · exact toldBy_lt h
  · cases h
theorem may_gen {m : M} (h : May m) : 1 ≤ m.gen ∧ m.gen ≤ 1152921504606846976 := h.1
theorem top_le {a : M} {o : Option M} (ha : a.gen ≤ 1152921504606846976) (ho : ∀ m, o = some m → May m) : (top a o).gen ≤ 1152921504606846976 := by
  unfold top
  split
  · split
    · exact (ho _ rfl).1.2
    · exact ha
  · exact ha
theorem newest_le (d : Dk.Pd) : (newest d).gen ≤ 1152921504606846976 := top_le (top_le (by decide) fun _ h => tells_may h) fun _ h => tells_may h

/-- The page of a meta. -/
def pageOf (m : M) : List Nat := Pg.page (m.gen % 2) (pay m)
theorem pageOf_len (m : M) : (pageOf m).length = 1024 := Pg.page_len _ (by rw [pay_len]; omega)
theorem pageOf_lt (m : M) : ∀ x ∈ pageOf m, x < 256 := Pg.page_lt _ (pay_lt m)
theorem pageOf_take (m : M) : (pageOf m).take 1016 = full m := by
  unfold pageOf
  rw [Pg.page_pay _ (by rw [pay_len]; omega)]
  unfold Pg.fill full
  rw [pay_len]
theorem toldBy_page {m : M} (h : May m) (no : Nat) (hno : no < 2) : toldBy no (pageOf m) = if m.gen % 2 = no then some m else none := by
  have h1 : Pg.Opens (no : Int) (pageOf m) ↔ m.gen % 2 = no := by
    unfold pageOf
    rw [Pg.page_opens (by rw [pay_len]; omega) (by omega)]
    omega
  have hT : Told no (pageOf m) ↔ m.gen % 2 = no := by
    unfold Told
    rw [pageOf_take, of_full m h, h1]
    exact ⟨fun h => h.1, fun hg => ⟨hg, says_full m h, hg⟩⟩
  unfold toldBy
  by_cases hg : m.gen % 2 = no
  · rw [if_pos (hT.2 hg), if_pos hg, pageOf_take, of_full m h]
  · rw [if_neg (fun h => hg (hT.1 h)), if_neg hg]
/-- A page that is torn tells nothing. -/
theorem toldBy_torn {m : M} (no : Nat) : toldBy no (Pg.torn (pageOf m)) = none := by
  unfold toldBy
  rw [if_neg]
  rintro ⟨h, _⟩
  have hs : Pg.Opens ((m.gen % 2 : Nat) : Int) (pageOf m) := by
    unfold pageOf
    exact (Pg.page_opens (by rw [pay_len]; omega) (by omega) _).2 rfl
  -- the number is the same, so it is its own place
  have e1 : ((Pg.torn (pageOf m)).drop 1016).take 4 = ((pageOf m).drop 1016).take 4 := by
    have e0 : (Pg.torn (pageOf m)).take 1020 = (pageOf m).take 1020 := by
      unfold Pg.torn
      rw [List.take_set, List.set_eq_of_length_le (by rw [List.length_take, pageOf_len]; omega)]
    rw [Pg.mid_eq, Pg.mid_eq, e0]
  have e2 : ((m.gen % 2 : Nat) : Int) = (no : Int) := by
    rw [← h.2.2.2, e1]
    exact hs.2.2.2.symm
  rw [e2] at hs
  exact Pg.torn_shut (pageOf_lt m) hs h

/-- A meta comes to its place. -/
def write (d : Dk.Pd) (m : M) : Dk.Pd := if May m then Dk.write d ((m.gen % 2 : Nat) : Int) (pageOf m) else d
def writeCode (d : Dk.Pd) (m : M) : Int := if May m then Dk.writeCode d ((m.gen % 2 : Nat) : Int) (pageOf m) else 1

end Go.Proofs.Ytcpgmglpgffhdaa.Mt
