/-
  Small functions on runes: which steer, which are letters, blanks, great letters; the document's own.
-/
import Derived.Test.YtmlonlipieedbaaDoorChecked
import Derived.Test.YtmlonlipieedbaaDoorShelf
import Derived.Test.YtmlonlipieedbaaDoorTxWords
import Derived.WalkKit
import Derived.WalkSpells
import Derived.WalkLawsBesides
import Derived.Deep.QuietTactic
import Derived.BigQuiet
import Derived.Lib.Hide
import Derived.OpenShut
namespace Go.Proofs.YtmlonlipieedbaaDoor
open Go.RowKit Go.Lib
set_option linter.unusedVariables false

theorem ret_bool {a b : Bool} (h : a = b) : Ending.returned (.bool a) = .returned (.bool b) := by rw [h]
theorem ret_str {a b : ByteArray} (h : a = b) : Ending.returned (.string a) = .returned (.string b) := by rw [h]
theorem ret_i64 {a b : Int} (h : a = b) : Ending.returned (.int .i64 a) = .returned (.int .i64 b) := by rw [h]
def stB (r : Int) : Bool := decide (r < 32 ∨ (127 ≤ r ∧ r ≤ 159))
theorem steers_any (r : Int) (w : World) : Calls Tryd.prog 30 #[.int .i32 r] w fun e w' => e = .returned (.bool (stB r)) ∧ w = w' := by
  by_cases h1 : r < 32
  · have e : stB r = true := by simp [stB, h1]
    rw [e]
    go_enter Tryd.func30, Tryd.ntmps30
    go_wp2
    go_ret
    exact ⟨rfl, rfl⟩
  · by_cases h2 : 127 ≤ r
    · by_cases h3 : r ≤ 159
      · have e : stB r = true := by simp [stB]; omega
        rw [e]
        go_enter Tryd.func30, Tryd.ntmps30
        go_wp2
        go_ret
        exact ⟨rfl, rfl⟩
      · have e : stB r = false := by simp [stB]; omega
        rw [e]
        go_enter Tryd.func30, Tryd.ntmps30
        go_wp2
        go_ret
        exact ⟨rfl, rfl⟩
    · have e : stB r = false := by simp [stB]; omega
      rw [e]
      go_enter Tryd.func30, Tryd.ntmps30
      go_wp2
      go_ret
      exact ⟨rfl, rfl⟩

def grB (r : Int) : Bool := decide (65 ≤ r ∧ r ≤ 90)
theorem great_any (r : Int) (w : World) : Calls Tryd.prog 32 #[.int .i32 r] w fun e w' => e = .returned (.bool (grB r)) ∧ w = w' := by
  by_cases h2 : 65 ≤ r
  · by_cases h3 : r ≤ 90
    · have e : grB r = true := by simp [grB]; omega
      rw [e]
      go_enter Tryd.func32, Tryd.ntmps32
      go_wp2
      go_ret
      exact ⟨rfl, rfl⟩
    · have e : grB r = false := by simp [grB]; omega
      rw [e]
      go_enter Tryd.func32, Tryd.ntmps32
      go_wp2
      go_ret
      exact ⟨rfl, rfl⟩
  · have e : grB r = false := by simp [grB]; omega
    rw [e]
    go_enter Tryd.func32, Tryd.ntmps32
    go_wp2
    go_ret
    exact ⟨rfl, rfl⟩

/-- A blank, as the document says it. -/
def bkB (r : Int) : Bool := decide (r = 32 ∨ r = 9 ∨ r = 10 ∨ r = 13)
theorem refBlank_any (r : Int) (w : World) : Calls Tryd.prog 26 #[.int .i64 r] w fun e w' => e = .returned (.bool (bkB r)) ∧ w = w' := by
  by_cases h1 : r = 32
  · subst h1
    go_enter Tryd.func26, Tryd.ntmps26
    go_wp2
    go_ret
    exact ⟨rfl, rfl⟩
  · by_cases h2 : r = 9
    · subst h2
      go_enter Tryd.func26, Tryd.ntmps26
      go_wp2
      go_ret
      exact ⟨rfl, rfl⟩
    · by_cases h3 : r = 10
      · subst h3
        go_enter Tryd.func26, Tryd.ntmps26
        go_wp2
        go_ret
        exact ⟨rfl, rfl⟩
      · by_cases h4 : r = 13
        · subst h4
          go_enter Tryd.func26, Tryd.ntmps26
          go_wp2
          go_ret
          exact ⟨rfl, rfl⟩
        · have e : bkB r = false := by simp [bkB, h1, h2, h3, h4]
          have b1 : (r == 32) = false := by simp [h1]
          have b2 : (r == 9) = false := by simp [h2]
          have b3 : (r == 10) = false := by simp [h3]
          have b4 : (r == 13) = false := by simp [h4]
          rw [e]
          clear h1 h2 h3 h4 e
          go_enter Tryd.func26, Tryd.ntmps26
          go_wp2
          go_ret
          exact ⟨rfl, rfl⟩

/-- A letter, as the document says it. -/
def ltB (r : Int) : Bool := decide ((97 ≤ r ∧ r ≤ 122) ∨ (65 ≤ r ∧ r ≤ 90) ∨ (48 ≤ r ∧ r ≤ 57) ∨ 159 < r ∨ r = 95 ∨ r = 46 ∨ r = 45 ∨ r = 47 ∨ r = 58)
set_option maxHeartbeats 1000000 in
theorem refLetter_any (r : Int) (w : World) : Calls Tryd.prog 24 #[.int .i64 r] w fun e w' => e = .returned (.bool (ltB r)) ∧ w = w' := by
  obtain ⟨B, hB⟩ : ∃ B, ltB r = B := ⟨_, rfl⟩
  rw [hB]
  have HB := Lib.hid hB
  clear hB
  go_enter Tryd.func24, Tryd.ntmps24
  go_wp2
  all_goals
    go_ret
    refine ⟨ret_bool ?_, rfl⟩
    rw [← HB.out, Bool.eq_iff_iff]
    simp [ltB]
    try omega

end Go.Proofs.YtmlonlipieedbaaDoor
