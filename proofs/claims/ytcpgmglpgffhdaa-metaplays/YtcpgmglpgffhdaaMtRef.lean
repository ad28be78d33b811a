/-
  The document's metas: May.
-/
import Derived.Test.YtcpgmglpgffhdaaGrPlain
import Derived.Test.YtcpgmglpgffhdaaMtNum
namespace Go.Proofs.Ytcpgmglpgffhdaa
open Go.RowKit
set_option linter.unusedVariables false

/-- A meta as a value. -/
def mv (m : Mt.M) : Value := .agg #[.int .u64 (m.gen : Int), .int .i64 m.high, .int .i64 m.root, .int .i64 m.free]

set_option maxRecDepth 100000 in
set_option maxHeartbeats 1000000 in
theorem refMay_core (w : World) (g hi ro fr : Int) :
    Calls Try.prog 11 #[.agg #[.int .u64 g, .int .i64 hi, .int .i64 ro, .int .i64 fr]] w fun e w' => e = .returned (.bool (decide ((1 ≤ g ∧ g ≤ 1152921504606846976) ∧ (2 ≤ hi ∧ hi ≤ 2048) ∧ Mt.At hi ro ∧ Mt.At hi fr))) ∧ Below w.heap.size w w' := by
  have HB := Lib.hid ((Below.refl w.heap.size w).alloc (Nat.le_refl _) (.cells #[.int .u64 g, .int .i64 hi, .int .i64 ro, .int .i64 fr] 24))
  generalize hD : decide ((1 ≤ g ∧ g ≤ 1152921504606846976) ∧ (2 ≤ hi ∧ hi ≤ 2048) ∧ Mt.At hi ro ∧ Mt.At hi fr) = D
  unfold Mt.At at hD
  by_cases g1 : g < 1
  · have e : D = false := by rw [← hD]; first | (simp; done) | (simp; omega)
    subst e
    clear hD
    go_enter Try.func11, Try.ntmps11
    go_wp2
    go_ret
    exact ⟨rfl, HB.out⟩
  · have g1' : decide (g < 1) = false := by simpa using g1
    by_cases g2 : 1152921504606846976 < g
    · have e : D = false := by rw [← hD]; first | (simp; done) | (simp; omega)
      subst e
      clear hD
      go_enter Try.func11, Try.ntmps11
      go_wp2
      go_ret
      exact ⟨rfl, HB.out⟩
    · have g2' : decide (1152921504606846976 < g) = false := by simpa using g2
      by_cases h1 : hi < 2
      · have e : D = false := by rw [← hD]; first | (simp; done) | (simp; omega)
        subst e
        clear hD
        go_enter Try.func11, Try.ntmps11
        go_wp2
        go_ret
        exact ⟨rfl, HB.out⟩
      · have h1' : decide (hi < 2) = false := by simpa using h1
        by_cases h2 : 2048 < hi
        · have e : D = false := by rw [← hD]; first | (simp; done) | (simp; omega)
          subst e
          clear hD
          go_enter Try.func11, Try.ntmps11
          go_wp2
          go_ret
          exact ⟨rfl, HB.out⟩
        · have h2' : decide (2048 < hi) = false := by simpa using h2
          by_cases r0 : ro = 0
          · subst r0
            by_cases f0 : fr = 0
            · subst f0
              have e : D = true := by rw [← hD]; first | (simp; done) | (simp; omega)
              subst e
              clear hD
              go_enter Try.func11, Try.ntmps11
              go_wp2
              go_ret
              exact ⟨rfl, HB.out⟩
            · have f0' : (fr == 0) = false := by simpa using f0
              by_cases f1 : 2 ≤ fr
              · have f1' : decide (2 ≤ fr) = true := by simpa using f1
                by_cases f2 : fr < hi
                · have f2' : decide (fr < hi) = true := by simpa using f2
                  have e : D = true := by rw [← hD]; first | (simp; done) | (simp; omega)
                  subst e
                  clear hD
                  go_enter Try.func11, Try.ntmps11
                  go_wp2
                  go_ret
                  exact ⟨rfl, HB.out⟩
                · have f2' : decide (fr < hi) = false := by simpa using f2
                  have e : D = false := by rw [← hD]; first | (simp; done) | (simp; omega)
                  subst e
                  clear hD
                  go_enter Try.func11, Try.ntmps11
                  go_wp2
                  go_ret
                  exact ⟨rfl, HB.out⟩
              · have f1' : decide (2 ≤ fr) = false := by simpa using f1
                have e : D = false := by rw [← hD]; first | (simp; done) | (simp; omega)
                subst e
                clear hD
                go_enter Try.func11, Try.ntmps11
                go_wp2
                go_ret
                exact ⟨rfl, HB.out⟩
          · have r0' : (ro == 0) = false := by simpa using r0
            by_cases r1 : 2 ≤ ro
            · have r1' : decide (2 ≤ ro) = true := by simpa using r1
              by_cases r2 : ro < hi
              · have r2' : decide (ro < hi) = true := by simpa using r2
                by_cases f0 : fr = 0
                · subst f0
                  have e : D = true := by rw [← hD]; first | (simp; done) | (simp; omega)
                  subst e
                  clear hD
                  go_enter Try.func11, Try.ntmps11
                  go_wp2
                  go_ret
                  exact ⟨rfl, HB.out⟩
                · have f0' : (fr == 0) = false := by simpa using f0
                  by_cases f1 : 2 ≤ fr
                  · have f1' : decide (2 ≤ fr) = true := by simpa using f1
                    by_cases f2 : fr < hi
                    · have f2' : decide (fr < hi) = true := by simpa using f2
                      have e : D = true := by rw [← hD]; first | (simp; done) | (simp; omega)
                      subst e
                      clear hD
                      go_enter Try.func11, Try.ntmps11
                      go_wp2
                      go_ret
                      exact ⟨rfl, HB.out⟩
                    · have f2' : decide (fr < hi) = false := by simpa using f2
                      have e : D = false := by rw [← hD]; first | (simp; done) | (simp; omega)
                      subst e
                      clear hD
                      go_enter Try.func11, Try.ntmps11
                      go_wp2
                      go_ret
                      exact ⟨rfl, HB.out⟩
                  · have f1' : decide (2 ≤ fr) = false := by simpa using f1
                    have e : D = false := by rw [← hD]; first | (simp; done) | (simp; omega)
                    subst e
                    clear hD
                    go_enter Try.func11, Try.ntmps11
                    go_wp2
                    go_ret
                    exact ⟨rfl, HB.out⟩
              · have r2' : decide (ro < hi) = false := by simpa using r2
                have e : D = false := by rw [← hD]; first | (simp; done) | (simp; omega)
                subst e
                clear hD
                go_enter Try.func11, Try.ntmps11
                go_wp2
                go_ret
                exact ⟨rfl, HB.out⟩
            · have r1' : decide (2 ≤ ro) = false := by simpa using r1
              have e : D = false := by rw [← hD]; first | (simp; done) | (simp; omega)
              subst e
              clear hD
              go_enter Try.func11, Try.ntmps11
              go_wp2
              go_ret
              exact ⟨rfl, HB.out⟩
theorem refMay_any (w : World) (m : Mt.M) :
    Calls Try.prog 11 #[mv m] w fun e w' => e = .returned (.bool (decide (Mt.May m))) ∧ Below w.heap.size w w' := by
  have h := refMay_core w (m.gen : Int) m.high m.root m.free
  rw [show decide ((1 ≤ (m.gen : Int) ∧ (m.gen : Int) ≤ 1152921504606846976) ∧ (2 ≤ m.high ∧ m.high ≤ 2048) ∧ Mt.At m.high m.root ∧ Mt.At m.high m.free) = decide (Mt.May m) from by
    rw [decide_eq_decide]; unfold Mt.May
    constructor
    · rintro ⟨⟨a, b⟩, c⟩; exact ⟨⟨by omega, by omega⟩, c⟩
    · rintro ⟨⟨a, b⟩, c⟩; exact ⟨⟨by omega, by omega⟩, c⟩] at h
  exact h

end Go.Proofs.Ytcpgmglpgffhdaa
