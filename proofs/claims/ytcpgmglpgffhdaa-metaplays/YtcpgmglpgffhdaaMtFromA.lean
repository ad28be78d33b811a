/-
  FromPay of the program and of the document: one contract each.
-/
import Derived.Test.YtcpgmglpgffhdaaMtFromP
import Derived.Test.YtcpgmglpgffhdaaMtFrom
import Derived.Test.YtcpgmglpgffhdaaMtTold
namespace Go.Proofs.Ytcpgmglpgffhdaa
open Go.RowKit
set_option linter.unusedVariables false

theorem mfrom_any (w : World) (A : Option Addr) (n c : Nat) (l : List Nat) (hb : Bs w A n c l) :
    Calls Try.prog 14 #[.slice A n c] w fun e w' => e = .returned (fromV l) ∧ Below w.heap.size w w' := by
  have hl := hb.1
  have hc := hb.2.1
  have hm := hb.2.2.1
  unfold maxLen at hm
  unfold fromV
  by_cases hn : n = 1016
  · subst hn
    by_cases hz : l.take 4 = [67, 65, 77, 66] ∧ l.drop 24 = List.replicate 992 0
    · have h := from_yes w A c l hb hz.1 hz.2
      have e : Mt.Says l ↔ Mt.May (Mt.of l) := by rw [Mt.says_iff hl hb.2.2.2.1]; exact ⟨fun h => h.2, fun h => ⟨hz, h⟩⟩
      by_cases hs : Mt.May (Mt.of l)
      · rw [if_pos (e.2 hs)]; rw [if_pos hs] at h; exact h
      · rw [if_neg (fun h => hs (e.1 h))]; rw [if_neg hs] at h; exact h
    · rw [if_neg (fun h => hz ((Mt.says_iff hl hb.2.2.2.1).1 h).1)]
      exact from_no w A c l hb hz
  · rw [if_neg (fun h => hn (by rw [← hl]; exact h.1))]
    exact from_short w A n c hn (by omega)
theorem refFrom_all (w : World) (A : Option Addr) (n c : Nat) (l : List Nat) (hb : Bs w A n c l) :
    Calls Try.prog 15 #[.slice A n c] w fun e w' => e = .returned (fromV l) ∧ Below w.heap.size w w' := by
  have hl := hb.1
  have hc := hb.2.1
  have hm := hb.2.2.1
  unfold maxLen at hm
  by_cases hn : n = 1016
  · subst hn
    exact refFrom_any w A c l hb
  · unfold fromV
    rw [if_neg (fun h => hn (by rw [← hl]; exact h.1))]
    exact refFrom_short w A n c hn (by omega)

theorem from_c : FromC 14 := fun w A n c l hb => mfrom_any w A n c l hb
theorem refFrom_c : FromC 15 := fun w A n c l hb => refFrom_all w A n c l hb

end Go.Proofs.Ytcpgmglpgffhdaa
