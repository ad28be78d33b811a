/-
  A name as bytes: '[]byte(s)'.
-/
import Derived.Test.YtbhahihgojhcmaaRtBase
namespace Go.Proofs.Ytbhahihgojhcmaa.Rt
open Go.RowKit
set_option linter.unusedVariables false

theorem conv_any (w : World) (l : List Nat) (hl : ∀ x ∈ l, x < 256) (hm : l.length ≤ 9223372036854775807) :
    ∃ c w', (convert 9 23 (.string (txt l))).run Try.prog w = .ok (.slice (some ⟨w.heap.size, 0, none⟩) l.length c) w' ∧ Bs w' (some ⟨w.heap.size, 0, none⟩) l.length c l ∧ Below w.heap.size w w' ∧ w.heap.size < w'.heap.size := by
  have hr := run_bytes_of_string (P := Try.prog) w 9 23 5 (txt l) Try.underlying9 Try.underlying23 Try.underlying5
  rw [txt_size] at hr
  refine ⟨_, _, hr, ⟨rfl, grownCap_ge w l.length 0 _, grownCap_le_maxLen w l.length 0 _ (by unfold maxLen; omega), hl, fun hn => ⟨w.heap.size, 0, rfl, by simp, fun j x hx => ?_⟩⟩, (Below.refl _ w).drew.alloc (Nat.le_refl _) _, by simp⟩
  have hj : j < l.length := (List.getElem?_eq_some_iff.1 hx).1
  have h1 := World.cell?_alloc_mark w.drew (bytesRow (txt l) (grownCap w l.length 0 5)) 5 ((bytesRow (txt l) (grownCap w l.length 0 5)).size, (bytesRow (txt l) (grownCap w l.length 0 5)).size + 1) j
  rw [Nat.zero_add]
  have hj2 : j < (txt l).data.size := by show j < (txt l).size; rw [txt_size]; exact hj
  refine Eq.trans h1 ?_
  rw [bytesRow_at _ _ _ hj2]
  have := txt_at hl hx (by rw [txt_size]; exact hj)
  have e : (txt l).data[j] = (txt l)[j]'(by rw [txt_size]; exact hj) := rfl
  rw [e, this]

end Go.Proofs.Ytbhahihgojhcmaa.Rt
