/-
  The statements' common beginning: three answers that the document fixes.
-/
import Derived.Test.YthibflmmpkijkaaOrder
namespace Go.Proofs.Ythibflmmpkijkaa
open Go.RowKit
set_option linter.unusedVariables false

theorem get_a : Nm.get [172, 2, 7] = (300, 2) := by decide
theorem get_b : Nm.get [128, 0] = (0, 0) := by decide
theorem be_m : Nm.be 8 (lift (-1)) = [127, 255, 255, 255, 255, 255, 255, 255] := by decide
theorem Bs.lit (w : World) (l : List Nat) (h : ∀ x ∈ l, x < 256) (hl : l.length ≤ maxLen) (t : TypeId) : Bs (w.alloc (.cells (bv l).toArray t)) (some ⟨w.heap.size, 0, none⟩) l.length l.length l := by
  refine ⟨rfl, Nat.le_refl _, hl, h, fun _ => ⟨w.heap.size, 0, rfl, by simp, fun j x hx => ?_⟩⟩
  have : (bv l)[j]? = some (.int .u8 (x : Int)) := by simp [bv, hx]
  simpa [World.cell?_alloc_at] using this

set_option maxRecDepth 100000 in
set_option maxHeartbeats 400000 in
theorem awake_any (w : World) : Calls Try.prog 10 #[] w fun e w' => e = .returned (.bool true) ∧ Below w.heap.size w w' := by
  have L1 := Bs.lit w [172, 2, 7] (by decide) (by unfold maxLen; decide) 5
  go_enter Try.func10, Try.ntmps10
  go_wp2_with fail
  refine (get_any _ _ _ _ [172, 2, 7] (by exact L1)).mono ?_
  rintro e w1 ⟨rfl, hb1⟩
  rw [get_a]
  have L2 := Bs.lit w1 [128, 0] (by decide) (by unfold maxLen; decide) 5
  go_wp2_with fail
  refine (get_any _ _ _ _ [128, 0] (by exact L2)).mono ?_
  rintro e w2 ⟨rfl, hb2⟩
  rw [get_b]
  go_wp2_with fail
  refine (keyInt_any _ (-1) (by unfold I64; omega)).mono ?_
  rintro e w3 ⟨A, c, rfl, hbs, hb3⟩
  rw [be_m] at hbs
  obtain ⟨_, _, _, _, h5⟩ := hbs
  obtain ⟨b, off, rfl, _, hc⟩ := h5 (by omega)
  have c0 : w3.cell? ⟨b, off, none⟩ = some (.int .u8 127) := hc 0 127 rfl
  have c7 : w3.cell? ⟨b, off + 7, none⟩ = some (.int .u8 255) := hc 7 255 rfl
  clear hc h5
  go_wp2
  go_ret
  have hb : Below w.heap.size w w3 := ((((Below.refl w.heap.size w).alloc (Nat.le_refl _) _).trans (hb1.mono (by simp))).alloc (by have := hb1.size; simp at this; omega) _).trans ((hb2.mono (by have := hb1.size; simp at this ⊢; omega)).trans (hb3.mono (by have := hb1.size; have := hb2.size; simp at *; omega)))
  exact ⟨rfl, hb⟩

end Go.Proofs.Ythibflmmpkijkaa
