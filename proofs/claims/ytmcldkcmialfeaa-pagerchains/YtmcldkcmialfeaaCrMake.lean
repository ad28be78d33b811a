/-
  makeSteps (crc): the array of what four bits that fall out do.
-/
import Derived.Test.YtmcldkcmialfeaaCrStep
import Derived.Laws.ResultCell
import Derived.Deep.WholeRow
import Derived.Laws.CopyOwn
namespace Go.Proofs.Ytmcldkcmialfeaa
open Go.RowKit
set_option linter.unusedVariables false

/-- The array behind k rounds. -/
def stepCells (k : Nat) : Array Value := ((List.range 16).map fun i => Value.int .u32 ((if i < k then Cr.Tn 4 i else 0 : Nat) : Int)).toArray
theorem stepCells_size (k : Nat) : (stepCells k).size = 16 := by simp [stepCells]
theorem stepCells_at (k i : Nat) (h : i < 16) : (stepCells k)[i]? = some (.int .u32 ((if i < k then Cr.Tn 4 i else 0 : Nat) : Int)) := by
  simp [stepCells, List.getElem?_range h]
theorem stepCells_next (k : Nat) (h : k < 16) : (stepCells k).setIfInBounds k (.int .u32 (Cr.Tn 4 k : Int)) = stepCells (k + 1) := by
  apply Array.ext_getElem?
  intro i
  rw [Array.getElem?_setIfInBounds, stepCells_size]
  by_cases hi : i < 16
  · rw [stepCells_at (k + 1) i hi]
    by_cases e : k = i
    · subst e
      rw [if_pos rfl, if_pos h, if_pos (by omega)]
    · rw [if_neg e, stepCells_at k i hi]
      by_cases hl : i < k
      · rw [if_pos hl, if_pos (by omega)]
      · rw [if_neg hl, if_neg (by omega)]
  · rw [if_neg (by omega), Array.getElem?_eq_none (by rw [stepCells_size]; omega), Array.getElem?_eq_none (by rw [stepCells_size]; omega)]
theorem stepCells_one (k : Nat) : (stepCells k).all (·.oneCell') = true := by
  simp [stepCells, Value.oneCell']

set_option maxRecDepth 100000 in
set_option maxHeartbeats 1000000 in
theorem makeSteps_any (w : World) :
    Calls Try.prog 98 #[] w fun e w' => e = .returned (.agg (stepCells 16)) ∧ Below w.heap.size w w' := by
  have t0 : stepCells 0 = Array.replicate 16 (.int .u32 0) := by rfl
  go_enter Try.func98, Try.ntmps98
  go_wp2
  go_loopw [3] (fun i wr => ∃ k : Nat, k ≤ 16 ∧ i = .int .i64 k ∧ wr = (w.alloc (.cells (stepCells 0) 129)).alloc (.cells (stepCells k) 129)) (fun i _ => 16 - (intOf i).toNat)
  case atStart => exact ⟨0, Nat.zero_le _, rfl, rfl⟩
  case round =>
    obtain ⟨k, hk, rfl, rfl⟩ := hrel
    by_cases hlt : k < 16
    · have hn := stepCells_next k hlt
      have hs := stepCells_size k
      go_wp2_with fail
      refine (shiftOut_any _ k (by unfold L32; omega)).mono ?_
      rintro e w1 ⟨rfl, rfl⟩
      go_wp2
      go_roundw
      case rel => exact ⟨k + 1, by omega, by go_num, rfl⟩
      case measure => simp [intOf]; omega
    · have hk16 : k = 16 := by omega
      subst hk16
      clear hlt hk
      have r0 : ((w.alloc (.cells (stepCells 0) 129)).alloc (.cells (stepCells 16) 129)).heap[w.heap.size]? = some (.cells (stepCells 0) 129 (0, 0)) := by
        rw [heap_alloc_old _ _ (by simp)]; exact heap_alloc_last w _
      have r1 : ((w.alloc (.cells (stepCells 0) 129)).alloc (.cells (stepCells 16) 129)).heap[w.heap.size + 1]? = some (.cells (stepCells 16) 129 (0, 0)) := by
        have := heap_alloc_last (w.alloc (.cells (stepCells 0) 129)) (.cells (stepCells 16) 129)
        simpa using this
      have hB : Below w.heap.size w ((w.alloc (.cells (stepCells 0) 129)).alloc (.cells (stepCells 16) 129)) := ((Below.refl w.heap.size w).alloc (Nat.le_refl _) _).alloc (by simp) _
      generalize (w.alloc (.cells (stepCells 0) 129)).alloc (.cells (stepCells 16) 129) = wr at *
      have s16 := stepCells_size 16
      have s0 := stepCells_size 0
      clear t0
      have hi : Hid ((Try.prog.info? 129).map (·.size) = some 16) := by show _ = _; kernel_rfl
      go_wp2_with (first | (refine wpList_load_row rfl _ _ rfl _ rfl _ _ _ _ r1 Try.underlying129 rfl (by rw [s16]; exact hi.out) ?_) | (refine wpList_store_row rfl _ _ _ rfl _ _ rfl rfl _ _ r0 (by rw [s16]; exact hi.out) (by rw [s16, s0]) (stepCells_one 16) ?_))
      refine bodyPost_ret (v := .agg (stepCells 16)) ?_ rfl ⟨rfl, ?_⟩
      · exact results_cell_row (fn := Try.f98) rfl _ _ w.heap.size _ _ _ _ rfl (setRow_heap _ _ _ _ _ _ r0) Try.underlying129 rfl (by rw [s16]; exact hi.out)
      · exact below_setRow hB (Nat.le_refl _) _

end Go.Proofs.Ytmcldkcmialfeaa
