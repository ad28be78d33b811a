/-
  NodeCells.
-/
import Derived.Test.YtmcldkcmialfeaaGreatNdSmall
import Derived.Test.YtmcldkcmialfeaaGreatNdAwake
namespace Go.Proofs.YtmcldkcmialfeaaGreat.Nn
open Go.RowKit
set_option linter.unusedVariables false

theorem is_two (w : World) (y z : Int) (hy : I64 y) (hz : I64 z) : Is (w.alloc (.cells #[.int .i64 y, .int .i64 z] 3)) (some ⟨w.heap.size, 0, none⟩) 2 2 [y, z] := by
  refine ⟨⟨rfl, Nat.le_refl _, by unfold maxLen; omega, fun _ => ⟨w.heap.size, 0, rfl, by simp, fun j v hv => ?_⟩⟩, by simpa using ⟨hy, hz⟩⟩
  have h := heap_alloc_new w (.cells #[.int .i64 y, .int .i64 z] 3)
  rw [Nat.zero_add, cell_of_row _ w.heap.size j _ _ (0, 0) h]
  simpa [iv] using hv
theorem branchAt_mk (w : World) (A A' : Option Addr) (n c n' c' : Nat) (ks : List (List Nat)) (ps : List Int) (hk : Ks w A n c ks) (h : Is w A' n' c' ps) : BranchAt (w.alloc (.cells #[.slice A n c, .slice A' n' c'] 129)) w.heap.size ks ps := by
  obtain ⟨c0, c1⟩ := two_cells (heap_alloc_new w (.cells #[.slice A n c, .slice A' n' c'] 129))
  have b := (Below.refl w.heap.size w).alloc (Nat.le_refl _) (.cells #[.slice A n c, .slice A' n' c'] 129)
  exact ⟨by simp, A, n, c, A', n', c', c0, c1, hk.on b, h.on b⟩
theorem klens_one (y : List Nat) : Nd.klens [y] = 5 + y.length := by simp [Nd.klens]

end Go.Proofs.YtmcldkcmialfeaaGreat.Nn
