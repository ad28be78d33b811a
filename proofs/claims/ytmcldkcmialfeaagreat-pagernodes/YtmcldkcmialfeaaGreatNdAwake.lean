/-
  The law's awake.
-/
import Derived.Test.YtmcldkcmialfeaaGreatNdFrom
import Derived.Deep.CutBlock
namespace Go.Proofs.YtmcldkcmialfeaaGreat.Nn
open Go.RowKit
set_option linter.unusedVariables false

theorem wpList_append_ran {P : Program} (w : World) {ops : Array Oper} {rest : List Oper} {o : Oper} {a : Act} {Q : Exit → Act → World → Prop} (hgd : o.guard = none) (s x : Operand) (t tn : TypeId)
    (ho : o.op = .call { callee := .builtin .append, args := #[s, x], argTypes := #[t, tn] }) (vs vx : Value) (hs : a.eval s = vs) (hx : a.eval x = vx) (R : Value → World → Prop)
    (hr : ∃ v' w', (Builtin.append_ #[t, tn] o.type #[vs, vx]).run P w = .ok v' w' ∧ R v' w') (h : ∀ v' w', R v' w' → wpList P ops Q rest (a.put o.dst v') w') : wpList P ops Q (o :: rest) a w := by
  refine wpList_plain hgd fun K hK => ?_
  obtain ⟨v', w', hrun, hR⟩ := hr
  exact Lib.wp_append_run w s x t tn ho vs vx hs hx v' w' hrun (hK _ _ (h v' w' hR))
theorem run_zeros (w : World) (base : Nat) (ty : TypeId) (v : Value) (n : Nat) (xs : List Nat) (hown : w.ownsRow base 5 1 v n (bv xs)) (m : Nat) (hsum : n + m ≤ 1000000) (hbase : base ≤ w.heap.size) :
    ∃ v' w', (Builtin.append_ #[43, 3] ty #[v, .int .i64 (m : Int)]).run Tryz.prog w = .ok v' w' ∧ w'.ownsRow base 5 1 v' (n + m) (bv (xs ++ List.replicate m 0)) ∧ w.grownBy w' v.ownBlock := by
  obtain ⟨i0, hi, hz0, hz1, hz2⟩ := info_parts Tryz.info5
  obtain ⟨v', w', h1, h2, h3⟩ := run_append_zeros (P := Tryz.prog) w base 43 3 ty 5 i0 .i64 .i64 Tryz.underlying43 Tryz.underlying3 hi hz0 hz1 hz2 v n (bv xs) hown m hsum hbase
  exact ⟨v', w', h1, by rw [← bv_app]; exact h2, h3⟩
theorem own_emptyB (w : World) : (w.alloc (.cells #[] 5)).ownsRow w.heap.size 5 1 (.slice (some ⟨w.heap.size, 0, none⟩) 0 0) 0 (bv []) :=
  World.ownsRow_made (base := w.heap.size) (e := 5) (size := 1) w #[] 0 (Nat.le_refl _) (Nat.zero_le _) rfl
theorem leafAt_nil (w : World) : LeafAt (w.alloc (.cells #[.slice none 0 0] 133)) w.heap.size [] :=
  ⟨by simp, none, 0, 0, cell_of_row _ _ 0 _ _ (0, 0) (heap_alloc_new w _), [], Rw.nil_ _ _ _ _ (Nat.zero_le _), Along.nil_⟩
theorem is_lit (w : World) (z : Int) (hz : I64 z) : Is (w.alloc (.cells #[.int .i64 z] 3)) (some ⟨w.heap.size, 0, none⟩) 1 1 [z] := by
  refine ⟨⟨rfl, Nat.le_refl _, by unfold maxLen; omega, fun _ => ⟨w.heap.size, 0, rfl, by simp, fun j v hv => ?_⟩⟩, by simpa using hz⟩
  have hj : j = 0 := by have := (List.getElem?_eq_some_iff.1 hv).1; simp [iv] at this; exact this
  subst hj
  simp [iv] at hv
  subst hv
  exact cell_of_row _ _ 0 _ _ (0, 0) (heap_alloc_new w _)
theorem branchAt_one (w : World) (A : Option Addr) (n c : Nat) (ps : List Int) (h : Is w A n c ps) : BranchAt (w.alloc (.cells #[.slice none 0 0, .slice A n c] 129)) w.heap.size [] ps := by
  obtain ⟨c0, c1⟩ := two_cells (heap_alloc_new w (.cells #[.slice none 0 0, .slice A n c] 129))
  exact ⟨by simp, none, 0, 0, A, n, c, c0, c1, ⟨[], Rw.nil_ _ _ _ _ (Nat.zero_le _), Along.nil_⟩, h.on ((Below.refl _ _).alloc (Nat.le_refl _) _)⟩
theorem may7 : Nd.BranchMay [] [7] := by decide
theorem pay7 : payB [] [7] = [2, 0, 0, 0, 0, 0, 7] := by unfold payB; rw [if_pos may7]; decide
theorem pay0 : payL [] = [1, 0, 0] := by unfold payL; rw [if_pos (by decide)]; decide
theorem is7 : IsBranch ([2, 0, 0, 0, 0, 0, 7] ++ List.replicate 1009 0) [] 7 [] := by
  refine ⟨may7, ?_⟩
  have e : Nd.branchPay [] 7 [] = [2, 0, 0, 0, 0, 0, 7] := by decide
  unfold Nd.fill
  rw [e]; rfl
theorem branch_one {b : List Nat} {ks ls : List (List Nat)} {p p' : Int} {q q' : List Int} (h : IsBranch b ks p q) (h' : IsBranch b ls p' q') : ks = ls ∧ p = p' ∧ q = q' := Nd.branch_inj h.1 h'.1 (h.2.symm.trans h'.2)
theorem leaf_one {b : List Nat} {cs ds : List Nd.Cell} (h : IsLeaf b cs) (h' : IsLeaf b ds) : cs = ds := Nd.leaf_inj h.1 h'.1 (h.2.symm.trans h'.2)
theorem leaf_not_branch {b : List Nat} {cs : List Nd.Cell} {ls : List (List Nat)} {p' : Int} {q' : List Int} (h : IsLeaf b cs) (h' : IsBranch b ls p' q') : False := Nd.leaf_branch (h.2.symm.trans h'.2)

end Go.Proofs.YtmcldkcmialfeaaGreat.Nn
