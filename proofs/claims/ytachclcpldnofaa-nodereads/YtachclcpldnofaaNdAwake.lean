/-
  The law's awake.
-/
import Derived.Test.YtachclcpldnofaaNdFrom
import Derived.Deep.CutBlock
namespace Go.Proofs.Ytachclcpldnofaa.Nn
open Go.RowKit
set_option linter.unusedVariables false

theorem wpList_append_ran {P : Program} (w : World) {ops : Array Oper} {rest : List Oper} {o : Oper} {a : Act} {Q : Exit → Act → World → Prop} (hgd : o.guard = none) (s x : Operand) (t tn : TypeId)
    (ho : o.op = .call { callee := .builtin .append, args := #[s, x], argTypes := #[t, tn] }) (vs vx : Value) (hs : a.eval s = vs) (hx : a.eval x = vx) (R : Value → World → Prop)
    (hr : ∃ v' w', (Builtin.append_ #[t, tn] o.type #[vs, vx]).run P w = .ok v' w' ∧ R v' w') (h : ∀ v' w', R v' w' → wpList P ops Q rest (a.put o.dst v') w') : wpList P ops Q (o :: rest) a w := by
  refine wpList_plain hgd fun K hK => ?_
  obtain ⟨v', w', hrun, hR⟩ := hr
  exact Lib.wp_append_run w s x t tn ho vs vx hs hx v' w' hrun (hK _ _ (h v' w' hR))
theorem run_zeros (w : World) (base : Nat) (ty : TypeId) (v : Value) (n : Nat) (xs : List Nat) (hown : w.ownsRow base 5 1 v n (bv xs)) (m : Nat) (hsum : n + m ≤ 1000000) (hbase : base ≤ w.heap.size) :
    ∃ v' w', (Builtin.append_ #[22, 3] ty #[v, .int .i64 (m : Int)]).run Try.prog w = .ok v' w' ∧ w'.ownsRow base 5 1 v' (n + m) (bv (xs ++ List.replicate m 0)) ∧ w.grownBy w' v.ownBlock := by
  obtain ⟨i0, hi, hz0, hz1, hz2⟩ := info_parts Try.info5
  obtain ⟨v', w', h1, h2, h3⟩ := run_append_zeros (P := Try.prog) w base 22 3 ty 5 i0 .i64 .i64 Try.underlying22 Try.underlying3 hi hz0 hz1 hz2 v n (bv xs) hown m hsum hbase
  exact ⟨v', w', h1, by rw [← bv_app]; exact h2, h3⟩
theorem own_emptyB (w : World) : (w.alloc (.cells #[] 5)).ownsRow w.heap.size 5 1 (.slice (some ⟨w.heap.size, 0, none⟩) 0 0) 0 (bv []) :=
  World.ownsRow_made (base := w.heap.size) (e := 5) (size := 1) w #[] 0 (Nat.le_refl _) (Nat.zero_le _) rfl
theorem leafAt_nil (w : World) : LeafAt (w.alloc (.cells #[.slice none 0 0] 55)) w.heap.size [] :=
  ⟨by simp, none, 0, 0, cell_of_row _ _ 0 _ _ (0, 0) (heap_alloc_new w _), [], Rw.nil_ _ _ _ _ (Nat.zero_le _), Along.nil_⟩
theorem is_lit (w : World) (z : Int) (hz : I64 z) : Is (w.alloc (.cells #[.int .i64 z] 3)) (some ⟨w.heap.size, 0, none⟩) 1 1 [z] := by
  refine ⟨⟨rfl, Nat.le_refl _, by unfold maxLen; omega, fun _ => ⟨w.heap.size, 0, rfl, by simp, fun j v hv => ?_⟩⟩, by simpa using hz⟩
  have hj : j = 0 := by have := (List.getElem?_eq_some_iff.1 hv).1; simp [iv] at this; exact this
  subst hj
  simp [iv] at hv
  subst hv
  exact cell_of_row _ _ 0 _ _ (0, 0) (heap_alloc_new w _)
theorem branchAt_one (w : World) (A : Option Addr) (n c : Nat) (ps : List Int) (h : Is w A n c ps) : BranchAt (w.alloc (.cells #[.slice none 0 0, .slice A n c] 48)) w.heap.size [] ps := by
  obtain ⟨c0, c1⟩ := two_cells (heap_alloc_new w (.cells #[.slice none 0 0, .slice A n c] 48))
  exact ⟨by simp, none, 0, 0, A, n, c, c0, c1, ⟨[], Rw.nil_ _ _ _ _ (Nat.zero_le _), Along.nil_⟩, h.on ((Below.refl _ _).alloc (Nat.le_refl _) _)⟩
theorem may7 : Nd.BranchMay [] [7] := by decide
theorem pay7 : payB [] [7] = [2, 0, 0, 0, 0, 0, 7] := by unfold payB; rw [if_pos may7]; decide
theorem pay0 : payL [] = [1, 0, 0] := by unfold payL; rw [if_pos (by decide)]; decide
theorem is7 : IsBranch ([2, 0, 0, 0, 0, 0, 7] ++ List.replicate 1009 0) [] 7 [] := by
  refine ⟨may7, ?_⟩
  have e : Nd.branchPay [] 7 [] = [2, 0, 0, 0, 0, 0, 7] := by decide
  unfold Nd.fill
  rw [e]; rfl
theorem branch_one {b : List Nat} {ks ls : List (List Nat)} {p p' : Int} {q q' : List Int} (h : IsBranch b ks p q) (h' : IsBranch b ls p' q') : ks = ls ∧ p = p' ∧ q = q' := Nd.branch_inj h.1 h'.1 (h.2.symm.trans h'.2)
theorem leaf_one {b : List Nat} {cs ds : List Nd.Cell} (h : IsLeaf b cs) (h' : IsLeaf b ds) : cs = ds := Nd.leaf_inj h.1 h'.1 (h.2.symm.trans h'.2)
theorem leaf_not_branch {b : List Nat} {cs : List Nd.Cell} {ls : List (List Nat)} {p' : Int} {q' : List Int} (h : IsLeaf b cs) (h' : IsBranch b ls p' q') : False := Nd.leaf_branch (h.2.symm.trans h'.2)

set_option maxRecDepth 100000 in
set_option maxHeartbeats 2000000 in
theorem awake_any (w : World) : Calls Try.prog 7 #[] w fun e w' => e = .returned (.bool true) ∧ Below w.heap.size w w' := by
  obtain ⟨i0, hi, hz0, hz1, hz2⟩ := info_parts Try.info5
  have L1 := Lib.hid (leafAt_nil w)
  have B1 : Hid (Below w.heap.size w (w.alloc (.cells #[.slice none 0 0] 55))) := (Below.refl _ _).alloc (Nat.le_refl _) _
  go_enter Try.func7, Try.ntmps7
  go_upto_region 2 with fail
  generalize hg1 : w.heap.size = g1 at *
  generalize w.alloc (.cells #[.slice none 0 0] 55) = w1 at *
  have I2 := is_lit w1 7 (by unfold I64; omega)
  have B2 : Below w1.heap.size w1 (w1.alloc (.cells #[.int .i64 7] 3)) := (Below.refl _ _).alloc (Nat.le_refl _) _
  have N3 := Lib.hid (branchAt_one _ _ _ _ _ I2)
  have B3 := Lib.hid (onto B2 ((Below.refl _ _).alloc (Nat.le_refl _) (.cells #[.slice none 0 0, .slice (some ⟨w1.heap.size, 0, none⟩) 1 1] 48)))
  have L3 := Lib.hid (L1.out.on B3.out)
  have D3 := Lib.hid (B1.out.trans (B3.out.mono (by rw [← hg1]; have := B1.out.size; omega)))
  clear I2 B2 L1 B1
  go_upto_region 3 with fail
  have hsz : (w1.alloc (.cells #[.int .i64 7] 3)).heap.size = w1.heap.size + 1 := by simp
  rw [hsz] at N3
  generalize (w1.alloc (.cells #[.int .i64 7] 3)).alloc (.cells #[.slice none 0 0, .slice (some ⟨w1.heap.size, 0, none⟩) 1 1] 48) = w3 at *
  generalize w1.heap.size + 1 = g3 at *
  have C4 := Lib.hid (leafPay_any w3 g1 [] L3.out (by decide))
  clear hsz B3
  go_wp2_with fail
  refine C4.out.mono ?_
  rintro e w4 ⟨⟨A4, n4, c4, rfl, r4⟩, b4⟩
  rw [pay0] at r4
  obtain rfl : n4 = 3 := r4.1.symm
  have C5 := Lib.hid (branchPay_any w4 g3 [] [7] (N3.out.on b4) (by decide) (by decide))
  have D4 := Lib.hid (D3.out.trans (b4.mono (by rw [← hg1]; exact D3.out.size)))
  clear C4 r4 b4 N3 L3 D3
  go_wp2_with fail
  refine C5.out.mono ?_
  rintro e w5 ⟨⟨A5, n5, c5, rfl, r5⟩, b5⟩
  rw [pay7] at r5
  obtain rfl : n5 = 7 := r5.1.symm
  have D5 := Lib.hid (D4.out.trans (b5.mono (by rw [← hg1]; exact D4.out.size)))
  have C6 := Lib.hid (fromPay_any w5 none 0 0 [] (Bs.nil_ _ _ _ (Nat.zero_le _)))
  have R5 := Lib.hid r5
  clear C5 r5 b5 D4
  go_wp2_with fail
  refine C6.out.mono ?_
  rintro e w6 ⟨ht, b6⟩
  have ht : e = .returned (.tuple #[.nilIface, .int .i64 5]) := by
    rcases ht with ⟨_, _, _, _, h⟩ | ⟨_, _, _, _, _, _, h⟩ | ⟨h, _⟩
    · have := isLeaf_len h; cases this
    · have := isBranch_len h; cases this
    · exact h
  subst ht
  have r6 := R5.out.on b6
  have D6 := Lib.hid (D5.out.trans (b6.mono (by rw [← hg1]; exact D5.out.size)))
  have HR6 := Lib.hid r6
  have S6 := Lib.hid (r6.alloc (.cells #[] 5))
  have O6 := Lib.hid (own_emptyB w6)
  have BA : Hid (Below w6.heap.size w6 (w6.alloc (.cells #[] 5))) := (Below.refl _ _).alloc (Nat.le_refl _) _
  clear C6 b6 R5 r6 D5
  go_wp2_with (first
    | (at_builtin; refine wpList_append_bs _ rfl _ _ 22 rfl w6.heap.size 5 i0 (.int .u8 0) Try.underlying22 hi hz0 hz1 hz2 rfl _ _ _ rfl O6.out _ _ _ _ rfl S6.out (by omega) (by simp) ?_; intro v7 w7 O7 g7; have B7 := Lib.hid (below_own BA.out O6.out g7 (by simp) (Nat.le_refl _)); rw [bv_app, List.nil_append, Nat.zero_add] at O7; have HO7 := Lib.hid O7; clear O7 g7)
    | (at_builtin; refine wpList_append_ran _ rfl _ _ 22 3 rfl v7 (.int .i64 (1009 : Int)) rfl rfl _ (run_zeros _ w6.heap.size _ _ 7 _ HO7.out 1009 (by omega) B7.out.size) ?_; rintro v8 w8 ⟨O8, g8⟩; have B8 := Lib.hid (below_own B7.out HO7.out g8 B7.out.size (Nat.le_refl _)); have HO8 := Lib.hid O8; clear O8 g8))
  have hO8 := HO8.out
  rw [show (7 + 1009 : Nat) = ([2, 0, 0, 0, 0, 0, 7] ++ List.replicate 1009 0 : List Nat).length from by rw [List.length_append, List.length_replicate]; rfl] at hO8
  obtain ⟨A8, c8, rfl, r8⟩ := Bs.of_own hO8 (by
    intro x hx
    rcases List.mem_append.1 hx with h | h
    · revert x; decide
    · have := List.eq_of_mem_replicate h; omega)
  have C9 := Lib.hid (fromPay_any w8 _ _ _ _ r8)
  have RY := Lib.hid (HR6.out.on B8.out)
  have D8 := Lib.hid (D6.out.trans (B8.out.mono (by rw [← hg1]; exact D6.out.size)))
  clear hO8 r8 HO8 HO7 B7 B8 O6 S6 BA HR6 D6
  refine C9.out.mono ?_
  rintro e w9 ⟨ht, b9⟩
  obtain ⟨q, rfl, hB⟩ : ∃ q, e = .returned (.tuple #[.iface 46 (.pointer (some ⟨q, 0, none⟩)), .int .i64 0]) ∧ BranchAt w9 q [] [7] := by
    rcases ht with ⟨_, _, _, _, h⟩ | ⟨ks, p, ps, q, e1, hB, h⟩ | ⟨_, h⟩
    · exact (leaf_not_branch h is7).elim
    · obtain ⟨h1, h2, h3⟩ := branch_one h is7
      subst h1 h2 h3
      exact ⟨q, e1, hB⟩
    · exact absurd is7 (h.2 _ _ _)
  have D9 := Lib.hid (D8.out.trans (b9.mono (by rw [← hg1]; exact D8.out.size)))
  have ry := RY.out.on b9
  obtain ⟨by_, oy, rfl, _, cy⟩ := ry.2.2.2.2 (by omega)
  have c6 := cy 6 7 rfl
  obtain ⟨_, _, _, _, A', n', c', _, k1, _, hI⟩ := hB
  obtain rfl : n' = 1 := hI.len.symm
  obtain ⟨b', off', z, rfl, _, hz, _, cz⟩ := hI.get (k := 0) (by omega)
  simp only [List.getElem?_cons_zero, Option.some.injEq] at hz
  subst hz
  rw [Nat.add_zero] at cz
  have he : ∀ W : World, (binOp .eql 25 (.iface 46 (.pointer (some ⟨q, 0, none⟩))) .nilIface).run Try.prog W = .ok (.bool false) W := fun _ => rfl
  have hta : ∀ W : World, (Instr.typeAssert (.iface 46 (.pointer (some ⟨q, 0, none⟩))) 25 46 true).run Try.prog W = .ok (.tuple #[.pointer (some ⟨q, 0, none⟩), .bool true]) W := fun _ => by kernel_rfl
  clear C9 b9 ht RY D8 ry cy hI
  go_wp2
  go_ret
  exact ⟨rfl, by rw [hg1]; exact D9.out⟩
end Go.Proofs.Ytachclcpldnofaa.Nn
