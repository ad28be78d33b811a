/-
  A root is put in among roots of the call's own: slices.Insert, all its roads.
-/
import Derived.Test.YtbhahihgojhcmaaRtWithout
import Derived.Test.YtbhahihgojhcmaaRtFind
import Derived.Laws.CopyRow
import Derived.Laws.CopyOwn
import Derived.Laws.Externs
import Derived.Lib.Overlaps
import Derived.Lib.AppendZerosOnto
namespace Go.Proofs.Ytbhahihgojhcmaa.Rt
open Go.RowKit
set_option linter.unusedVariables false

/-- A copy between rows of roots. -/
theorem run_copy_rows (w : World) (ty : TypeId) (g o dLen dCap : Nat) (a : Addr) (sLen sCap : Nat) (cur : Array Value) (t : TypeId) (cs : List Value)
    (hg : w.heap[g]? = some (.cells cur t (0, 0))) (hn : cs.length = Nat.min sLen dLen * 3)
    (hsrc : ∀ j v, cs[j]? = some v → w.cell? (a.add j) = some v) (hfit : o + cs.length ≤ cur.size) (h1 : ∀ v ∈ cs, v.oneCell' = true) :
    (Builtin.copy_ #[22, 22] ty #[.slice (some ⟨g, o, none⟩) dLen dCap, .slice (some a) sLen sCap]).run Try.prog w =
      .ok (goInt (Nat.min sLen dLen)) (w.setRow g (cur.toList.take o ++ cs ++ cur.toList.drop (o + cs.length)).toArray) := by
  have hl := run_loadCells_list (P := Try.prog) w a cs hsrc
  have hst := run_storeCells_at Try.prog g o t cs 0 cur w hg (by simpa using hfit) h1
  obtain ⟨i, hi, _, hs, _⟩ := info_parts infoR
  simp [Builtin.copy_, run_underlying Try.underlying22, Builtin.lenOf, Builtin.firstCells, sizeOf, typeInfo, hi, hs, ← hn, hl, hst]
theorem wp_copy_ran {P : Program} (w : World) {o : Oper} {a : Act} {K : Act → World → Prop} {Q : Exit → Act → World → Prop} (d s : Operand) (t t' : TypeId)
    (ho : o.op = .call { callee := .builtin .copy, args := #[d, s], argTypes := #[t, t'] }) (v u : Value) (hd : a.eval d = v) (hs : a.eval s = u) {v' : Value} {w' : World}
    (hr : (Builtin.copy_ #[t, t'] o.type #[v, u]).run P w = .ok v' w') (h : K (a.put o.dst v') w') : o.wp P a w K Q := by
  unfold Oper.wp execOp
  simp only [ho, resolve, invoke, builtin, Sem.run_bind, Sem.run_pure, Result.andThen_ok, List.map_toArray, List.map_cons, List.map_nil, hd, hs, hr]
  exact h
theorem wpList_copy_ran {P : Program} (w : World) {ops : Array Oper} {rest : List Oper} {o : Oper} {a : Act} {Q : Exit → Act → World → Prop} (hgd : o.guard = none) (d s : Operand) (t t' : TypeId)
    (ho : o.op = .call { callee := .builtin .copy, args := #[d, s], argTypes := #[t, t'] }) (v u : Value) (hd : a.eval d = v) (hs : a.eval s = u) {v' : Value} {w' : World}
    (hr : (Builtin.copy_ #[t, t'] o.type #[v, u]).run P w = .ok v' w') (h : wpList P ops Q rest (a.put o.dst v') w') : wpList P ops Q (o :: rest) a w :=
  wpList_plain hgd fun _ hK => wp_copy_ran w d s t t' ho v u hd hs hr (hK _ _ h)
theorem step_copy_ran {P : Program} {w : World} {ops : Array Oper} {o : Oper} {a : Act} {K : Act → World → Prop} {Q : Exit → Act → World → Prop} {E : Prop} (hgd : o.guard = none) (d s : Operand) (t t' : TypeId)
    (ho : o.op = .call { callee := .builtin .copy, args := #[d, s], argTypes := #[t, t'] }) (v u : Value) (hd : a.eval d = v) (hs : a.eval s = u) {v' : Value} {w' : World}
    (hr : (Builtin.copy_ #[t, t'] o.type #[v, u]).run P w = .ok v' w') (h : K (a.put o.dst v') w') :
    if Region.wanted o (yielded ops a.tmps) = true then Oper.wp P o a w K Q else E := by
  have hw : Region.wanted o (yielded ops a.tmps) = true := by simp [Region.wanted, hgd]
  rw [if_pos hw]
  exact wp_copy_ran w d s t t' ho v u hd hs hr h

/-- What Insert leaves. -/
structure InsSays (w0 w : World) (xs : List Rm.R) (i : Nat) (r : Rm.R) (e : Ending) (w' : World) : Prop where
  says : ∃ A c, e = .returned (.slice A (xs.length + 1) c) ∧ Rs w' A (xs.length + 1) c (xs.take i ++ r :: xs.drop i)
  bel : Below w0.heap.size w0 w'
theorem ins_all {xs : List Rm.R} {i : Nat} {r : Rm.R} (h : ∀ x ∈ xs, In x) (hr : In r) : ∀ x ∈ xs.take i ++ r :: xs.drop i, In x := by
  intro x hx
  rcases List.mem_append.1 hx with h1 | h1
  · exact h x (List.mem_of_mem_take h1)
  · rcases List.mem_cons.1 h1 with rfl | h1
    · exact hr
    · exact h x (List.mem_of_mem_drop h1)
theorem rcs_take (L : List Rm.R) (k : Nat) : (rcs L).take (k * 3) = rcs (L.take k) := by
  by_cases hk : k ≤ L.length
  · have e : rcs L = rcs (L.take k) ++ rcs (L.drop k) := by rw [← rcs_app, List.take_append_drop]
    rw [e, List.take_append_of_le_length (by rw [rcs_len, List.length_take]; omega), List.take_of_length_le (by rw [rcs_len, List.length_take]; omega)]
  · rw [List.take_of_length_le (by rw [rcs_len]; omega), List.take_of_length_le (by omega)]
theorem rcs_drop (L : List Rm.R) (k : Nat) : (rcs L).drop (k * 3) = rcs (L.drop k) := by
  by_cases hk : k ≤ L.length
  · have e : rcs L = rcs (L.take k) ++ rcs (L.drop k) := by rw [← rcs_app, List.take_append_drop]
    rw [e, List.drop_append_of_le_length (by rw [rcs_len, List.length_take]; omega), List.drop_of_length_le (by rw [rcs_len, List.length_take]; omega), List.nil_append]
  · rw [List.drop_eq_nil_of_le (by rw [rcs_len]; omega), List.drop_eq_nil_of_le (by omega)]; rfl

set_option maxRecDepth 100000 in
set_option maxHeartbeats 4000000 in
/-- At the end. -/
theorem ins_end (w0 w : World) (v : Value) (xs : List Rm.R) (r : Rm.R) (vb : Nat) (hv : Own w0 w v xs) (hr : In r) (hb : Rs w (some ⟨vb, 0, none⟩) 1 1 [r]) (hm : xs.length ≤ 1000) :
    Calls Try.prog 32 #[v, .int .i64 (xs.length : Int), .slice (some ⟨vb, 0, none⟩) 1 1] w fun e w' => InsSays w0 w xs xs.length r e w' := by
  have AP := Lib.hid (fun ty => run_append_rs w w0.heap.size ty v xs hv.own _ 1 1 [r] hb (by omega) hv.bel.size)
  have HV := Lib.hid hv
  have fin : ∀ v5 w5, w5.ownsRow w0.heap.size 34 3 v5 (xs ++ [r]).length (rcs (xs ++ [r])) → w.grownBy w5 v.ownBlock → InsSays w0 w xs xs.length r (.returned v5) w5 := by
    intro v5 w5 O5 G5
    obtain ⟨A5, c5, rfl, R5⟩ := rs_own O5 (fun x hx => by
      rcases List.mem_append.1 hx with h1 | h1
      · exact hv.all x h1
      · simp at h1; subst h1; exact hr)
    have e1 : (xs ++ [r]).length = xs.length + 1 := by simp
    rw [e1] at R5
    refine ⟨⟨A5, c5, by rw [e1], by simpa using R5⟩, below_own hv.bel hv.own G5 hv.bel.size (Nat.le_refl _)⟩
  have HF := Lib.hid fin
  clear fin
  rcases hv.own.2 with ⟨rfl, h0⟩ | ⟨g, cap, cur, rfl, _, hg, hnc, hcm, _, _⟩
  · clear hv hb
    generalize xs.length = n at *
    subst h0
    go_enter Try.func32, Try.ntmps32
    go_wp2_with (at_builtin; refine wpList_append_ran _ rfl _ _ 22 22 rfl _ _ rfl rfl _ (AP.out _) ?_; rintro v5 w5 ⟨O5, G5⟩)
    go_ret
    exact HF.out _ _ O5 G5
  · unfold maxLen at hcm
    clear hv hb
    generalize xs.length = n at *
    go_enter Try.func32, Try.ntmps32
    go_wp2_with (at_builtin; refine wpList_append_ran _ rfl _ _ 22 22 rfl _ _ rfl rfl _ (AP.out _) ?_; rintro v5 w5 ⟨O5, G5⟩)
    all_goals go_ret
    all_goals exact HF.out _ _ O5 G5

theorem rs_of_block {w : World} {g n cap : Nat} {cur : Array Value} {L : List Rm.R} (hg : w.heap[g]? = some (.cells cur 34 (0, 0))) (hL : L.length = n) (hnc : n ≤ cap) (hcm : cap ≤ maxLen) (hcs : cap * 3 ≤ cur.size) (ht : cur.toList.take (n * 3) = rcs L) (hin : ∀ x ∈ L, In x) : Rs w (some ⟨g, 0, none⟩) n cap L := by
  refine ⟨hL, hnc, hcm, hin, fun _ => ⟨g, 0, rfl, (Array.getElem?_eq_some_iff.1 hg).1, fun j x hx => ?_⟩⟩
  have hj : j < L.length := (List.getElem?_eq_some_iff.1 hx).1
  obtain ⟨a0, a1, a2⟩ := rcs_at L j x hx
  have cc : ∀ k u, k < n * 3 → (rcs L)[k]? = some u → w.cell? ⟨g, k, none⟩ = some u := by
    intro k u hk hu
    rw [cell_of_row w g k _ _ (0, 0) hg, ← Array.getElem?_toList]
    rw [← ht, List.getElem?_take, if_pos hk] at hu
    exact hu
  rw [Nat.zero_add]
  exact ⟨cc _ _ (by omega) a0, cc _ _ (by omega) a1, cc _ _ (by omega) a2⟩
/-- What lies in a block behind the two copies. -/
theorem two_copies {C D V : List Value} {xs : List Rm.R} {r : Rm.R} {i n : Nat} (hn : xs.length = n) (hi : i ≤ n) (ht : C.take (i * 3) = rcs (xs.take i)) (hl : (n + 1) * 3 ≤ C.length) (hD : D = rcs (xs.drop i)) (hV : V = rc r) :
    let C1 := C.take ((i + 1) * 3) ++ D ++ C.drop ((i + 1) * 3 + D.length)
    let C2 := C1.take (i * 3) ++ V ++ C1.drop (i * 3 + V.length)
    C1.length = C.length ∧ C2.length = C.length ∧ C2.take ((n + 1) * 3) = rcs (xs.take i ++ r :: xs.drop i) := by
  subst hD hV
  have hd : (rcs (xs.drop i)).length = (n - i) * 3 := by rw [rcs_len, List.length_drop, hn]
  have hr3 : (rc r).length = 3 := rfl
  have ha : (C.take ((i + 1) * 3)).length = (i + 1) * 3 := by rw [List.length_take]; omega
  have h1 : (C.take ((i + 1) * 3) ++ rcs (xs.drop i) ++ C.drop ((i + 1) * 3 + (rcs (xs.drop i)).length)).length = C.length := by
    rw [List.length_append, List.length_append, ha, hd, List.length_drop]; omega
  have e1 : (C.take ((i + 1) * 3) ++ rcs (xs.drop i) ++ C.drop ((i + 1) * 3 + (rcs (xs.drop i)).length)).take (i * 3) = rcs (xs.take i) := by
    rw [List.append_assoc, List.take_append_of_le_length (by rw [ha]; omega), List.take_take, ← ht]
    congr 1; omega
  have e2 : (C.take ((i + 1) * 3) ++ rcs (xs.drop i) ++ C.drop ((i + 1) * 3 + (rcs (xs.drop i)).length)).drop (i * 3 + 3) = rcs (xs.drop i) ++ C.drop ((i + 1) * 3 + (rcs (xs.drop i)).length) := by
    rw [show i * 3 + 3 = (C.take ((i + 1) * 3)).length by rw [ha]; omega, List.append_assoc, List.drop_left]
  refine ⟨h1, ?_, ?_⟩
  · rw [List.length_append, List.length_append, List.length_take, List.length_drop, h1, hr3]; omega
  · rw [hr3, e1, e2, rcs_app, rcs_cons]
    have hq : (n + 1) * 3 = (rcs (xs.take i) ++ (rc r ++ rcs (xs.drop i))).length := by
      rw [List.length_append, List.length_append, hd, hr3, rcs_len, List.length_take]; omega
    rw [hq, show rcs (xs.take i) ++ rc r ++ (rcs (xs.drop i) ++ C.drop ((i + 1) * 3 + (rcs (xs.drop i)).length)) = (rcs (xs.take i) ++ (rc r ++ rcs (xs.drop i))) ++ C.drop ((i + 1) * 3 + (rcs (xs.drop i)).length) by simp [List.append_assoc]]
    exact List.take_left
/-- .. in the other order. -/
theorem two_copies' {C D V : List Value} {xs : List Rm.R} {r : Rm.R} {i n : Nat} (hn : xs.length = n) (hi : i ≤ n) (ht : C.take (i * 3) = rcs (xs.take i)) (hl : (n + 1) * 3 ≤ C.length) (hD : D = rcs (xs.drop i)) (hV : V = rc r) :
    let C1 := C.take (i * 3) ++ V ++ C.drop (i * 3 + V.length)
    let C2 := C1.take ((i + 1) * 3) ++ D ++ C1.drop ((i + 1) * 3 + D.length)
    C1.length = C.length ∧ C2.length = C.length ∧ C2.take ((n + 1) * 3) = rcs (xs.take i ++ r :: xs.drop i) := by
  subst hD hV
  have hd : (rcs (xs.drop i)).length = (n - i) * 3 := by rw [rcs_len, List.length_drop, hn]
  have hr3 : (rc r).length = 3 := rfl
  have hq : (rcs (xs.take i)).length = i * 3 := by rw [rcs_len, List.length_take]; omega
  rw [ht]
  have h1 : (rcs (xs.take i) ++ rc r ++ C.drop (i * 3 + (rc r).length)).length = C.length := by
    rw [List.length_append, List.length_append, hq, hr3, List.length_drop]; omega
  have e1 : (rcs (xs.take i) ++ rc r ++ C.drop (i * 3 + (rc r).length)).take ((i + 1) * 3) = rcs (xs.take i) ++ rc r := by
    rw [show (i + 1) * 3 = (rcs (xs.take i) ++ rc r).length by rw [List.length_append, hq, hr3]; omega]
    exact List.take_left
  refine ⟨h1, ?_, ?_⟩
  · rw [e1, List.length_append, List.length_append, List.length_append, List.length_drop, h1, hq, hr3, hd]; omega
  · rw [e1, rcs_app, rcs_cons]
    have hz : (n + 1) * 3 = (rcs (xs.take i) ++ rc r ++ rcs (xs.drop i)).length := by
      rw [List.length_append, List.length_append, hd, hr3, hq]; omega
    rw [hz, List.take_left, List.append_assoc]
theorem cut3 {cur : List Value} {n i : Nat} {xs : List Rm.R} (hn : xs.length = n) (ht : cur.take (n * 3) = rcs xs) (hi : i < n) : ∀ j u, (rcs (xs.drop i))[j]? = some u → cur[i * 3 + j]? = some u := by
  intro j u hu
  rw [← rcs_drop, ← ht, List.getElem?_drop] at hu
  rw [List.getElem?_take] at hu
  split at hu
  · exact hu
  · cases hu

end Go.Proofs.Ytbhahihgojhcmaa.Rt
