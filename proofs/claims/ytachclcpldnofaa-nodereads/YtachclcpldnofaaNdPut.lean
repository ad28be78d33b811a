/-
  The program's bytes, one behind the other: putNumber, putKey, putCell, begin; the document's big.
-/
import Derived.Test.YtachclcpldnofaaNdBase
import Derived.Test.YtachclcpldnofaaNbKey
namespace Go.Proofs.Ytachclcpldnofaa.Nn
open Go.RowKit
set_option linter.unusedVariables false

/-- A row of bytes. -/
def IsB (o : Obj) : Prop := ∃ cs, o = .cells cs 5 (0, 0)
/-- Of what there was, only rows of bytes from base on are touched. -/
structure Bf (base : Nat) (w w' : World) : Prop where
  below : Below base w w'
  kept : ∀ (k : Nat) (o : Obj), w.heap[k]? = some o → ¬ IsB o → w'.heap[k]? = some o
section
variable {base : Nat} {w w1 w2 : World}
theorem Bf.refl (base : Nat) (w : World) : Bf base w w := ⟨Below.refl _ _, fun _ _ h _ => h⟩
theorem Bf.trans (h : Bf base w w1) (h2 : Bf base w1 w2) : Bf base w w2 := ⟨h.below.trans h2.below, fun k o h0 hn => h2.kept k o (h.kept k o h0 hn) hn⟩
theorem Bf.of_below (h : Below w.heap.size w w1) (hb : base ≤ w.heap.size) : Bf base w w1 := ⟨h.mono hb, fun k o h0 _ => (h.block k (Array.getElem?_eq_some_iff.1 h0).1).trans h0⟩
theorem Bf.of_own {e n : Nat} {v : Value} {xs : List Value} (hown : w.ownsRow base 5 1 v n xs) (h : w.grownBy w1 v.ownBlock) (hb : base ≤ w.heap.size) : Bf base w w1 := by
  refine ⟨below_own (Below.refl _ _) hown h hb (Nat.le_refl _), fun k o h0 hn => ?_⟩
  refine (h.block k (Array.getElem?_eq_some_iff.1 h0).1 fun e => hn ?_).trans h0
  obtain ⟨cs, hc⟩ := own_type hown e.symm
  rw [hc] at h0
  injection h0 with h0
  exact ⟨cs, h0.symm⟩
theorem Bf.alloc (h : Bf base w w1) (hb : base ≤ w.heap.size) (o : Obj) : Bf base w (w1.alloc o) := h.trans (Bf.of_below ((Below.refl _ _).alloc (Nat.le_refl _) o) (Nat.le_trans hb h.below.size))
theorem Bf.size (h : Bf base w w1) : w.heap.size ≤ w1.heap.size := h.below.size
end
theorem be_drop (a k v : Nat) : (Nm.be (a + k) v).drop a = Nm.be k v := by
  induction a with
  | zero => simp
  | succ a ih => rw [show a + 1 + k = (a + k) + 1 by omega, be_cons, List.drop_succ_cons, ih]

set_option maxRecDepth 100000 in
set_option maxHeartbeats 400000 in
theorem putNumber_any (w : World) (base : Nat) (v : Value) (xs : List Nat) (n : Nat) (hown : w.ownsRow base 5 1 v n (bv xs)) (hbase : base ≤ w.heap.size) (hn : n ≤ 100000) (m : Nat) (hm : m < 4294967296) (k : Nat) (hk : k = 1 ∨ k = 2 ∨ k = 4) :
    Calls Try.prog 28 #[v, .int .i64 (m : Int), .int .i64 (k : Int)] w fun e w' => ∃ v', e = .returned v' ∧ w'.ownsRow base 5 1 v' (n + k) (bv (xs ++ Nm.be k m)) ∧ Bf base w w' := by
  obtain ⟨i0, hi, hz0, hz1, hz2⟩ := info_parts Try.info5
  have HE : Hid (IntKind.u32.wrap (m : Int) = (m : Int)) := by
    show _ = _
    rw [IntKind.wrap_u32]; omega
  have C := Lib.hid (fun W => put32_any W m hm)
  have HO := Lib.hid hown
  clear hown
  have hk4 : (k : Int) ≤ 4 := by omega
  have hk0 : (1 : Int) ≤ (k : Int) := by omega
  go_enter Try.func28, Try.ntmps28
  go_wp2_with fail
  try rw [HE.out]
  refine (C.out _).mono ?_
  rintro e w1 ⟨A, c, rfl, hbs, hbel⟩
  obtain ⟨b, off, rfl, hlt, _⟩ := hbs.2.2.2.2 (by omega)
  have hc4 := hbs.2.1
  have hcm := hbs.2.2.1
  unfold maxLen at hcm
  have O1 := own_on HO.out hbel
  have HB := Lib.hid hbel
  have hsz := hbel.size
  have cut : ∀ j, j < 4 → Bs w1 (some ⟨b, off + j, none⟩) (4 - j) (c - j) (Nm.be (4 - j) m) := by
    intro j hj
    have h := hbs.cut_far j hj
    have e := be_drop j (4 - j) m
    rw [show j + (4 - j) = 4 by omega] at e
    rwa [e] at h
  have h0 := hbs
  clear hbs hbel
  rcases hk with rfl | rfl | rfl
  · have hr := cut 3 (by omega)
    have hne : ¬ (c = 3) := by omega
    clear cut h0
    go_wp2_with (at_builtin; refine wpList_append_bs _ rfl _ _ 22 rfl base 5 i0 (.int .u8 0) Try.underlying22 hi hz0 hz1 hz2 rfl _ _ _ rfl O1 _ _ _ _ rfl hr (by omega) (by omega) ?_; intro v2 w2 O2 g2)
    go_ret
    rw [bv_app] at O2
    exact ⟨_, rfl, O2, (Bf.of_below HB.out hbase).trans (Bf.of_own (e := 0) O1 g2 (by omega))⟩
  · have hr := cut 2 (by omega)
    have hne : ¬ (c = 2) := by omega
    clear cut h0
    go_wp2_with (at_builtin; refine wpList_append_bs _ rfl _ _ 22 rfl base 5 i0 (.int .u8 0) Try.underlying22 hi hz0 hz1 hz2 rfl _ _ _ rfl O1 _ _ _ _ rfl hr (by omega) (by omega) ?_; intro v2 w2 O2 g2)
    go_ret
    rw [bv_app] at O2
    exact ⟨_, rfl, O2, (Bf.of_below HB.out hbase).trans (Bf.of_own (e := 0) O1 g2 (by omega))⟩
  · clear cut
    go_wp2_with (at_builtin; refine wpList_append_bs _ rfl _ _ 22 rfl base 5 i0 (.int .u8 0) Try.underlying22 hi hz0 hz1 hz2 rfl _ _ _ rfl O1 _ _ _ _ rfl h0 (by omega) (by omega) ?_; intro v2 w2 O2 g2)
    go_ret
    rw [bv_app] at O2
    exact ⟨_, rfl, O2, (Bf.of_below HB.out hbase).trans (Bf.of_own (e := 0) O1 g2 (by omega))⟩

set_option maxRecDepth 100000 in
set_option maxHeartbeats 400000 in
theorem putKey_any (w0 w : World) (hb0 : Below w0.heap.size w0 w) (v : Value) (xs : List Nat) (n : Nat) (hown : w.ownsRow w0.heap.size 5 1 v n (bv xs)) (hn : n ≤ 90000) (A : Option Addr) (m c : Nat) (key : List Nat) (hk : Bs w0 A m c key) (hm : m ≤ 255) :
    Calls Try.prog 38 #[v, .slice A m c] w fun e w' => ∃ v', e = .returned v' ∧ w'.ownsRow w0.heap.size 5 1 v' (n + (1 + m)) (bv (xs ++ (m :: key))) ∧ Bf w0.heap.size w w' := by
  obtain ⟨i0, hi, hz0, hz1, hz2⟩ := info_parts Try.info5
  have C := Lib.hid (putNumber_any w w0.heap.size v xs n hown hb0.size (by omega) m (by omega) 1 (.inl rfl))
  have hs0 := hb0.size
  go_enter Try.func38, Try.ntmps38
  go_wp2_with fail
  refine C.out.mono ?_
  rintro e w1 ⟨v1, rfl, O1, F1⟩
  have k1 := hk.below (hb0.trans F1.below) (Nat.le_refl _)
  have hs1 := F1.size
  clear C hown
  go_wp2_with (at_builtin; refine wpList_append_bs _ rfl _ _ 22 rfl w0.heap.size 5 i0 (.int .u8 0) Try.underlying22 hi hz0 hz1 hz2 rfl _ _ _ rfl O1 _ _ _ _ rfl k1 (by omega) (by omega) ?_; intro v2 w2 O2 g2)
  go_ret
  have e1 : Nm.be 1 m = [m] := by rw [be_cons]; simp [Nm.be]; omega
  rw [bv_app, e1, List.append_assoc] at O2
  refine ⟨_, rfl, ?_, F1.trans (Bf.of_own (e := 0) O1 g2 (by omega))⟩
  rw [← Nat.add_assoc]; exact O2

set_option maxRecDepth 100000 in
theorem inChain_any (w : World) (k i : Value) (s h : Int) :
    Calls Try.prog 50 #[.agg #[k, i, .int .i64 s, .int .i64 h]] w fun e w' => e = .returned (.bool (decide (s ≠ 0))) ∧ Below w.heap.size w w' := by
  have HB := Lib.hid ((Below.refl w.heap.size w).alloc (Nat.le_refl _) (.cells #[k, i, .int .i64 s, .int .i64 h] 64))
  have e : decide (s ≠ 0) = (s != 0) := by by_cases h : s = 0 <;> simp [h]
  rw [e]
  go_enter Try.func50, Try.ntmps50
  go_wp2
  go_ret
  exact ⟨rfl, HB.out⟩
end Go.Proofs.Ytachclcpldnofaa.Nn
