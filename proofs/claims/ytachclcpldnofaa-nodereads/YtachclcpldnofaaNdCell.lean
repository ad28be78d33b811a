/-
  A cell's bytes behind others (putCell), how a page begins (begin), how long a cell is and whether it may be.
-/
import Derived.Test.YtachclcpldnofaaNdPut
import Derived.Test.YtachclcpldnofaaNdLess
import Derived.Deep.RegionHeld3
namespace Go.Proofs.Ytachclcpldnofaa.Nn
open Go.RowKit
set_option linter.unusedVariables false

theorem four_cells {w : World} {g t : Nat} {a0 a1 a2 a3 : Value} (h : w.heap[g]? = some (.cells #[a0, a1, a2, a3] t (0, 0))) : w.cell? ⟨g, 0, none⟩ = some a0 ∧ w.cell? ⟨g, 1, none⟩ = some a1 ∧ w.cell? ⟨g, 2, none⟩ = some a2 ∧ w.cell? ⟨g, 3, none⟩ = some a3 :=
  ⟨cell_of_row w g 0 _ _ (0, 0) h, cell_of_row w g 1 _ _ (0, 0) h, cell_of_row w g 2 _ _ (0, 0) h, cell_of_row w g 3 _ _ (0, 0) h⟩
theorem cell_notB (cs : Array Value) : ¬ IsB (.cells cs 64 (0, 0)) := by
  rintro ⟨_, h⟩
  injection h with _ h
  cases h
theorem one_plain {c : Nd.Cell} (h : c.size = 0) : Nd.one c = c.key.length :: c.key ++ Nm.be 2 c.inl.length ++ c.inl := by
  unfold Nd.one Nd.val; rw [if_pos h]; simp [List.append_assoc]
theorem one_chain {c : Nd.Cell} (h : c.size ≠ 0) : Nd.one c = c.key.length :: c.key ++ Nm.be 2 c.size.toNat ++ Nm.be 4 c.head.toNat ++ Nm.be 2 0 := by
  unfold Nd.one Nd.val; rw [if_neg h]
  have e : Nm.be 2 0 = [0, 0] := by decide
  rw [e]; simp [List.append_assoc]

set_option maxRecDepth 100000 in
set_option maxHeartbeats 1000000 in
theorem putCell_any (w0 w : World) (hb0 : Below w0.heap.size w0 w) (v : Value) (xs : List Nat) (n : Nat) (hown : w.ownsRow w0.heap.size 5 1 v n (bv xs)) (hn : n ≤ 80000) (x : CV) (c : Nd.Cell) (hx : CR w0 x c) (hok : c.Ok) (hkey : c.key.length ≤ 255) :
    Calls Try.prog 36 #[v, x.v] w fun e w' => ∃ v', e = .returned v' ∧ w'.ownsRow w0.heap.size 5 1 v' (n + c.len) (bv (xs ++ Nd.one c)) ∧ Bf w0.heap.size w w' := by
  obtain ⟨i0, hi, hz0, hz1, hz2⟩ := info_parts Try.info5
  obtain ⟨⟨A1, n1, c1, e1, r1, _⟩, ⟨A2, n2, c2, e2, r2, _⟩, e3, e4, _, _⟩ := hx
  obtain ⟨xk, xi, xs', xh⟩ := x
  simp only at e1 e2 e3 e4
  subst e1 e2 e3 e4
  unfold CV.v
  have hl1 := r1.1
  have hl2 := r2.1
  rw [hl1] at hkey
  have hs0 := hb0.size
  have B0 := heap_alloc_new w (.cells #[.slice A1 n1 c1, .slice A2 n2 c2, .int .i64 c.size, .int .i64 c.head] 64)
  have F0 : Bf w0.heap.size w (w.alloc (.cells #[.slice A1 n1 c1, .slice A2 n2 c2, .int .i64 c.size, .int .i64 c.head] 64)) := (Bf.refl _ _).alloc hs0 _
  have O0 := own_on hown ((Below.refl w.heap.size w).alloc (Nat.le_refl _) (.cells #[.slice A1 n1 c1, .slice A2 n2 c2, .int .i64 c.size, .int .i64 c.head] 64))
  have hsz : w.heap.size ≤ (w.alloc (.cells #[.slice A1 n1 c1, .slice A2 n2 c2, .int .i64 c.size, .int .i64 c.head] 64)).heap.size := by simp
  have C1 := Lib.hid (putKey_any w0 _ (hb0.trans F0.below) v xs n O0 (by omega) _ _ _ _ r1 hkey)
  have HB0 := Lib.hid B0
  have HF0 := Lib.hid F0
  clear hown O0 B0 F0
  have CI := Lib.hid (fun W => inChain_any W (.slice A1 n1 c1) (.slice A2 n2 c2) c.size c.head)
  generalize hg : w.heap.size = g at *
  go_enter Try.func36, Try.ntmps36
  go_wp2_with fail
  try rw [hg]
  generalize w.alloc (.cells #[.slice A1 n1 c1, .slice A2 n2 c2, .int .i64 c.size, .int .i64 c.head] 64) = W at *
  refine C1.out.mono ?_
  rintro e w1 ⟨v1, rfl, O1, F1⟩
  have B1 := F1.kept _ _ HB0.out (cell_notB _)
  have F1' := HF0.out.trans F1
  obtain ⟨c0, c1', c2', c3'⟩ := four_cells B1
  have hs1 := F1.size
  clear C1
  go_wp2_with fail
  refine (CI.out _).mono ?_
  rintro e w2 ⟨rfl, b2⟩
  have B2 := (b2.block _ (Array.getElem?_eq_some_iff.1 B1).1).trans B1
  have F2 := F1'.trans (Bf.of_below b2 (by omega))
  have O2 := own_on O1 b2
  have hs2 := b2.size
  clear c0 c1' c2' c3' B1 O1 b2 F1 F1' HF0 HB0 CI
  obtain ⟨c0, c1', c2', c3'⟩ := four_cells B2
  rcases hok with ⟨p1, p2, p3⟩ | ⟨⟨p1, p1'⟩, ⟨p2, p2'⟩, p3⟩
  · rw [show decide (c.size ≠ 0) = false from by simp [p1]]
    have C3 := Lib.hid (putNumber_any w2 _ v1 _ _ O2 (by omega) (by omega) n2 (by omega) 2 (.inr (.inl rfl)))
    go_wp2_with fail
    refine C3.out.mono ?_
    rintro e w3 ⟨v3, rfl, O3, F3⟩
    have B3 := F3.kept _ _ B2 (cell_notB _)
    have hs3 := F3.size
    clear c0 c1' c2' c3' B2 O2 C3
    obtain ⟨c0, c1', c2', c3'⟩ := four_cells B3
    have r3 := r2.below (hb0.trans (F2.trans F3).below) (Nat.le_refl _)
    go_wp2_with (at_builtin; refine wpList_append_bs _ rfl _ _ 22 rfl w0.heap.size 5 i0 (.int .u8 0) Try.underlying22 hi hz0 hz1 hz2 rfl _ _ _ rfl O3 _ _ _ _ rfl r3 (by omega) (by omega) ?_; intro v4 w4 O4 g4)
    go_ret
    rw [bv_app] at O4
    refine ⟨_, rfl, ?_, (F2.trans F3).trans (Bf.of_own (e := 0) O3 g4 (by omega))⟩
    have e1 : n + c.len = n + (1 + n1) + 2 + n2 := by unfold Nd.Cell.len; rw [if_pos p1]; omega
    rw [e1, one_plain p1, hl1, hl2]
    simpa [List.append_assoc] using O4
  · rw [show decide (c.size ≠ 0) = true from by simp; omega]
    obtain ⟨sz, hsz'⟩ := Int.eq_ofNat_of_zero_le (show 0 ≤ c.size by omega)
    obtain ⟨hd, hhd⟩ := Int.eq_ofNat_of_zero_le (show 0 ≤ c.head by omega)
    rw [hsz', hhd] at B2
    rw [hsz'] at c2'
    rw [hhd] at c3'
    have C3 := Lib.hid (putNumber_any w2 _ v1 _ _ O2 (by omega) (by omega) sz (by omega) 2 (.inr (.inl rfl)))
    rw [hsz', hhd]
    go_wp2_with fail
    refine C3.out.mono ?_
    rintro e w3 ⟨v3, rfl, O3, F3⟩
    have B3 := F3.kept _ _ B2 (cell_notB _)
    have hs3 := F3.size
    clear c0 c1' c2' c3' B2 O2 C3
    obtain ⟨c0, c1', c2', c3'⟩ := four_cells B3
    have C4 := Lib.hid (putNumber_any w3 _ v3 _ _ O3 (by omega) (by omega) hd (by omega) 4 (.inr (.inr rfl)))
    go_wp2_with fail
    refine C4.out.mono ?_
    rintro e w4 ⟨v4, rfl, O4, F4⟩
    have hs4 := F4.size
    clear c0 c1' c2' c3' B3 O3 C4
    have C5 := Lib.hid (putNumber_any w4 _ v4 _ _ O4 (by omega) (by omega) 0 (by omega) 2 (.inr (.inl rfl)))
    go_wp2_with fail
    refine C5.out.mono ?_
    rintro e w5 ⟨v5, rfl, O5, F5⟩
    go_wp2
    go_ret
    refine ⟨_, rfl, ?_, (F2.trans F3).trans (F4.trans F5)⟩
    have e1 : n + c.len = n + (1 + n1) + 2 + 4 + 2 := by unfold Nd.Cell.len; rw [if_neg (by omega)]; omega
    rw [e1, one_chain (by omega), hl1, hsz', hhd]
    simpa [List.append_assoc] using O5

set_option maxRecDepth 100000 in
set_option maxHeartbeats 400000 in
theorem begin_any (w : World) (base : Nat) (hbase : base ≤ w.heap.size) (m1 m2 L : Nat) (h1 : m1 < 256) (h2 : m2 < 4294967296) (h3 : L ≤ 1000000) :
    Calls Try.prog 34 #[.int .i64 (m1 : Int), .int .i64 (m2 : Int), .int .i64 (L : Int)] w fun e w' => ∃ v', e = .returned v' ∧ w'.ownsRow base 5 1 v' 3 (bv (m1 :: Nm.be 2 m2)) ∧ Bf base w w' := by
  obtain ⟨i0, hi, hz0, hz1, hz2⟩ := info_parts Try.info5
  go_enter Try.func34, Try.ntmps34
  go_wp2_with (refine wpList_make_own _ rfl _ _ 22 rfl base 5 i0 (.int .u8 0) 1 Try.underlying22 hi hz0 hz1 .i64 .i64 _ L rfl rfl rfl (by rw [hz2]; omega) (by unfold maxLen; omega) hbase ?_; intro w1 O1 g1)
  have F1 : Bf base w w1 := Bf.of_own (e := 0) (World.ownsRow_nil w base _ _) (by simpa [Value.ownBlock] using g1) hbase
  have hs1 := F1.size
  have C1 := Lib.hid (putNumber_any w1 base _ [] _ O1 (by omega) (by omega) m1 (by omega) 1 (.inl rfl))
  clear O1 g1
  refine C1.out.mono ?_
  rintro e w2 ⟨v2, rfl, O2, F2⟩
  have hs2 := F2.size
  have C2 := Lib.hid (putNumber_any w2 base _ _ _ O2 (by omega) (by omega) m2 h2 2 (.inr (.inl rfl)))
  clear O2 C1
  go_wp2_with fail
  refine C2.out.mono ?_
  rintro e w3 ⟨v3, rfl, O3, F3⟩
  go_wp2
  go_ret
  have e1 : Nm.be 1 m1 = [m1] := by rw [be_cons]; simp [Nm.be]; omega
  rw [e1] at O3
  exact ⟨_, rfl, by simpa using O3, F1.trans (F2.trans F3)⟩
end Go.Proofs.Ytachclcpldnofaa.Nn
