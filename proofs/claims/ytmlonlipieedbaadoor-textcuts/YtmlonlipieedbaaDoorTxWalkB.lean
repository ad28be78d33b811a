/-
  TextCuts: its walk.
-/
import Derived.Test.YtmlonlipieedbaaDoorTxAwake
namespace Go.Proofs.YtmlonlipieedbaaDoor
open Go.RowKit Go.Lib
set_option linter.unusedVariables false

theorem cut_size (s : ByteArray) (n : Nat) : (ba (Tx.cut s.data.toList n)).size ≤ s.size := by
  rw [ba_size, Tx.cut_len, size_eq s]; exact Tx.cutW_le _ _
theorem ext_cut (s : ByteArray) (n : Nat) : s.extract 0 (ba (Tx.cut s.data.toList n)).size = ba (Tx.cut s.data.toList n) := by
  rw [ext_ba, ba_size, List.drop_zero, Nat.sub_zero, Tx.cut_prefix]
theorem min_if (a b : Int) : (if b < a then b else a) = min a b := by
  rw [Int.min_def]; split <;> split <;> omega

set_option maxRecDepth 100000 in
set_option maxHeartbeats 400000 in
theorem textCuts_core (s a b : ByteArray) (n m : Int) (w : World) (N K q : Nat) (U : Bool) (hz : s.size ≤ 1000000) (hn0 : 0 ≤ n) (hn1 : n ≤ 65535) (hm0 : 0 ≤ m) (hm1 : m ≤ 65535) (HT : Hid (Tabs w)) (h1' : ¬ 600 < (s.size : Int)) (hN : N ≤ 1000000) (ha : a.size ≤ s.size)
    (a2 : s.extract 0 a.size = a) (e1 : (b.toList == b.toList) = true) (e2 : (s.toList == s.toList) = true) (e3 : (a.toList == a.toList) = true) (e4 : ¬ (s.size : Int) < (a.size : Int)) (e5 : (a.size : Int) ≤ (s.size : Int))
    (e6 : ((q : Int) + (K : Int) == (N : Int)) = true) (e7 : IntKind.i64.wrap ((q : Int) + (K : Int)) = (q : Int) + (K : Int)) (hqn : ((q : Int) == min n (N : Int)) = true)
    (C1 : Hid (∀ W : World, Calls Tryd.prog 14 #[.string s, .int .i64 n] W fun e w' => e = .returned (.string a) ∧ Below W.heap.size W w'))
    (C2 : Hid (∀ W : World, Calls Tryd.prog 14 #[.string a, .int .i64 m] W fun e w' => e = .returned (.string b) ∧ Below W.heap.size W w'))
    (C3 : Hid (∀ W : World, Calls Tryd.prog 14 #[.string s, .int .i64 (min n m)] W fun e w' => e = .returned (.string b) ∧ Below W.heap.size W w'))
    (C4 : Hid (∀ W : World, Calls Tryd.prog 13 #[.string s] W fun e w' => e = .returned (.int .i64 (N : Int)) ∧ Below W.heap.size W w'))
    (C5 : Hid (∀ W : World, Calls Tryd.prog 14 #[.string s, .int .i64 (N : Int)] W fun e w' => e = .returned (.string s) ∧ Below W.heap.size W w'))
    (C6 : Hid (∀ W : World, Calls Tryd.prog 27 #[.string s] W fun e w' => e = .returned (.bool U) ∧ W = w'))
    (C7 : Hid (∀ W : World, Calls Tryd.prog 13 #[.string a] W fun e w' => e = .returned (.int .i64 (q : Int)) ∧ Below W.heap.size W w'))
    (C8 : Hid (∀ W : World, Calls Tryd.prog 13 #[.string (s.extract a.size s.size)] W fun e w' => e = .returned (.int .i64 (K : Int)) ∧ Below W.heap.size W w')) :
    Calls Tryd.prog 7 #[.string s, .int .u16 n, .int .u16 m] w fun e w' => e = .returned (.bool true) ∧ Below w.heap.size w w' := by
  have A2 := Lib.hid a2
  clear a2
  cases U with
  | false =>
    go_enter Tryd.func7, Tryd.ntmps7
    go_wp2_with fail
    refine (awake_any _ HT.out).mono ?_
    rintro e w1 ⟨rfl, b1⟩
    go_wp2_with fail
    refine (C1.out _).mono ?_
    rintro e w2 ⟨rfl, b2⟩
    go_wp2_with fail
    refine (C2.out _).mono ?_
    rintro e w3 ⟨rfl, b3⟩
    have B3 := onto (onto b1 b2) b3
    clear b1 b2 b3 C1 C2 HT
    go_wp2_with fail
    refine (C3.out _).mono ?_
    rintro e w4 ⟨rfl, b4⟩
    go_wp2_with fail
    refine (C4.out _).mono ?_
    rintro e w5 ⟨rfl, b5⟩
    go_wp2_with fail
    refine (C5.out _).mono ?_
    rintro e w6 ⟨rfl, b6⟩
    have B6 := onto (onto (onto B3 b4) b5) b6
    clear B3 b4 b5 b6 C3 C5
    have a2 := A2.out
    go_wp2_with fail
    have C6' : Hid (∀ W : World, Calls Tryd.prog 27 #[.string s] W fun e w' => e = .returned (.bool false) ∧ w' = W) := fun W => (C6.out W).mono (by rintro e w' ⟨h1, h2⟩; exact ⟨h1, h2.symm⟩)
    go_quiet ((go_at_call 27; exact Calls.quiet_of_same (C6'.out _)))
    go_wp2
    go_ret
    exact ⟨rfl, below_drewN B6 _⟩
  | true =>
    go_enter Tryd.func7, Tryd.ntmps7
    go_wp2_with fail
    refine (awake_any _ HT.out).mono ?_
    rintro e w1 ⟨rfl, b1⟩
    go_wp2_with fail
    refine (C1.out _).mono ?_
    rintro e w2 ⟨rfl, b2⟩
    go_wp2_with fail
    refine (C2.out _).mono ?_
    rintro e w3 ⟨rfl, b3⟩
    have B3 := onto (onto b1 b2) b3
    clear b1 b2 b3 C1 C2 HT
    go_wp2_with fail
    refine (C3.out _).mono ?_
    rintro e w4 ⟨rfl, b4⟩
    go_wp2_with fail
    refine (C4.out _).mono ?_
    rintro e w5 ⟨rfl, b5⟩
    go_wp2_with fail
    refine (C5.out _).mono ?_
    rintro e w6 ⟨rfl, b6⟩
    have B6 := onto (onto (onto B3 b4) b5) b6
    clear B3 b4 b5 b6 C3 C5
    have a2 := A2.out
    go_wp2_with fail
    clear a2
    have run := B6
    clear B6
    go_region_held3 (fun _ => True) (trivial) (first
      | (go_at_call 27; refine (C6.out _).mono ?_; rintro e w7 ⟨rfl, rfl⟩)
      | (go_at_call_of 13 (Value.string a); refine (C7.out _).mono ?_; rintro e w8 ⟨rfl, b8⟩; first | replace run := onto run b8 | replace run := onto run.drew b8)
      | (go_at_call_of 13 (Value.string s); refine (C4.out _).mono ?_; rintro e w8 ⟨rfl, b8⟩; first | replace run := onto run b8 | replace run := onto run.drew b8)
      | (go_at_call 13; refine (C8.out _).mono ?_; rintro e w8 ⟨rfl, b8⟩; first | replace run := onto run b8 | replace run := onto run.drew b8))
    go_wp2
    go_ret
    refine ⟨ret_bool ?_, run⟩
    rw [IntWalk.i64_in n (by omega)]
    exact hqn

set_option maxRecDepth 100000 in
set_option maxHeartbeats 1000000 in
theorem textCuts_walk (s : ByteArray) (n m : Int) (w : World) (hs : s.size ≤ maxLen) (hn0 : 0 ≤ n) (hn1 : n ≤ 65535) (hm0 : 0 ≤ m) (hm1 : m ≤ 65535) (hT : Tabs w) :
    Calls Tryd.prog 7 #[.string s, .int .u16 n, .int .u16 m] w fun e w' => e = .returned (.bool true) ∧ Below w.heap.size w w' := by
  unfold maxLen at hs
  have HT := Lib.hid hT
  clear hT
  by_cases h1 : 600 < s.size
  · have h1' : 600 < (s.size : Int) := by omega
    go_enter Tryd.func7, Tryd.ntmps7
    go_wp2_with fail
    refine (awake_any _ HT.out).mono ?_
    rintro e w1 ⟨rfl, b1⟩
    go_wp2
    go_ret
    exact ⟨rfl, b1⟩
  · have h1' : ¬ 600 < (s.size : Int) := by omega
    have hz : s.size ≤ 1000000 := by omega
    have hP := Tx.P_len s.data.toList
    rw [← size_eq] at hP
    have C1 := Lib.hid (fun W => cut_any s n W hz (by omega))
    have a1 := cut_size s n.toNat
    have a2 := ext_cut s n.toNat
    have C2 := Lib.hid (fun W => cut_any (ba (Tx.cut s.data.toList n.toNat)) m W (by omega) (by omega))
    have C3 := Lib.hid (fun W => cut_any s (min n m) W hz (by omega))
    have C4 := Lib.hid (fun W => len_any s W hz)
    have C5 := Lib.hid (fun W => cut_any s ((Tx.P s.data.toList).length : Int) W hz (by omega))
    have C6 := Lib.hid (fun W => refUtf_any s W hz)
    have C7 := Lib.hid (fun W => len_any (ba (Tx.cut s.data.toList n.toNat)) W (by omega))
    have hx := Lib.ext_size s (ba (Tx.cut s.data.toList n.toNat)).size
    have C8 := Lib.hid (fun W => len_any (s.extract (ba (Tx.cut s.data.toList n.toNat)).size s.size) W (by rw [hx]; omega))
    rw [ba_data, Tx.cut_cut] at C2
    rw [show (min n m).toNat = min n.toNat m.toNat from by omega] at C3
    rw [Int.toNat_natCast, Tx.cut_full _ _ (Nat.le_refl _), ba_list] at C5
    rw [ba_data, Tx.cut_count] at C7
    rw [ext_list] at C8
    have hrest := Tx.cut_rest s.data.toList n.toNat
    rw [Tx.cut_count, ← ba_size] at hrest
    obtain ⟨q, hq⟩ : ∃ q, min n.toNat (Tx.P s.data.toList).length = q := ⟨_, rfl⟩
    rw [hq] at C7 hrest
    generalize ba (Tx.cut s.data.toList (min n.toNat m.toNat)) = b at C2 C3
    generalize ba (Tx.cut s.data.toList n.toNat) = a at C1 C2 C7 C8 hrest a1 a2 hx
    generalize (Tx.P (s.data.toList.drop a.size)).length = K at C8 hrest
    generalize (Tx.P s.data.toList).length = N at hP C4 C5 hrest hq
    generalize validD s.data.toList = U at C6
    have e1 : (b.toList == b.toList) = true := by simp
    have e2 : (s.toList == s.toList) = true := by simp
    have e3 : (a.toList == a.toList) = true := by simp
    have e4 : ¬ (s.size : Int) < (a.size : Int) := by omega
    have e5 : (a.size : Int) ≤ (s.size : Int) := by omega
    have e6 : ((q : Int) + (K : Int) == (N : Int)) = true := by simp; omega
    have e7 : IntKind.i64.wrap ((q : Int) + (K : Int)) = (q : Int) + (K : Int) := IntWalk.i64_in _ (by omega)
    have hqn : ((q : Int) == min n (N : Int)) = true := by simp; omega
    clear hrest hx h1 hq
    exact textCuts_core s a b n m w N K q U hz hn0 hn1 hm0 hm1 HT h1' (by omega) (by omega) a2 e1 e2 e3 e4 e5 e6 e7 hqn C1 C2 C3 C4 C5 C6 C7 C8

end Go.Proofs.YtmlonlipieedbaaDoor
