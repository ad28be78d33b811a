/-
  Numbers in order: greatestFirst and fromGreatest, and what calls them.
-/
import Derived.Test.YthibflmmpkijkaaPut
import Derived.Test.YthibflmmpkijkaaInts
namespace Go.Proofs.Ythibflmmpkijkaa
open Go.RowKit
set_option linter.unusedVariables false

theorem be_cons (k v : Nat) : Nm.be (k + 1) v = (v / 256 ^ k % 256) :: Nm.be k v := by
  induction k generalizing v with
  | zero => simp [Nm.be]
  | succ k ih =>
    rw [Nm.be, ih (v / 256)]
    conv => rhs; rw [Nm.be]
    rw [Nat.div_div_eq_div_mul, Nat.pow_succ, Nat.mul_comm 256]
    rfl
/-- The row behind k rounds. -/
def rowAt (n k v : Nat) : List Nat := List.replicate (n - k) 0 ++ Nm.be k v
theorem rowAt_len (n k v : Nat) (h : k ≤ n) : (rowAt n k v).length = n := by simp [rowAt, Nm.be_len]; omega
theorem rowAt_set (n k v : Nat) (h : k < n) : (bv (rowAt n k v)).set (n - 1 - k) (.int .u8 ((v : Int) / 2 ^ (8 * k) % 256)) = bv (rowAt n (k + 1) v) := by
  have e : (v : Int) / 2 ^ (8 * k) % 256 = ((v / 256 ^ k % 256 : Nat) : Int) := by
    have : (2 : Nat) ^ (8 * k) = 256 ^ k := by rw [Nat.pow_mul]
    rw [← this, Int.natCast_emod, Int.natCast_ediv, Int.natCast_pow]; rfl
  rw [e]
  unfold rowAt bv
  rw [be_cons, show n - k = (n - 1 - k) + 1 by omega, show n - (k + 1) = n - 1 - k by omega, List.replicate_succ', List.append_assoc, List.map_append, List.map_append]
  rw [List.set_append_right _ _ (by simp)]
  simp
theorem rowAt_zero (n v : Nat) : (madeCells (Value.int .u8 0).cells (n * 1)).toList = bv (rowAt n 0 v) := by
  have h : ∀ m, madeCells (Value.int .u8 0).cells m = Array.replicate m (Value.int .u8 0) := by
    intro m
    apply Array.ext
    · simp [madeCells]
    · intro i h1 h2
      simp [madeCells, Value.cells, Nat.mod_one]
  rw [h]
  simp [rowAt, bv, Nm.be]
theorem rowAt_full (n v : Nat) : rowAt n n v = Nm.be n v := by simp [rowAt]
theorem rowAt_lt (n k v : Nat) : ∀ x ∈ rowAt n k v, x < 256 := by
  intro x hx
  rcases List.mem_append.1 hx with h | h
  · have := List.eq_of_mem_replicate h; omega
  · exact Nm.be_lt k v x h

set_option maxRecDepth 100000 in
set_option maxHeartbeats 400000 in
theorem greatest_any (w : World) (v n : Nat) (hv : L64 v) (hn : n ≤ 8) :
    Calls Try.prog 33 #[.int .u64 (v : Int), .int .i64 (n : Int)] w fun e w' => ∃ A c, e = .returned (.slice A n c) ∧ Bs w' A n c (Nm.be n v) ∧ Below w.heap.size w w' := by
  obtain ⟨i0, hi, hz0, hz1, hz2⟩ := info_parts Try.info5
  go_enter Try.func33, Try.ntmps33
  go_wp2_with (refine wpList_make_full _ rfl _ _ 23 rfl w.heap.size 5 i0 (.int .u8 0) 1 Try.underlying23 hi hz0 hz1 .i64 .i64 _ _ n rfl rfl rfl rfl (by rw [hz2]; omega) (by unfold maxLen; omega) (Nat.le_refl _) ?_; intro w1 hown hgrow)
  rw [rowAt_zero n v] at hown
  have hbel := (Below.refl w.heap.size w).grown hgrow (Nat.le_refl _) (fun k hk => by cases hk)
  go_loopw [10] (fun i wr => ∃ k : Nat, k ≤ n ∧ i = .int .i64 k ∧ wr.ownsRow w.heap.size 5 1 (.slice (some ⟨w.heap.size, 0, none⟩) n n) n (bv (rowAt n k v)) ∧ Below w.heap.size w wr) (fun i _ => n - (intOf i).toNat)
  case atStart => exact ⟨0, Nat.zero_le _, rfl, hown, hbel⟩
  case round =>
    clear hown hbel hgrow
    obtain ⟨k, hk, rfl, hown, hbel⟩ := hrel
    by_cases hlt : k < n
    · have hS := hown.stored (n - 1 - k) (.int .u8 ((v : Int) / 2 ^ (8 * k) % 256))
      rw [rowAt_set n k v hlt] at hS
      have hbel' := hbel.grown hS.2 hbel.size (fun j hj => by injection hj with hj; omega)
      obtain ⟨u, hu⟩ : ∃ u, (bv (rowAt n k v))[n - 1 - k]? = some u := ⟨_, List.getElem?_eq_getElem (by simp [bv, rowAt_len n k v hk]; omega)⟩
      have hc := (hown.cellAt (n - 1 - k) (by omega)).trans hu
      have hf := hown.frozenAt (n - 1 - k)
      have HS := Lib.hid hS
      clear hS hown hu
      have hq : (n : Int) - 1 - (k : Int) < (n : Int) := by omega
      have hq2 : (0 : Int) ≤ (n : Int) - 1 - (k : Int) := by omega
      go_wp2
      go_roundw
      case rel => exact ⟨k + 1, by omega, by go_num, HS.out.1, hbel'⟩
      case measure => simp [intOf]; omega
    · obtain rfl : k = n := by omega
      rw [rowAt_full] at hown
      obtain ⟨A, c, hA, hbs⟩ := Bs.of_own (l := Nm.be k v) (by rw [Nm.be_len]; exact hown) (Nm.be_lt k v)
      rw [Nm.be_len] at hA hbs
      injection hA with h1 _ h2
      subst h1 h2
      clear hown
      go_wp2
      go_ret
      exact ⟨_, _, rfl, hbs, hbel⟩


theorem or_low (a x : Nat) (ha : a * 256 < 18446744073709551616) (hx : x < 256) : bits .or .u64 (IntKind.u64.wrap ((a : Int) * 256)) (x : Int) = ((a * 256 + x : Nat) : Int) := by
  have e : (a : Int) * 256 = ((a * 256 : Nat) : Int) := by omega
  rw [e, IntWalk.u64_in _ ⟨by omega, by omega⟩, u64_or_nat (a * 256) x ha (by omega), nat_join 8 _ _ (by omega) (by omega)]
theorem fromBe_take_lt (l : List Nat) (hl : ∀ x ∈ l, x < 256) (k : Nat) (hk : k < 8) : Nm.fromBe (l.take k) * 256 < 18446744073709551616 := by
  have h1 := Nm.fromBe_lt (l.take k) fun x hx => hl x (List.mem_of_mem_take hx)
  have h2 : 256 ^ (l.take k).length ≤ 256 ^ 7 := Nat.pow_le_pow_right (by decide) (by simp; omega)
  have h3 : (256 : Nat) ^ 7 = 72057594037927936 := by decide
  omega

set_option maxRecDepth 100000 in
set_option maxHeartbeats 400000 in
theorem from_any (w : World) (A : Option Addr) (n c : Nat) (l : List Nat) (hb : Bs w A n c l) (hn : n ≤ 8) :
    Calls Try.prog 34 #[.slice A n c] w fun e w' => e = .returned (.int .u64 (Nm.fromBe l : Int)) ∧ w = w' := by
  obtain ⟨h1, h2, h3, h4, h5⟩ := hb
  unfold maxLen at h3
  have H1 := Lib.hid h1
  have H4 := Lib.hid h4
  have H5 := Lib.hid h5
  clear h1 h4 h5
  go_enter Try.func34, Try.ntmps34
  go_wp2
  go_loop [3, 7] (fun v i => ∃ k : Nat, k ≤ n ∧ i = .int .i64 k ∧ v = .int .u64 (Nm.fromBe (l.take k) : Int)) (fun _ i => n - (intOf i).toNat)
  case atStart => exact ⟨0, Nat.zero_le _, rfl, rfl⟩
  case round =>
    obtain ⟨k, hk, rfl, rfl⟩ := hrel
    by_cases hlt : k < n
    · obtain ⟨b, off, rfl, hbl, hcell⟩ := H5.out (by omega)
      obtain ⟨x, hx⟩ : ∃ x, l[k]? = some x := ⟨_, List.getElem?_eq_getElem (by rw [H1.out]; omega)⟩
      have hx256 := H4.out x (List.mem_of_getElem? hx)
      have hcx := hcell k x hx
      have hor := or_low (Nm.fromBe (l.take k)) x (fromBe_take_lt l H4.out k (by omega)) hx256
      have HT : Hid (Nm.fromBe (l.take k) * 256 + x = Nm.fromBe (l.take (k + 1))) := by
        show _ = _
        rw [List.take_add_one, hx]; exact (Nm.fromBe_snoc _ _).symm
      clear hx hcell
      go_wp2
      go_round
      case rel => exact ⟨k + 1, by omega, by go_num, by rw [← HT.out]; go_num⟩
      case measure => simp [intOf]; omega
    · go_wp2
      go_ret
      exact ⟨by rw [List.take_of_length_le (by rw [H1.out]; omega)]; rfl, rfl⟩

set_option maxRecDepth 100000 in
theorem key_any (w : World) (v : Nat) (hv : L64 v) :
    Calls Try.prog 21 #[.int .u64 (v : Int)] w fun e w' => ∃ A c, e = .returned (.slice A 8 c) ∧ Bs w' A 8 c (Nm.be 8 v) ∧ Below w.heap.size w w' := by
  go_enter Try.func21, Try.ntmps21
  go_wp2_with fail
  refine (greatest_any _ v 8 hv (by omega)).mono ?_
  rintro e w1 ⟨A, c, rfl, hbs, hbel⟩
  go_wp2
  go_ret
  exact ⟨A, c, rfl, hbs, hbel⟩

/-! ### Numbers with a sign, in order -/
def lift (v : Int) : Nat := (v + 9223372036854775808).toNat
theorem lift_lt {v : Int} (h : I64 v) : L64 (lift v) := by unfold I64 at h; unfold L64 lift; omega
theorem xor_top (a : Nat) (h : a < 2 ^ 63) : a ^^^ 2 ^ 63 = a + 2 ^ 63 := by
  have h1 : a ||| 2 ^ 63 = a + 2 ^ 63 := by
    rw [Nat.or_comm, nat_join 63 _ _ (by simp) h, Nat.add_comm]
  rw [← h1]
  apply Nat.eq_of_testBit_eq
  intro i
  rw [Nat.testBit_xor, Nat.testBit_or, Nat.testBit_two_pow]
  by_cases hi : 63 = i
  · subst hi
    rw [Nat.testBit_lt_two_pow h]; simp
  · simp [hi]
theorem xor_top' (a : Nat) (h : a < 18446744073709551616) : a ^^^ 9223372036854775808 = (a + 9223372036854775808) % 18446744073709551616 := by
  have e : (9223372036854775808 : Nat) = 2 ^ 63 := by decide
  by_cases h0 : a < 9223372036854775808
  · have := xor_top a (by omega)
    rw [← e] at this
    omega
  · have := xor_top (a - 9223372036854775808) (by omega)
    rw [← e] at this
    have h2 : a = (a - 9223372036854775808) + 9223372036854775808 := by omega
    have h3 : a ^^^ 9223372036854775808 = a - 9223372036854775808 := by
      conv => lhs; rw [h2, ← this, Nat.xor_assoc, Nat.xor_self, Nat.xor_zero]
    omega
theorem lift_xor {v : Int} (h : I64 v) : bits .xor .u64 (IntKind.u64.wrap v) 9223372036854775808 = (lift v : Int) := by
  unfold I64 at h
  have e : IntKind.u64.wrap v = (((v % 18446744073709551616).toNat : Nat) : Int) := by rw [IntKind.wrap_u64]; omega
  have e2 : (9223372036854775808 : Int) = ((9223372036854775808 : Nat) : Int) := by decide
  rw [e, e2, u64_xor_nat _ _ (by omega) (by omega), xor_top' _ (by omega)]
  unfold lift; omega
theorem lift_add {v : Int} (h : I64 v) : IntKind.u64.wrap (IntKind.u64.wrap v + 9223372036854775808) = (lift v : Int) := by
  unfold I64 at h
  simp only [IntKind.wrap_u64]
  unfold lift; omega
theorem sink_xor {v : Nat} (h : L64 v) : wrap64 (bits .xor .u64 (v : Int) 9223372036854775808) = (v : Int) - 9223372036854775808 := by
  unfold L64 at h
  have e2 : (9223372036854775808 : Int) = ((9223372036854775808 : Nat) : Int) := by decide
  conv => lhs; rw [e2, u64_xor_nat _ _ h (by omega), xor_top' _ h]
  unfold wrap64
  omega

set_option maxRecDepth 100000 in
theorem keyInt_any (w : World) (v : Int) (hv : I64 v) :
    Calls Try.prog 22 #[.int .i64 v] w fun e w' => ∃ A c, e = .returned (.slice A 8 c) ∧ Bs w' A 8 c (Nm.be 8 (lift v)) ∧ Below w.heap.size w w' := by
  have HE := Lib.hid (lift_xor hv)
  have hl := lift_lt hv
  go_enter Try.func22, Try.ntmps22
  go_wp2_with fail
  rw [HE.out]
  refine (key_any _ _ hl).mono ?_
  rintro e w1 ⟨A, c, rfl, hbs, hbel⟩
  go_wp2
  go_ret
  exact ⟨A, c, rfl, hbs, hbel⟩

set_option maxRecDepth 100000 in
theorem unkey_no (w : World) (A : Option Addr) (n c : Nat) (hn : n ≠ 8) :
    Calls Try.prog 25 #[.slice A n c] w fun e w' => e = .returned (.tuple #[.int .u64 0, .bool false]) ∧ w = w' := by
  have hd : ((n : Int) != 8) = true := by rw [bne_iff_ne]; omega
  go_enter Try.func25, Try.ntmps25
  go_wp2
  go_ret2
  exact ⟨rfl, rfl⟩
set_option maxRecDepth 100000 in
theorem unkey_yes (w : World) (A : Option Addr) (c : Nat) (l : List Nat) (hb : Bs w A 8 c l) :
    Calls Try.prog 25 #[.slice A 8 c] w fun e w' => e = .returned (.tuple #[.int .u64 (Nm.fromBe l : Int), .bool true]) ∧ w = w' := by
  go_enter Try.func25, Try.ntmps25
  go_wp2_with fail
  refine (from_any _ A 8 c l hb (by omega)).mono ?_
  rintro e w1 ⟨rfl, rfl⟩
  go_wp2
  go_ret2
  exact ⟨rfl, rfl⟩
set_option maxRecDepth 100000 in
theorem unkeyInt_no (w : World) (A : Option Addr) (n c : Nat) (hn : n ≠ 8) :
    Calls Try.prog 26 #[.slice A n c] w fun e w' => e = .returned (.tuple #[.int .i64 0, .bool false]) ∧ w = w' := by
  go_enter Try.func26, Try.ntmps26
  go_wp2_with fail
  refine (unkey_no _ A n c hn).mono ?_
  rintro e w1 ⟨rfl, rfl⟩
  go_wp2
  go_ret2
  exact ⟨rfl, rfl⟩
set_option maxRecDepth 100000 in
theorem unkeyInt_yes (w : World) (A : Option Addr) (c : Nat) (l : List Nat) (hb : Bs w A 8 c l) :
    Calls Try.prog 26 #[.slice A 8 c] w fun e w' => e = .returned (.tuple #[.int .i64 (wrap64 (bits .xor .u64 (Nm.fromBe l : Int) 9223372036854775808)), .bool true]) ∧ w = w' := by
  go_enter Try.func26, Try.ntmps26
  go_wp2_with fail
  refine (unkey_yes _ A c l hb).mono ?_
  rintro e w1 ⟨rfl, rfl⟩
  go_wp2
  go_ret2
  exact ⟨rfl, rfl⟩

end Go.Proofs.Ythibflmmpkijkaa
