/-
  Numbers of 32 bits as four bytes: greatestFirst, fromGreatest, Put32, Get32.
-/
import Derived.Test.YtbhahihgojhcmaaCrApp
import Derived.Test.YtbhahihgojhcmaaCrMath
import Derived.Laws.CopyOwn
namespace Go.Proofs.Ytbhahihgojhcmaa
open Go.RowKit
set_option linter.unusedVariables false

theorem be_cons (k v : Nat) : Nm.be (k + 1) v = (v / 256 ^ k % 256) :: Nm.be k v := by
  induction k generalizing v with
  | zero => simp [Nm.be]
  | succ k ih =>
    rw [Nm.be, ih (v / 256)]
    conv => rhs; rw [Nm.be]
    rw [Nat.div_div_eq_div_mul, Nat.pow_succ, Nat.mul_comm 256]
    rfl
/-- The row behind k rounds. -/
def rowAt (n k v : Nat) : List Nat := List.replicate (n - k) 0 ++ Nm.be k v
theorem rowAt_len (n k v : Nat) (h : k ≤ n) : (rowAt n k v).length = n := by simp [rowAt, Nm.be_len]; omega
theorem rowAt_set (n k v : Nat) (h : k < n) : (bv (rowAt n k v)).set (n - 1 - k) (.int .u8 ((v : Int) / 2 ^ (8 * k) % 256)) = bv (rowAt n (k + 1) v) := by
  have e : (v : Int) / 2 ^ (8 * k) % 256 = ((v / 256 ^ k % 256 : Nat) : Int) := by
    have : (2 : Nat) ^ (8 * k) = 256 ^ k := by rw [Nat.pow_mul]
    rw [← this, Int.natCast_emod, Int.natCast_ediv, Int.natCast_pow]; rfl
  rw [e]
  unfold rowAt bv
  rw [be_cons, show n - k = (n - 1 - k) + 1 by omega, show n - (k + 1) = n - 1 - k by omega, List.replicate_succ', List.append_assoc, List.map_append, List.map_append]
  rw [List.set_append_right _ _ (by simp)]
  simp
theorem rowAt_zero (n v : Nat) : (madeCells (Value.int .u8 0).cells (n * 1)).toList = bv (rowAt n 0 v) := by
  have h : ∀ m, madeCells (Value.int .u8 0).cells m = Array.replicate m (Value.int .u8 0) := by
    intro m
    apply Array.ext
    · simp [madeCells]
    · intro i h1 h2
      simp [madeCells, Value.cells, Nat.mod_one]
  rw [h]
  simp [rowAt, bv, Nm.be]
theorem rowAt_full (n v : Nat) : rowAt n n v = Nm.be n v := by simp [rowAt]
theorem rowAt_lt (n k v : Nat) : ∀ x ∈ rowAt n k v, x < 256 := by
  intro x hx
  rcases List.mem_append.1 hx with h | h
  · have := List.eq_of_mem_replicate h; omega
  · exact Nm.be_lt k v x h

set_option maxRecDepth 100000 in
set_option maxHeartbeats 400000 in
theorem greatest_any (w : World) (v n : Nat) (hv : L64 v) (hn : n ≤ 8) :
    Calls Try.prog 34 #[.int .u64 (v : Int), .int .i64 (n : Int)] w fun e w' => ∃ A c, e = .returned (.slice A n c) ∧ Bs w' A n c (Nm.be n v) ∧ Below w.heap.size w w' := by
  obtain ⟨i0, hi, hz0, hz1, hz2⟩ := info_parts Try.info5
  go_enter Try.func34, Try.ntmps34
  go_wp2_with (refine wpList_make_full _ rfl _ _ 23 rfl w.heap.size 5 i0 (.int .u8 0) 1 Try.underlying23 hi hz0 hz1 .i64 .i64 _ _ n rfl rfl rfl rfl (by rw [hz2]; omega) (by unfold maxLen; omega) (Nat.le_refl _) ?_; intro w1 hown hgrow)
  rw [rowAt_zero n v] at hown
  have hbel := (Below.refl w.heap.size w).grown hgrow (Nat.le_refl _) (fun k hk => by cases hk)
  go_loopw [10] (fun i wr => ∃ k : Nat, k ≤ n ∧ i = .int .i64 k ∧ wr.ownsRow w.heap.size 5 1 (.slice (some ⟨w.heap.size, 0, none⟩) n n) n (bv (rowAt n k v)) ∧ Below w.heap.size w wr) (fun i _ => n - (intOf i).toNat)
  case atStart => exact ⟨0, Nat.zero_le _, rfl, hown, hbel⟩
  case round =>
    clear hown hbel hgrow
    obtain ⟨k, hk, rfl, hown, hbel⟩ := hrel
    by_cases hlt : k < n
    · have hS := hown.stored (n - 1 - k) (.int .u8 ((v : Int) / 2 ^ (8 * k) % 256))
      rw [rowAt_set n k v hlt] at hS
      have hbel' := hbel.grown hS.2 hbel.size (fun j hj => by injection hj with hj; omega)
      obtain ⟨u, hu⟩ : ∃ u, (bv (rowAt n k v))[n - 1 - k]? = some u := ⟨_, List.getElem?_eq_getElem (by simp [bv, rowAt_len n k v hk]; omega)⟩
      have hc := (hown.cellAt (n - 1 - k) (by omega)).trans hu
      have hf := hown.frozenAt (n - 1 - k)
      have HS := Lib.hid hS
      clear hS hown hu
      have hq : (n : Int) - 1 - (k : Int) < (n : Int) := by omega
      have hq2 : (0 : Int) ≤ (n : Int) - 1 - (k : Int) := by omega
      go_wp2
      go_roundw
      case rel => exact ⟨k + 1, by omega, by go_num, HS.out.1, hbel'⟩
      case measure => simp [intOf]; omega
    · obtain rfl : k = n := by omega
      rw [rowAt_full] at hown
      obtain ⟨A, c, hA, hbs⟩ := Bs.of_own (l := Nm.be k v) (by rw [Nm.be_len]; exact hown) (Nm.be_lt k v)
      rw [Nm.be_len] at hA hbs
      injection hA with h1 _ h2
      subst h1 h2
      clear hown
      go_wp2
      go_ret
      exact ⟨_, _, rfl, hbs, hbel⟩


theorem or_low (a x : Nat) (ha : a * 256 < 18446744073709551616) (hx : x < 256) : bits .or .u64 (IntKind.u64.wrap ((a : Int) * 256)) (x : Int) = ((a * 256 + x : Nat) : Int) := by
  have e : (a : Int) * 256 = ((a * 256 : Nat) : Int) := by omega
  rw [e, IntWalk.u64_in _ ⟨by omega, by omega⟩, u64_or_nat (a * 256) x ha (by omega), nat_join 8 _ _ (by omega) (by omega)]
theorem fromBe_take_lt (l : List Nat) (hl : ∀ x ∈ l, x < 256) (k : Nat) (hk : k < 8) : Nm.fromBe (l.take k) * 256 < 18446744073709551616 := by
  have h1 := Nm.fromBe_lt (l.take k) fun x hx => hl x (List.mem_of_mem_take hx)
  have h2 : 256 ^ (l.take k).length ≤ 256 ^ 7 := Nat.pow_le_pow_right (by decide) (by simp; omega)
  have h3 : (256 : Nat) ^ 7 = 72057594037927936 := by decide
  omega

set_option maxRecDepth 100000 in
set_option maxHeartbeats 400000 in
theorem from_any (w : World) (A : Option Addr) (n c : Nat) (l : List Nat) (hb : Bs w A n c l) (hn : n ≤ 8) :
    Calls Try.prog 39 #[.slice A n c] w fun e w' => e = .returned (.int .u64 (Nm.fromBe l : Int)) ∧ w = w' := by
  obtain ⟨h1, h2, h3, h4, h5⟩ := hb
  unfold maxLen at h3
  have H1 := Lib.hid h1
  have H4 := Lib.hid h4
  have H5 := Lib.hid h5
  clear h1 h4 h5
  go_enter Try.func39, Try.ntmps39
  go_wp2
  go_loop [3, 7] (fun v i => ∃ k : Nat, k ≤ n ∧ i = .int .i64 k ∧ v = .int .u64 (Nm.fromBe (l.take k) : Int)) (fun _ i => n - (intOf i).toNat)
  case atStart => exact ⟨0, Nat.zero_le _, rfl, rfl⟩
  case round =>
    obtain ⟨k, hk, rfl, rfl⟩ := hrel
    by_cases hlt : k < n
    · obtain ⟨b, off, rfl, hbl, hcell⟩ := H5.out (by omega)
      obtain ⟨x, hx⟩ : ∃ x, l[k]? = some x := ⟨_, List.getElem?_eq_getElem (by rw [H1.out]; omega)⟩
      have hx256 := H4.out x (List.mem_of_getElem? hx)
      have hcx := hcell k x hx
      have hor := or_low (Nm.fromBe (l.take k)) x (fromBe_take_lt l H4.out k (by omega)) hx256
      have HT : Hid (Nm.fromBe (l.take k) * 256 + x = Nm.fromBe (l.take (k + 1))) := by
        show _ = _
        rw [List.take_add_one, hx]; exact (Nm.fromBe_snoc _ _).symm
      clear hx hcell
      go_wp2
      go_round
      case rel => exact ⟨k + 1, by omega, by go_num, by rw [← HT.out]; go_num⟩
      case measure => simp [intOf]; omega
    · go_wp2
      go_ret
      exact ⟨by rw [List.take_of_length_le (by rw [H1.out]; omega)]; rfl, rfl⟩

/-- The first four bytes, those that there aren't being 0. -/
def pad4 (l : List Nat) : List Nat := l.take 4 ++ List.replicate (4 - l.length) 0
theorem pad4_len (l : List Nat) : (pad4 l).length = 4 := by simp [pad4]; omega
theorem pad4_lt (l : List Nat) (h : ∀ x ∈ l, x < 256) : ∀ x ∈ pad4 l, x < 256 := by
  intro x hx
  rcases List.mem_append.1 hx with h1 | h1
  · exact h x (List.mem_of_mem_take h1)
  · have := List.eq_of_mem_replicate h1; omega
theorem pad4_be (v : Nat) : pad4 (Nm.be 4 v) = Nm.be 4 v := by
  unfold pad4
  rw [Nm.be_len, List.take_of_length_le (by rw [Nm.be_len]; omega)]; simp
theorem pad4_at (l : List Nat) (k : Nat) (hk : k < 4) : (pad4 l)[k]? = some (l.getD k 0) := by
  unfold pad4
  rw [List.getElem?_append]
  by_cases h : k < l.length
  · rw [if_pos (by simp; omega), List.getElem?_take, if_pos hk, List.getD_eq_getElem?_getD, List.getElem?_eq_getElem h]; rfl
  · rw [if_neg (by simp; omega), List.getElem?_replicate, if_pos (by simp; omega), List.getD_eq_getElem?_getD, List.getElem?_eq_none (by omega)]; rfl
theorem fromBe4_lt (l : List Nat) (h : ∀ x ∈ l, x < 256) : Nm.fromBe (pad4 l) < 4294967296 := by
  have := Nm.fromBe_lt (pad4 l) (pad4_lt l h)
  rw [pad4_len] at this
  have e : (256 : Nat) ^ 4 = 4294967296 := by decide
  omega

set_option maxRecDepth 100000 in
theorem put32_any (w : World) (v : Nat) (hv : v < 4294967296) :
    Calls Try.prog 22 #[.int .u32 (v : Int)] w fun e w' => ∃ A c, e = .returned (.slice A 4 c) ∧ Bs w' A 4 c (Nm.be 4 v) ∧ Below w.heap.size w w' := by
  have hl : L64 v := by unfold L64; omega
  have HE : Hid (IntKind.u64.wrap (v : Int) = (v : Int)) := by
    show _ = _
    unfold L64 at hl; exact IntWalk.u64_in _ ⟨by omega, by omega⟩
  go_enter Try.func22, Try.ntmps22
  go_wp2_with fail
  try rw [HE.out]
  refine (greatest_any _ v 4 hl (by omega)).mono ?_
  rintro e w1 ⟨A, c, rfl, hbs, hbel⟩
  go_wp2
  go_ret
  exact ⟨A, c, rfl, hbs, hbel⟩

theorem from4_take (l : List Nat) (h : ∀ x ∈ l, x < 256) (k : Nat) (hk : k < 4) : Nm.fromBe ((pad4 l).take k) < 16777216 := by
  have h1 := Nm.fromBe_lt ((pad4 l).take k) fun x hx => pad4_lt l h x (List.mem_of_mem_take hx)
  have h2 : 256 ^ ((pad4 l).take k).length ≤ 256 ^ 3 := Nat.pow_le_pow_right (by decide) (by simp; omega)
  have h3 : (256 : Nat) ^ 3 = 16777216 := by decide
  omega
theorem copy_src {w : World} {A : Option Addr} {n c : Nat} {l : List Nat} (hb : Bs w A n c l) (o : Obj) :
    0 < Nat.min n 4 → ∃ ad, A = some ad ∧ ∀ (j : Nat) (v : Value), (bv (l.take 4))[j]? = some v → (w.alloc o).cell? (ad.add j) = some v := by
  intro h
  obtain ⟨h1, _, _, _, h5⟩ := hb
  have hn : 0 < n := Nat.lt_of_lt_of_le h (Nat.min_le_left _ _)
  obtain ⟨b, off, e, hlt, hc⟩ := h5 hn
  refine ⟨_, e, fun j v hv => ?_⟩
  rw [bv, List.getElem?_map, List.getElem?_take] at hv
  split at hv
  · cases hx : l[j]? with
    | none => rw [hx] at hv; cases hv
    | some x =>
      rw [hx] at hv
      simp only [Option.map_some, Option.some.injEq] at hv
      subst hv
      have hcj := hc j x hx
      rw [World.cell?_alloc_lt _ _ _ (by unfold Addr.add; split <;> exact hlt)]
      by_cases hj : j = 0
      · subst hj; simpa [Addr.add] using hcj
      · simpa [Addr.add, hj] using hcj
  · cases hv
theorem splice_pad (l : List Nat) : splice (bv [0, 0, 0, 0]) 0 (bv (l.take 4)) = bv (pad4 l) := by
  unfold splice pad4 bv
  rw [List.map_append]
  simp only [List.take_zero, List.nil_append, Nat.zero_add, List.length_map, List.length_take]
  congr 1
  rw [← List.map_drop]
  congr 1
  have : ∀ k, k ≤ 4 → [0, 0, 0, 0].drop k = List.replicate (4 - k) (0 : Nat) := by
    intro k hk
    match k, hk with
    | 0, _ => rfl
    | 1, _ => rfl
    | 2, _ => rfl
    | 3, _ => rfl
    | 4, _ => rfl
  rw [this _ (by omega)]
  congr 1; omega
theorem copied {w w1 : World} {t : TypeId} {A : Option Addr} {n c : Nat} {l : List Nat} (h : w1.heap[w.heap.size]? = some (.cells (splice (bv [0, 0, 0, 0]) 0 (bv (l.take 4))).toArray t (0, 0))) (hl : ∀ x ∈ l, x < 256) (_hb : Bs w A n c l) :
    Bs w1 (some ⟨w.heap.size, 0, none⟩) 4 4 (pad4 l) := by
  rw [splice_pad] at h
  refine ⟨pad4_len l, Nat.le_refl _, by unfold maxLen; omega, pad4_lt l hl, fun _ => ⟨_, _, rfl, ?_, fun j x hx => ?_⟩⟩
  · rcases Nat.lt_or_ge w.heap.size w1.heap.size with hlt | hge
    · exact hlt
    · rw [Array.getElem?_eq_none hge] at h; cases h
  · rw [Nat.zero_add, cell_of_row w1 _ j _ t (0, 0) h]
    simp [bv, hx]
set_option maxRecDepth 100000 in
set_option maxHeartbeats 400000 in
theorem get32_any (w : World) (A : Option Addr) (n c : Nat) (l : List Nat) (hb : Bs w A n c l) :
    Calls Try.prog 35 #[.slice A n c] w fun e w' => e = .returned (.int .u32 (Nm.fromBe (pad4 l) : Int)) ∧ Below w.heap.size w w' := by
  obtain ⟨i0, hi, hz0, hz1, hz2⟩ := info_parts Try.info5
  have hsz : (Try.prog.info? 5).map (·.size) = some 1 := by rw [show Try.prog.info? 5 = _ from hi]; simp [hz1]
  have zeros : Hid (∀ t : TypeId, (w.alloc (.cells #[.int .u8 0, .int .u8 0, .int .u8 0, .int .u8 0] t)).heap[w.heap.size]? = some (.cells (bv [0, 0, 0, 0]).toArray t (0, 0))) := fun t => heap_alloc_new w _
  have hlen : (bv (l.take 4)).length = Nat.min n 4 := by rw [bv_len, List.length_take, hb.1, Nat.min_comm]
  go_enter Try.func35, Try.ntmps35
  go_wp2_with (refine wpList_copy_splice (o := ⟨some 6, _, _, _, _, _⟩) rfl (.tmp 4) (.tmp 5) 23 23 rfl 5 Try.underlying23 hsz _ _ _ _ _ _ rfl rfl w.heap.size 0 (bv [0, 0, 0, 0]) _ (zeros.out _) (bv (l.take 4)) hlen ?hpos ?hfit ?hone w.heap.size w ?hbel (Nat.le_refl _) ?_; rotate_right; intro w1 HG hB)
  case hpos => simpa using copy_src hb _
  case hfit => simp [bv]; omega
  case hone => exact bv_one _
  case hbel => exact (Below.refl _ _).alloc (Nat.le_refl _) _
  have R := copied HG.out hb.2.2.2.1 hb
  have hlt := fromBe4_lt l hb.2.2.2.1
  have HE : Hid (IntKind.u32.wrap (Nm.fromBe (pad4 l) : Int) = (Nm.fromBe (pad4 l) : Int)) := by
    show _ = _
    rw [IntKind.wrap_u32]; omega
  clear HG zeros hlen
  go_wp2_with fail
  refine (from_any _ _ _ _ _ R (by omega)).mono ?_
  rintro e w2 ⟨rfl, rfl⟩
  go_wp2
  go_ret
  exact ⟨rfl, hB⟩


end Go.Proofs.Ytbhahihgojhcmaa
