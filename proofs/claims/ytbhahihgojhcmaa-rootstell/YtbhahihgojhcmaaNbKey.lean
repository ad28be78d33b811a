/-
  The document's Key: a number's eight bytes, the greatest first.
-/
import Derived.Test.YtbhahihgojhcmaaNbFour
namespace Go.Proofs.Ytbhahihgojhcmaa
open Go.RowKit
set_option linter.unusedVariables false

theorem lit_reads {w : World} {base e k : Nat} {v : Value} {x v0 : Nat} (hx : x = v0 / 256 ^ k) (h : w.ownsRow base e 1 v (1 + k) ([Value.int .u8 ((x : Int) % 256)] ++ bv (Nm.be k v0))) :
    ∃ A c, v = .slice A (k + 1) c ∧ Bs w A (k + 1) c (Nm.be (k + 1) v0) := by
  have e1 : [Value.int .u8 ((x : Int) % 256)] ++ bv (Nm.be k v0) = bv (Nm.be (k + 1) v0) := by
    rw [be_cons, ← hx]; simp [bv]
  rw [e1, Nat.add_comm 1 k] at h
  have := Bs.of_own (l := Nm.be (k + 1) v0) (by rw [Nm.be_len]; exact h) (Nm.be_lt _ _)
  rwa [Nm.be_len] at this

set_option maxRecDepth 100000 in
set_option maxHeartbeats 400000 in
theorem refKey_any (w : World) (v : Nat) (hv : L64 v) :
    Calls Try.prog 29 #[.int .u64 (v : Int)] w fun e w' => ∃ A c, e = .returned (.slice A 8 c) ∧ Bs w' A 8 c (Nm.be 8 v) ∧ Below w.heap.size w w' := by
  obtain ⟨i0, hi, hz0, hz1, hz2⟩ := info_parts Try.info5
  go_enter Try.func29, Try.ntmps29
  go_wp2
  go_loopw [0, 3, 4] (fun x out i wr => ∃ (k y : Nat) (A : Option Addr) (c : Nat), k ≤ 8 ∧ i = .int .i64 k ∧ x = .int .u64 (y : Int) ∧ L64 y ∧ Hid (y = v / 256 ^ k) ∧ out = .slice A k c ∧ Bs wr A k c (Nm.be k v) ∧ Below w.heap.size w wr) (fun _ _ i _ => 8 - (intOf i).toNat)
  case atStart => exact ⟨0, v, none, 0, Nat.zero_le _, rfl, rfl, hv, by show _ = _; simp, rfl, Bs.nil_ _ _ _ (Nat.zero_le _), Below.refl _ _⟩
  case round =>
    obtain ⟨k, y, A, c, hk, rfl, rfl, hy, HY, rfl, hbs, hbel⟩ := hrel
    by_cases hlt : k < 8
    · have O0 := World.ownsRow_lit (base := wr.heap.size) (e := 5) (size := 1) wr #[Value.int .u8 ((y : Int) % 256)] 1 (Nat.le_refl _) (by unfold maxLen; omega) rfl
      have hbs1 := hbs.alloc (.cells #[Value.int .u8 ((y : Int) % 256)] 5)
      have hsz := hbel.size
      have hdiv : IntKind.u64.wrap ((y : Int) / 256) = (y : Int) / 256 := by unfold L64 at hy; exact IntWalk.u64_in _ ⟨by omega, by omega⟩
      have hy' : L64 (y / 256) := by unfold L64 at *; omega
      have HY' : Hid (y / 256 = v / 256 ^ (k + 1)) := by show _ = _; rw [HY.out, Nat.div_div_eq_div_mul, Nat.pow_succ]
      go_wp2_with (at_builtin; refine wpList_append_bs _ rfl _ _ 23 rfl wr.heap.size 5 i0 (.int .u8 0) Try.underlying23 hi hz0 hz1 hz2 rfl _ _ _ rfl O0 _ _ _ _ rfl hbs1 (by omega) (by simp) ?_; intro v2 w2 O2 g2)
      obtain ⟨A2, c2, rfl, r2⟩ := lit_reads HY.out O2
      have bel2 := hbel.trans (((Below.refl wr.heap.size wr).alloc (Nat.le_refl _) _).grown g2 (by simp) (fun j hj => by have := (O0.lt j hj).1; exact this) |>.mono hsz)
      clear O0 O2 g2 hbs hbs1 hbel
      go_roundw
      case rel => exact ⟨k + 1, y / 256, A2, c2, by omega, by go_num, by go_num, hy', HY', rfl, r2, bel2⟩
      case measure => simp [intOf]; omega
    · obtain rfl : k = 8 := by omega
      go_wp2
      go_ret
      exact ⟨_, _, rfl, hbs, hbel⟩


end Go.Proofs.Ytbhahihgojhcmaa
