/-
  The document's Pay.
-/
import Derived.Test.YtbfofhgnamheeaaRwAt
import Derived.Test.YtbfofhgnamheeaaPoListW
namespace Go.Proofs.Ytbfofhgnamheeaa.Pq
open Go.RowKit
set_option linter.unusedVariables false

theorem run_app_at (w : World) (base : Nat) (ty : TypeId) (g o cap n : Nat) (xs : List Nat) (h : At w base g o cap xs) (hn : xs.length = n) (b' off' m c : Nat) (l : List Nat) (hr : Bs w (some ⟨b', off', none⟩) m c l) (hsum : n + m ≤ 100000) (hbase : base ≤ w.heap.size) :
    ∃ v' w', (Builtin.append_ #[48, 48] ty #[.slice (some ⟨g, o, none⟩) n cap, .slice (some ⟨b', off', none⟩) m c]).run Try.prog w = .ok v' w' ∧ (∃ g' o' cap', v' = .slice (some ⟨g', o', none⟩) (n + m) cap' ∧ At w' base g' o' cap' (xs ++ l)) ∧ w.grownBy w' (some g) := by
  subst hn
  obtain ⟨g', o', cap', w', h1, h2, h3⟩ := run_append_at w base ty g o cap xs h b' off' m c l hr hsum hbase
  exact ⟨_, w', h1, ⟨g', o', cap', rfl, h2⟩, h3⟩
theorem be_drop (v : Nat) : ∀ (k j : Nat), (Nm.be (k + j) v).drop k = Nm.be j v
  | 0, j => by rw [Nat.zero_add]; rfl
  | k + 1, j => by
    rw [show k + 1 + j = (k + j) + 1 by omega, be_cons]
    show (Nm.be (k + j) v).drop k = _
    exact be_drop v k j

set_option maxRecDepth 100000 in
set_option maxHeartbeats 400000 in
theorem refKeyO_any (w : World) (v : Nat) (hv : L64 v) :
    Calls Try.prog 39 #[.int .u64 (v : Int)] w fun e w' => ∃ kv, e = .returned kv ∧ w'.ownsRow w.heap.size 5 1 kv 8 (bv (Nm.be 8 v)) ∧ Below w.heap.size w w' := by
  obtain ⟨i0, hi, hz0, hz1, hz2⟩ := info_parts Try.info5
  go_enter Try.func39, Try.ntmps39
  go_wp2
  go_loopw [0, 3, 4] (fun x out i wr => ∃ (k y : Nat) (ov : Value), ov = out ∧ k ≤ 8 ∧ i = .int .i64 k ∧ x = .int .u64 (y : Int) ∧ L64 y ∧ Hid (y = v / 256 ^ k) ∧ wr.ownsRow w.heap.size 5 1 ov k (bv (Nm.be k v)) ∧ Below w.heap.size w wr) (fun _ _ i _ => 8 - (intOf i).toNat)
  case atStart => exact ⟨0, v, _, rfl, Nat.zero_le _, rfl, rfl, hv, by show _ = _; simp, World.ownsRow_nil _ _ _ _, Below.refl _ _⟩
  case round =>
    obtain ⟨k, y, ov, rfl, hk, rfl, rfl, hy, HY, hO, hbel⟩ := hrel
    obtain ⟨A, c, hov, hbs⟩ : ∃ A c, ov = .slice A k c ∧ Bs wr A k c (Nm.be k v) := by
      have := Bs.of_own (l := Nm.be k v) (by rw [Nm.be_len]; exact hO) (Nm.be_lt _ _)
      rwa [Nm.be_len] at this
    subst hov
    by_cases hlt : k < 8
    · have O0 := World.ownsRow_lit (base := wr.heap.size) (e := 5) (size := 1) wr #[Value.int .u8 ((y : Int) % 256)] 1 (Nat.le_refl _) (by unfold maxLen; omega) rfl
      have hbs1 := hbs.alloc (.cells #[Value.int .u8 ((y : Int) % 256)] 5)
      have hsz := hbel.size
      have hdiv : IntKind.u64.wrap ((y : Int) / 256) = (y : Int) / 256 := by unfold L64 at hy; exact IntWalk.u64_in _ ⟨by omega, by omega⟩
      have hy' : L64 (y / 256) := by unfold L64 at *; omega
      have HY' : Hid (y / 256 = v / 256 ^ (k + 1)) := by show _ = _; rw [HY.out, Nat.div_div_eq_div_mul, Nat.pow_succ]
      clear hO
      go_wp2_with (at_builtin; refine wpList_append_bs _ rfl _ _ 48 rfl wr.heap.size 5 i0 (.int .u8 0) Try.underlying48 hi hz0 hz1 hz2 rfl _ _ _ rfl O0 _ _ _ _ rfl hbs1 (by omega) (by simp) ?_; intro v2 w2 O2 g2)
      have e1 : [Value.int .u8 ((y : Int) % 256)] ++ bv (Nm.be k v) = bv (Nm.be (k + 1) v) := by
        rw [be_cons, ← HY.out]; simp [bv]
      have O3 := own_low O2 hsz
      have e0 : #[Value.int .u8 ((y : Int) % 256)].toList = [Value.int .u8 ((y : Int) % 256)] := rfl
      rw [Nat.add_comm 1 k] at O3
      have O4 : w2.ownsRow w.heap.size 5 1 v2 (k + 1) (bv (Nm.be (k + 1) v)) := by rw [← e1]; exact O3
      have bel2 := hbel.trans (((Below.refl wr.heap.size wr).alloc (Nat.le_refl _) _).grown g2 (by simp) (fun j hj => by have := (O0.lt j hj).1; exact this) |>.mono hsz)
      clear O0 O2 g2 hbs hbs1 hbel O3
      go_roundw
      case rel => exact ⟨k + 1, y / 256, _, rfl, by omega, by go_num, by go_num, hy', HY', O4, bel2⟩
      case measure => simp [intOf]; omega
    · obtain rfl : k = 8 := by omega
      go_wp2
      go_ret
      exact ⟨_, rfl, hO, hbel⟩
/-- Key's eight bytes, from k on. -/
theorem key_at {w : World} {base : Nat} {kv : Value} {v : Nat} (h : w.ownsRow base 5 1 kv 8 (bv (Nm.be 8 v))) : ∃ g cap, kv = .slice (some ⟨g, 0, none⟩) 8 cap ∧ 8 ≤ cap ∧ cap ≤ maxLen ∧ At w base g 6 (cap - 6) (Nm.be 2 v) ∧ At w base g 4 (cap - 4) (Nm.be 4 v) ∧ At w base g 0 cap (Nm.be 8 v) := by
  obtain ⟨A, c, hv, h1, h2⟩ := own_form h
  obtain ⟨g, cap, hv', hA⟩ := At.of_own h (Nm.be_len 8 v) (by omega) (Nm.be_lt _ _)
  rw [hv'] at hv
  injection hv with _ _ hc
  subst hc
  have a6 := hA 6 (by omega)
  have a4 := hA 4 (by omega)
  have a0 := hA 0 (by omega)
  rw [be_drop v 6 2] at a6
  rw [be_drop v 4 4] at a4
  exact ⟨g, cap, hv', h1, h2, a6, a4, a0⟩

end Go.Proofs.Ytbfofhgnamheeaa.Pq
