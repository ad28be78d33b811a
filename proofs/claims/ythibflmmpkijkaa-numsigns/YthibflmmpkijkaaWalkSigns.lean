/-
  NumSigns: a number and the one whose bits are all turned are told by bytes that differ in the least bit of the first.
-/
import Derived.Test.YthibflmmpkijkaaAwake
import Derived.Test.YthibflmmpkijkaaSame
import Derived.Deep.RegionWith
namespace Go.Proofs.Ythibflmmpkijkaa
open Go.RowKit
set_option linter.unusedVariables false

/-- The two numbers' bytes. -/
theorem signs_pair (v : Int) : ∃ x y r, Nm.put (zig v) = x :: r ∧ Nm.put (zig (-v - 1)) = y :: r ∧ (∀ h : x < 256, ∀ h' : y < 256, x ^^^ y = 1) := by
  have key : ∀ c : Nat, c < 255 → c % 2 = 0 → c ^^^ (c + 1) = 1 ∧ (c + 1) ^^^ c = 1 := by decide +kernel
  by_cases h : 0 ≤ v
  · obtain ⟨c, r, h1, h2, h3⟩ := Nm.put_pair v.toNat
    have e1 : zig v = 2 * v.toNat := by unfold zig; rw [if_pos h]; omega
    have e2 : zig (-v - 1) = 2 * v.toNat + 1 := by unfold zig; rw [if_neg (by omega)]; omega
    exact ⟨c, c + 1, r, by rw [e1, h1], by rw [e2, h2], fun _ h' => (key c (by omega) h3).1⟩
  · obtain ⟨c, r, h1, h2, h3⟩ := Nm.put_pair (-v - 1).toNat
    have e1 : zig v = 2 * (-v - 1).toNat + 1 := by unfold zig; rw [if_neg h]; omega
    have e2 : zig (-v - 1) = 2 * (-v - 1).toNat := by unfold zig; rw [if_pos (by omega)]; omega
    exact ⟨c + 1, c, r, by rw [e1, h2], by rw [e2, h1], fun h' _ => (key c (by omega) h3).2⟩

theorem turned {v : Int} (h : I64 v) : bits .xor .i64 (-1) v = -v - 1 := by
  unfold I64 at h
  show IntKind.i64.wrap ((BitVec.ofInt 64 (-1) ^^^ BitVec.ofInt 64 v).toNat : Int) = _
  have e : BitVec.ofInt 64 (-1) = BitVec.allOnes 64 := by decide
  rw [e, BitVec.allOnes_xor, BitVec.toNat_not, BitVec.toNat_ofInt, IntKind.wrap_i64]
  omega
theorem xor_one {x y : Nat} (hx : x < 256) (hy : y < 256) (h : x ^^^ y = 1) : bits .xor .u8 (x : Int) (y : Int) = 1 := by
  rw [u8_xor_nat x y hx hy, h]; rfl

set_option maxRecDepth 100000 in
set_option maxHeartbeats 1000000 in
theorem numSigns_walk (w : World) (v : Int) (hv : I64 v) :
    Calls Try.prog 8 #[.int .i64 v] w fun e w' => e = .returned (.bool true) ∧ Below w.heap.size w w' := by
  have hv' : I64 (-v - 1) := by unfold I64 at *; omega
  have hsg : IntKind.i64.signed = true := rfl
  have HT := Lib.hid (turned hv)
  go_enter Try.func8, Try.ntmps8
  go_wp2_with fail
  refine (awake_any _).mono ?_
  rintro e w1 ⟨rfl, b1⟩
  go_wp2_with fail
  refine (putInt_any _ _ hv).mono ?_
  rintro e w2 ⟨Ax, nx, cx, rfl, x2, b2⟩
  have B2 := onto b1 b2
  clear b1 b2
  go_wp2_with fail
  rw [HT.out]
  refine (putInt_any _ _ hv').mono ?_
  rintro e w3 ⟨Ay, ny, cy, rfl, y3, b3⟩
  have x3 := x2.on b3
  have B3 := onto B2 b3
  clear x2 b3 B2
  go_wp2_with fail
  refine (getInt_any _ _ _ _ _ x3).mono ?_
  rintro e w4 ⟨rfl, b4⟩
  have g := Nm.get_put (zig v) [] (zig_lt hv)
  rw [List.append_nil] at g
  rw [g, x3.1, unzig_zig]
  clear g
  have x4 := x3.on b4
  have y4 := y3.on b4
  have B4 := onto B3 b4
  clear x3 y3 b4 B3
  go_wp2_with fail
  refine (getInt_any _ _ _ _ _ y4).mono ?_
  rintro e w5 ⟨rfl, b5⟩
  have g := Nm.get_put (zig (-v - 1)) [] (zig_lt hv')
  rw [List.append_nil] at g
  rw [g, y4.1, unzig_zig]
  clear g
  have x5 := x4.on b5
  have y5 := y4.on b5
  have B5 := onto B4 b5
  clear x4 y4 b5 B4
  obtain ⟨x, y, r, hx, hy, hxy⟩ := signs_pair v
  rw [hx] at x5
  rw [hy] at y5
  clear hx hy
  obtain rfl : nx = r.length + 1 := by simpa using x5.1.symm
  obtain rfl : ny = r.length + 1 := by simpa using y5.1.symm
  have hr := r.length
  have kx := x5.2.2.1
  have ky := y5.2.2.1
  have mx := x5.2.1
  have my := y5.2.1
  have hx256 := x5.2.2.2.1 x (by simp)
  have hy256 := y5.2.2.2.1 y (by simp)
  have hX := xor_one hx256 hy256 (hxy hx256 hy256)
  obtain ⟨bx, ox, rfl, _, cellx⟩ := x5.2.2.2.2 (by omega)
  obtain ⟨by_, oy, rfl, _, celly⟩ := y5.2.2.2.2 (by omega)
  have cx0 : w5.cell? ⟨bx, ox, none⟩ = some (.int .u8 (x : Int)) := cellx 0 x rfl
  have cy0 : w5.cell? ⟨by_, oy, none⟩ = some (.int .u8 (y : Int)) := celly 0 y rfl
  clear cellx celly hxy
  have HT' := HT.out
  clear HT
  go_wp2_with fail
  have i0 : (0 : Int) < (r.length : Int) + 1 := by omega
  have f1 : (1 : Int) ≤ ((r.length + 1 : Nat) : Int) := by omega
  have f2 : (1 : Int) ≤ (r.length : Int) + 1 := by omega
  have f3 : (0 : Int) ≤ (r.length : Int) := by omega
  have hXe : (bits .xor .u8 (x : Int) (y : Int) == 1) = true := by rw [hX]; rfl
  by_cases h0 : r.length = 0
  · have h0' : r = [] := List.eq_nil_of_length_eq_zero h0
    subst h0'
    clear h0
    by_cases hcx : cx = 1
    · subst hcx
      by_cases hcy : cy = 1
      · subst hcy
        go_quiet ((go_at_call 13; exact Calls.quiet_of (same_eq _ _ _ _ _ _ _ [] (Bs.nil_ _ _ _ (by unfold maxLen; omega)) (Bs.nil_ _ _ _ (by unfold maxLen; omega)))))
        go_wp2
        go_ret
        exact ⟨rfl, below_drewN B5 _⟩
      · have hcy' : ¬ (cy : Int) = 1 := by omega
        go_quiet ((go_at_call 13; exact Calls.quiet_of (same_eq _ _ _ _ _ _ _ [] (Bs.nil_ _ _ _ (by unfold maxLen; omega)) (Bs.nil_ _ _ _ (by omega)))))
        go_wp2
        go_ret
        exact ⟨rfl, below_drewN B5 _⟩
    · have hcx' : ¬ (cx : Int) = 1 := by omega
      by_cases hcy : cy = 1
      · subst hcy
        go_quiet ((go_at_call 13; exact Calls.quiet_of (same_eq _ _ _ _ _ _ _ [] (Bs.nil_ _ _ _ (by omega)) (Bs.nil_ _ _ _ (by unfold maxLen; omega)))))
        go_wp2
        go_ret
        exact ⟨rfl, below_drewN B5 _⟩
      · have hcy' : ¬ (cy : Int) = 1 := by omega
        go_quiet ((go_at_call 13; exact Calls.quiet_of (same_eq _ _ _ _ _ _ _ [] (Bs.nil_ _ _ _ (by omega)) (Bs.nil_ _ _ _ (by omega)))))
        go_wp2
        go_ret
        exact ⟨rfl, below_drewN B5 _⟩
  · have T1 := x5.cut_far 1 (by omega)
    have T2 := y5.cut_far 1 (by omega)
    simp only [Nat.add_sub_cancel, List.drop_succ_cons, List.drop_zero] at T1 T2
    have hcx : ¬ cx = 1 := by omega
    have hcy : ¬ cy = 1 := by omega
    go_quiet ((go_at_call 13; exact Calls.quiet_of (same_eq _ _ _ _ _ _ _ r (T1.drewN _) (T2.drewN _))))
    go_wp2
    go_ret
    exact ⟨rfl, below_drewN B5 _⟩

end Go.Proofs.Ythibflmmpkijkaa
