/-
  NumShort: every number, short, and with a sign, is what the document says, and is got again, whatever stands behind.
-/
import Derived.Test.YthibflmmpkijkaaAwake
import Derived.Test.YthibflmmpkijkaaApp
import Derived.Test.YthibflmmpkijkaaSame
namespace Go.Proofs.Ythibflmmpkijkaa
open Go.RowKit
set_option linter.unusedVariables false

theorem bv_append (a b : List Nat) : bv (a ++ b) = bv a ++ bv b := by simp [bv]
/-- What two appends onto an empty row of the call's own leave, read as bytes. -/
theorem two_reads {w : World} {base e n m : Nat} {v : Value} {x y : List Nat} (h : w.ownsRow base e 1 v (n + m) (bv x ++ bv y)) (hx : x.length = n) (hy : y.length = m) (h1 : ∀ z ∈ x, z < 256) (h2 : ∀ z ∈ y, z < 256) :
    ∃ A c, v = .slice A (n + m) c ∧ Bs w A (n + m) c (x ++ y) := by
  rw [← bv_append, ← hx, ← hy, ← List.length_append] at h
  obtain ⟨A, c, hv, hb⟩ := Bs.of_own h (fun z hz => by
    rcases List.mem_append.1 hz with h | h
    · exact h1 z h
    · exact h2 z h)
  rw [List.length_append, hx, hy] at hv hb
  exact ⟨A, c, hv, hb⟩

set_option maxRecDepth 100000 in
set_option maxHeartbeats 1000000 in
theorem numShort_walk (w : World) (v : Nat) (u : Int) (A : Option Addr) (n c : Nat) (l : List Nat) (hv : L64 v) (hu : I64 u) (hb : Bs w A n c l) :
    Calls Try.prog 3 #[.int .u64 (v : Int), .int .i64 u, .slice A n c] w fun e w' => e = .returned (.bool true) ∧ Below w.heap.size w w' := by
  have hn := hb.2.1
  have hm := hb.2.2.1
  unfold maxLen at hm
  obtain ⟨i0, hi, hz0, hz1, hz2⟩ := info_parts Try.info5
  by_cases hbig : 64 < n
  · have hd : (64 : Int) < (n : Int) := by omega
    go_enter Try.func3, Try.ntmps3
    go_wp2_with fail
    refine (awake_any _).mono ?_
    rintro e w1 ⟨rfl, b1⟩
    go_wp2
    go_ret
    exact ⟨rfl, b1⟩
  · have hd : ¬ (64 : Int) < (n : Int) := by omega
    go_enter Try.func3, Try.ntmps3
    go_wp2_with fail
    refine (awake_any _).mono ?_
    rintro e w1 ⟨rfl, b1⟩
    have s1 := hb.on b1
    go_wp2_with fail
    refine (put_any _ _ hv).mono ?_
    rintro e w2 ⟨Ax, nx, cx, rfl, x2, b2⟩
    have s2 := s1.on b2
    have B2 := onto b1 b2
    clear b1 b2 s1
    go_wp2_with fail
    refine (putInt_any _ _ hu).mono ?_
    rintro e w3 ⟨Ay, ny, cy, rfl, y3, b3⟩
    have s3 := s2.on b3
    have x3 := x2.on b3
    have B3 := onto B2 b3
    clear b3 s2 x2 B2
    go_wp2_with fail
    refine (refPut_any _ _ hv).mono ?_
    rintro e w4 ⟨Ap, np, cp, rfl, p4, b4⟩
    have s4 := s3.on b4
    have x4 := x3.on b4
    have y4 := y3.on b4
    have B4 := onto B3 b4
    clear b4 s3 x3 y3 B3
    go_wp2_with fail
    refine (same_any _ _ _ _ _ _ _ _ _ x4 p4).mono ?_
    rintro e w5 ⟨rfl, m5, rfl⟩
    rw [show decide (Nm.put v = Nm.put v) = true from by simp]
    have s5 := s4.drewN m5
    have x5 := x4.drewN m5
    have y5 := y4.drewN m5
    have B5 := below_drewN B4 m5
    clear s4 x4 y4 B4 p4
    generalize w4.drewN m5 = w5 at *
    go_wp2_with fail
    refine (refPutInt_any _ _ hu).mono ?_
    rintro e w6 ⟨Aq, nq, cq, rfl, q6, b6⟩
    have s6 := s5.on b6
    have x6 := x5.on b6
    have y6 := y5.on b6
    have B6 := onto B5 b6
    clear b6 s5 x5 y5 B5
    go_wp2_with fail
    refine (same_any _ _ _ _ _ _ _ _ _ y6 q6).mono ?_
    rintro e w7 ⟨rfl, m7, rfl⟩
    rw [show decide (Nm.put (zig u) = Nm.put (zig u)) = true from by simp]
    have s7 := s6.drewN m7
    have x7 := x6.drewN m7
    have y7 := y6.drewN m7
    have B7 := below_drewN B6 m7
    clear s6 x6 y6 B6 q6
    generalize w6.drewN m7 = w7 at *
    have lx := x7.1
    have ly := y7.1
    have ll := s7.1
    have hx10 := Nm.put_len v
    have hy10 := Nm.put_len (zig u)
    have hnx : nx ≤ 10 := by omega
    have hny : ny ≤ 10 := by omega
    have LX := Lib.hid lx
    have LY := Lib.hid ly
    have LL := Lib.hid ll
    clear lx ly ll hx10 hy10
    have O0 := World.ownsRow_lit (base := w7.heap.size) (e := 5) (size := 1) w7 #[] 0 (Nat.le_refl _) (by unfold maxLen; omega) rfl
    have x8 := x7.alloc (.cells #[] 5)
    go_wp2_with (first | (at_builtin; refine wpList_append_bs _ rfl (.tmp 35) (.tmp 36) 23 rfl w7.heap.size 5 i0 (.int .u8 0) Try.underlying23 hi hz0 hz1 hz2 rfl _ _ _ rfl O0 _ _ _ _ rfl x8 (by omega) (by simp) ?_; intro v1 w9 O1 g1; have b9 := below_own ((Below.refl w7.heap.size w7).alloc (Nat.le_refl _) _) O0 g1 (by simp) (Nat.le_refl _); have z9 := b9.size; clear g1) | (at_builtin; refine wpList_append_bs _ rfl (.tmp 37) (.tmp 38) 23 rfl w7.heap.size 5 i0 (.int .u8 0) Try.underlying23 hi hz0 hz1 hz2 rfl _ _ _ rfl O1 _ _ _ _ rfl (s7.on b9) (by omega) z9 ?_; intro v2 w10 O2 g2; have b10 := below_own b9 O1 g2 z9 (Nat.le_refl _); clear g2 O1 b9))
    have O2' : w10.ownsRow w7.heap.size 5 1 v2 (nx + n) (bv (Nm.put v) ++ bv l) := by simpa using O2
    obtain ⟨A2, c2, rfl, r10⟩ := two_reads O2' LX.out LL.out (Nm.put_lt v) s7.2.2.2.1
    have s10 := s7.on b10
    have y10 := y7.on b10
    have B10 := onto B7 b10
    clear O0 O2 O2' x8 x7 s7 y7 b10 B7 z9
    refine (get_any _ _ _ _ _ r10).mono ?_
    rintro e w11 ⟨rfl, b11⟩
    rw [Nm.get_put v l hv, LX.out]
    have s11 := s10.on b11
    have y11 := y10.on b11
    have B11 := onto B10 b11
    clear r10 b11 s10 y10 B10
    have O0 := World.ownsRow_lit (base := w11.heap.size) (e := 5) (size := 1) w11 #[] 0 (Nat.le_refl _) (by unfold maxLen; omega) rfl
    have y12 := y11.alloc (.cells #[] 5)
    go_wp2_with (first | (at_builtin; refine wpList_append_bs _ rfl (.tmp 44) (.tmp 45) 23 rfl w11.heap.size 5 i0 (.int .u8 0) Try.underlying23 hi hz0 hz1 hz2 rfl _ _ _ rfl O0 _ _ _ _ rfl y12 (by omega) (by simp) ?_; intro v3 w13 O3 g3; have b13 := below_own ((Below.refl w11.heap.size w11).alloc (Nat.le_refl _) _) O0 g3 (by simp) (Nat.le_refl _); have z13 := b13.size; clear g3) | (at_builtin; refine wpList_append_bs _ rfl (.tmp 46) (.tmp 47) 23 rfl w11.heap.size 5 i0 (.int .u8 0) Try.underlying23 hi hz0 hz1 hz2 rfl _ _ _ rfl O3 _ _ _ _ rfl (s11.on b13) (by omega) z13 ?_; intro v4 w14 O4 g4; have b14 := below_own b13 O3 g4 z13 (Nat.le_refl _); clear g4 O3 b13))
    have O4' : w14.ownsRow w11.heap.size 5 1 v4 (ny + n) (bv (Nm.put (zig u)) ++ bv l) := by simpa using O4
    obtain ⟨A4, c4, rfl, r14⟩ := two_reads O4' LY.out LL.out (Nm.put_lt _) s11.2.2.2.1
    have B14 := onto B11 b14
    clear O0 O4 O4' y12 s11 y11 b14 B11 z13
    refine (getInt_any _ _ _ _ _ r14).mono ?_
    rintro e w15 ⟨rfl, b15⟩
    rw [Nm.get_put (zig u) l (zig_lt hu), LY.out, unzig_zig]
    have B15 := onto B14 b15
    clear r14 b15 B14
    go_wp2
    go_ret
    exact ⟨rfl, B15⟩

end Go.Proofs.Ythibflmmpkijkaa
