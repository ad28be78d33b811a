/-
  The document's page: four, Frame, Open.
-/
import Derived.Test.YtcpgmglpgffhdaaGrPlain
import Derived.Test.YtcpgmglpgffhdaaPgRow
import Derived.Test.YtcpgmglpgffhdaaNbKey
import Derived.Test.YtcpgmglpgffhdaaSame
import Derived.Test.YtcpgmglpgffhdaaCrMore
namespace Go.Proofs.Ytcpgmglpgffhdaa
open Go.RowKit
set_option linter.unusedVariables false

theorem be_drop (v : Nat) : (Nm.be 8 v).drop 4 = Nm.be 4 v := by
  rw [be_cons, be_cons, be_cons, be_cons]; rfl
theorem refFour_any (w : World) (v : Nat) (hv : L32 v) :
    Calls Try.prog 61 #[.int .u32 (v : Int)] w fun e w' => ∃ A c, e = .returned (.slice A 4 c) ∧ Bs w' A 4 c (Nm.be 4 v) ∧ Below w.heap.size w w' := by
  have hl : L64 v := by unfold L64; unfold L32 at hv; omega
  have HE : Hid (IntKind.u64.wrap (v : Int) = (v : Int)) := by
    show _ = _
    unfold L64 at hl; exact IntWalk.u64_in _ ⟨by omega, by omega⟩
  go_enter Try.func61, Try.ntmps61
  go_wp2_with fail
  rw [HE.out]
  refine (refKey_any _ v hl).mono ?_
  rintro e w1 ⟨A, c, rfl, hb, B1⟩
  obtain ⟨b, off, rfl, _, _⟩ := hb.2.2.2.2 (by omega)
  have hc := hb.2.1
  have hcm := hb.2.2.1
  unfold maxLen at hcm
  have S := hb.cut_far 4 (by omega)
  rw [be_drop] at S
  have S' := Lib.hid S
  clear hb S
  go_wp2
  go_ret
  exact ⟨_, _, rfl, S'.out, B1⟩

theorem refFrame_no (w : World) (no : Int) (A : Option Addr) (n c : Nat) (h : ¬ ((0 ≤ no ∧ no ≤ 2147483647) ∧ n ≤ 1016)) :
    Calls Try.prog 41 #[.int .i64 no, .slice A n c] w fun e w' => e = .returned (.tuple #[.slice none 0 0, .int .i64 1]) ∧ w = w' := by
  by_cases h0 : 0 ≤ no
  · by_cases h1 : no ≤ 2147483647
    · have hn : (n : Int) > 1016 := by have : ¬ n ≤ 1016 := fun h' => h ⟨⟨h0, h1⟩, h'⟩
                                       omega
      have d0 : decide (no < 0) = false := by simp; omega
      have d1 : decide (no > 2147483647) = false := by simp; omega
      have d1' : decide (2147483647 < no) = false := by simp; omega
      go_enter Try.func41, Try.ntmps41
      go_wp2
      go_ret2
      exact ⟨rfl, rfl⟩
    · have d0 : decide (no < 0) = false := by simp; omega
      have d1 : no > 2147483647 := by omega
      go_enter Try.func41, Try.ntmps41
      go_wp2
      go_ret2
      exact ⟨rfl, rfl⟩
  · have d0 : no < 0 := by omega
    go_enter Try.func41, Try.ntmps41
    go_wp2
    go_ret2
    exact ⟨rfl, rfl⟩

set_option maxRecDepth 100000 in
set_option maxHeartbeats 400000 in
theorem refFrame_any (w : World) (no : Nat) (A : Option Addr) (n c : Nat) (l : List Nat) (hb : Bs w A n c l) (hno : no ≤ 2147483647) (hn : n ≤ 1016) :
    Calls Try.prog 41 #[.int .i64 (no : Int), .slice A n c] w fun e w' => ∃ A' c', e = .returned (.tuple #[.slice A' 1024 c', .int .i64 0]) ∧ Bs w' A' 1024 c' (Pg.page no l) ∧ Below w.heap.size w w' := by
  obtain ⟨i0, hi, hz0, hz1, hz2⟩ := info_parts Try.info5
  have hl := hb.1
  have hlt := hb.2.2.2.1
  have hln : l.length ≤ 1016 := by omega
  have HLT := Lib.hid hlt
  have HLN := Lib.hid hln
  have HL := Lib.hid hl
  have h32 : L32 no := by unfold L32; omega
  have O0 : Hid ((w.alloc (.cells #[] 5)).ownsRow w.heap.size 5 1 (.slice (some ⟨w.heap.size, 0, none⟩) 0 0) 0 []) := World.ownsRow_made w #[] 0 (Nat.le_refl _) (Nat.zero_le _) rfl
  have S0 := Lib.hid (hb.alloc (.cells #[] 5))
  have B0 : Below w.heap.size w (w.alloc (.cells #[] 5)) := (Below.refl _ _).alloc (Nat.le_refl _) _
  have n1 : ¬ (n : Int) > 1016 := by omega
  clear hl hlt hln hb
  go_enter Try.func41, Try.ntmps41
  go_wp2_with (at_builtin; refine wpList_append_bs _ rfl _ _ 25 rfl w.heap.size 5 i0 (.int .u8 0) Try.underlying25 hi hz0 hz1 hz2 rfl _ _ _ rfl O0.out _ _ _ _ rfl S0.out (by omega) (by simp) ?_; intro v1 w1 O1 g1)
  rw [Nat.zero_add, List.nil_append] at O1
  have B1 : Below w.heap.size w w1 := below_own B0 O0.out g1 (by simp) (Nat.le_refl _)
  clear O0 S0 B0 g1
  go_loopw [6] (fun v wr => ∃ (k : Nat) (A : Option Addr) (c : Nat), v = .slice A k c ∧ n ≤ k ∧ k ≤ 1016 ∧ k ≤ c ∧ wr.ownsRow w.heap.size 5 1 (.slice A k c) k (bv (l ++ List.replicate (k - n) 0)) ∧ Below w.heap.size w wr) (fun v _ => 1016 - lenV v)
  case atStart =>
    obtain ⟨A1, c1, rfl, hc, _⟩ := own_form O1
    exact ⟨n, A1, c1, rfl, Nat.le_refl _, hn, hc, by simpa using O1, B1⟩
  case round =>
    clear O1 B1
    obtain ⟨k, A1, c1, rfl, hnk, hk, hkc, hown, hbel⟩ := hrel
    by_cases hlt : k < 1016
    · have hsz := hbel.size
      have S1 := Lib.hid (Bs.lit wr [0] (by decide) (by unfold maxLen; decide) 5 (0, 0))
      have O2 := Lib.hid (hown.alloc (.cells #[Value.int .u8 0] 5))
      have B2 := hbel.alloc hsz (.cells #[Value.int .u8 0] 5)
      have k1 : (k : Int) < 1016 := by omega
      go_wp2_with (at_builtin; refine wpList_append_bs _ rfl _ _ 25 rfl w.heap.size 5 i0 (.int .u8 0) Try.underlying25 hi hz0 hz1 hz2 rfl _ _ _ rfl O2.out _ _ _ _ rfl S1.out (by simp; omega) (by simp; omega) ?_; intro v3 w3 O3 g3)
      have B3 : Below w.heap.size w w3 := below_own B2 O2.out g3 (by simp; omega) (Nat.le_refl _)
      have e1 : bv (l ++ List.replicate (k - n) 0) ++ bv [0] = bv (l ++ List.replicate (k + 1 - n) 0) := by
        rw [bv_app, List.append_assoc, show k + 1 - n = (k - n) + 1 by omega, List.replicate_succ']
      rw [e1] at O3
      obtain ⟨A3, c3, rfl, hc3, _⟩ := own_form O3
      clear e1 g3 O2 S1 B2 hown hbel
      go_roundw
      case rel => exact ⟨k + 1, A3, c3, rfl, by omega, by omega, hc3, O3, B3⟩
      case measure => simp [lenV]; omega
    · have hk' : k = 1016 := by omega
      subst hk'
      have e1 : l ++ List.replicate (1016 - n) 0 = Pg.fill l := by rw [← HL.out]; rfl
      rw [e1] at hown
      clear e1 hlt hk
      go_wp2_with fail
      refine (refFour_any _ no h32).mono ?_
      rintro e w2 ⟨A2, c2, rfl, S2, B2⟩
      have O2 := own_on hown B2
      have hB2 := onto hbel B2
      have hsz := hB2.size
      clear hown hbel B2
      go_wp2_with (at_builtin; refine wpList_append_bs _ rfl _ _ 25 rfl w.heap.size 5 i0 (.int .u8 0) Try.underlying25 hi hz0 hz1 hz2 rfl _ _ _ rfl O2 _ _ _ _ rfl S2 (by omega) hsz ?_; intro v3 w3 O3 g3)
      have B3 : Below w.heap.size w w3 := below_own hB2 O2 g3 hsz (Nat.le_refl _)
      rw [bv_app, show Pg.fill l ++ Nm.be 4 no = Pg.ahead no l from rfl] at O3
      obtain ⟨A3, c3, rfl, hc3, hm3⟩ := own_form O3
      have S3 := own_bs O3 (Pg.ahead_len no HLN.out) (Pg.ahead_lt no HLT.out)
      clear O2 g3 S2 hB2 hsz
      refine (refSum_any _ _ _ _ _ S3).mono ?_
      rintro e w4 ⟨rfl, rfl⟩
      have hs : L32 (Cr.sum (Pg.ahead no l)) := Cr.more_lt _ _
      go_wp2_with fail
      refine (refFour_any _ _ hs).mono ?_
      rintro e w5 ⟨A5, c5, rfl, S5, B5⟩
      have O5 := own_on O3 B5
      have hB5 := onto B3 B5
      have hsz := hB5.size
      clear O3 B3 B5 S3
      go_wp2_with (at_builtin; refine wpList_append_bs _ rfl _ _ 25 rfl w.heap.size 5 i0 (.int .u8 0) Try.underlying25 hi hz0 hz1 hz2 rfl _ _ _ rfl O5 _ _ _ _ rfl S5 (by omega) hsz ?_; intro v6 w6 O6 g6)
      have B6 : Below w.heap.size w w6 := below_own hB5 O5 g6 hsz (Nat.le_refl _)
      rw [bv_app, show Pg.ahead no l ++ Nm.be 4 (Cr.sum (Pg.ahead no l)) = Pg.page no l from rfl] at O6
      obtain ⟨A6, c6, rfl, hc6, hm6⟩ := own_form O6
      have S6 := own_bs O6 (Pg.page_len no HLN.out) (Pg.page_lt no HLT.out)
      go_ret2
      exact ⟨_, _, rfl, S6, B6⟩

end Go.Proofs.Ytcpgmglpgffhdaa
