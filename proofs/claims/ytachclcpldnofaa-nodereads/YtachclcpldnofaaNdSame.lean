/-
  The statements' same: a leaf of the program's, and of the document's.
-/
import Derived.Test.YtachclcpldnofaaNdRfMay
import Derived.Test.YtachclcpldnofaaSame
namespace Go.Proofs.Ytachclcpldnofaa.Nn
open Go.RowKit
set_option linter.unusedVariables false

set_option maxRecDepth 100000 in
set_option maxHeartbeats 2000000 in
theorem same_leaf (w : World) (q : Nat) (x : Nv) (cs : List Nd.Cell) (hl : LeafAt w q cs) (hb : x.br = false) (hc : Cs w x.cA x.cn x.cc cs) (h9 : cs.length ≤ 100000) :
    Calls Try.prog 11 #[.iface 52 (.pointer (some ⟨q, 0, none⟩)), x.val] w fun e w' => e = .returned (.bool true) ∧ Below w.heap.size w w' := by
  obtain ⟨br, cA, cn, cc_, kA, kn, kc, pA, pn, pc⟩ := x
  simp only at hb hc
  subst hb
  obtain ⟨hq, A, n, c, cq, hr⟩ := hl
  have hn := hr.len
  have hcn := hc.len
  obtain rfl : cn = n := by omega
  have B0 : Below w.heap.size w (w.alloc (.cells #[.bool false, .slice cA cn cc_, .slice kA kn kc, .slice pA pn pc] 33)) := (Below.refl _ _).alloc (Nat.le_refl _) _
  have Z0 := heap_alloc_new w (.cells #[.bool false, .slice cA cn cc_, .slice kA kn kc, .slice pA pn pc] 33)
  obtain ⟨q0, q1, q2, q3⟩ := four_cells Z0
  have cq0 := (B0.cell (p := ⟨q, 0, none⟩) hq).trans cq
  have HR := Lib.hid (hr.on B0)
  have HC := Lib.hid (hc.on B0)
  have HB0 := Lib.hid B0
  have HQ := Lib.hid (And.intro q1 cq0)
  have ta1 : ∀ W : World, (Instr.typeAssert (.iface 52 (.pointer (some ⟨q, 0, none⟩))) 25 46 true).run Try.prog W = .ok (.tuple #[.pointer none, .bool false]) W := fun _ => by kernel_rfl
  have ta2 : ∀ W : World, (Instr.typeAssert (.iface 52 (.pointer (some ⟨q, 0, none⟩))) 25 52 true).run Try.prog W = .ok (.tuple #[.pointer (some ⟨q, 0, none⟩), .bool true]) W := fun _ => by kernel_rfl
  have dn : ((cn : Int) != (cn : Int)) = false := by simp
  clear B0 Z0 hc hr cq
  unfold Nv.val
  simp only
  go_enter Try.func11, Try.ntmps11
  go_wp2_with fail
  generalize w.alloc (.cells #[.bool false, .slice cA cn cc_, .slice kA kn kc, .slice pA pn pc] 33) = w0 at *
  go_quiet (fail)
  clear q0 q1 q2 q3 cq0
  go_wp2_with fail
  go_loopw [11] (fun i wr => ∃ k : Nat, k ≤ cn ∧ i = .int .i64 (k : Int) ∧ Below w0.heap.size w0 wr) (fun i _ => cn - (intOf i).toNat)
  case atStart => exact ⟨0, Nat.zero_le _, rfl, below_drewN (Below.refl _ _) _⟩
  case round =>
    obtain ⟨k, hk, rfl, hbel⟩ := hrel
    have c1 := (hbel.cell (p := ⟨w.heap.size, 1, none⟩) (cell_lt HQ.out.1)).trans HQ.out.1
    have c2 := (hbel.cell (p := ⟨q, 0, none⟩) (cell_lt HQ.out.2)).trans HQ.out.2
    by_cases hlt : k < cn
    · obtain ⟨b, off, x, y, rfl, hbl, hy, hcr, a0, a1, a2, a3⟩ := HR.out.get hlt
      obtain ⟨b', off', x', y', rfl, hbl', hy', hcr', d0, d1, d2, d3⟩ := HC.out.get hlt
      rw [hy] at hy'
      injection hy' with hy'
      subst hy'
      obtain ⟨⟨A1, n1, k1, e1, r1, _⟩, ⟨A2, n2, k2, e2, r2, _⟩, e3, e4, _, _⟩ := hcr
      obtain ⟨⟨A3, n3, k3, e5, r3, _⟩, ⟨A4, n4, k4, e6, r4, _⟩, e7, e8, _, _⟩ := hcr'
      rw [e1] at a0
      rw [e2] at a1
      rw [e3] at a2
      rw [e4] at a3
      rw [e5] at d0
      rw [e6] at d1
      rw [e7] at d2
      rw [e8] at d3
      have f0 := (hbel.cell (p := ⟨b, off + k * 4, none⟩) hbl).trans a0
      have f1 := (hbel.cell (p := ⟨b, off + k * 4 + 1, none⟩) hbl).trans a1
      have f2 := (hbel.cell (p := ⟨b, off + k * 4 + 2, none⟩) hbl).trans a2
      have f3 := (hbel.cell (p := ⟨b, off + k * 4 + 3, none⟩) hbl).trans a3
      have g0 := (hbel.cell (p := ⟨b', off' + k * 4, none⟩) hbl').trans d0
      have g1 := (hbel.cell (p := ⟨b', off' + k * 4 + 1, none⟩) hbl').trans d1
      have g2 := (hbel.cell (p := ⟨b', off' + k * 4 + 2, none⟩) hbl').trans d2
      have g3 := (hbel.cell (p := ⟨b', off' + k * 4 + 3, none⟩) hbl').trans d3
      have hj : (k : Int) < (cn : Int) := by omega
      have hsz := hbel.size
      have V1 := (Below.refl wr.heap.size wr).alloc (Nat.le_refl _) (.cells #[.slice A1 n1 k1, .slice A2 n2 k2, .int .i64 y.size, .int .i64 y.head] 64)
      have h1 := (V1.cell (p := ⟨w.heap.size, 1, none⟩) (cell_lt c1)).trans c1
      have i0 := (V1.cell (p := ⟨b', off' + k * 4, none⟩) (cell_lt g0)).trans g0
      have i1 := (V1.cell (p := ⟨b', off' + k * 4 + 1, none⟩) (cell_lt g1)).trans g1
      have i2 := (V1.cell (p := ⟨b', off' + k * 4 + 2, none⟩) (cell_lt g2)).trans g2
      have i3 := (V1.cell (p := ⟨b', off' + k * 4 + 3, none⟩) (cell_lt g3)).trans g3
      have V2 := V1.alloc (by simp) (.cells #[.slice A3 n3 k3, .slice A4 n4 k4, .int .i64 y.size, .int .i64 y.head] 51)
      have B2 := hbel.trans (V2.mono hsz)
      have z1 := heap_alloc_new wr (.cells #[.slice A1 n1 k1, .slice A2 n2 k2, .int .i64 y.size, .int .i64 y.head] 64)
      have z2 := heap_alloc_new (wr.alloc (.cells #[.slice A1 n1 k1, .slice A2 n2 k2, .int .i64 y.size, .int .i64 y.head] 64)) (.cells #[.slice A3 n3 k3, .slice A4 n4 k4, .int .i64 y.size, .int .i64 y.head] 51)
      have z1' := (((Below.refl _ _).alloc (Nat.le_refl _) (.cells #[.slice A3 n3 k3, .slice A4 n4 k4, .int .i64 y.size, .int .i64 y.head] 51)).block wr.heap.size (by simp)).trans z1
      have s1 : (wr.alloc (.cells #[.slice A1 n1 k1, .slice A2 n2 k2, .int .i64 y.size, .int .i64 y.head] 64)).heap.size = wr.heap.size + 1 := by simp
      rw [s1] at z2
      have RS := Lib.hid (And.intro (r1.on B2) (And.intro (r2.on B2) (And.intro (r3.on B2) (r4.on B2))))
      have y1 : (y.size != y.size) = false := by simp
      have y2 : (y.head != y.head) = false := by simp
      have HB2 := Lib.hid B2
      have HZ := Lib.hid (And.intro z1' z2)
      clear a0 a1 a2 a3 d0 d1 d2 d3 hbel V1 V2 B2 z1 z2 z1' r1 r2 r3 r4 e1 e2 e3 e4 e5 e6 e7 e8 hy
      go_upto_region 24 with fail
      generalize (wr.alloc (.cells #[.slice A1 n1 k1, .slice A2 n2 k2, .int .i64 y.size, .int .i64 y.head] 64)).alloc (.cells #[.slice A3 n3 k3, .slice A4 n4 k4, .int .i64 y.size, .int .i64 y.head] 51) = w2 at *
      obtain ⟨u0, u1, u2, u3⟩ := four_cells HZ.out.1
      obtain ⟨v0, v1, v2, v3⟩ := four_cells HZ.out.2
      have C1 := Lib.hid (same_eq w2 _ _ _ _ _ _ _ RS.out.1 RS.out.2.2.1)
      clear c1 c2 f0 f1 f2 f3 g0 g1 g2 g3 h1 i0 i1 i2 i3 s1
      go_wp2_with fail
      refine C1.out.mono ?_
      rintro e w3 ⟨rfl, m1, rfl⟩
      have C2 := Lib.hid (same_eq (w2.drewN m1) _ _ _ _ _ _ _ (Bs.drewN RS.out.2.1 m1) (Bs.drewN RS.out.2.2.2 m1))
      clear C1
      go_wp2_with fail
      refine C2.out.mono ?_
      rintro e w4 ⟨rfl, m2, rfl⟩
      have B4 := below_drewN HB2.out (m1 + m2)
      clear C2
      go_wp2
      go_roundw
      case rel => exact ⟨k + 1, by omega, by go_num, B4⟩
      case measure => simp [intOf]; omega
    · obtain rfl : k = cn := by omega
      have BB := Lib.hid (HB0.out.trans (hbel.mono HB0.out.size))
      clear hbel
      go_wp2
      go_ret
      exact ⟨rfl, BB.out⟩

set_option maxRecDepth 100000 in
set_option maxHeartbeats 2000000 in
theorem same_branch (w : World) (q : Nat) (x : Nv) (ks : List (List Nat)) (ps : List Int) (hl : BranchAt w q ks ps) (hb : x.br = true) (hk : Ks w x.kA x.kn x.kc ks) (hp : Is w x.pA x.pn x.pc ps) (h9 : ks.length ≤ 100000) (p9 : ps.length ≤ 100000) :
    Calls Try.prog 11 #[.iface 46 (.pointer (some ⟨q, 0, none⟩)), x.val] w fun e w' => e = .returned (.bool true) ∧ Below w.heap.size w w' := by
  obtain ⟨br, cA, cn, cc_, kA, kn, kc, pA, pn, pc⟩ := x
  simp only at hb hk hp
  subst hb
  obtain ⟨hq, A, n, c, A', n', c', cq, cq', hr, hi⟩ := hl
  have hn := hr.len
  have hkn := hk.len
  have hn' := hi.len
  have hpn := hp.len
  obtain rfl : kn = n := by omega
  obtain rfl : pn = n' := by omega
  have B0 : Below w.heap.size w (w.alloc (.cells #[.bool true, .slice cA cn cc_, .slice kA kn kc, .slice pA pn pc] 33)) := (Below.refl _ _).alloc (Nat.le_refl _) _
  have Z0 := heap_alloc_new w (.cells #[.bool true, .slice cA cn cc_, .slice kA kn kc, .slice pA pn pc] 33)
  obtain ⟨q0, q1, q2, q3⟩ := four_cells Z0
  have cq0 := (B0.cell (p := ⟨q, 0, none⟩) hq).trans cq
  have cq1 := (B0.cell (p := ⟨q, 1, none⟩) hq).trans cq'
  have HR := Lib.hid (hr.on B0)
  have HI := Lib.hid (hi.on B0)
  have HK := Lib.hid (hk.on B0)
  have HP := Lib.hid (hp.on B0)
  have HB0 := Lib.hid B0
  have HQ := Lib.hid (And.intro q2 (And.intro q3 (And.intro cq0 cq1)))
  have ta1 : ∀ W : World, (Instr.typeAssert (.iface 46 (.pointer (some ⟨q, 0, none⟩))) 25 46 true).run Try.prog W = .ok (.tuple #[.pointer (some ⟨q, 0, none⟩), .bool true]) W := fun _ => by kernel_rfl
  have dn : ((kn : Int) != (kn : Int)) = false := by simp
  have dp : ((pn : Int) != (pn : Int)) = false := by simp
  clear B0 Z0 hk hp hr hi cq cq'
  unfold Nv.val
  simp only
  go_enter Try.func11, Try.ntmps11
  go_wp2_with fail
  generalize w.alloc (.cells #[.bool true, .slice cA cn cc_, .slice kA kn kc, .slice pA pn pc] 33) = w0 at *
  go_quiet (fail)
  clear q0 q1 q2 q3 cq0 cq1
  go_wp2_with fail
  go_loopw [7] (fun i wr => ∃ k : Nat, k ≤ kn ∧ i = .int .i64 (k : Int) ∧ Below w0.heap.size w0 wr) (fun i _ => kn - (intOf i).toNat)
  case atStart => exact ⟨0, Nat.zero_le _, rfl, below_drewN (Below.refl _ _) _⟩
  case round =>
    obtain ⟨k, hk, rfl, hbel⟩ := hrel
    have c1 := (hbel.cell (p := ⟨w.heap.size, 2, none⟩) (cell_lt HQ.out.1)).trans HQ.out.1
    have c2 := (hbel.cell (p := ⟨q, 0, none⟩) (cell_lt HQ.out.2.2.1)).trans HQ.out.2.2.1
    by_cases hlt : k < kn
    · obtain ⟨b, off, A1, n1, k1, y, rfl, hbl, hy, a0, r1, _⟩ := HR.out.get hlt
      obtain ⟨b', off', A2, n2, k2, y', rfl, hbl', hy', d0, r2, _⟩ := HK.out.get hlt
      rw [hy] at hy'
      injection hy' with hy'
      subst hy'
      have f0 := (hbel.cell (p := ⟨b, off + k, none⟩) hbl).trans a0
      have g0 := (hbel.cell (p := ⟨b', off' + k, none⟩) hbl').trans d0
      have hj : (k : Int) < (kn : Int) := by omega
      have hj0 : (0 : Int) ≤ (k : Int) := by omega
      have T1 := Lib.hid (r1.on hbel)
      have T2 := Lib.hid (r2.on hbel)
      have HBL := Lib.hid hbel
      clear a0 d0 r1 r2 hy hbel
      go_wp2_with fail
      go_quiet ((go_at_call 10; exact Calls.quiet_of (same_eq _ _ _ _ _ _ _ y (Bs.drewN T1.out _) (Bs.drewN T2.out _))))
      go_wp2
      go_roundw
      case rel => exact ⟨k + 1, by omega, by go_num, below_drewN HBL.out _⟩
      case measure => simp [intOf]; omega
    · obtain rfl : k = kn := by omega
      have HBL := Lib.hid hbel
      clear hbel
      go_wp2
      go_loopw [8] (fun i wr => ∃ k : Nat, k ≤ pn ∧ i = .int .i64 (k : Int) ∧ Below w0.heap.size w0 wr) (fun i _ => pn - (intOf i).toNat)
      case atStart => exact ⟨0, Nat.zero_le _, rfl, HBL.out⟩
      case round =>
        clear c1 c2
        obtain ⟨j, hj, rfl, hbel⟩ := hrel
        have c1 := (hbel.cell (p := ⟨w.heap.size, 3, none⟩) (cell_lt HQ.out.2.1)).trans HQ.out.2.1
        have c2 := (hbel.cell (p := ⟨q, 1, none⟩) (cell_lt HQ.out.2.2.2)).trans HQ.out.2.2.2
        by_cases hlt' : j < pn
        · obtain ⟨b, off, z, rfl, hbl, hz, _, a0⟩ := HI.out.get hlt'
          obtain ⟨b', off', z', rfl, hbl', hz', _, d0⟩ := HP.out.get hlt'
          rw [hz] at hz'
          injection hz' with hz'
          subst hz'
          have f0 := (hbel.cell (p := ⟨b, off + j, none⟩) hbl).trans a0
          have g0 := (hbel.cell (p := ⟨b', off' + j, none⟩) hbl').trans d0
          have hj1 : (j : Int) < (pn : Int) := by omega
          have hj0 : (0 : Int) ≤ (j : Int) := by omega
          have dz : (z != z) = false := by simp
          have HBJ := Lib.hid hbel
          clear a0 d0 hz hbel
          go_wp2_with fail
          go_quiet (fail)
          go_wp2
          go_roundw
          case rel => exact ⟨j + 1, by omega, by go_num, below_drewN HBJ.out _⟩
          case measure => simp [intOf]; omega
        · obtain rfl : j = pn := by omega
          have BB := Lib.hid (HB0.out.trans (hbel.mono HB0.out.size))
          clear hbel
          go_wp2
          go_ret
          exact ⟨rfl, BB.out⟩
end Go.Proofs.Ytachclcpldnofaa.Nn
