/-
  NodeCells.
-/
import Derived.Test.YtachclcpldnofaaNdSmall
import Derived.Test.YtachclcpldnofaaNdAwake
namespace Go.Proofs.Ytachclcpldnofaa.Nn
open Go.RowKit
set_option linter.unusedVariables false

theorem is_two (w : World) (y z : Int) (hy : I64 y) (hz : I64 z) : Is (w.alloc (.cells #[.int .i64 y, .int .i64 z] 3)) (some ⟨w.heap.size, 0, none⟩) 2 2 [y, z] := by
  refine ⟨⟨rfl, Nat.le_refl _, by unfold maxLen; omega, fun _ => ⟨w.heap.size, 0, rfl, by simp, fun j v hv => ?_⟩⟩, by simpa using ⟨hy, hz⟩⟩
  have h := heap_alloc_new w (.cells #[.int .i64 y, .int .i64 z] 3)
  rw [Nat.zero_add, cell_of_row _ w.heap.size j _ _ (0, 0) h]
  simpa [iv] using hv
theorem branchAt_mk (w : World) (A A' : Option Addr) (n c n' c' : Nat) (ks : List (List Nat)) (ps : List Int) (hk : Ks w A n c ks) (h : Is w A' n' c' ps) : BranchAt (w.alloc (.cells #[.slice A n c, .slice A' n' c'] 48)) w.heap.size ks ps := by
  obtain ⟨c0, c1⟩ := two_cells (heap_alloc_new w (.cells #[.slice A n c, .slice A' n' c'] 48))
  have b := (Below.refl w.heap.size w).alloc (Nat.le_refl _) (.cells #[.slice A n c, .slice A' n' c'] 48)
  exact ⟨by simp, A, n, c, A', n', c', c0, c1, hk.on b, h.on b⟩
theorem klens_one (y : List Nat) : Nd.klens [y] = 5 + y.length := by simp [Nd.klens]

set_option maxRecDepth 100000 in
set_option maxHeartbeats 2000000 in
theorem nodeCells_walk (w : World) (x : Nv) (cs : List Nd.Cell) (ks : List (List Nat)) (ps : List Int) (h : NvIs w x cs ks ps) :
    Calls Try.prog 5 #[x.val] w fun e w' => e = .returned (.bool true) ∧ Below w.heap.size w w' := by
  have CS := Lib.hid (fun (W : World) (hW : Below w.heap.size w W) => small_any W x cs ks ps (h.on hW))
  have CO := Lib.hid (fun (W : World) (hW : Below w.heap.size w W) (hb : x.br = true) => of_branch W x cs ks ps (h.on hW) hb)
  have CL := Lib.hid (fun (W : World) (hW : Below w.heap.size w W) (hb : x.br = false) (hl : cs.length ≤ 100000) => of_leaf W x cs (h.on hW).cs hb hl)
  have HX := Lib.hid h
  have hkl := h.ks.len
  have hcl := h.cs.len
  obtain ⟨br, cA, cn, cc_, kA, kn, kc, pA, pn, pc⟩ := x
  have B1 : Below w.heap.size w (w.alloc (.cells #[.bool br, .slice cA cn cc_, .slice kA kn kc, .slice pA pn pc] 33)) := (Below.refl _ _).alloc (Nat.le_refl _) _
  have Z1 := heap_alloc_new w (.cells #[.bool br, .slice cA cn cc_, .slice kA kn kc, .slice pA pn pc] 33)
  have s1 : w.heap.size < (w.alloc (.cells #[.bool br, .slice cA cn cc_, .slice kA kn kc, .slice pA pn pc] 33)).heap.size := by simp
  have HB1 := Lib.hid B1
  have HZ1 := Lib.hid Z1
  clear h B1 Z1
  unfold Nv.val at *
  simp only at *
  go_enter Try.func5, Try.ntmps5
  go_wp2_with fail
  generalize w.alloc (.cells #[.bool br, .slice cA cn cc_, .slice kA kn kc, .slice pA pn pc] 33) = w0 at *
  refine (awake_any _).mono ?_
  rintro e w1 ⟨rfl, b1⟩
  have B1 := HB1.out.trans (b1.mono (by omega))
  have Z1 := (b1.block _ s1).trans HZ1.out
  have hs1 := b1.size
  obtain ⟨q0, q1, q2, q3⟩ := four_cells Z1
  clear HB1 HZ1 b1
  go_wp2_with fail
  refine (CS.out _ B1).mono ?_
  rintro e w2 ⟨⟨sm, rfl, hsm⟩, b2⟩
  have B2 := B1.trans (b2.mono B1.size)
  have Z2 := (b2.block _ (by omega)).trans Z1
  have hs2 := b2.size
  clear q0 q1 q2 q3 Z1 b2 B1
  obtain ⟨q0, q1, q2, q3⟩ := four_cells Z2
  cases sm with
  | false =>
    go_wp2
    go_ret
    exact ⟨rfl, B2⟩
  | true =>
    have hsm := hsm rfl
    have ht := tot_lens cs
    have hkt := ktot_klens ks
    have hn9 : cn ≤ 5000 := by omega
    have hkn9 : kn ≤ 5000 := by omega
    have hlen9 : Nd.leafLen cs ≤ 50000 := by unfold Nd.leafLen; omega
    have hbl9 : Nd.branchLen ks ≤ 50000 := by unfold Nd.branchLen; omega
    have HP9 : ps.length ≤ 5000 := by omega
    clear ht hkt hsm
    cases br with
    | true =>
      go_wp2_with fail
      refine (CO.out _ B2 (by simp)).mono ?_
      rintro e w3 ⟨⟨g, rfl, hB⟩, b3⟩
      have B3 := B2.trans (b3.mono B2.size)
      have Z3 := (b3.block _ (by omega)).trans Z2
      have hs3 := b3.size
      have HBr := Lib.hid hB
      have HKs := Lib.hid (HX.out.ks.on B3)
      have hm : ∀ (W : World), (method 204 46 (.pointer (some ⟨g, 0, none⟩)) "Len").run Try.prog W = .ok (18, .pointer (some ⟨g, 0, none⟩)) W := fun _ => by kernel_rfl
      clear q0 q1 q2 q3 Z2 b3 hB CS CO CL B2
      obtain ⟨q0, q1, q2, q3⟩ := four_cells Z3
      simp only at HKs
      unfold Nd.branchLen at hbl9
      go_wp2
      go_loopw [4, 5] (fun v i wr => ∃ k : Nat, k ≤ kn ∧ i = .int .i64 (k : Int) ∧ v = .int .i64 ((7 + Nd.klens (ks.take k) : Nat) : Int) ∧ Below w3.heap.size w3 wr) (fun _ i _ => kn - (intOf i).toNat)
      case atStart => exact ⟨0, Nat.zero_le _, rfl, rfl, Below.refl _ _⟩
      case round =>
        obtain ⟨k, hk, rfl, rfl, hbel⟩ := hrel
        have p2 := (hbel.cell (p := ⟨w.heap.size, 2, none⟩) (by show w.heap.size < _; omega)).trans q2
        by_cases hlt : k < kn
        · obtain ⟨b, off, A1, n1, c1, y, rfl, hbl, hy, c0, r1, l1⟩ := HKs.out.get hlt
          have hkc : kn ≤ kc := by obtain ⟨_, hr, _⟩ := HKs.out; exact hr.2.1
          have K1 := (HKs.out.sub hy).on hbel
          have HT := Lib.hid (klens_take hy)
          have hl := klens_take_le ks (k + 1)
          have hl1 := Lib.hid r1.1
          have hj1 : (k : Int) < (kn : Int) := by omega
          have hj2 : (k : Int) + 1 ≤ (kn : Int) := by omega
          have hj3 : (kn : Int) ≤ (kc : Int) := by omega
          have hne : ¬ kc = k := by omega
          have hw1 : IntKind.i64.wrap ((k : Int) + 1) = (k : Int) + 1 := IntWalk.i64_in _ ⟨by omega, by omega⟩
          clear r1 c0 hy
          have bA : Below wr.heap.size wr (wr.alloc (.cells #[.int .i64 2, .int .i64 3] 3)) := (Below.refl _ _).alloc (Nat.le_refl _) _
          have BB := branchAt_mk _ _ _ _ _ _ _ _ _ (K1.on bA) (is_two wr 2 3 (by unfold I64; omega) (by unfold I64; omega))
          rw [show (wr.alloc (.cells #[.int .i64 2, .int .i64 3] 3)).heap.size = wr.heap.size + 1 by simp] at BB
          have bB := onto bA ((Below.refl _ _).alloc (Nat.le_refl _) (.cells #[.slice (some ⟨b, off + k, none⟩) 1 (kc - k), .slice (some ⟨wr.heap.size, 0, none⟩) 2 2] 48))
          have C4 := Lib.hid (branchLen_any _ _ _ _ BB (by unfold Nd.branchLen; rw [klens_one, hl1.out]; have := HT.out; rw [hl1.out] at this; omega))
          unfold Nd.branchLen at C4
          rw [klens_one, hl1.out] at C4
          have BD := Lib.hid (onto hbel bB)
          have hn19 : n1 ≤ 50000 := by have := HT.out; rw [hl1.out] at this; omega
          have hT9 : Nd.klens (ks.take k) ≤ 50000 := by have := HT.out; omega
          generalize hT : Nd.klens (ks.take k) = T at *
          have HTT := Lib.hid hT
          clear bA bB BB K1 hT
          go_wp2_with fail
          refine C4.out.mono ?_
          rintro e w5 ⟨rfl, rfl⟩
          go_wp2
          go_roundw
          case rel => exact ⟨k + 1, by omega, by go_num, by rw [HT.out, hl1.out]; first | go_num | (congr 1; omega), BD.out⟩
          case measure => simp [intOf]; omega
        · obtain rfl : k = kn := by omega
          rw [List.take_of_length_le (by omega)]
          have C9 := Lib.hid (branchLen_any wr g ks ps (HBr.out.on hbel) (by unfold Nd.branchLen; omega))
          unfold Nd.branchLen at C9
          have z9 : (((7 + Nd.klens ks : Nat) : Int) == ((7 + Nd.klens ks : Nat) : Int)) = true := by simp
          generalize 7 + Nd.klens ks = T at *
          go_wp2_with fail
          refine C9.out.mono ?_
          rintro e w9 ⟨rfl, rfl⟩
          go_wp2
          go_ret
          exact ⟨rfl, B3.trans (hbel.mono B3.size)⟩
    | false =>
      go_wp2_with fail
      refine (CL.out _ B2 (by simp) (by omega)).mono ?_
      rintro e w3 ⟨⟨g, rfl, hL⟩, b3⟩
      have B3 := B2.trans (b3.mono B2.size)
      have Z3 := (b3.block _ (by omega)).trans Z2
      have hs3 := b3.size
      have HLf := Lib.hid hL
      have HCs := Lib.hid (HX.out.cs.on B3)
      have hm : ∀ (W : World), (method 204 52 (.pointer (some ⟨g, 0, none⟩)) "Len").run Try.prog W = .ok (35, .pointer (some ⟨g, 0, none⟩)) W := fun _ => by kernel_rfl
      clear q0 q1 q2 q3 Z2 b3 hL CS CO CL B2
      obtain ⟨q0, q1, q2, q3⟩ := four_cells Z3
      simp only at HCs
      unfold Nd.leafLen at hlen9
      go_wp2
      go_loopw [6, 7] (fun v i wr => ∃ k : Nat, k ≤ cn ∧ i = .int .i64 (k : Int) ∧ v = .int .i64 ((3 + Nd.lens (cs.take k) : Nat) : Int) ∧ Below w3.heap.size w3 wr) (fun _ i _ => cn - (intOf i).toNat)
      case atStart => exact ⟨0, Nat.zero_le _, rfl, rfl, Below.refl _ _⟩
      case round =>
        obtain ⟨k, hk, rfl, rfl, hbel⟩ := hrel
        have p1 := (hbel.cell (p := ⟨w.heap.size, 1, none⟩) (by show w.heap.size < _; omega)).trans q1
        by_cases hlt : k < cn
        · obtain ⟨b, off, x, y, rfl, hbl, hy, hcr, _⟩ := HCs.out.get hlt
          have hcc : cn ≤ cc_ := by obtain ⟨_, hr, _⟩ := HCs.out; exact hr.2.1
          have K1 := (HCs.out.sub hy).on hbel
          have HT := Lib.hid (lens_take hy)
          have hl := lens_take_le cs (k + 1)
          have hj1 : (k : Int) < (cn : Int) := by omega
          have hj2 : (k : Int) + 1 ≤ (cn : Int) := by omega
          have hj3 : (cn : Int) ≤ (cc_ : Int) := by omega
          have hne : ¬ cc_ = k := by omega
          have hw1 : IntKind.i64.wrap ((k : Int) + 1) = (k : Int) + 1 := IntWalk.i64_in _ ⟨by omega, by omega⟩
          have C4 := of_leaf wr ⟨false, some ⟨b, off + k * 4, none⟩, 1, cc_ - k, none, 0, 0, none, 0, 0⟩ [y] K1 rfl (by simp)
          unfold Nv.val at C4
          simp only at C4
          have HC4 := Lib.hid C4
          have hy9 : y.len ≤ 50000 := by have := HT.out; omega
          have hT9 : Nd.lens (cs.take k) ≤ 50000 := by have := HT.out; omega
          clear hcr hy K1 C4
          go_wp2_with fail
          refine HC4.out.mono ?_
          rintro e w5 ⟨⟨g5, rfl, hL5⟩, b5⟩
          have hm5 : ∀ (W : World), (method 204 52 (.pointer (some ⟨g5, 0, none⟩)) "Len").run Try.prog W = .ok (35, .pointer (some ⟨g5, 0, none⟩)) W := fun _ => by kernel_rfl
          have C6 := Lib.hid (leafLen_any w5 g5 [y] hL5 (by unfold Nd.leafLen; rw [Nd.lens_one]; omega))
          unfold Nd.leafLen at C6
          rw [Nd.lens_one] at C6
          have BD := Lib.hid (onto hbel b5)
          generalize hT : Nd.lens (cs.take k) = T at *
          clear HC4 hL5 b5 hT
          go_wp2_with fail
          refine C6.out.mono ?_
          rintro e w6 ⟨rfl, b6⟩
          have BE := onto BD.out b6
          clear b6 C6 BD
          go_wp2
          go_roundw
          case rel => exact ⟨k + 1, by omega, by go_num, by rw [HT.out]; first | go_num | (congr 1; omega), BE⟩
          case measure => simp [intOf]; omega
        · obtain rfl : k = cn := by omega
          rw [List.take_of_length_le (by omega)]
          have C9 := Lib.hid (leafLen_any wr g cs (HLf.out.on hbel) (by unfold Nd.leafLen; omega))
          unfold Nd.leafLen at C9
          have z9 : (((3 + Nd.lens cs : Nat) : Int) == ((3 + Nd.lens cs : Nat) : Int)) = true := by simp
          generalize 3 + Nd.lens cs = T at *
          go_wp2_with fail
          refine C9.out.mono ?_
          rintro e w9 ⟨rfl, b9⟩
          have BE := onto hbel b9
          clear b9 C9
          go_wp2
          go_ret
          exact ⟨rfl, B3.trans (BE.mono B3.size)⟩
end Go.Proofs.Ytachclcpldnofaa.Nn
