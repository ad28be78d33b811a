/-
  NodeReads: every row of bytes is the node that the document says, or refused; what is read may be, and has just those bytes.
-/
import Derived.Test.YtachclcpldnofaaNdRfFpL
import Derived.Test.YtachclcpldnofaaNdRfFpB
import Derived.Test.YtachclcpldnofaaNdSame
import Derived.Test.YtachclcpldnofaaNdAwake
namespace Go.Proofs.Ytachclcpldnofaa.Nn
open Go.RowKit
set_option linter.unusedVariables false

theorem refFromPay_any (w : World) (A : Option Addr) (n c : Nat) (b : List Nat) (h : Bs w A n c b) :
    Calls Try.prog 9 #[.slice A n c] w fun e w' => ((∃ x cs, e = .returned (.tuple #[Nv.val x, .bool true]) ∧ x.br = false ∧ Cs w' x.cA x.cn x.cc cs ∧ IsLeaf b cs) ∨
      (∃ x ks p ps, e = .returned (.tuple #[Nv.val x, .bool true]) ∧ x.br = true ∧ Ks w' x.kA x.kn x.kc ks ∧ Is w' x.pA x.pn x.pc (p :: ps) ∧ IsBranch b ks p ps) ∨
      (e = .returned (.tuple #[(nv0 false).val, .bool false]) ∧ NoNode b)) ∧ Below w.heap.size w w' := by
  have hb := h.1
  by_cases hn : n = 1016
  · subst hn
    obtain ⟨x, hx⟩ : ∃ x, b[0]? = some x := ⟨_, List.getElem?_eq_getElem (by omega)⟩
    by_cases h1 : x = 1
    · subst h1
      exact (refFromPay_leaf w A c b h hx).mono fun _ _ h' => ⟨h'.1.imp id .inr, h'.2⟩
    · by_cases h2 : x = 2
      · subst h2
        exact (refFromPay_branch w A c b h hx).mono fun _ _ h' => ⟨.inr h'.1, h'.2⟩
      · exact (refFromPay_mark w A c b h x hx h1 h2).mono fun _ _ h' => ⟨.inr (.inr ⟨h'.1, noNode_mark hx h1 h2⟩), h'.2⟩
  · exact (refFromPay_short w A n c b h hn).mono fun _ _ h' => ⟨.inr (.inr ⟨h'.1, noNode_len (by omega)⟩), h'.2⟩
theorem leaf_take {b : List Nat} {cs : List Nd.Cell} (h : IsLeaf b cs) : payL cs = b.take (payL cs).length ∧ (payL cs).length ≤ b.length := by
  have hp : payL cs = Nd.leafPay cs := if_pos h.1
  rw [hp]
  have hl := isLeaf_len h
  have hle : (Nd.leafPay cs).length ≤ 1016 := by rw [Nd.leafPay_len]; exact h.1.1
  refine ⟨?_, by omega⟩
  rw [h.2]
  unfold Nd.fill
  rw [List.take_left]
theorem branch_take {b : List Nat} {ks : List (List Nat)} {p : Int} {ps : List Int} (h : IsBranch b ks p ps) : payB ks (p :: ps) = b.take (payB ks (p :: ps)).length ∧ (payB ks (p :: ps)).length ≤ b.length := by
  have hp : payB ks (p :: ps) = Nd.branchPay ks p ps := by unfold payB; rw [if_pos h.1]
  rw [hp]
  have hl := isBranch_len h
  have hle : (Nd.branchPay ks p ps).length ≤ 1016 := by rw [Nd.branchPay_len (by have := h.1.2.2.2; simp at this; omega)]; exact h.1.1
  refine ⟨?_, by omega⟩
  rw [h.2]
  unfold Nd.fill
  rw [List.take_left]

set_option maxRecDepth 100000 in
set_option maxHeartbeats 4000000 in
theorem nodeReads_walk (w : World) (A : Option Addr) (n c : Nat) (b : List Nat) (h : Bs w A n c b) :
    Calls Try.prog 3 #[.slice A n c] w fun e w' => e = .returned (.bool true) ∧ Below w.heap.size w w' := by
  obtain ⟨i0, hi, hz0, hz1, hz2⟩ := info_parts Try.info5
  have hcm := h.2.2.1
  have hnc := h.2.1
  have hl := h.1
  have hlt := h.2.2.2.1
  unfold maxLen at hcm
  go_enter Try.func3, Try.ntmps3
  go_wp2_with fail
  refine (awake_any _).mono ?_
  rintro e w1 ⟨rfl, b1⟩
  have s1 := h.on b1
  clear h
  by_cases hn : 2000 < n
  · have d : decide ((n : Int) > 2000) = true := by simp; omega
    clear s1
    go_wp2
    go_ret
    exact ⟨rfl, b1⟩
  · have d : decide ((n : Int) > 2000) = false := by simp; omega
    have HS1 := Lib.hid s1
    have S1 := Lib.hid (s1.alloc (.cells #[] 5))
    have O1 := Lib.hid (own_emptyB w1)
    have BA : Hid (Below w1.heap.size w1 (w1.alloc (.cells #[] 5))) := (Below.refl _ _).alloc (Nat.le_refl _) _
    have HLT := Lib.hid hlt
    have HB1 := Lib.hid b1
    clear s1 hlt b1
    go_wp2_with (at_builtin; refine wpList_append_bs _ rfl _ _ 22 rfl w1.heap.size 5 i0 (.int .u8 0) Try.underlying22 hi hz0 hz1 hz2 rfl _ _ _ rfl O1.out _ _ _ _ rfl S1.out (by omega) (by simp) ?_; intro v2 w2 O2 g2; have B2 := Lib.hid (below_own BA.out O1.out g2 (by simp) (Nat.le_refl _)); rw [bv_app, List.nil_append, Nat.zero_add] at O2; rw [← hl] at O2; obtain ⟨A2, c2, rfl, r2⟩ := Bs.of_own O2 HLT.out; rw [hl] at r2; have R2 := Lib.hid r2; clear O2 g2 r2)
    have C3 := Lib.hid (fromPay_any w2 A2 n c2 b R2.out)
    refine C3.out.mono ?_
    rintro e w3 ⟨ht, b3⟩
    have HB3 := Lib.hid (onto HB1.out (onto (B2.out) b3))
    have HS3 := Lib.hid (HS1.out.on (onto B2.out b3))
    have HR3 := Lib.hid (R2.out.on b3)
    clear C3 b3 B2 R2 HS1 HB1 S1 O1 BA
    rcases ht with ⟨cs, q, rfl, la, il⟩ | ⟨ks, p, ps, q, rfl, la, il⟩ | ⟨rfl, nn⟩
    · have C4 := Lib.hid (refFromPay_any w3 A n c b HS3.out)
      have HLA := Lib.hid la
      have HIL := Lib.hid il
      clear la il
      go_wp2_with fail
      refine C4.out.mono ?_
      rintro e w4 ⟨ht, b4⟩
      obtain ⟨x, rfl, hbr, hcs⟩ : ∃ x, e = .returned (.tuple #[Nv.val x, .bool true]) ∧ x.br = false ∧ Cs w4 x.cA x.cn x.cc cs := by
        rcases ht with ⟨x, ds, h1, h2, h3, h4⟩ | ⟨x, ks', p', ps', h1, h2, h3, h4, h5⟩ | ⟨h1, h2⟩
        · obtain rfl := leaf_one HIL.out h4
          exact ⟨x, h1, h2, h3⟩
        · exact (leaf_not_branch HIL.out h5).elim
        · exact absurd HIL.out (h2.1 cs)
      have B4 := onto HB3.out b4
      have HS4 := HS3.out.on b4
      have HR4 := HR3.out.on b4
      have HLA4 := HLA.out.on b4
      clear C4 ht HB3 HS3 HR3 HLA b4
      have hlf : Nd.leafLen cs ≤ 1016 := HIL.out.1.1
      have hcl : cs.length ≤ 100000 := by have := count_le cs; unfold Nd.leafLen at hlf; omega
      have V4 := (Below.refl w4.heap.size w4).alloc (Nat.le_refl _) (.cells x.vs 33)
      have z4 := heap_alloc_new w4 (.cells x.vs 33)
      have B5 := onto B4 V4
      have HS5 := Lib.hid (HS4.on V4)
      have HR5 := Lib.hid (HR4.on V4)
      have HL5 := Lib.hid (HLA4.on V4)
      have HC5 := Lib.hid (hcs.on V4)
      have HB5 := Lib.hid B5
      obtain ⟨br, cA, cn, cc_, kA, kn, kc, pA, pn, pc⟩ := x
      simp only at hbr hcs HC5
      subst hbr
      unfold Nv.val
      unfold Nv.vs at z4 HS5 HR5 HL5 HC5 HB5
      simp only at z4 HS5 HR5 HL5 HC5 HB5 ⊢
      have HZ4 := Lib.hid z4
      have hne : ∀ W : World, (binOp .neq 25 (.iface 52 (.pointer (some ⟨q, 0, none⟩))) .nilIface).run Try.prog W = .ok (.bool true) W := fun _ => rfl
      have heq : ∀ W : World, (binOp .eql 25 (.iface 52 (.pointer (some ⟨q, 0, none⟩))) .nilIface).run Try.prog W = .ok (.bool false) W := fun _ => rfl
      have hmP : ∀ (W : World), (method 204 52 (.pointer (some ⟨q, 0, none⟩)) "Pay").run Try.prog W = .ok (20, .pointer (some ⟨q, 0, none⟩)) W := fun _ => by kernel_rfl
      have hmM : ∀ (W : World), (method 204 52 (.pointer (some ⟨q, 0, none⟩)) "May").run Try.prog W = .ok (33, .pointer (some ⟨q, 0, none⟩)) W := fun _ => by kernel_rfl
      clear hcs z4 V4 HS4 HR4 HLA4 B4 B5
      go_wp2_with fail
      generalize w4.alloc (.cells #[.bool false, .slice cA cn cc_, .slice kA kn kc, .slice pA pn pc] 33) = w5 at *
      generalize w4.heap.size = gx at *
      refine (same_eq w5 _ _ _ _ _ _ _ HR5.out HS5.out).mono ?_
      rintro e w6 ⟨rfl, m6, rfl⟩
      have C7 := Lib.hid (leafPay_any (w5.drewN m6) q cs (HL5.out.drewN m6) (by omega))
      have HS6 := Lib.hid (Bs.drewN HS5.out m6)
      have HL6 := Lib.hid (HL5.out.drewN m6)
      have HC6 := Lib.hid (HC5.out.on (below_drewN (Below.refl _ _) m6))
      have HB6 := Lib.hid (below_drewN HB5.out m6)
      have HZ6 : Hid ((w5.drewN m6).heap[gx]? = some (.cells #[.bool false, .slice cA cn cc_, .slice kA kn kc, .slice pA pn pc] 33 (0, 0))) := HZ4.out
      clear HR5 HS5 HL5 HC5 HB5 HZ4
      go_wp2_with fail
      generalize w5.drewN m6 = w6 at *
      refine C7.out.mono ?_
      rintro e w7 ⟨⟨A7, n7, c7, rfl, r7⟩, b7⟩
      have C8 := Lib.hid (leafMay_any w7 q cs (HL6.out.on b7) (by omega))
      have HR7 := Lib.hid r7
      have HB7 := Lib.hid b7
      clear C7 r7 b7
      go_wp2_with fail
      refine C8.out.mono ?_
      rintro e w8 ⟨rfl, b8⟩
      rw [decide_eq_true HIL.out.1]
      have B78 := onto HB7.out b8
      have C9 := Lib.hid (same_leaf w8 q ⟨false, cA, cn, cc_, kA, kn, kc, pA, pn, pc⟩ cs (HL6.out.on B78) rfl (HC6.out.on B78) hcl)
      unfold Nv.val at C9
      simp only at C9
      obtain ⟨f0, f1, f2, f3⟩ := four_cells ((B78.block gx (Array.getElem?_eq_some_iff.1 HZ6.out).1).trans HZ6.out)
      have HR8 := Lib.hid (HR7.out.on b8)
      have HS8 := Lib.hid (HS6.out.on B78)
      have HB8 := Lib.hid (onto HB6.out B78)
      clear C8 HB7 HR7 HS6 HL6 HC6 HB6 HZ6 b8 B78
      go_wp2_with fail
      refine C9.out.mono ?_
      rintro e w9 ⟨rfl, b9⟩
      have h9 := HR8.out.1
      have ht1 := leaf_take HIL.out
      have hle : n7 ≤ n := by rw [← h9, ← hl]; exact ht1.2
      have hle' : (n7 : Int) ≤ (n : Int) := by omega
      have hlc' : (n7 : Int) ≤ (c : Int) := by omega
      have r9 := HR8.out.on b9
      have hpe : payL cs = b.take n7 := by rw [← h9]; exact ht1.1
      rw [hpe] at r9
      have C10 := Lib.hid (same_eq w9 _ _ _ _ _ _ _ r9 ((HS8.out.on b9).first n7 hle))
      have HB9 := Lib.hid (onto HB8.out b9)
      clear C9 HR8 HS8 HB8 b9 r9 hpe ht1 h9
      go_wp2_with fail
      refine C10.out.mono ?_
      rintro e w10 ⟨rfl, m10, rfl⟩
      go_wp2
      go_ret
      exact ⟨rfl, below_drewN HB9.out _⟩
    · have C4 := Lib.hid (refFromPay_any w3 A n c b HS3.out)
      have HLA := Lib.hid la
      have HIL := Lib.hid il
      clear la il
      go_wp2_with fail
      refine C4.out.mono ?_
      rintro e w4 ⟨ht, b4⟩
      obtain ⟨x, rfl, hbr, hcs⟩ : ∃ x, e = .returned (.tuple #[Nv.val x, .bool true]) ∧ x.br = true ∧ Ks w4 x.kA x.kn x.kc ks ∧ Is w4 x.pA x.pn x.pc (p :: ps) := by
        rcases ht with ⟨x, ds, h1, h2, h3, h4⟩ | ⟨x, ks', p', ps', h1, h2, h3, h4, h5⟩ | ⟨h1, h2⟩
        · exact (leaf_not_branch h4 HIL.out).elim
        · obtain ⟨e1, e2, e3⟩ := branch_one HIL.out h5
          subst e1 e2 e3
          exact ⟨x, h1, h2, h3, h4⟩
        · exact absurd HIL.out (h2.2 _ _ _)
      have B4 := onto HB3.out b4
      have HS4 := HS3.out.on b4
      have HR4 := HR3.out.on b4
      have HLA4 := HLA.out.on b4
      clear C4 ht HB3 HS3 HR3 HLA b4
      have hlf : Nd.branchLen ks ≤ 1016 := HIL.out.1.1
      have hcl : ks.length ≤ 100000 := by have := kcount_le ks; unfold Nd.branchLen at hlf; omega
      have hpl : (p :: ps).length ≤ 100000 := by have h1 := HIL.out.1.2.2.2; have := kcount_le ks; unfold Nd.branchLen at hlf; omega
      have V4 := (Below.refl w4.heap.size w4).alloc (Nat.le_refl _) (.cells x.vs 33)
      have z4 := heap_alloc_new w4 (.cells x.vs 33)
      have B5 := onto B4 V4
      have HS5 := Lib.hid (HS4.on V4)
      have HR5 := Lib.hid (HR4.on V4)
      have HL5 := Lib.hid (HLA4.on V4)
      have HC5 := Lib.hid (And.intro (hcs.1.on V4) (hcs.2.on V4))
      have HB5 := Lib.hid B5
      obtain ⟨br, cA, cn, cc_, kA, kn, kc, pA, pn, pc⟩ := x
      simp only at hbr hcs HC5
      subst hbr
      unfold Nv.val
      unfold Nv.vs at z4 HS5 HR5 HL5 HC5 HB5
      simp only at z4 HS5 HR5 HL5 HC5 HB5 ⊢
      have HZ4 := Lib.hid z4
      have hne : ∀ W : World, (binOp .neq 25 (.iface 46 (.pointer (some ⟨q, 0, none⟩))) .nilIface).run Try.prog W = .ok (.bool true) W := fun _ => rfl
      have heq : ∀ W : World, (binOp .eql 25 (.iface 46 (.pointer (some ⟨q, 0, none⟩))) .nilIface).run Try.prog W = .ok (.bool false) W := fun _ => rfl
      have hmP : ∀ (W : World), (method 204 46 (.pointer (some ⟨q, 0, none⟩)) "Pay").run Try.prog W = .ok (21, .pointer (some ⟨q, 0, none⟩)) W := fun _ => by kernel_rfl
      have hmM : ∀ (W : World), (method 204 46 (.pointer (some ⟨q, 0, none⟩)) "May").run Try.prog W = .ok (37, .pointer (some ⟨q, 0, none⟩)) W := fun _ => by kernel_rfl
      clear hcs z4 V4 HS4 HR4 HLA4 B4 B5
      go_wp2_with fail
      generalize w4.alloc (.cells #[.bool true, .slice cA cn cc_, .slice kA kn kc, .slice pA pn pc] 33) = w5 at *
      generalize w4.heap.size = gx at *
      refine (same_eq w5 _ _ _ _ _ _ _ HR5.out HS5.out).mono ?_
      rintro e w6 ⟨rfl, m6, rfl⟩
      have C7 := Lib.hid (branchPay_any (w5.drewN m6) q ks (p :: ps) (HL5.out.drewN m6) (by omega) (by omega))
      have HS6 := Lib.hid (Bs.drewN HS5.out m6)
      have HL6 := Lib.hid (HL5.out.drewN m6)
      have HC6 := Lib.hid (And.intro (HC5.out.1.on (below_drewN (Below.refl _ _) m6)) (HC5.out.2.on (below_drewN (Below.refl _ _) m6)))
      have HB6 := Lib.hid (below_drewN HB5.out m6)
      have HZ6 : Hid ((w5.drewN m6).heap[gx]? = some (.cells #[.bool true, .slice cA cn cc_, .slice kA kn kc, .slice pA pn pc] 33 (0, 0))) := HZ4.out
      clear HR5 HS5 HL5 HC5 HB5 HZ4
      go_wp2_with fail
      generalize w5.drewN m6 = w6 at *
      refine C7.out.mono ?_
      rintro e w7 ⟨⟨A7, n7, c7, rfl, r7⟩, b7⟩
      have C8 := Lib.hid (branchMay_any w7 q ks (p :: ps) (HL6.out.on b7) (by omega) (by omega))
      have HR7 := Lib.hid r7
      have HB7 := Lib.hid b7
      clear C7 r7 b7
      go_wp2_with fail
      refine C8.out.mono ?_
      rintro e w8 ⟨rfl, b8⟩
      rw [decide_eq_true HIL.out.1]
      have B78 := onto HB7.out b8
      have C9 := Lib.hid (same_branch w8 q ⟨true, cA, cn, cc_, kA, kn, kc, pA, pn, pc⟩ ks (p :: ps) (HL6.out.on B78) rfl (HC6.out.1.on B78) (HC6.out.2.on B78) hcl hpl)
      unfold Nv.val at C9
      simp only at C9
      obtain ⟨f0, f1, f2, f3⟩ := four_cells ((B78.block gx (Array.getElem?_eq_some_iff.1 HZ6.out).1).trans HZ6.out)
      have HR8 := Lib.hid (HR7.out.on b8)
      have HS8 := Lib.hid (HS6.out.on B78)
      have HB8 := Lib.hid (onto HB6.out B78)
      clear C8 HB7 HR7 HS6 HL6 HC6 HB6 HZ6 b8 B78
      go_wp2_with fail
      refine C9.out.mono ?_
      rintro e w9 ⟨rfl, b9⟩
      have h9 := HR8.out.1
      have ht1 := branch_take HIL.out
      have hle : n7 ≤ n := by rw [← h9, ← hl]; exact ht1.2
      have hle' : (n7 : Int) ≤ (n : Int) := by omega
      have hlc' : (n7 : Int) ≤ (c : Int) := by omega
      have r9 := HR8.out.on b9
      have hpe : payB ks (p :: ps) = b.take n7 := by rw [← h9]; exact ht1.1
      rw [hpe] at r9
      have C10 := Lib.hid (same_eq w9 _ _ _ _ _ _ _ r9 ((HS8.out.on b9).first n7 hle))
      have HB9 := Lib.hid (onto HB8.out b9)
      clear C9 HR8 HS8 HB8 b9 r9 hpe ht1 h9
      go_wp2_with fail
      refine C10.out.mono ?_
      rintro e w10 ⟨rfl, m10, rfl⟩
      go_wp2
      go_ret
      exact ⟨rfl, below_drewN HB9.out _⟩
    · have C4 := Lib.hid (refFromPay_any w3 A n c b HS3.out)
      have HNN := Lib.hid nn
      clear nn
      go_wp2_with fail
      refine C4.out.mono ?_
      rintro e w4 ⟨ht, b4⟩
      obtain rfl : e = .returned (.tuple #[(nv0 false).val, .bool false]) := by
        rcases ht with ⟨x, ds, h1, h2, h3, h4⟩ | ⟨x, ks, p, ps, h1, h2, h3, h4, h5⟩ | ⟨h1, h2⟩
        · exact absurd h4 (HNN.out.1 _)
        · exact absurd h5 (HNN.out.2 _ _ _)
        · exact h1
      have V4 := (Below.refl w4.heap.size w4).alloc (Nat.le_refl _) (.cells #[.bool false, .slice none 0 0, .slice none 0 0, .slice none 0 0] 33)
      have HB5 := Lib.hid (onto (onto HB3.out b4) V4)
      have C6 := Lib.hid (same_eq _ _ _ _ _ _ _ _ ((HR3.out.on b4).on V4) ((HS3.out.on b4).on V4))
      have hne : ∀ W : World, (binOp .neq 25 .nilIface .nilIface).run Try.prog W = .ok (.bool false) W := fun _ => rfl
      have heq : ∀ W : World, (binOp .eql 25 .nilIface .nilIface).run Try.prog W = .ok (.bool true) W := fun _ => rfl
      unfold nv0 Nv.val
      simp only
      clear V4 b4 ht C4 HB3 HR3 HS3
      go_wp2_with fail
      refine C6.out.mono ?_
      rintro e w6 ⟨rfl, m6, rfl⟩
      go_wp2
      go_ret
      exact ⟨rfl, below_drewN HB5.out _⟩
end Go.Proofs.Ytachclcpldnofaa.Nn
