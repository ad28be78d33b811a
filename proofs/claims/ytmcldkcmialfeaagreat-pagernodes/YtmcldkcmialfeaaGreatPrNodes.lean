/-
  PagerNodes, walked.
-/
import Derived.Test.YtmcldkcmialfeaaGreatPrNode
import Derived.Test.YtmcldkcmialfeaaGreatPrAwake
import Derived.Test.YtmcldkcmialfeaaGreatPrDisk
import Derived.Test.YtmcldkcmialfeaaGreatNdAwake
import Derived.Test.YtmcldkcmialfeaaGreatNdSmall
import Derived.Test.YtmcldkcmialfeaaGreatNdRfPay
import Derived.Test.YtmcldkcmialfeaaGreatNdRfPayB
import Derived.Test.YtmcldkcmialfeaaGreatCrText
namespace Go.Proofs.YtmcldkcmialfeaaGreat.Nn
open Go.RowKit
set_option linter.unusedVariables false

theorem nodes_put {P : List Nat} (h : P.length ≤ 1016) : Pr.put (Pr.seqd (Dk.fresh 10) 10 1 0 []) P = Pr.seqd (Dk.fresh 10) 10 1 0 [P] ∧ Pr.putNo (Pr.seqd (Dk.fresh 10) 10 1 0 []) P = 2 ∧ Pr.putCode (Pr.seqd (Dk.fresh 10) 10 1 0 []) P = 0 := by
  have hc : 2 + (([] : List (List Nat)).length : Int) < 10 := by simp
  obtain ⟨h1, h2⟩ := Pr.seqd_code (d := Dk.fresh 10) (gen := 1) (hz := 0) hc h
  exact ⟨Pr.seqd_put hc h, h2, h1⟩
theorem nodes_says (P : List Nat) : Pr.says (Pr.seqd (Dk.fresh 10) 10 1 0 [P]) 2 = some (Pg.fill P) := Pr.says_fresh rfl
theorem nodes_flush {P : List Nat} (h : P.length ≤ 1016) : Pr.flushCode (Pr.seqd (Dk.fresh 10) 10 1 0 [P]) = 0 ∧ Pr.dsays (Pr.flush (Pr.seqd (Dk.fresh 10) 10 1 0 [P])).disk 2 = some (Pg.fill P) := by
  have hf := Pr.flushTo_calm (Pr.seqd (Dk.fresh 10) 10 1 0 [P]).l (d := Dk.fresh 10) ⟨rfl, rfl⟩ (fun f hf => by
    rcases List.mem_cons.1 hf with rfl | hf
    · have hl : (Dk.fresh 10).pages.length = 10 := List.length_replicate
      rw [hl]
      exact ⟨show (0 : Int) ≤ 2 by decide, show (2 : Int) < ((10 : Nat) : Int) by decide, show (2 : Int) ≤ 2147483647 by decide, Pg.fill_len h⟩
    · cases hf) (List.pairwise_singleton _ _)
  obtain ⟨f1, _, _, _, _, f2⟩ := hf
  exact ⟨f1, (f2 2).trans rfl⟩

set_option maxRecDepth 100000 in
set_option maxHeartbeats 4000000 in
theorem pagerNodes_leaf (w : World) (x : Nv) (cs : List Nd.Cell) (ks : List (List Nat)) (ps : List Int) (hx : NvIs w x cs ks ps) (hb : x.br = false) :
    Calls Tryz.prog 4 #[x.val] w fun e w' => e = .returned (.bool true) ∧ Below w.heap.size w w' := by
  have CSm := Lib.hid (fun (W : World) (hW : Below w.heap.size w W) => small_any W x cs ks ps (hx.on hW))
  have CMy := Lib.hid (fun (W : World) (hW : Below w.heap.size w W) (hf : Nd.leafLen cs ≤ 1000000000) => refMay_leaf W x cs (hx.on hW).cs hb hf)
  have COf := Lib.hid (fun (W : World) (hW : Below w.heap.size w W) (hn9 : cs.length ≤ 100000) => of_leaf W x cs (hx.on hW).cs hb hn9)
  have CPy := Lib.hid (fun (W : World) (hW : Below w.heap.size w W) (hf : Nd.leafLen cs ≤ 1000000000) => refPay_leaf W x cs (hx.on hW).cs hb hf)
  have hcl := hx.cs.len
  obtain ⟨br, cA, cn, cc_, kA, kn, kc, pA, pn, pc⟩ := x
  simp only at hb
  subst hb
  have B1 : Below w.heap.size w (w.alloc (.cells #[.bool false, .slice cA cn cc_, .slice kA kn kc, .slice pA pn pc] 65)) := (Below.refl _ _).alloc (Nat.le_refl _) _
  have Z1 := heap_alloc_new w (.cells #[.bool false, .slice cA cn cc_, .slice kA kn kc, .slice pA pn pc] 65)
  have s1 : w.heap.size < (w.alloc (.cells #[.bool false, .slice cA cn cc_, .slice kA kn kc, .slice pA pn pc] 65)).heap.size := by simp
  have HB1 := Lib.hid B1
  have HZ1 := Lib.hid Z1
  clear hx B1 Z1
  unfold Nv.val at *
  simp only at *
  go_enter Tryz.func4, Tryz.ntmps4
  go_wp2_with fail
  generalize w.alloc (.cells #[.bool false, .slice cA cn cc_, .slice kA kn kc, .slice pA pn pc] 65) = w0 at *
  refine (Pr.awake_any _).mono ?_
  rintro e w1 ⟨rfl, b1⟩
  have B1 := HB1.out.trans (b1.mono (by omega))
  have Z1 := (b1.block _ s1).trans HZ1.out
  have hs1 := b1.size
  obtain ⟨q0, q1, q2, q3⟩ := four_cells Z1
  clear HB1 HZ1 b1
  go_wp2_with fail
  refine (CSm.out _ B1).mono ?_
  rintro e w2 ⟨⟨sm, rfl, hsm⟩, b2⟩
  have B2 := B1.trans (b2.mono B1.size)
  have Z2 := (b2.block _ (by omega)).trans Z1
  have hs2 := b2.size
  clear q0 q1 q2 q3 Z1 b2 B1
  obtain ⟨q0, q1, q2, q3⟩ := four_cells Z2
  cases sm with
  | false =>
    go_wp2
    go_ret
    exact ⟨rfl, B2⟩
  | true =>
    have hsm := hsm rfl
    have ht := tot_lens cs
    have hlen9 : Nd.leafLen cs ≤ 1000000000 := by unfold Nd.leafLen; omega
    have hcs9 : cs.length ≤ 100000 := by omega
    clear hsm ht
    have CMy2 := CMy.out _ B2 hlen9
    have HB2 := Lib.hid B2
    clear B2
    go_wp2_with fail
    refine CMy2.mono ?_
    rintro e w3 ⟨rfl, b3⟩
    have B3 := HB2.out.trans (b3.mono HB2.out.size)
    have Z3 := (b3.block _ (by omega)).trans Z2
    have hs3 := b3.size
    clear q0 q1 q2 q3 Z2 b3 HB2 CMy CMy2 CSm
    by_cases hm : Nd.LeafMay cs
    rotate_left
    · rw [decide_eq_false hm]
      go_wp2
      go_ret
      exact ⟨rfl, B3⟩
    · rw [decide_eq_true hm]
      have hpay : payL cs = Nd.leafPay cs := if_pos hm
      have HPAY := Lib.hid hpay
      clear hpay
      obtain ⟨P, hP⟩ : ∃ P, P = Nd.leafPay cs := ⟨_, rfl⟩
      have hP16 : P.length ≤ 1016 := by rw [hP, Nd.leafPay_len]; exact hm.1
      have HP16 := Lib.hid hP16
      have HI0 : Hid (Nn.IsLeaf (Pg.fill P) cs) := ⟨hm, by rw [hP]; rfl⟩
      have HPP := Lib.hid hP
      have C1 := Lib.hid (Pr.pnew w3 10 2 (by omega))
      clear hP16 hm hP
      have HZ3 := Lib.hid (And.intro B3 Z3)
      clear B3 Z3
      go_wp2_with fail
      refine C1.out.mono ?_
      rintro e w4 ⟨p, mp, rfl, hP, hp1, hp2, b4⟩
      have B4 := HZ3.out.1.trans (b4.mono HZ3.out.1.size)
      have Z4 := (b4.block _ (by omega)).trans HZ3.out.2
      have hs4 := b4.size
      have HPo := Lib.hid hP
      have C2 := Lib.hid (newD_any w4 10 10 (by omega))
      have HZ4 := Lib.hid (And.intro B4 Z4)
      clear HZ3 b4 B4 Z4 hP hp1 hp2 C1
      go_wp2_with fail
      refine C2.out.mono ?_
      rintro e w5 ⟨Hh, rfl, hD, ho, b5⟩
      have hs5 := b5.size
      have C3 := Lib.hid (Pr.gnew (S := fun _ => False) (wb := w4) w5 Hh p mp (Dk.fresh 10) ⟨10, 2, []⟩ 1 0 hD (HPo.out.on b5) (by omega) (by omega) (fun k hk => .inr (ho k hk)) (Off.of_below b5))
      clear b5 hD ho C2 HPo
      go_wp2_with fail
      refine C3.out.mono ?_
      rintro e w6 ⟨xx, pp, rfl, hG, _⟩
      have hG0 : Pr.HasG (fun _ => False) w4 w6 xx pp Hh.p (Pr.seqd (Dk.fresh 10) 10 1 0 []) := hG
      have hbel := hG0.below
      have B6 := HZ4.out.1.trans (hbel.mono HZ4.out.1.size)
      have Z6 := (hbel.block _ (by omega)).trans HZ4.out.2
      have hs6 := hbel.size
      obtain ⟨q0, q1, q2, q3⟩ := four_cells Z6
      have C4 := Lib.hid (COf.out _ B6 (by omega))
      have HG := Lib.hid hG0
      clear hG hG0 hbel C3 B6 Z6
      go_wp2_with fail
      refine C4.out.mono ?_
      rintro e w7 ⟨⟨g7, rfl, hA7⟩, b7⟩
      have hm7 : ∀ (W : World), (method 312 130 (.pointer (some ⟨g7, 0, none⟩)) "Pay").run Tryz.prog W = .ok (179, .pointer (some ⟨g7, 0, none⟩)) W := fun _ => by kernel_rfl
      have C5 := Lib.hid (leafPay_new w7 g7 cs hA7 hlen9)
      have HG7 := Lib.hid (HG.out.on b7)
      clear q0 q1 q2 q3 C4 HG hA7 b7
      go_wp2_with fail
      refine C5.out.mono ?_
      rintro e w8 ⟨⟨A8, n8, c8, rfl, r8, nb8⟩, b8⟩
      rw [HPAY.out, ← HPP.out] at r8
      have C6 := Pr.gput w8 xx pp Hh.p _ (HG7.out.on b8) A8 n8 c8 P r8 (Pr.Out.of_new nb8)
      obtain ⟨np1, np2, np3⟩ := nodes_put HP16.out
      rw [np1, np2, np3] at C6
      have C6 := Lib.hid C6
      clear C5 hm7 HG7 r8 nb8 b8 np1 np2 np3
      go_wp2_with fail
      refine C6.out.mono ?_
      rintro e w9 ⟨rfl, hG9⟩
      have C7 := Pr.gnode w9 xx pp Hh.p _ hG9 2 (by unfold Pr.I64; omega)
      rw [nodes_says] at C7
      have C7 := Lib.hid C7
      have HG9 := Lib.hid hG9
      clear C6 hG9
      go_wp2_with fail
      refine C7.out.mono ?_
      rintro e w10 ⟨b10, hs⟩
      rcases hs with ⟨cs', qq, rfl, hA, hI⟩ | ⟨_, _, _, _, _, _, hI⟩ | ⟨_, hI⟩
      rotate_left
      · exact (leaf_not_branch HI0.out hI).elim
      · exact (hI.1 _ HI0.out).elim
      obtain rfl : cs = cs' := (leaf_one hI HI0.out).symm
      have HA := Lib.hid (And.intro hA b10)
      have C8 := Pr.gnodeD w10 xx pp Hh.p _ (HG9.out.on b10) 2
      rw [show Pr.dsays (Pr.seqd (Dk.fresh 10) 10 1 0 [P]).disk 2 = none from Pr.dsays_fresh 10 2 (by omega)] at C8
      have C8 := Lib.hid C8
      clear C7 hA hI b10
      go_wp2_with fail
      refine C8.out.mono ?_
      rintro e w11 ⟨b11, rfl⟩
      obtain ⟨S', hGs, hlt, hsub⟩ := HG9.out.since (onto HA.out.2 b11)
      have C9 := Pr.gflush w11 xx pp Hh.p _ hGs (show (Dk.fresh 10).waits.length < 90000 from by decide)
      obtain ⟨nf1, nf2⟩ := nodes_flush HP16.out
      rw [nf1] at C9
      have C9 := Lib.hid C9
      have HNF := Lib.hid nf2
      have HG11 := Lib.hid (And.intro (HG9.out.on (onto HA.out.2 b11)) (And.intro hlt (And.intro hsub (HA.out.1.on b11))))
      clear nf1 nf2 C8 HA HG9 b11 hGs hlt hsub
      go_wp2_with fail
      refine C9.out.mono ?_
      rintro e w12 ⟨rfl, hG12⟩
      obtain ⟨hG11, hlt, hsub, hA11⟩ := HG11.out
      have hA12 := hA11 S' w12 hG12.off hlt
      have hGF := hG11.back hG12 hsub
      have C10 := Pr.gnodeD w12 xx pp Hh.p _ hGF 2
      rw [HNF.out] at C10
      have C10 := Lib.hid C10
      have HA12 := Lib.hid hA12
      have HZ12 := Lib.hid (And.intro (HZ4.out.1.trans (hGF.below.mono HZ4.out.1.size)) ((hGF.below.block _ (by omega)).trans HZ4.out.2))
      have hs12 := hGF.below.size
      clear C9 HG11 hG12 hG11 hlt hsub hA11 hA12 hGF HZ4 HNF
      obtain ⟨q1, hq1⟩ : ∃ q1, q1 = qq := ⟨_, rfl⟩
      rw [← hq1] at HA12 ⊢
      clear hq1
      go_wp2_with fail
      refine C10.out.mono ?_
      rintro e w13 ⟨b13, hs⟩
      rcases hs with ⟨cs', qq, rfl, hA, hI⟩ | ⟨_, _, _, _, _, _, hI⟩ | ⟨_, hI⟩
      rotate_left
      · exact (leaf_not_branch HI0.out hI).elim
      · exact (hI.1 _ HI0.out).elim
      obtain rfl : cs = cs' := (leaf_one hI HI0.out).symm
      obtain ⟨q2, hq2⟩ : ∃ q2, q2 = qq := ⟨_, rfl⟩
      rw [← hq2] at hA ⊢
      clear hq2
      have ta : ∀ W : World, (Instr.typeAssert (.iface 130 (.pointer (some ⟨q2, 0, none⟩))) 68 74 true).run Tryz.prog W = .ok (.tuple #[.pointer none, .bool false]) W := fun _ => by kernel_rfl
      have B13 := HZ12.out.1.trans (b13.mono HZ12.out.1.size)
      have Z13 := (b13.block _ (by omega)).trans HZ12.out.2
      have hs13 := b13.size
      obtain ⟨q00, q01, q02, q03⟩ := four_cells Z13
      have LA := HA12.out.on b13
      have LB := hA.at_
      have P1 : Hid (∀ W, Below w13.heap.size w13 W → Calls Tryz.prog 179 #[.pointer (some ⟨q1, 0, none⟩)] W fun e w' => (∃ A n c, e = .returned (.slice A n c) ∧ Bs w' A n c P) ∧ Below W.heap.size W w' ∧ Below w13.heap.size w13 w') := fun W bW =>
        (leafPay_any W q1 cs (LA.on bW) hlen9).mono fun e w' ⟨⟨A, n, c, h1, h2⟩, h3⟩ => ⟨⟨A, n, c, h1, by rw [HPAY.out, ← HPP.out] at h2; exact h2⟩, h3, onto bW h3⟩
      have P3 : Hid (∀ W, Below w13.heap.size w13 W → Calls Tryz.prog 179 #[.pointer (some ⟨q2, 0, none⟩)] W fun e w' => (∃ A n c, e = .returned (.slice A n c) ∧ Bs w' A n c P) ∧ Below W.heap.size W w' ∧ Below w13.heap.size w13 w') := fun W bW =>
        (leafPay_any W q2 cs (LB.on bW) hlen9).mono fun e w' ⟨⟨A, n, c, h1, h2⟩, h3⟩ => ⟨⟨A, n, c, h1, by rw [HPAY.out, ← HPP.out] at h2; exact h2⟩, h3, onto bW h3⟩
      have P2 : Hid (∀ W, Below w13.heap.size w13 W → Calls Tryz.prog 39 #[.agg #[.bool false, .slice cA cn cc_, .slice kA kn kc, .slice pA pn pc]] W fun e w' => (∃ A n c, e = .returned (.slice A n c) ∧ Bs w' A n c P) ∧ Below W.heap.size W w' ∧ Below w13.heap.size w13 w') := fun W bW =>
        (CPy.out W (B13.trans (bW.mono B13.size)) hlen9).mono fun e w' ⟨⟨A, n, c, h1, h2, _⟩, h3⟩ => ⟨⟨A, n, c, h1, by rw [HPAY.out, ← HPP.out] at h2; exact h2⟩, h3, onto bW h3⟩
      have P4 := P2
      have HF := Lib.hid B13
      have KS := Lib.hid (fun (W : World) (bW : Below w13.heap.size w13 W) => And.intro ((bW.cell (p := ⟨w.heap.size, 0, none⟩) (show w.heap.size < _ by omega)).trans q00) (And.intro ((bW.cell (p := ⟨w.heap.size, 1, none⟩) (show w.heap.size < _ by omega)).trans q01) (And.intro ((bW.cell (p := ⟨w.heap.size, 2, none⟩) (show w.heap.size < _ by omega)).trans q02) ((bW.cell (p := ⟨w.heap.size, 3, none⟩) (show w.heap.size < _ by omega)).trans q03))))
      have hm1 : ∀ (W : World), (method 312 130 (.pointer (some ⟨q1, 0, none⟩)) "Pay").run Tryz.prog W = .ok (179, .pointer (some ⟨q1, 0, none⟩)) W := fun _ => by kernel_rfl
      have hm2 : ∀ (W : World), (method 312 130 (.pointer (some ⟨q2, 0, none⟩)) "Pay").run Tryz.prog W = .ok (179, .pointer (some ⟨q2, 0, none⟩)) W := fun _ => by kernel_rfl
      clear C10 hA hI b13 LA LB HA12 HZ12 B13 Z13 HI0 HPAY HPP CPy COf HP16
      go_wp2_with fail
      refine wp_region_noPanic ?_
      refine wp_region_held_drew (S := (fun w' : World => w'.cell? ⟨w.heap.size, 0, none⟩ = some (.bool false) ∧ w'.cell? ⟨w.heap.size, 1, none⟩ = some (.slice cA cn cc_) ∧ w'.cell? ⟨w.heap.size, 2, none⟩ = some (.slice kA kn kc) ∧ w'.cell? ⟨w.heap.size, 3, none⟩ = some (.slice pA pn pc))) (by kernel_rfl) (by exact ⟨q00, q01, q02, q03⟩) (fun hHeld => ?_)
      refine wpAnyH_take (i := 0) (oi := { dst := some 97, op := Go.Op.move (Go.Operand.tmp 16), type := 4, pos := "outright.go:77", after := #[], guard := none }) (v := ?_) rfl (by kernel_rfl) (by kernel_rfl) (by kernel_rfl) (fun _ _ _ h => h) (Or.inl ⟨by rfl, ?_⟩) (by assumption) ?_
      rotate_left
      · (intro w hSw; (try dsimp only at hSw); go_simp; try with_reducible rfl)
      try simp only [Act.put, List.setIfInBounds_toArray, List.set_cons_zero, List.set_cons_succ]
      refine wpAnyH_take (i := 1) (oi := { dst := some 98, op := Go.Op.fieldAddr 65 (Go.Operand.tmp 1) 0, type := 0, pos := "outright.go:77", after := #[], guard := none }) (v := ?_) rfl (by kernel_rfl) (by kernel_rfl) (by kernel_rfl) (fun _ _ _ h => h) (Or.inl ⟨by rfl, ?_⟩) (by assumption) ?_
      rotate_left
      · (intro w hSw; (try dsimp only at hSw); go_simp; try with_reducible rfl)
      try simp only [Act.put, List.setIfInBounds_toArray, List.set_cons_zero, List.set_cons_succ]
      refine wpAnyH_take (i := 2) (oi := { dst := some 99, op := Go.Op.load 4 (Go.Operand.tmp 98), type := 4, pos := "outright.go:77", after := #[{ on := 1, ground := Go.Ground.data }], guard := none }) (v := ?_) rfl (by kernel_rfl) (by kernel_rfl) (by kernel_rfl) (fun _ _ _ h => h) (Or.inl ⟨by rfl, ?_⟩) (by assumption) ?_
      rotate_left
      · (intro w hSw; (try dsimp only at hSw); go_simp; try with_reducible rfl)
      try simp only [Act.put, List.setIfInBounds_toArray, List.set_cons_zero, List.set_cons_succ]
      refine wpAnyH_take (i := 3) (oi := { dst := some 100, op := Go.Op.binOp Go.BinOp.eql 4 (Go.Operand.tmp 97) (Go.Operand.tmp 99) 4, type := 4, pos := "outright.go:77", after := #[{ on := 0, ground := Go.Ground.data }, { on := 2, ground := Go.Ground.data }], guard := none }) (v := ?_) rfl (by kernel_rfl) (by kernel_rfl) (by kernel_rfl) (fun _ _ _ h => h) (Or.inl ⟨by rfl, ?_⟩) (by assumption) ?_
      rotate_left
      · (intro w hSw; (try dsimp only at hSw); go_simp; try with_reducible rfl)
      try simp only [Act.put, List.setIfInBounds_toArray, List.set_cons_zero, List.set_cons_succ]
      refine wpAnyH_take (i := 4) (oi := { dst := some 101, op := Go.Op.move (Go.Operand.tmp 100), type := 4, pos := "outright.go:77", after := #[{ on := 3, ground := Go.Ground.data }], guard := none }) (v := ?_) rfl (by kernel_rfl) (by kernel_rfl) (by kernel_rfl) (fun _ _ _ h => h) (Or.inl ⟨by rfl, ?_⟩) (by assumption) ?_
      rotate_left
      · (intro w hSw; (try dsimp only at hSw); go_simp; try with_reducible rfl)
      try simp only [Act.put, List.setIfInBounds_toArray, List.set_cons_zero, List.set_cons_succ]
      refine wpAnyH_take (i := 5) (oi := { dst := some 102, op := Go.Op.move (Go.Operand.tmp 9), type := 68, pos := "outright.go:77", after := #[{ on := 4, ground := Go.Ground.guard }], guard := some (4, true) }) (v := ?_) rfl (by kernel_rfl) (by kernel_rfl) (by kernel_rfl) (fun _ _ _ h => h) (Or.inl ⟨by rfl, ?_⟩) (by assumption) ?_
      rotate_left
      · (intro w hSw; (try dsimp only at hSw); go_simp; try with_reducible rfl)
      try simp only [Act.put, List.setIfInBounds_toArray, List.set_cons_zero, List.set_cons_succ]
      refine wpAnyH_take (i := 8) (oi := { dst := some 105, op := Go.Op.load 65 (Go.Operand.tmp 1), type := 65, pos := "outright.go:77", after := #[{ on := 4, ground := Go.Ground.guard }], guard := some (4, true) }) (v := ?_) rfl (by kernel_rfl) (by kernel_rfl) (by kernel_rfl) (fun _ _ _ h => h) (Or.inl ⟨by rfl, ?_⟩) (by assumption) ?_
      rotate_left
      · (intro w hSw; (try dsimp only at hSw); go_simp; try with_reducible rfl)
      try simp only [Act.put, List.setIfInBounds_toArray, List.set_cons_zero, List.set_cons_succ]
      refine wpAnyH_ready (rs := [6]) (by kernel_rfl) (by simp) ?_
      refine AllReadyH.cons (o := { dst := some 103, op := Go.Op.call { callee := Go.Callee.invoke (Go.Operand.tmp 102) "Pay", args := #[], argTypes := #[] }, type := 43, pos := "outright.go:77", after := #[{ on := 5, ground := Go.Ground.data }, { on := 4, ground := Go.Ground.chain }, { on := 4, ground := Go.Ground.guard }], guard := some (4, true) }) rfl (fun K hK => ?_) AllReadyH.nil
      go_simp
      have QS := P1
      clear P1
      refine (QS.out _ (Below.refl _ _).drew).mono ?_
      clear QS
      rintro e wA ⟨⟨A1, n1, c1, rfl, r1⟩, bA1, bA2⟩
      have R1 := Lib.hid r1
      have BA := Lib.hid bA2
      have t1 := Bs.text r1 43 9 5 Tryz.underlying43 Tryz.underlying5 Tryz.underlying9
      have sA := KS.out _ bA2
      clear r1 bA1 bA2
      refine hK.out _ _ (by exact sA) (fun hHeld => ?_)
      clear hK K
      try simp only [Act.put, List.setIfInBounds_toArray, List.set_cons_zero, List.set_cons_succ]
      refine wpAnyH_ready (rs := [7, 9]) (by kernel_rfl) (by simp) ?_
      refine AllReadyH.cons (o := { dst := some 104, op := Go.Op.convert 43 9 (Go.Operand.tmp 103), type := 9, pos := "outright.go:77", after := #[{ on := 6, ground := Go.Ground.data }, { on := 4, ground := Go.Ground.guard }], guard := some (4, true) }) rfl (fun K hK => ?_) (AllReadyH.cons (o := { dst := some 106, op := Go.Op.call { callee := Go.Callee.value (Go.Operand.func 39), args := #[Go.Operand.tmp 105], argTypes := #[65] }, type := 43, pos := "outright.go:77", after := #[{ on := 8, ground := Go.Ground.data }, { on := 6, ground := Go.Ground.chain }, { on := 4, ground := Go.Ground.guard }], guard := some (4, true) }) rfl (fun K hK => ?_) AllReadyH.nil)
      · skip
        go_simp
        refine hK.out _ _ (by exact sA) (fun hHeld => ?_)
        clear hK K
        try simp only [Act.put, List.setIfInBounds_toArray, List.set_cons_zero, List.set_cons_succ]
        refine wpAnyH_ready (rs := [9]) (by kernel_rfl) (by simp) ?_
        refine AllReadyH.cons (o := { dst := some 106, op := Go.Op.call { callee := Go.Callee.value (Go.Operand.func 39), args := #[Go.Operand.tmp 105], argTypes := #[65] }, type := 43, pos := "outright.go:77", after := #[{ on := 8, ground := Go.Ground.data }, { on := 6, ground := Go.Ground.chain }, { on := 4, ground := Go.Ground.guard }], guard := some (4, true) }) rfl (fun K hK => ?_) AllReadyH.nil
        go_simp
        have QS := P2
        clear P2
        refine (QS.out _ BA.out).mono ?_
        clear QS
        rintro e wB ⟨⟨A2, n2, c2, rfl, r2⟩, bB1, bB2⟩
        have BB := Lib.hid bB2
        have t1b := Bs.text (R1.out.on bB1) 43 9 5 Tryz.underlying43 Tryz.underlying5 Tryz.underlying9
        have t2 := Bs.text r2 43 9 5 Tryz.underlying43 Tryz.underlying5 Tryz.underlying9
        have sB := KS.out _ bB2
        clear r2 bB1 bB2
        refine hK.out _ _ (by exact sB) (fun hHeld => ?_)
        clear hK K
        try simp only [Act.put, List.setIfInBounds_toArray, List.set_cons_zero, List.set_cons_succ]
        refine wpAnyH_ready (rs := [10]) (by kernel_rfl) (by simp) ?_
        refine AllReadyH.cons (o := { dst := some 107, op := Go.Op.convert 43 9 (Go.Operand.tmp 106), type := 9, pos := "outright.go:77", after := #[{ on := 9, ground := Go.Ground.data }, { on := 4, ground := Go.Ground.guard }], guard := some (4, true) }) rfl (fun K hK => ?_) AllReadyH.nil
        go_simp
        refine hK.out _ _ (by exact sB) (fun hHeld => ?_)
        clear hK K
        try simp only [Act.put, List.setIfInBounds_toArray, List.set_cons_zero, List.set_cons_succ]
        refine wpAnyH_take (i := 11) (oi := { dst := some 108, op := Go.Op.binOp Go.BinOp.eql 9 (Go.Operand.tmp 104) (Go.Operand.tmp 107) 9, type := 4, pos := "outright.go:77", after := #[{ on := 7, ground := Go.Ground.data }, { on := 10, ground := Go.Ground.data }, { on := 4, ground := Go.Ground.guard }], guard := some (4, true) }) (v := ?_) rfl (by kernel_rfl) (by kernel_rfl) (by kernel_rfl) (fun _ _ _ h => h) (Or.inl ⟨by rfl, ?_⟩) (by assumption) ?_
        rotate_left
        · (intro w hSw; (try dsimp only at hSw); go_simp; try with_reducible rfl)
        try simp only [Act.put, List.setIfInBounds_toArray, List.set_cons_zero, List.set_cons_succ]
        refine wpAnyH_take (i := 12) (oi := { dst := some 109, op := Go.Op.pick (Go.Operand.tmp 101) (Go.Operand.tmp 108) (Go.Operand.const (Go.Value.bool false)), type := 4, pos := "outright.go:77", after := #[{ on := 4, ground := Go.Ground.data }, { on := 11, ground := Go.Ground.data }], guard := none }) (v := ?_) rfl (by kernel_rfl) (by kernel_rfl) (by kernel_rfl) (fun _ _ _ h => h) (Or.inl ⟨by rfl, ?_⟩) (by assumption) ?_
        rotate_left
        · (intro w hSw; (try dsimp only at hSw); go_simp; try with_reducible rfl)
        try simp only [Act.put, List.setIfInBounds_toArray, List.set_cons_zero, List.set_cons_succ]
        refine wpAnyH_take (i := 13) (oi := { dst := some 110, op := Go.Op.move (Go.Operand.tmp 109), type := 4, pos := "outright.go:77", after := #[{ on := 12, ground := Go.Ground.data }, { on := 9, ground := Go.Ground.chain }], guard := none }) (v := ?_) rfl (by kernel_rfl) (by kernel_rfl) (by kernel_rfl) (fun _ _ _ h => h) (Or.inl ⟨by rfl, ?_⟩) (by assumption) ?_
        rotate_left
        · (intro w hSw; (try dsimp only at hSw); go_simp; try with_reducible rfl)
        try simp only [Act.put, List.setIfInBounds_toArray, List.set_cons_zero, List.set_cons_succ]
        refine wpAnyH_take (i := 14) (oi := { dst := some 111, op := Go.Op.move (Go.Operand.tmp 13), type := 68, pos := "outright.go:77", after := #[{ on := 13, ground := Go.Ground.guard }], guard := some (13, true) }) (v := ?_) rfl (by kernel_rfl) (by kernel_rfl) (by kernel_rfl) (fun _ _ _ h => h) (Or.inl ⟨by rfl, ?_⟩) (by assumption) ?_
        rotate_left
        · (intro w hSw; (try dsimp only at hSw); go_simp; try with_reducible rfl)
        try simp only [Act.put, List.setIfInBounds_toArray, List.set_cons_zero, List.set_cons_succ]
        refine wpAnyH_take (i := 17) (oi := { dst := some 114, op := Go.Op.load 65 (Go.Operand.tmp 1), type := 65, pos := "outright.go:77", after := #[{ on := 13, ground := Go.Ground.guard }], guard := some (13, true) }) (v := ?_) rfl (by kernel_rfl) (by kernel_rfl) (by kernel_rfl) (fun _ _ _ h => h) (Or.inl ⟨by rfl, ?_⟩) (by assumption) ?_
        rotate_left
        · (intro w hSw; (try dsimp only at hSw); go_simp; try with_reducible rfl)
        try simp only [Act.put, List.setIfInBounds_toArray, List.set_cons_zero, List.set_cons_succ]
        refine wpAnyH_ready (rs := [15]) (by kernel_rfl) (by simp) ?_
        refine AllReadyH.cons (o := { dst := some 112, op := Go.Op.call { callee := Go.Callee.invoke (Go.Operand.tmp 111) "Pay", args := #[], argTypes := #[] }, type := 43, pos := "outright.go:77", after := #[{ on := 14, ground := Go.Ground.data }, { on := 13, ground := Go.Ground.chain }, { on := 13, ground := Go.Ground.guard }], guard := some (13, true) }) rfl (fun K hK => ?_) AllReadyH.nil
        go_simp
        have QS := P3
        clear P3
        refine (QS.out _ BB.out).mono ?_
        clear QS
        rintro e wC ⟨⟨A3, n3, c3, rfl, r3⟩, bC1, bC2⟩
        have R3 := Lib.hid r3
        have BC := Lib.hid bC2
        have t3 := Bs.text r3 43 9 5 Tryz.underlying43 Tryz.underlying5 Tryz.underlying9
        have sC := KS.out _ bC2
        clear r3 bC1 bC2
        refine hK.out _ _ (by exact sC) (fun hHeld => ?_)
        clear hK K
        try simp only [Act.put, List.setIfInBounds_toArray, List.set_cons_zero, List.set_cons_succ]
        refine wpAnyH_ready (rs := [16, 18]) (by kernel_rfl) (by simp) ?_
        refine AllReadyH.cons (o := { dst := some 113, op := Go.Op.convert 43 9 (Go.Operand.tmp 112), type := 9, pos := "outright.go:77", after := #[{ on := 15, ground := Go.Ground.data }, { on := 13, ground := Go.Ground.guard }], guard := some (13, true) }) rfl (fun K hK => ?_) (AllReadyH.cons (o := { dst := some 115, op := Go.Op.call { callee := Go.Callee.value (Go.Operand.func 39), args := #[Go.Operand.tmp 114], argTypes := #[65] }, type := 43, pos := "outright.go:77", after := #[{ on := 17, ground := Go.Ground.data }, { on := 15, ground := Go.Ground.chain }, { on := 13, ground := Go.Ground.guard }], guard := some (13, true) }) rfl (fun K hK => ?_) AllReadyH.nil)
        · skip
          go_simp
          refine hK.out _ _ (by exact sC) (fun hHeld => ?_)
          clear hK K
          try simp only [Act.put, List.setIfInBounds_toArray, List.set_cons_zero, List.set_cons_succ]
          refine wpAnyH_ready (rs := [18]) (by kernel_rfl) (by simp) ?_
          refine AllReadyH.cons (o := { dst := some 115, op := Go.Op.call { callee := Go.Callee.value (Go.Operand.func 39), args := #[Go.Operand.tmp 114], argTypes := #[65] }, type := 43, pos := "outright.go:77", after := #[{ on := 17, ground := Go.Ground.data }, { on := 15, ground := Go.Ground.chain }, { on := 13, ground := Go.Ground.guard }], guard := some (13, true) }) rfl (fun K hK => ?_) AllReadyH.nil
          go_simp
          have QS := P4
          clear P4
          refine (QS.out _ BC.out).mono ?_
          clear QS
          rintro e wD ⟨⟨A4, n4, c4, rfl, r4⟩, bD1, bD2⟩
          have BD := Lib.hid bD2
          have t3d := Bs.text (R3.out.on bD1) 43 9 5 Tryz.underlying43 Tryz.underlying5 Tryz.underlying9
          have t4 := Bs.text r4 43 9 5 Tryz.underlying43 Tryz.underlying5 Tryz.underlying9
          have sD := KS.out _ bD2
          clear r4 bD1 bD2
          refine hK.out _ _ (by exact sD) (fun hHeld => ?_)
          clear hK K
          try simp only [Act.put, List.setIfInBounds_toArray, List.set_cons_zero, List.set_cons_succ]
          refine wpAnyH_ready (rs := [19]) (by kernel_rfl) (by simp) ?_
          refine AllReadyH.cons (o := { dst := some 116, op := Go.Op.convert 43 9 (Go.Operand.tmp 115), type := 9, pos := "outright.go:77", after := #[{ on := 18, ground := Go.Ground.data }, { on := 13, ground := Go.Ground.guard }], guard := some (13, true) }) rfl (fun K hK => ?_) AllReadyH.nil
          go_simp
          refine hK.out _ _ (by exact sD) (fun hHeld => ?_)
          clear hK K
          try simp only [Act.put, List.setIfInBounds_toArray, List.set_cons_zero, List.set_cons_succ]
          refine wpAnyH_take (i := 20) (oi := { dst := some 117, op := Go.Op.binOp Go.BinOp.eql 9 (Go.Operand.tmp 113) (Go.Operand.tmp 116) 9, type := 4, pos := "outright.go:77", after := #[{ on := 16, ground := Go.Ground.data }, { on := 19, ground := Go.Ground.data }, { on := 13, ground := Go.Ground.guard }], guard := some (13, true) }) (v := ?_) rfl (by kernel_rfl) (by kernel_rfl) (by kernel_rfl) (fun _ _ _ h => h) (Or.inl ⟨by rfl, ?_⟩) (by assumption) ?_
          rotate_left
          · (intro w hSw; (try dsimp only at hSw); go_simp; try with_reducible rfl)
          try simp only [Act.put, List.setIfInBounds_toArray, List.set_cons_zero, List.set_cons_succ]
          refine wpAnyH_take (i := 21) (oi := { dst := some 118, op := Go.Op.pick (Go.Operand.tmp 110) (Go.Operand.tmp 117) (Go.Operand.const (Go.Value.bool false)), type := 4, pos := "outright.go:77", after := #[{ on := 13, ground := Go.Ground.data }, { on := 20, ground := Go.Ground.data }], guard := none }) (v := ?_) rfl (by kernel_rfl) (by kernel_rfl) (by kernel_rfl) (fun _ _ _ h => h) (Or.inl ⟨by rfl, ?_⟩) (by assumption) ?_
          rotate_left
          · (intro w hSw; (try dsimp only at hSw); go_simp; try with_reducible rfl)
          try simp only [Act.put, List.setIfInBounds_toArray, List.set_cons_zero, List.set_cons_succ]
          refine wpAnyH_take (i := 22) (oi := { dst := some 2, op := Go.Op.assign (Go.Operand.tmp 118), type := 4, pos := "outright.go:77", after := #[{ on := 21, ground := Go.Ground.data }, { on := 18, ground := Go.Ground.chain }, { on := 0, ground := Go.Ground.phase }, { on := 1, ground := Go.Ground.phase }, { on := 2, ground := Go.Ground.phase }, { on := 3, ground := Go.Ground.phase }, { on := 4, ground := Go.Ground.phase }, { on := 5, ground := Go.Ground.phase }, { on := 6, ground := Go.Ground.phase }, { on := 7, ground := Go.Ground.phase }, { on := 8, ground := Go.Ground.phase }, { on := 9, ground := Go.Ground.phase }, { on := 10, ground := Go.Ground.phase }, { on := 11, ground := Go.Ground.phase }, { on := 12, ground := Go.Ground.phase }, { on := 13, ground := Go.Ground.phase }, { on := 14, ground := Go.Ground.phase }, { on := 15, ground := Go.Ground.phase }, { on := 16, ground := Go.Ground.phase }, { on := 17, ground := Go.Ground.phase }, { on := 18, ground := Go.Ground.phase }, { on := 19, ground := Go.Ground.phase }, { on := 20, ground := Go.Ground.phase }, { on := 21, ground := Go.Ground.phase }], guard := none }) (v := ?_) rfl (by kernel_rfl) (by kernel_rfl) (by kernel_rfl) (fun _ _ _ h => h) (Or.inl ⟨by rfl, ?_⟩) (by assumption) ?_
          rotate_left
          · (intro w hSw; (try dsimp only at hSw); go_simp; try with_reducible rfl)
          try simp only [Act.put, List.setIfInBounds_toArray, List.set_cons_zero, List.set_cons_succ]
          refine wpAnyH_done (by kernel_rfl) ?_ _
          refine NoPanic.normal ?_
          have HFF := Lib.hid (HF.out.trans (BD.out.mono HF.out.size))
          clear sA sB sC sD BA BB BC BD KS HF
          go_wp2
          go_ret
          exact ⟨rfl, HFF.out⟩
        · skip
          go_simp
          have QS := P4
          clear P4
          refine (QS.out _ BC.out).mono ?_
          clear QS
          rintro e wD ⟨⟨A4, n4, c4, rfl, r4⟩, bD1, bD2⟩
          have BD := Lib.hid bD2
          have t3d := Bs.text (R3.out.on bD1) 43 9 5 Tryz.underlying43 Tryz.underlying5 Tryz.underlying9
          have t4 := Bs.text r4 43 9 5 Tryz.underlying43 Tryz.underlying5 Tryz.underlying9
          have sD := KS.out _ bD2
          clear r4 bD1 bD2
          refine hK.out _ _ (by exact sD) (fun hHeld => ?_)
          clear hK K
          try simp only [Act.put, List.setIfInBounds_toArray, List.set_cons_zero, List.set_cons_succ]
          refine wpAnyH_ready (rs := [16, 19]) (by kernel_rfl) (by simp) ?_
          refine AllReadyH.cons (o := { dst := some 113, op := Go.Op.convert 43 9 (Go.Operand.tmp 112), type := 9, pos := "outright.go:77", after := #[{ on := 15, ground := Go.Ground.data }, { on := 13, ground := Go.Ground.guard }], guard := some (13, true) }) rfl (fun K hK => ?_) (AllReadyH.cons (o := { dst := some 116, op := Go.Op.convert 43 9 (Go.Operand.tmp 115), type := 9, pos := "outright.go:77", after := #[{ on := 18, ground := Go.Ground.data }, { on := 13, ground := Go.Ground.guard }], guard := some (13, true) }) rfl (fun K hK => ?_) AllReadyH.nil)
          · skip
            go_simp
            refine hK.out _ _ (by exact sD) (fun hHeld => ?_)
            clear hK K
            try simp only [Act.put, List.setIfInBounds_toArray, List.set_cons_zero, List.set_cons_succ]
            refine wpAnyH_ready (rs := [19]) (by kernel_rfl) (by simp) ?_
            refine AllReadyH.cons (o := { dst := some 116, op := Go.Op.convert 43 9 (Go.Operand.tmp 115), type := 9, pos := "outright.go:77", after := #[{ on := 18, ground := Go.Ground.data }, { on := 13, ground := Go.Ground.guard }], guard := some (13, true) }) rfl (fun K hK => ?_) AllReadyH.nil
            go_simp
            refine hK.out _ _ (by exact sD) (fun hHeld => ?_)
            clear hK K
            try simp only [Act.put, List.setIfInBounds_toArray, List.set_cons_zero, List.set_cons_succ]
            refine wpAnyH_take (i := 20) (oi := { dst := some 117, op := Go.Op.binOp Go.BinOp.eql 9 (Go.Operand.tmp 113) (Go.Operand.tmp 116) 9, type := 4, pos := "outright.go:77", after := #[{ on := 16, ground := Go.Ground.data }, { on := 19, ground := Go.Ground.data }, { on := 13, ground := Go.Ground.guard }], guard := some (13, true) }) (v := ?_) rfl (by kernel_rfl) (by kernel_rfl) (by kernel_rfl) (fun _ _ _ h => h) (Or.inl ⟨by rfl, ?_⟩) (by assumption) ?_
            rotate_left
            · (intro w hSw; (try dsimp only at hSw); go_simp; try with_reducible rfl)
            try simp only [Act.put, List.setIfInBounds_toArray, List.set_cons_zero, List.set_cons_succ]
            refine wpAnyH_take (i := 21) (oi := { dst := some 118, op := Go.Op.pick (Go.Operand.tmp 110) (Go.Operand.tmp 117) (Go.Operand.const (Go.Value.bool false)), type := 4, pos := "outright.go:77", after := #[{ on := 13, ground := Go.Ground.data }, { on := 20, ground := Go.Ground.data }], guard := none }) (v := ?_) rfl (by kernel_rfl) (by kernel_rfl) (by kernel_rfl) (fun _ _ _ h => h) (Or.inl ⟨by rfl, ?_⟩) (by assumption) ?_
            rotate_left
            · (intro w hSw; (try dsimp only at hSw); go_simp; try with_reducible rfl)
            try simp only [Act.put, List.setIfInBounds_toArray, List.set_cons_zero, List.set_cons_succ]
            refine wpAnyH_take (i := 22) (oi := { dst := some 2, op := Go.Op.assign (Go.Operand.tmp 118), type := 4, pos := "outright.go:77", after := #[{ on := 21, ground := Go.Ground.data }, { on := 18, ground := Go.Ground.chain }, { on := 0, ground := Go.Ground.phase }, { on := 1, ground := Go.Ground.phase }, { on := 2, ground := Go.Ground.phase }, { on := 3, ground := Go.Ground.phase }, { on := 4, ground := Go.Ground.phase }, { on := 5, ground := Go.Ground.phase }, { on := 6, ground := Go.Ground.phase }, { on := 7, ground := Go.Ground.phase }, { on := 8, ground := Go.Ground.phase }, { on := 9, ground := Go.Ground.phase }, { on := 10, ground := Go.Ground.phase }, { on := 11, ground := Go.Ground.phase }, { on := 12, ground := Go.Ground.phase }, { on := 13, ground := Go.Ground.phase }, { on := 14, ground := Go.Ground.phase }, { on := 15, ground := Go.Ground.phase }, { on := 16, ground := Go.Ground.phase }, { on := 17, ground := Go.Ground.phase }, { on := 18, ground := Go.Ground.phase }, { on := 19, ground := Go.Ground.phase }, { on := 20, ground := Go.Ground.phase }, { on := 21, ground := Go.Ground.phase }], guard := none }) (v := ?_) rfl (by kernel_rfl) (by kernel_rfl) (by kernel_rfl) (fun _ _ _ h => h) (Or.inl ⟨by rfl, ?_⟩) (by assumption) ?_
            rotate_left
            · (intro w hSw; (try dsimp only at hSw); go_simp; try with_reducible rfl)
            try simp only [Act.put, List.setIfInBounds_toArray, List.set_cons_zero, List.set_cons_succ]
            refine wpAnyH_done (by kernel_rfl) ?_ _
            refine NoPanic.normal ?_
            have HFF := Lib.hid (HF.out.trans (BD.out.mono HF.out.size))
            clear sA sB sC sD BA BB BC BD KS HF
            go_wp2
            go_ret
            exact ⟨rfl, HFF.out⟩
          · skip
            go_simp
            refine hK.out _ _ (by exact sD) (fun hHeld => ?_)
            clear hK K
            try simp only [Act.put, List.setIfInBounds_toArray, List.set_cons_zero, List.set_cons_succ]
            refine wpAnyH_ready (rs := [16]) (by kernel_rfl) (by simp) ?_
            refine AllReadyH.cons (o := { dst := some 113, op := Go.Op.convert 43 9 (Go.Operand.tmp 112), type := 9, pos := "outright.go:77", after := #[{ on := 15, ground := Go.Ground.data }, { on := 13, ground := Go.Ground.guard }], guard := some (13, true) }) rfl (fun K hK => ?_) AllReadyH.nil
            go_simp
            refine hK.out _ _ (by exact sD) (fun hHeld => ?_)
            clear hK K
            try simp only [Act.put, List.setIfInBounds_toArray, List.set_cons_zero, List.set_cons_succ]
            refine wpAnyH_take (i := 20) (oi := { dst := some 117, op := Go.Op.binOp Go.BinOp.eql 9 (Go.Operand.tmp 113) (Go.Operand.tmp 116) 9, type := 4, pos := "outright.go:77", after := #[{ on := 16, ground := Go.Ground.data }, { on := 19, ground := Go.Ground.data }, { on := 13, ground := Go.Ground.guard }], guard := some (13, true) }) (v := ?_) rfl (by kernel_rfl) (by kernel_rfl) (by kernel_rfl) (fun _ _ _ h => h) (Or.inl ⟨by rfl, ?_⟩) (by assumption) ?_
            rotate_left
            · (intro w hSw; (try dsimp only at hSw); go_simp; try with_reducible rfl)
            try simp only [Act.put, List.setIfInBounds_toArray, List.set_cons_zero, List.set_cons_succ]
            refine wpAnyH_take (i := 21) (oi := { dst := some 118, op := Go.Op.pick (Go.Operand.tmp 110) (Go.Operand.tmp 117) (Go.Operand.const (Go.Value.bool false)), type := 4, pos := "outright.go:77", after := #[{ on := 13, ground := Go.Ground.data }, { on := 20, ground := Go.Ground.data }], guard := none }) (v := ?_) rfl (by kernel_rfl) (by kernel_rfl) (by kernel_rfl) (fun _ _ _ h => h) (Or.inl ⟨by rfl, ?_⟩) (by assumption) ?_
            rotate_left
            · (intro w hSw; (try dsimp only at hSw); go_simp; try with_reducible rfl)
            try simp only [Act.put, List.setIfInBounds_toArray, List.set_cons_zero, List.set_cons_succ]
            refine wpAnyH_take (i := 22) (oi := { dst := some 2, op := Go.Op.assign (Go.Operand.tmp 118), type := 4, pos := "outright.go:77", after := #[{ on := 21, ground := Go.Ground.data }, { on := 18, ground := Go.Ground.chain }, { on := 0, ground := Go.Ground.phase }, { on := 1, ground := Go.Ground.phase }, { on := 2, ground := Go.Ground.phase }, { on := 3, ground := Go.Ground.phase }, { on := 4, ground := Go.Ground.phase }, { on := 5, ground := Go.Ground.phase }, { on := 6, ground := Go.Ground.phase }, { on := 7, ground := Go.Ground.phase }, { on := 8, ground := Go.Ground.phase }, { on := 9, ground := Go.Ground.phase }, { on := 10, ground := Go.Ground.phase }, { on := 11, ground := Go.Ground.phase }, { on := 12, ground := Go.Ground.phase }, { on := 13, ground := Go.Ground.phase }, { on := 14, ground := Go.Ground.phase }, { on := 15, ground := Go.Ground.phase }, { on := 16, ground := Go.Ground.phase }, { on := 17, ground := Go.Ground.phase }, { on := 18, ground := Go.Ground.phase }, { on := 19, ground := Go.Ground.phase }, { on := 20, ground := Go.Ground.phase }, { on := 21, ground := Go.Ground.phase }], guard := none }) (v := ?_) rfl (by kernel_rfl) (by kernel_rfl) (by kernel_rfl) (fun _ _ _ h => h) (Or.inl ⟨by rfl, ?_⟩) (by assumption) ?_
            rotate_left
            · (intro w hSw; (try dsimp only at hSw); go_simp; try with_reducible rfl)
            try simp only [Act.put, List.setIfInBounds_toArray, List.set_cons_zero, List.set_cons_succ]
            refine wpAnyH_done (by kernel_rfl) ?_ _
            refine NoPanic.normal ?_
            have HFF := Lib.hid (HF.out.trans (BD.out.mono HF.out.size))
            clear sA sB sC sD BA BB BC BD KS HF
            go_wp2
            go_ret
            exact ⟨rfl, HFF.out⟩
      · skip
        go_simp
        have QS := P2
        clear P2
        refine (QS.out _ BA.out).mono ?_
        clear QS
        rintro e wB ⟨⟨A2, n2, c2, rfl, r2⟩, bB1, bB2⟩
        have BB := Lib.hid bB2
        have t1b := Bs.text (R1.out.on bB1) 43 9 5 Tryz.underlying43 Tryz.underlying5 Tryz.underlying9
        have t2 := Bs.text r2 43 9 5 Tryz.underlying43 Tryz.underlying5 Tryz.underlying9
        have sB := KS.out _ bB2
        clear r2 bB1 bB2
        refine hK.out _ _ (by exact sB) (fun hHeld => ?_)
        clear hK K
        try simp only [Act.put, List.setIfInBounds_toArray, List.set_cons_zero, List.set_cons_succ]
        refine wpAnyH_ready (rs := [7, 10]) (by kernel_rfl) (by simp) ?_
        refine AllReadyH.cons (o := { dst := some 104, op := Go.Op.convert 43 9 (Go.Operand.tmp 103), type := 9, pos := "outright.go:77", after := #[{ on := 6, ground := Go.Ground.data }, { on := 4, ground := Go.Ground.guard }], guard := some (4, true) }) rfl (fun K hK => ?_) (AllReadyH.cons (o := { dst := some 107, op := Go.Op.convert 43 9 (Go.Operand.tmp 106), type := 9, pos := "outright.go:77", after := #[{ on := 9, ground := Go.Ground.data }, { on := 4, ground := Go.Ground.guard }], guard := some (4, true) }) rfl (fun K hK => ?_) AllReadyH.nil)
        · skip
          go_simp
          refine hK.out _ _ (by exact sB) (fun hHeld => ?_)
          clear hK K
          try simp only [Act.put, List.setIfInBounds_toArray, List.set_cons_zero, List.set_cons_succ]
          refine wpAnyH_ready (rs := [10]) (by kernel_rfl) (by simp) ?_
          refine AllReadyH.cons (o := { dst := some 107, op := Go.Op.convert 43 9 (Go.Operand.tmp 106), type := 9, pos := "outright.go:77", after := #[{ on := 9, ground := Go.Ground.data }, { on := 4, ground := Go.Ground.guard }], guard := some (4, true) }) rfl (fun K hK => ?_) AllReadyH.nil
          go_simp
          refine hK.out _ _ (by exact sB) (fun hHeld => ?_)
          clear hK K
          try simp only [Act.put, List.setIfInBounds_toArray, List.set_cons_zero, List.set_cons_succ]
          refine wpAnyH_take (i := 11) (oi := { dst := some 108, op := Go.Op.binOp Go.BinOp.eql 9 (Go.Operand.tmp 104) (Go.Operand.tmp 107) 9, type := 4, pos := "outright.go:77", after := #[{ on := 7, ground := Go.Ground.data }, { on := 10, ground := Go.Ground.data }, { on := 4, ground := Go.Ground.guard }], guard := some (4, true) }) (v := ?_) rfl (by kernel_rfl) (by kernel_rfl) (by kernel_rfl) (fun _ _ _ h => h) (Or.inl ⟨by rfl, ?_⟩) (by assumption) ?_
          rotate_left
          · (intro w hSw; (try dsimp only at hSw); go_simp; try with_reducible rfl)
          try simp only [Act.put, List.setIfInBounds_toArray, List.set_cons_zero, List.set_cons_succ]
          refine wpAnyH_take (i := 12) (oi := { dst := some 109, op := Go.Op.pick (Go.Operand.tmp 101) (Go.Operand.tmp 108) (Go.Operand.const (Go.Value.bool false)), type := 4, pos := "outright.go:77", after := #[{ on := 4, ground := Go.Ground.data }, { on := 11, ground := Go.Ground.data }], guard := none }) (v := ?_) rfl (by kernel_rfl) (by kernel_rfl) (by kernel_rfl) (fun _ _ _ h => h) (Or.inl ⟨by rfl, ?_⟩) (by assumption) ?_
          rotate_left
          · (intro w hSw; (try dsimp only at hSw); go_simp; try with_reducible rfl)
          try simp only [Act.put, List.setIfInBounds_toArray, List.set_cons_zero, List.set_cons_succ]
          refine wpAnyH_take (i := 13) (oi := { dst := some 110, op := Go.Op.move (Go.Operand.tmp 109), type := 4, pos := "outright.go:77", after := #[{ on := 12, ground := Go.Ground.data }, { on := 9, ground := Go.Ground.chain }], guard := none }) (v := ?_) rfl (by kernel_rfl) (by kernel_rfl) (by kernel_rfl) (fun _ _ _ h => h) (Or.inl ⟨by rfl, ?_⟩) (by assumption) ?_
          rotate_left
          · (intro w hSw; (try dsimp only at hSw); go_simp; try with_reducible rfl)
          try simp only [Act.put, List.setIfInBounds_toArray, List.set_cons_zero, List.set_cons_succ]
          refine wpAnyH_take (i := 14) (oi := { dst := some 111, op := Go.Op.move (Go.Operand.tmp 13), type := 68, pos := "outright.go:77", after := #[{ on := 13, ground := Go.Ground.guard }], guard := some (13, true) }) (v := ?_) rfl (by kernel_rfl) (by kernel_rfl) (by kernel_rfl) (fun _ _ _ h => h) (Or.inl ⟨by rfl, ?_⟩) (by assumption) ?_
          rotate_left
          · (intro w hSw; (try dsimp only at hSw); go_simp; try with_reducible rfl)
          try simp only [Act.put, List.setIfInBounds_toArray, List.set_cons_zero, List.set_cons_succ]
          refine wpAnyH_take (i := 17) (oi := { dst := some 114, op := Go.Op.load 65 (Go.Operand.tmp 1), type := 65, pos := "outright.go:77", after := #[{ on := 13, ground := Go.Ground.guard }], guard := some (13, true) }) (v := ?_) rfl (by kernel_rfl) (by kernel_rfl) (by kernel_rfl) (fun _ _ _ h => h) (Or.inl ⟨by rfl, ?_⟩) (by assumption) ?_
          rotate_left
          · (intro w hSw; (try dsimp only at hSw); go_simp; try with_reducible rfl)
          try simp only [Act.put, List.setIfInBounds_toArray, List.set_cons_zero, List.set_cons_succ]
          refine wpAnyH_ready (rs := [15]) (by kernel_rfl) (by simp) ?_
          refine AllReadyH.cons (o := { dst := some 112, op := Go.Op.call { callee := Go.Callee.invoke (Go.Operand.tmp 111) "Pay", args := #[], argTypes := #[] }, type := 43, pos := "outright.go:77", after := #[{ on := 14, ground := Go.Ground.data }, { on := 13, ground := Go.Ground.chain }, { on := 13, ground := Go.Ground.guard }], guard := some (13, true) }) rfl (fun K hK => ?_) AllReadyH.nil
          go_simp
          have QS := P3
          clear P3
          refine (QS.out _ BB.out).mono ?_
          clear QS
          rintro e wC ⟨⟨A3, n3, c3, rfl, r3⟩, bC1, bC2⟩
          have R3 := Lib.hid r3
          have BC := Lib.hid bC2
          have t3 := Bs.text r3 43 9 5 Tryz.underlying43 Tryz.underlying5 Tryz.underlying9
          have sC := KS.out _ bC2
          clear r3 bC1 bC2
          refine hK.out _ _ (by exact sC) (fun hHeld => ?_)
          clear hK K
          try simp only [Act.put, List.setIfInBounds_toArray, List.set_cons_zero, List.set_cons_succ]
          refine wpAnyH_ready (rs := [16, 18]) (by kernel_rfl) (by simp) ?_
          refine AllReadyH.cons (o := { dst := some 113, op := Go.Op.convert 43 9 (Go.Operand.tmp 112), type := 9, pos := "outright.go:77", after := #[{ on := 15, ground := Go.Ground.data }, { on := 13, ground := Go.Ground.guard }], guard := some (13, true) }) rfl (fun K hK => ?_) (AllReadyH.cons (o := { dst := some 115, op := Go.Op.call { callee := Go.Callee.value (Go.Operand.func 39), args := #[Go.Operand.tmp 114], argTypes := #[65] }, type := 43, pos := "outright.go:77", after := #[{ on := 17, ground := Go.Ground.data }, { on := 15, ground := Go.Ground.chain }, { on := 13, ground := Go.Ground.guard }], guard := some (13, true) }) rfl (fun K hK => ?_) AllReadyH.nil)
          · skip
            go_simp
            refine hK.out _ _ (by exact sC) (fun hHeld => ?_)
            clear hK K
            try simp only [Act.put, List.setIfInBounds_toArray, List.set_cons_zero, List.set_cons_succ]
            refine wpAnyH_ready (rs := [18]) (by kernel_rfl) (by simp) ?_
            refine AllReadyH.cons (o := { dst := some 115, op := Go.Op.call { callee := Go.Callee.value (Go.Operand.func 39), args := #[Go.Operand.tmp 114], argTypes := #[65] }, type := 43, pos := "outright.go:77", after := #[{ on := 17, ground := Go.Ground.data }, { on := 15, ground := Go.Ground.chain }, { on := 13, ground := Go.Ground.guard }], guard := some (13, true) }) rfl (fun K hK => ?_) AllReadyH.nil
            go_simp
            have QS := P4
            clear P4
            refine (QS.out _ BC.out).mono ?_
            clear QS
            rintro e wD ⟨⟨A4, n4, c4, rfl, r4⟩, bD1, bD2⟩
            have BD := Lib.hid bD2
            have t3d := Bs.text (R3.out.on bD1) 43 9 5 Tryz.underlying43 Tryz.underlying5 Tryz.underlying9
            have t4 := Bs.text r4 43 9 5 Tryz.underlying43 Tryz.underlying5 Tryz.underlying9
            have sD := KS.out _ bD2
            clear r4 bD1 bD2
            refine hK.out _ _ (by exact sD) (fun hHeld => ?_)
            clear hK K
            try simp only [Act.put, List.setIfInBounds_toArray, List.set_cons_zero, List.set_cons_succ]
            refine wpAnyH_ready (rs := [19]) (by kernel_rfl) (by simp) ?_
            refine AllReadyH.cons (o := { dst := some 116, op := Go.Op.convert 43 9 (Go.Operand.tmp 115), type := 9, pos := "outright.go:77", after := #[{ on := 18, ground := Go.Ground.data }, { on := 13, ground := Go.Ground.guard }], guard := some (13, true) }) rfl (fun K hK => ?_) AllReadyH.nil
            go_simp
            refine hK.out _ _ (by exact sD) (fun hHeld => ?_)
            clear hK K
            try simp only [Act.put, List.setIfInBounds_toArray, List.set_cons_zero, List.set_cons_succ]
            refine wpAnyH_take (i := 20) (oi := { dst := some 117, op := Go.Op.binOp Go.BinOp.eql 9 (Go.Operand.tmp 113) (Go.Operand.tmp 116) 9, type := 4, pos := "outright.go:77", after := #[{ on := 16, ground := Go.Ground.data }, { on := 19, ground := Go.Ground.data }, { on := 13, ground := Go.Ground.guard }], guard := some (13, true) }) (v := ?_) rfl (by kernel_rfl) (by kernel_rfl) (by kernel_rfl) (fun _ _ _ h => h) (Or.inl ⟨by rfl, ?_⟩) (by assumption) ?_
            rotate_left
            · (intro w hSw; (try dsimp only at hSw); go_simp; try with_reducible rfl)
            try simp only [Act.put, List.setIfInBounds_toArray, List.set_cons_zero, List.set_cons_succ]
            refine wpAnyH_take (i := 21) (oi := { dst := some 118, op := Go.Op.pick (Go.Operand.tmp 110) (Go.Operand.tmp 117) (Go.Operand.const (Go.Value.bool false)), type := 4, pos := "outright.go:77", after := #[{ on := 13, ground := Go.Ground.data }, { on := 20, ground := Go.Ground.data }], guard := none }) (v := ?_) rfl (by kernel_rfl) (by kernel_rfl) (by kernel_rfl) (fun _ _ _ h => h) (Or.inl ⟨by rfl, ?_⟩) (by assumption) ?_
            rotate_left
            · (intro w hSw; (try dsimp only at hSw); go_simp; try with_reducible rfl)
            try simp only [Act.put, List.setIfInBounds_toArray, List.set_cons_zero, List.set_cons_succ]
            refine wpAnyH_take (i := 22) (oi := { dst := some 2, op := Go.Op.assign (Go.Operand.tmp 118), type := 4, pos := "outright.go:77", after := #[{ on := 21, ground := Go.Ground.data }, { on := 18, ground := Go.Ground.chain }, { on := 0, ground := Go.Ground.phase }, { on := 1, ground := Go.Ground.phase }, { on := 2, ground := Go.Ground.phase }, { on := 3, ground := Go.Ground.phase }, { on := 4, ground := Go.Ground.phase }, { on := 5, ground := Go.Ground.phase }, { on := 6, ground := Go.Ground.phase }, { on := 7, ground := Go.Ground.phase }, { on := 8, ground := Go.Ground.phase }, { on := 9, ground := Go.Ground.phase }, { on := 10, ground := Go.Ground.phase }, { on := 11, ground := Go.Ground.phase }, { on := 12, ground := Go.Ground.phase }, { on := 13, ground := Go.Ground.phase }, { on := 14, ground := Go.Ground.phase }, { on := 15, ground := Go.Ground.phase }, { on := 16, ground := Go.Ground.phase }, { on := 17, ground := Go.Ground.phase }, { on := 18, ground := Go.Ground.phase }, { on := 19, ground := Go.Ground.phase }, { on := 20, ground := Go.Ground.phase }, { on := 21, ground := Go.Ground.phase }], guard := none }) (v := ?_) rfl (by kernel_rfl) (by kernel_rfl) (by kernel_rfl) (fun _ _ _ h => h) (Or.inl ⟨by rfl, ?_⟩) (by assumption) ?_
            rotate_left
            · (intro w hSw; (try dsimp only at hSw); go_simp; try with_reducible rfl)
            try simp only [Act.put, List.setIfInBounds_toArray, List.set_cons_zero, List.set_cons_succ]
            refine wpAnyH_done (by kernel_rfl) ?_ _
            refine NoPanic.normal ?_
            have HFF := Lib.hid (HF.out.trans (BD.out.mono HF.out.size))
            clear sA sB sC sD BA BB BC BD KS HF
            go_wp2
            go_ret
            exact ⟨rfl, HFF.out⟩
          · skip
            go_simp
            have QS := P4
            clear P4
            refine (QS.out _ BC.out).mono ?_
            clear QS
            rintro e wD ⟨⟨A4, n4, c4, rfl, r4⟩, bD1, bD2⟩
            have BD := Lib.hid bD2
            have t3d := Bs.text (R3.out.on bD1) 43 9 5 Tryz.underlying43 Tryz.underlying5 Tryz.underlying9
            have t4 := Bs.text r4 43 9 5 Tryz.underlying43 Tryz.underlying5 Tryz.underlying9
            have sD := KS.out _ bD2
            clear r4 bD1 bD2
            refine hK.out _ _ (by exact sD) (fun hHeld => ?_)
            clear hK K
            try simp only [Act.put, List.setIfInBounds_toArray, List.set_cons_zero, List.set_cons_succ]
            refine wpAnyH_ready (rs := [16, 19]) (by kernel_rfl) (by simp) ?_
            refine AllReadyH.cons (o := { dst := some 113, op := Go.Op.convert 43 9 (Go.Operand.tmp 112), type := 9, pos := "outright.go:77", after := #[{ on := 15, ground := Go.Ground.data }, { on := 13, ground := Go.Ground.guard }], guard := some (13, true) }) rfl (fun K hK => ?_) (AllReadyH.cons (o := { dst := some 116, op := Go.Op.convert 43 9 (Go.Operand.tmp 115), type := 9, pos := "outright.go:77", after := #[{ on := 18, ground := Go.Ground.data }, { on := 13, ground := Go.Ground.guard }], guard := some (13, true) }) rfl (fun K hK => ?_) AllReadyH.nil)
            · skip
              go_simp
              refine hK.out _ _ (by exact sD) (fun hHeld => ?_)
              clear hK K
              try simp only [Act.put, List.setIfInBounds_toArray, List.set_cons_zero, List.set_cons_succ]
              refine wpAnyH_ready (rs := [19]) (by kernel_rfl) (by simp) ?_
              refine AllReadyH.cons (o := { dst := some 116, op := Go.Op.convert 43 9 (Go.Operand.tmp 115), type := 9, pos := "outright.go:77", after := #[{ on := 18, ground := Go.Ground.data }, { on := 13, ground := Go.Ground.guard }], guard := some (13, true) }) rfl (fun K hK => ?_) AllReadyH.nil
              go_simp
              refine hK.out _ _ (by exact sD) (fun hHeld => ?_)
              clear hK K
              try simp only [Act.put, List.setIfInBounds_toArray, List.set_cons_zero, List.set_cons_succ]
              refine wpAnyH_take (i := 20) (oi := { dst := some 117, op := Go.Op.binOp Go.BinOp.eql 9 (Go.Operand.tmp 113) (Go.Operand.tmp 116) 9, type := 4, pos := "outright.go:77", after := #[{ on := 16, ground := Go.Ground.data }, { on := 19, ground := Go.Ground.data }, { on := 13, ground := Go.Ground.guard }], guard := some (13, true) }) (v := ?_) rfl (by kernel_rfl) (by kernel_rfl) (by kernel_rfl) (fun _ _ _ h => h) (Or.inl ⟨by rfl, ?_⟩) (by assumption) ?_
              rotate_left
              · (intro w hSw; (try dsimp only at hSw); go_simp; try with_reducible rfl)
              try simp only [Act.put, List.setIfInBounds_toArray, List.set_cons_zero, List.set_cons_succ]
              refine wpAnyH_take (i := 21) (oi := { dst := some 118, op := Go.Op.pick (Go.Operand.tmp 110) (Go.Operand.tmp 117) (Go.Operand.const (Go.Value.bool false)), type := 4, pos := "outright.go:77", after := #[{ on := 13, ground := Go.Ground.data }, { on := 20, ground := Go.Ground.data }], guard := none }) (v := ?_) rfl (by kernel_rfl) (by kernel_rfl) (by kernel_rfl) (fun _ _ _ h => h) (Or.inl ⟨by rfl, ?_⟩) (by assumption) ?_
              rotate_left
              · (intro w hSw; (try dsimp only at hSw); go_simp; try with_reducible rfl)
              try simp only [Act.put, List.setIfInBounds_toArray, List.set_cons_zero, List.set_cons_succ]
              refine wpAnyH_take (i := 22) (oi := { dst := some 2, op := Go.Op.assign (Go.Operand.tmp 118), type := 4, pos := "outright.go:77", after := #[{ on := 21, ground := Go.Ground.data }, { on := 18, ground := Go.Ground.chain }, { on := 0, ground := Go.Ground.phase }, { on := 1, ground := Go.Ground.phase }, { on := 2, ground := Go.Ground.phase }, { on := 3, ground := Go.Ground.phase }, { on := 4, ground := Go.Ground.phase }, { on := 5, ground := Go.Ground.phase }, { on := 6, ground := Go.Ground.phase }, { on := 7, ground := Go.Ground.phase }, { on := 8, ground := Go.Ground.phase }, { on := 9, ground := Go.Ground.phase }, { on := 10, ground := Go.Ground.phase }, { on := 11, ground := Go.Ground.phase }, { on := 12, ground := Go.Ground.phase }, { on := 13, ground := Go.Ground.phase }, { on := 14, ground := Go.Ground.phase }, { on := 15, ground := Go.Ground.phase }, { on := 16, ground := Go.Ground.phase }, { on := 17, ground := Go.Ground.phase }, { on := 18, ground := Go.Ground.phase }, { on := 19, ground := Go.Ground.phase }, { on := 20, ground := Go.Ground.phase }, { on := 21, ground := Go.Ground.phase }], guard := none }) (v := ?_) rfl (by kernel_rfl) (by kernel_rfl) (by kernel_rfl) (fun _ _ _ h => h) (Or.inl ⟨by rfl, ?_⟩) (by assumption) ?_
              rotate_left
              · (intro w hSw; (try dsimp only at hSw); go_simp; try with_reducible rfl)
              try simp only [Act.put, List.setIfInBounds_toArray, List.set_cons_zero, List.set_cons_succ]
              refine wpAnyH_done (by kernel_rfl) ?_ _
              refine NoPanic.normal ?_
              have HFF := Lib.hid (HF.out.trans (BD.out.mono HF.out.size))
              clear sA sB sC sD BA BB BC BD KS HF
              go_wp2
              go_ret
              exact ⟨rfl, HFF.out⟩
            · skip
              go_simp
              refine hK.out _ _ (by exact sD) (fun hHeld => ?_)
              clear hK K
              try simp only [Act.put, List.setIfInBounds_toArray, List.set_cons_zero, List.set_cons_succ]
              refine wpAnyH_ready (rs := [16]) (by kernel_rfl) (by simp) ?_
              refine AllReadyH.cons (o := { dst := some 113, op := Go.Op.convert 43 9 (Go.Operand.tmp 112), type := 9, pos := "outright.go:77", after := #[{ on := 15, ground := Go.Ground.data }, { on := 13, ground := Go.Ground.guard }], guard := some (13, true) }) rfl (fun K hK => ?_) AllReadyH.nil
              go_simp
              refine hK.out _ _ (by exact sD) (fun hHeld => ?_)
              clear hK K
              try simp only [Act.put, List.setIfInBounds_toArray, List.set_cons_zero, List.set_cons_succ]
              refine wpAnyH_take (i := 20) (oi := { dst := some 117, op := Go.Op.binOp Go.BinOp.eql 9 (Go.Operand.tmp 113) (Go.Operand.tmp 116) 9, type := 4, pos := "outright.go:77", after := #[{ on := 16, ground := Go.Ground.data }, { on := 19, ground := Go.Ground.data }, { on := 13, ground := Go.Ground.guard }], guard := some (13, true) }) (v := ?_) rfl (by kernel_rfl) (by kernel_rfl) (by kernel_rfl) (fun _ _ _ h => h) (Or.inl ⟨by rfl, ?_⟩) (by assumption) ?_
              rotate_left
              · (intro w hSw; (try dsimp only at hSw); go_simp; try with_reducible rfl)
              try simp only [Act.put, List.setIfInBounds_toArray, List.set_cons_zero, List.set_cons_succ]
              refine wpAnyH_take (i := 21) (oi := { dst := some 118, op := Go.Op.pick (Go.Operand.tmp 110) (Go.Operand.tmp 117) (Go.Operand.const (Go.Value.bool false)), type := 4, pos := "outright.go:77", after := #[{ on := 13, ground := Go.Ground.data }, { on := 20, ground := Go.Ground.data }], guard := none }) (v := ?_) rfl (by kernel_rfl) (by kernel_rfl) (by kernel_rfl) (fun _ _ _ h => h) (Or.inl ⟨by rfl, ?_⟩) (by assumption) ?_
              rotate_left
              · (intro w hSw; (try dsimp only at hSw); go_simp; try with_reducible rfl)
              try simp only [Act.put, List.setIfInBounds_toArray, List.set_cons_zero, List.set_cons_succ]
              refine wpAnyH_take (i := 22) (oi := { dst := some 2, op := Go.Op.assign (Go.Operand.tmp 118), type := 4, pos := "outright.go:77", after := #[{ on := 21, ground := Go.Ground.data }, { on := 18, ground := Go.Ground.chain }, { on := 0, ground := Go.Ground.phase }, { on := 1, ground := Go.Ground.phase }, { on := 2, ground := Go.Ground.phase }, { on := 3, ground := Go.Ground.phase }, { on := 4, ground := Go.Ground.phase }, { on := 5, ground := Go.Ground.phase }, { on := 6, ground := Go.Ground.phase }, { on := 7, ground := Go.Ground.phase }, { on := 8, ground := Go.Ground.phase }, { on := 9, ground := Go.Ground.phase }, { on := 10, ground := Go.Ground.phase }, { on := 11, ground := Go.Ground.phase }, { on := 12, ground := Go.Ground.phase }, { on := 13, ground := Go.Ground.phase }, { on := 14, ground := Go.Ground.phase }, { on := 15, ground := Go.Ground.phase }, { on := 16, ground := Go.Ground.phase }, { on := 17, ground := Go.Ground.phase }, { on := 18, ground := Go.Ground.phase }, { on := 19, ground := Go.Ground.phase }, { on := 20, ground := Go.Ground.phase }, { on := 21, ground := Go.Ground.phase }], guard := none }) (v := ?_) rfl (by kernel_rfl) (by kernel_rfl) (by kernel_rfl) (fun _ _ _ h => h) (Or.inl ⟨by rfl, ?_⟩) (by assumption) ?_
              rotate_left
              · (intro w hSw; (try dsimp only at hSw); go_simp; try with_reducible rfl)
              try simp only [Act.put, List.setIfInBounds_toArray, List.set_cons_zero, List.set_cons_succ]
              refine wpAnyH_done (by kernel_rfl) ?_ _
              refine NoPanic.normal ?_
              have HFF := Lib.hid (HF.out.trans (BD.out.mono HF.out.size))
              clear sA sB sC sD BA BB BC BD KS HF
              go_wp2
              go_ret
              exact ⟨rfl, HFF.out⟩
        · skip
          go_simp
          refine hK.out _ _ (by exact sB) (fun hHeld => ?_)
          clear hK K
          try simp only [Act.put, List.setIfInBounds_toArray, List.set_cons_zero, List.set_cons_succ]
          refine wpAnyH_ready (rs := [7]) (by kernel_rfl) (by simp) ?_
          refine AllReadyH.cons (o := { dst := some 104, op := Go.Op.convert 43 9 (Go.Operand.tmp 103), type := 9, pos := "outright.go:77", after := #[{ on := 6, ground := Go.Ground.data }, { on := 4, ground := Go.Ground.guard }], guard := some (4, true) }) rfl (fun K hK => ?_) AllReadyH.nil
          go_simp
          refine hK.out _ _ (by exact sB) (fun hHeld => ?_)
          clear hK K
          try simp only [Act.put, List.setIfInBounds_toArray, List.set_cons_zero, List.set_cons_succ]
          refine wpAnyH_take (i := 11) (oi := { dst := some 108, op := Go.Op.binOp Go.BinOp.eql 9 (Go.Operand.tmp 104) (Go.Operand.tmp 107) 9, type := 4, pos := "outright.go:77", after := #[{ on := 7, ground := Go.Ground.data }, { on := 10, ground := Go.Ground.data }, { on := 4, ground := Go.Ground.guard }], guard := some (4, true) }) (v := ?_) rfl (by kernel_rfl) (by kernel_rfl) (by kernel_rfl) (fun _ _ _ h => h) (Or.inl ⟨by rfl, ?_⟩) (by assumption) ?_
          rotate_left
          · (intro w hSw; (try dsimp only at hSw); go_simp; try with_reducible rfl)
          try simp only [Act.put, List.setIfInBounds_toArray, List.set_cons_zero, List.set_cons_succ]
          refine wpAnyH_take (i := 12) (oi := { dst := some 109, op := Go.Op.pick (Go.Operand.tmp 101) (Go.Operand.tmp 108) (Go.Operand.const (Go.Value.bool false)), type := 4, pos := "outright.go:77", after := #[{ on := 4, ground := Go.Ground.data }, { on := 11, ground := Go.Ground.data }], guard := none }) (v := ?_) rfl (by kernel_rfl) (by kernel_rfl) (by kernel_rfl) (fun _ _ _ h => h) (Or.inl ⟨by rfl, ?_⟩) (by assumption) ?_
          rotate_left
          · (intro w hSw; (try dsimp only at hSw); go_simp; try with_reducible rfl)
          try simp only [Act.put, List.setIfInBounds_toArray, List.set_cons_zero, List.set_cons_succ]
          refine wpAnyH_take (i := 13) (oi := { dst := some 110, op := Go.Op.move (Go.Operand.tmp 109), type := 4, pos := "outright.go:77", after := #[{ on := 12, ground := Go.Ground.data }, { on := 9, ground := Go.Ground.chain }], guard := none }) (v := ?_) rfl (by kernel_rfl) (by kernel_rfl) (by kernel_rfl) (fun _ _ _ h => h) (Or.inl ⟨by rfl, ?_⟩) (by assumption) ?_
          rotate_left
          · (intro w hSw; (try dsimp only at hSw); go_simp; try with_reducible rfl)
          try simp only [Act.put, List.setIfInBounds_toArray, List.set_cons_zero, List.set_cons_succ]
          refine wpAnyH_take (i := 14) (oi := { dst := some 111, op := Go.Op.move (Go.Operand.tmp 13), type := 68, pos := "outright.go:77", after := #[{ on := 13, ground := Go.Ground.guard }], guard := some (13, true) }) (v := ?_) rfl (by kernel_rfl) (by kernel_rfl) (by kernel_rfl) (fun _ _ _ h => h) (Or.inl ⟨by rfl, ?_⟩) (by assumption) ?_
          rotate_left
          · (intro w hSw; (try dsimp only at hSw); go_simp; try with_reducible rfl)
          try simp only [Act.put, List.setIfInBounds_toArray, List.set_cons_zero, List.set_cons_succ]
          refine wpAnyH_take (i := 17) (oi := { dst := some 114, op := Go.Op.load 65 (Go.Operand.tmp 1), type := 65, pos := "outright.go:77", after := #[{ on := 13, ground := Go.Ground.guard }], guard := some (13, true) }) (v := ?_) rfl (by kernel_rfl) (by kernel_rfl) (by kernel_rfl) (fun _ _ _ h => h) (Or.inl ⟨by rfl, ?_⟩) (by assumption) ?_
          rotate_left
          · (intro w hSw; (try dsimp only at hSw); go_simp; try with_reducible rfl)
          try simp only [Act.put, List.setIfInBounds_toArray, List.set_cons_zero, List.set_cons_succ]
          refine wpAnyH_ready (rs := [15]) (by kernel_rfl) (by simp) ?_
          refine AllReadyH.cons (o := { dst := some 112, op := Go.Op.call { callee := Go.Callee.invoke (Go.Operand.tmp 111) "Pay", args := #[], argTypes := #[] }, type := 43, pos := "outright.go:77", after := #[{ on := 14, ground := Go.Ground.data }, { on := 13, ground := Go.Ground.chain }, { on := 13, ground := Go.Ground.guard }], guard := some (13, true) }) rfl (fun K hK => ?_) AllReadyH.nil
          go_simp
          have QS := P3
          clear P3
          refine (QS.out _ BB.out).mono ?_
          clear QS
          rintro e wC ⟨⟨A3, n3, c3, rfl, r3⟩, bC1, bC2⟩
          have R3 := Lib.hid r3
          have BC := Lib.hid bC2
          have t3 := Bs.text r3 43 9 5 Tryz.underlying43 Tryz.underlying5 Tryz.underlying9
          have sC := KS.out _ bC2
          clear r3 bC1 bC2
          refine hK.out _ _ (by exact sC) (fun hHeld => ?_)
          clear hK K
          try simp only [Act.put, List.setIfInBounds_toArray, List.set_cons_zero, List.set_cons_succ]
          refine wpAnyH_ready (rs := [16, 18]) (by kernel_rfl) (by simp) ?_
          refine AllReadyH.cons (o := { dst := some 113, op := Go.Op.convert 43 9 (Go.Operand.tmp 112), type := 9, pos := "outright.go:77", after := #[{ on := 15, ground := Go.Ground.data }, { on := 13, ground := Go.Ground.guard }], guard := some (13, true) }) rfl (fun K hK => ?_) (AllReadyH.cons (o := { dst := some 115, op := Go.Op.call { callee := Go.Callee.value (Go.Operand.func 39), args := #[Go.Operand.tmp 114], argTypes := #[65] }, type := 43, pos := "outright.go:77", after := #[{ on := 17, ground := Go.Ground.data }, { on := 15, ground := Go.Ground.chain }, { on := 13, ground := Go.Ground.guard }], guard := some (13, true) }) rfl (fun K hK => ?_) AllReadyH.nil)
          · skip
            go_simp
            refine hK.out _ _ (by exact sC) (fun hHeld => ?_)
            clear hK K
            try simp only [Act.put, List.setIfInBounds_toArray, List.set_cons_zero, List.set_cons_succ]
            refine wpAnyH_ready (rs := [18]) (by kernel_rfl) (by simp) ?_
            refine AllReadyH.cons (o := { dst := some 115, op := Go.Op.call { callee := Go.Callee.value (Go.Operand.func 39), args := #[Go.Operand.tmp 114], argTypes := #[65] }, type := 43, pos := "outright.go:77", after := #[{ on := 17, ground := Go.Ground.data }, { on := 15, ground := Go.Ground.chain }, { on := 13, ground := Go.Ground.guard }], guard := some (13, true) }) rfl (fun K hK => ?_) AllReadyH.nil
            go_simp
            have QS := P4
            clear P4
            refine (QS.out _ BC.out).mono ?_
            clear QS
            rintro e wD ⟨⟨A4, n4, c4, rfl, r4⟩, bD1, bD2⟩
            have BD := Lib.hid bD2
            have t3d := Bs.text (R3.out.on bD1) 43 9 5 Tryz.underlying43 Tryz.underlying5 Tryz.underlying9
            have t4 := Bs.text r4 43 9 5 Tryz.underlying43 Tryz.underlying5 Tryz.underlying9
            have sD := KS.out _ bD2
            clear r4 bD1 bD2
            refine hK.out _ _ (by exact sD) (fun hHeld => ?_)
            clear hK K
            try simp only [Act.put, List.setIfInBounds_toArray, List.set_cons_zero, List.set_cons_succ]
            refine wpAnyH_ready (rs := [19]) (by kernel_rfl) (by simp) ?_
            refine AllReadyH.cons (o := { dst := some 116, op := Go.Op.convert 43 9 (Go.Operand.tmp 115), type := 9, pos := "outright.go:77", after := #[{ on := 18, ground := Go.Ground.data }, { on := 13, ground := Go.Ground.guard }], guard := some (13, true) }) rfl (fun K hK => ?_) AllReadyH.nil
            go_simp
            refine hK.out _ _ (by exact sD) (fun hHeld => ?_)
            clear hK K
            try simp only [Act.put, List.setIfInBounds_toArray, List.set_cons_zero, List.set_cons_succ]
            refine wpAnyH_take (i := 20) (oi := { dst := some 117, op := Go.Op.binOp Go.BinOp.eql 9 (Go.Operand.tmp 113) (Go.Operand.tmp 116) 9, type := 4, pos := "outright.go:77", after := #[{ on := 16, ground := Go.Ground.data }, { on := 19, ground := Go.Ground.data }, { on := 13, ground := Go.Ground.guard }], guard := some (13, true) }) (v := ?_) rfl (by kernel_rfl) (by kernel_rfl) (by kernel_rfl) (fun _ _ _ h => h) (Or.inl ⟨by rfl, ?_⟩) (by assumption) ?_
            rotate_left
            · (intro w hSw; (try dsimp only at hSw); go_simp; try with_reducible rfl)
            try simp only [Act.put, List.setIfInBounds_toArray, List.set_cons_zero, List.set_cons_succ]
            refine wpAnyH_take (i := 21) (oi := { dst := some 118, op := Go.Op.pick (Go.Operand.tmp 110) (Go.Operand.tmp 117) (Go.Operand.const (Go.Value.bool false)), type := 4, pos := "outright.go:77", after := #[{ on := 13, ground := Go.Ground.data }, { on := 20, ground := Go.Ground.data }], guard := none }) (v := ?_) rfl (by kernel_rfl) (by kernel_rfl) (by kernel_rfl) (fun _ _ _ h => h) (Or.inl ⟨by rfl, ?_⟩) (by assumption) ?_
            rotate_left
            · (intro w hSw; (try dsimp only at hSw); go_simp; try with_reducible rfl)
            try simp only [Act.put, List.setIfInBounds_toArray, List.set_cons_zero, List.set_cons_succ]
            refine wpAnyH_take (i := 22) (oi := { dst := some 2, op := Go.Op.assign (Go.Operand.tmp 118), type := 4, pos := "outright.go:77", after := #[{ on := 21, ground := Go.Ground.data }, { on := 18, ground := Go.Ground.chain }, { on := 0, ground := Go.Ground.phase }, { on := 1, ground := Go.Ground.phase }, { on := 2, ground := Go.Ground.phase }, { on := 3, ground := Go.Ground.phase }, { on := 4, ground := Go.Ground.phase }, { on := 5, ground := Go.Ground.phase }, { on := 6, ground := Go.Ground.phase }, { on := 7, ground := Go.Ground.phase }, { on := 8, ground := Go.Ground.phase }, { on := 9, ground := Go.Ground.phase }, { on := 10, ground := Go.Ground.phase }, { on := 11, ground := Go.Ground.phase }, { on := 12, ground := Go.Ground.phase }, { on := 13, ground := Go.Ground.phase }, { on := 14, ground := Go.Ground.phase }, { on := 15, ground := Go.Ground.phase }, { on := 16, ground := Go.Ground.phase }, { on := 17, ground := Go.Ground.phase }, { on := 18, ground := Go.Ground.phase }, { on := 19, ground := Go.Ground.phase }, { on := 20, ground := Go.Ground.phase }, { on := 21, ground := Go.Ground.phase }], guard := none }) (v := ?_) rfl (by kernel_rfl) (by kernel_rfl) (by kernel_rfl) (fun _ _ _ h => h) (Or.inl ⟨by rfl, ?_⟩) (by assumption) ?_
            rotate_left
            · (intro w hSw; (try dsimp only at hSw); go_simp; try with_reducible rfl)
            try simp only [Act.put, List.setIfInBounds_toArray, List.set_cons_zero, List.set_cons_succ]
            refine wpAnyH_done (by kernel_rfl) ?_ _
            refine NoPanic.normal ?_
            have HFF := Lib.hid (HF.out.trans (BD.out.mono HF.out.size))
            clear sA sB sC sD BA BB BC BD KS HF
            go_wp2
            go_ret
            exact ⟨rfl, HFF.out⟩
          · skip
            go_simp
            have QS := P4
            clear P4
            refine (QS.out _ BC.out).mono ?_
            clear QS
            rintro e wD ⟨⟨A4, n4, c4, rfl, r4⟩, bD1, bD2⟩
            have BD := Lib.hid bD2
            have t3d := Bs.text (R3.out.on bD1) 43 9 5 Tryz.underlying43 Tryz.underlying5 Tryz.underlying9
            have t4 := Bs.text r4 43 9 5 Tryz.underlying43 Tryz.underlying5 Tryz.underlying9
            have sD := KS.out _ bD2
            clear r4 bD1 bD2
            refine hK.out _ _ (by exact sD) (fun hHeld => ?_)
            clear hK K
            try simp only [Act.put, List.setIfInBounds_toArray, List.set_cons_zero, List.set_cons_succ]
            refine wpAnyH_ready (rs := [16, 19]) (by kernel_rfl) (by simp) ?_
            refine AllReadyH.cons (o := { dst := some 113, op := Go.Op.convert 43 9 (Go.Operand.tmp 112), type := 9, pos := "outright.go:77", after := #[{ on := 15, ground := Go.Ground.data }, { on := 13, ground := Go.Ground.guard }], guard := some (13, true) }) rfl (fun K hK => ?_) (AllReadyH.cons (o := { dst := some 116, op := Go.Op.convert 43 9 (Go.Operand.tmp 115), type := 9, pos := "outright.go:77", after := #[{ on := 18, ground := Go.Ground.data }, { on := 13, ground := Go.Ground.guard }], guard := some (13, true) }) rfl (fun K hK => ?_) AllReadyH.nil)
            · skip
              go_simp
              refine hK.out _ _ (by exact sD) (fun hHeld => ?_)
              clear hK K
              try simp only [Act.put, List.setIfInBounds_toArray, List.set_cons_zero, List.set_cons_succ]
              refine wpAnyH_ready (rs := [19]) (by kernel_rfl) (by simp) ?_
              refine AllReadyH.cons (o := { dst := some 116, op := Go.Op.convert 43 9 (Go.Operand.tmp 115), type := 9, pos := "outright.go:77", after := #[{ on := 18, ground := Go.Ground.data }, { on := 13, ground := Go.Ground.guard }], guard := some (13, true) }) rfl (fun K hK => ?_) AllReadyH.nil
              go_simp
              refine hK.out _ _ (by exact sD) (fun hHeld => ?_)
              clear hK K
              try simp only [Act.put, List.setIfInBounds_toArray, List.set_cons_zero, List.set_cons_succ]
              refine wpAnyH_take (i := 20) (oi := { dst := some 117, op := Go.Op.binOp Go.BinOp.eql 9 (Go.Operand.tmp 113) (Go.Operand.tmp 116) 9, type := 4, pos := "outright.go:77", after := #[{ on := 16, ground := Go.Ground.data }, { on := 19, ground := Go.Ground.data }, { on := 13, ground := Go.Ground.guard }], guard := some (13, true) }) (v := ?_) rfl (by kernel_rfl) (by kernel_rfl) (by kernel_rfl) (fun _ _ _ h => h) (Or.inl ⟨by rfl, ?_⟩) (by assumption) ?_
              rotate_left
              · (intro w hSw; (try dsimp only at hSw); go_simp; try with_reducible rfl)
              try simp only [Act.put, List.setIfInBounds_toArray, List.set_cons_zero, List.set_cons_succ]
              refine wpAnyH_take (i := 21) (oi := { dst := some 118, op := Go.Op.pick (Go.Operand.tmp 110) (Go.Operand.tmp 117) (Go.Operand.const (Go.Value.bool false)), type := 4, pos := "outright.go:77", after := #[{ on := 13, ground := Go.Ground.data }, { on := 20, ground := Go.Ground.data }], guard := none }) (v := ?_) rfl (by kernel_rfl) (by kernel_rfl) (by kernel_rfl) (fun _ _ _ h => h) (Or.inl ⟨by rfl, ?_⟩) (by assumption) ?_
              rotate_left
              · (intro w hSw; (try dsimp only at hSw); go_simp; try with_reducible rfl)
              try simp only [Act.put, List.setIfInBounds_toArray, List.set_cons_zero, List.set_cons_succ]
              refine wpAnyH_take (i := 22) (oi := { dst := some 2, op := Go.Op.assign (Go.Operand.tmp 118), type := 4, pos := "outright.go:77", after := #[{ on := 21, ground := Go.Ground.data }, { on := 18, ground := Go.Ground.chain }, { on := 0, ground := Go.Ground.phase }, { on := 1, ground := Go.Ground.phase }, { on := 2, ground := Go.Ground.phase }, { on := 3, ground := Go.Ground.phase }, { on := 4, ground := Go.Ground.phase }, { on := 5, ground := Go.Ground.phase }, { on := 6, ground := Go.Ground.phase }, { on := 7, ground := Go.Ground.phase }, { on := 8, ground := Go.Ground.phase }, { on := 9, ground := Go.Ground.phase }, { on := 10, ground := Go.Ground.phase }, { on := 11, ground := Go.Ground.phase }, { on := 12, ground := Go.Ground.phase }, { on := 13, ground := Go.Ground.phase }, { on := 14, ground := Go.Ground.phase }, { on := 15, ground := Go.Ground.phase }, { on := 16, ground := Go.Ground.phase }, { on := 17, ground := Go.Ground.phase }, { on := 18, ground := Go.Ground.phase }, { on := 19, ground := Go.Ground.phase }, { on := 20, ground := Go.Ground.phase }, { on := 21, ground := Go.Ground.phase }], guard := none }) (v := ?_) rfl (by kernel_rfl) (by kernel_rfl) (by kernel_rfl) (fun _ _ _ h => h) (Or.inl ⟨by rfl, ?_⟩) (by assumption) ?_
              rotate_left
              · (intro w hSw; (try dsimp only at hSw); go_simp; try with_reducible rfl)
              try simp only [Act.put, List.setIfInBounds_toArray, List.set_cons_zero, List.set_cons_succ]
              refine wpAnyH_done (by kernel_rfl) ?_ _
              refine NoPanic.normal ?_
              have HFF := Lib.hid (HF.out.trans (BD.out.mono HF.out.size))
              clear sA sB sC sD BA BB BC BD KS HF
              go_wp2
              go_ret
              exact ⟨rfl, HFF.out⟩
            · skip
              go_simp
              refine hK.out _ _ (by exact sD) (fun hHeld => ?_)
              clear hK K
              try simp only [Act.put, List.setIfInBounds_toArray, List.set_cons_zero, List.set_cons_succ]
              refine wpAnyH_ready (rs := [16]) (by kernel_rfl) (by simp) ?_
              refine AllReadyH.cons (o := { dst := some 113, op := Go.Op.convert 43 9 (Go.Operand.tmp 112), type := 9, pos := "outright.go:77", after := #[{ on := 15, ground := Go.Ground.data }, { on := 13, ground := Go.Ground.guard }], guard := some (13, true) }) rfl (fun K hK => ?_) AllReadyH.nil
              go_simp
              refine hK.out _ _ (by exact sD) (fun hHeld => ?_)
              clear hK K
              try simp only [Act.put, List.setIfInBounds_toArray, List.set_cons_zero, List.set_cons_succ]
              refine wpAnyH_take (i := 20) (oi := { dst := some 117, op := Go.Op.binOp Go.BinOp.eql 9 (Go.Operand.tmp 113) (Go.Operand.tmp 116) 9, type := 4, pos := "outright.go:77", after := #[{ on := 16, ground := Go.Ground.data }, { on := 19, ground := Go.Ground.data }, { on := 13, ground := Go.Ground.guard }], guard := some (13, true) }) (v := ?_) rfl (by kernel_rfl) (by kernel_rfl) (by kernel_rfl) (fun _ _ _ h => h) (Or.inl ⟨by rfl, ?_⟩) (by assumption) ?_
              rotate_left
              · (intro w hSw; (try dsimp only at hSw); go_simp; try with_reducible rfl)
              try simp only [Act.put, List.setIfInBounds_toArray, List.set_cons_zero, List.set_cons_succ]
              refine wpAnyH_take (i := 21) (oi := { dst := some 118, op := Go.Op.pick (Go.Operand.tmp 110) (Go.Operand.tmp 117) (Go.Operand.const (Go.Value.bool false)), type := 4, pos := "outright.go:77", after := #[{ on := 13, ground := Go.Ground.data }, { on := 20, ground := Go.Ground.data }], guard := none }) (v := ?_) rfl (by kernel_rfl) (by kernel_rfl) (by kernel_rfl) (fun _ _ _ h => h) (Or.inl ⟨by rfl, ?_⟩) (by assumption) ?_
              rotate_left
              · (intro w hSw; (try dsimp only at hSw); go_simp; try with_reducible rfl)
              try simp only [Act.put, List.setIfInBounds_toArray, List.set_cons_zero, List.set_cons_succ]
              refine wpAnyH_take (i := 22) (oi := { dst := some 2, op := Go.Op.assign (Go.Operand.tmp 118), type := 4, pos := "outright.go:77", after := #[{ on := 21, ground := Go.Ground.data }, { on := 18, ground := Go.Ground.chain }, { on := 0, ground := Go.Ground.phase }, { on := 1, ground := Go.Ground.phase }, { on := 2, ground := Go.Ground.phase }, { on := 3, ground := Go.Ground.phase }, { on := 4, ground := Go.Ground.phase }, { on := 5, ground := Go.Ground.phase }, { on := 6, ground := Go.Ground.phase }, { on := 7, ground := Go.Ground.phase }, { on := 8, ground := Go.Ground.phase }, { on := 9, ground := Go.Ground.phase }, { on := 10, ground := Go.Ground.phase }, { on := 11, ground := Go.Ground.phase }, { on := 12, ground := Go.Ground.phase }, { on := 13, ground := Go.Ground.phase }, { on := 14, ground := Go.Ground.phase }, { on := 15, ground := Go.Ground.phase }, { on := 16, ground := Go.Ground.phase }, { on := 17, ground := Go.Ground.phase }, { on := 18, ground := Go.Ground.phase }, { on := 19, ground := Go.Ground.phase }, { on := 20, ground := Go.Ground.phase }, { on := 21, ground := Go.Ground.phase }], guard := none }) (v := ?_) rfl (by kernel_rfl) (by kernel_rfl) (by kernel_rfl) (fun _ _ _ h => h) (Or.inl ⟨by rfl, ?_⟩) (by assumption) ?_
              rotate_left
              · (intro w hSw; (try dsimp only at hSw); go_simp; try with_reducible rfl)
              try simp only [Act.put, List.setIfInBounds_toArray, List.set_cons_zero, List.set_cons_succ]
              refine wpAnyH_done (by kernel_rfl) ?_ _
              refine NoPanic.normal ?_
              have HFF := Lib.hid (HF.out.trans (BD.out.mono HF.out.size))
              clear sA sB sC sD BA BB BC BD KS HF
              go_wp2
              go_ret
              exact ⟨rfl, HFF.out⟩

set_option maxRecDepth 100000 in
set_option maxHeartbeats 4000000 in
theorem pagerNodes_branch (w : World) (x : Nv) (cs : List Nd.Cell) (ks : List (List Nat)) (ps : List Int) (hx : NvIs w x cs ks ps) (hb : x.br = true) :
    Calls Tryz.prog 4 #[x.val] w fun e w' => e = .returned (.bool true) ∧ Below w.heap.size w w' := by
  have CSm := Lib.hid (fun (W : World) (hW : Below w.heap.size w W) => small_any W x cs ks ps (hx.on hW))
  have CMy := Lib.hid (fun (W : World) (hW : Below w.heap.size w W) (hf : Nd.branchLen ks ≤ 1000000000) (hp9 : ps.length ≤ 100000) => refMay_branch W x ks ps (hx.on hW).ks (hx.on hW).ps hb hf hp9)
  have COf := Lib.hid (fun (W : World) (hW : Below w.heap.size w W) => of_branch W x cs ks ps (hx.on hW) hb)
  have CPy := Lib.hid (fun (W : World) (hW : Below w.heap.size w W) (hf : Nd.branchLen ks ≤ 1000000000) (hp9 : ps.length ≤ 100000) => refPay_branch W x ks ps (hx.on hW).ks (hx.on hW).ps hb hf hp9)
  have hcl := hx.cs.len
  obtain ⟨br, cA, cn, cc_, kA, kn, kc, pA, pn, pc⟩ := x
  simp only at hb
  subst hb
  have B1 : Below w.heap.size w (w.alloc (.cells #[.bool true, .slice cA cn cc_, .slice kA kn kc, .slice pA pn pc] 65)) := (Below.refl _ _).alloc (Nat.le_refl _) _
  have Z1 := heap_alloc_new w (.cells #[.bool true, .slice cA cn cc_, .slice kA kn kc, .slice pA pn pc] 65)
  have s1 : w.heap.size < (w.alloc (.cells #[.bool true, .slice cA cn cc_, .slice kA kn kc, .slice pA pn pc] 65)).heap.size := by simp
  have HB1 := Lib.hid B1
  have HZ1 := Lib.hid Z1
  clear hx B1 Z1
  unfold Nv.val at *
  simp only at *
  go_enter Tryz.func4, Tryz.ntmps4
  go_wp2_with fail
  generalize w.alloc (.cells #[.bool true, .slice cA cn cc_, .slice kA kn kc, .slice pA pn pc] 65) = w0 at *
  refine (Pr.awake_any _).mono ?_
  rintro e w1 ⟨rfl, b1⟩
  have B1 := HB1.out.trans (b1.mono (by omega))
  have Z1 := (b1.block _ s1).trans HZ1.out
  have hs1 := b1.size
  obtain ⟨q0, q1, q2, q3⟩ := four_cells Z1
  clear HB1 HZ1 b1
  go_wp2_with fail
  refine (CSm.out _ B1).mono ?_
  rintro e w2 ⟨⟨sm, rfl, hsm⟩, b2⟩
  have B2 := B1.trans (b2.mono B1.size)
  have Z2 := (b2.block _ (by omega)).trans Z1
  have hs2 := b2.size
  clear q0 q1 q2 q3 Z1 b2 B1
  obtain ⟨q0, q1, q2, q3⟩ := four_cells Z2
  cases sm with
  | false =>
    go_wp2
    go_ret
    exact ⟨rfl, B2⟩
  | true =>
    have hsm := hsm rfl
    have ht := ktot_klens ks
    have hlen9 : Nd.branchLen ks ≤ 1000000000 := by unfold Nd.branchLen; omega
    have hp9 : ps.length ≤ 100000 := by omega
    clear hsm ht
    have CMy2 := CMy.out _ B2 hlen9 hp9
    have HB2 := Lib.hid B2
    clear B2
    go_wp2_with fail
    refine CMy2.mono ?_
    rintro e w3 ⟨rfl, b3⟩
    have B3 := HB2.out.trans (b3.mono HB2.out.size)
    have Z3 := (b3.block _ (by omega)).trans Z2
    have hs3 := b3.size
    clear q0 q1 q2 q3 Z2 b3 HB2 CMy CMy2 CSm
    by_cases hm : Nd.BranchMay ks ps
    rotate_left
    · rw [decide_eq_false hm]
      go_wp2
      go_ret
      exact ⟨rfl, B3⟩
    · rw [decide_eq_true hm]
      obtain ⟨p, q, hpq⟩ : ∃ p q, ps = p :: q := by
        cases ps with
        | nil => have := hm.2.2.2; simp at this
        | cons p q => exact ⟨p, q, rfl⟩
      have hpay : payB ks ps = Nd.branchPay ks p q := by rw [hpq] at hm ⊢; unfold payB; rw [if_pos hm]
      have HPAY := Lib.hid hpay
      clear hpay
      obtain ⟨P, hP⟩ : ∃ P, P = Nd.branchPay ks p q := ⟨_, rfl⟩
      have hq : ks.length = q.length := by have := hm.2.2.2; rw [hpq] at this; simp at this; omega
      have HPQ := Lib.hid hpq
      clear hpq
      have hP16 : P.length ≤ 1016 := by rw [hP, Nd.branchPay_len hq]; exact hm.1
      have HP16 := Lib.hid hP16
      have HI0 : Hid (Nn.IsBranch (Pg.fill P) ks p q) := ⟨by rw [← HPQ.out]; exact hm, by rw [hP]; rfl⟩
      have HPP := Lib.hid hP
      have C1 := Lib.hid (Pr.pnew w3 10 2 (by omega))
      clear hP16 hm hP hq
      have HZ3 := Lib.hid (And.intro B3 Z3)
      clear B3 Z3
      go_wp2_with fail
      refine C1.out.mono ?_
      rintro e w4 ⟨p, mp, rfl, hP, hp1, hp2, b4⟩
      have B4 := HZ3.out.1.trans (b4.mono HZ3.out.1.size)
      have Z4 := (b4.block _ (by omega)).trans HZ3.out.2
      have hs4 := b4.size
      have HPo := Lib.hid hP
      have C2 := Lib.hid (newD_any w4 10 10 (by omega))
      have HZ4 := Lib.hid (And.intro B4 Z4)
      clear HZ3 b4 B4 Z4 hP hp1 hp2 C1
      go_wp2_with fail
      refine C2.out.mono ?_
      rintro e w5 ⟨Hh, rfl, hD, ho, b5⟩
      have hs5 := b5.size
      have C3 := Lib.hid (Pr.gnew (S := fun _ => False) (wb := w4) w5 Hh p mp (Dk.fresh 10) ⟨10, 2, []⟩ 1 0 hD (HPo.out.on b5) (by omega) (by omega) (fun k hk => .inr (ho k hk)) (Off.of_below b5))
      clear b5 hD ho C2 HPo
      go_wp2_with fail
      refine C3.out.mono ?_
      rintro e w6 ⟨xx, pp, rfl, hG, _⟩
      have hG0 : Pr.HasG (fun _ => False) w4 w6 xx pp Hh.p (Pr.seqd (Dk.fresh 10) 10 1 0 []) := hG
      have hbel := hG0.below
      have B6 := HZ4.out.1.trans (hbel.mono HZ4.out.1.size)
      have Z6 := (hbel.block _ (by omega)).trans HZ4.out.2
      have hs6 := hbel.size
      obtain ⟨q0, q1, q2, q3⟩ := four_cells Z6
      have C4 := Lib.hid (COf.out _ B6)
      have HG := Lib.hid hG0
      clear hG hG0 hbel C3 B6 Z6
      go_wp2_with fail
      refine C4.out.mono ?_
      rintro e w7 ⟨⟨g7, rfl, hA7⟩, b7⟩
      have hm7 : ∀ (W : World), (method 312 74 (.pointer (some ⟨g7, 0, none⟩)) "Pay").run Tryz.prog W = .ok (170, .pointer (some ⟨g7, 0, none⟩)) W := fun _ => by kernel_rfl
      have C5 := Lib.hid (branchPay_new w7 g7 ks ps hA7 hlen9 (by omega))
      have HG7 := Lib.hid (HG.out.on b7)
      clear q0 q1 q2 q3 C4 HG hA7 b7
      go_wp2_with fail
      refine C5.out.mono ?_
      rintro e w8 ⟨⟨A8, n8, c8, rfl, r8, nb8⟩, b8⟩
      rw [HPAY.out, ← HPP.out] at r8
      have C6 := Pr.gput w8 xx pp Hh.p _ (HG7.out.on b8) A8 n8 c8 P r8 (Pr.Out.of_new nb8)
      obtain ⟨np1, np2, np3⟩ := nodes_put HP16.out
      rw [np1, np2, np3] at C6
      have C6 := Lib.hid C6
      clear C5 hm7 HG7 r8 nb8 b8 np1 np2 np3
      go_wp2_with fail
      refine C6.out.mono ?_
      rintro e w9 ⟨rfl, hG9⟩
      have C7 := Pr.gnode w9 xx pp Hh.p _ hG9 2 (by unfold Pr.I64; omega)
      rw [nodes_says] at C7
      have C7 := Lib.hid C7
      have HG9 := Lib.hid hG9
      clear C6 hG9
      go_wp2_with fail
      refine C7.out.mono ?_
      rintro e w10 ⟨b10, hs⟩
      rcases hs with ⟨_, _, _, _, hI⟩ | ⟨ks', p', q', qq, rfl, hA, hI⟩ | ⟨_, hI⟩
      · exact (leaf_not_branch hI HI0.out).elim
      rotate_left
      · exact (hI.2 _ _ _ HI0.out).elim
      obtain ⟨e1, e2, e3⟩ := branch_one hI HI0.out
      rw [e1, e2, e3, ← HPQ.out] at hA
      clear e1 e2 e3
      have HA := Lib.hid (And.intro hA b10)
      have C8 := Pr.gnodeD w10 xx pp Hh.p _ (HG9.out.on b10) 2
      rw [show Pr.dsays (Pr.seqd (Dk.fresh 10) 10 1 0 [P]).disk 2 = none from Pr.dsays_fresh 10 2 (by omega)] at C8
      have C8 := Lib.hid C8
      clear C7 hA hI b10
      go_wp2_with fail
      refine C8.out.mono ?_
      rintro e w11 ⟨b11, rfl⟩
      obtain ⟨S', hGs, hlt, hsub⟩ := HG9.out.since (onto HA.out.2 b11)
      have C9 := Pr.gflush w11 xx pp Hh.p _ hGs (show (Dk.fresh 10).waits.length < 90000 from by decide)
      obtain ⟨nf1, nf2⟩ := nodes_flush HP16.out
      rw [nf1] at C9
      have C9 := Lib.hid C9
      have HNF := Lib.hid nf2
      have HG11 := Lib.hid (And.intro (HG9.out.on (onto HA.out.2 b11)) (And.intro hlt (And.intro hsub (HA.out.1.on b11))))
      clear nf1 nf2 C8 HA HG9 b11 hGs hlt hsub
      go_wp2_with fail
      refine C9.out.mono ?_
      rintro e w12 ⟨rfl, hG12⟩
      obtain ⟨hG11, hlt, hsub, hA11⟩ := HG11.out
      have hA12 := hA11 S' w12 hG12.off hlt
      have hGF := hG11.back hG12 hsub
      have C10 := Pr.gnodeD w12 xx pp Hh.p _ hGF 2
      rw [HNF.out] at C10
      have C10 := Lib.hid C10
      have HA12 := Lib.hid hA12
      have HZ12 := Lib.hid (And.intro (HZ4.out.1.trans (hGF.below.mono HZ4.out.1.size)) ((hGF.below.block _ (by omega)).trans HZ4.out.2))
      have hs12 := hGF.below.size
      clear C9 HG11 hG12 hG11 hlt hsub hA11 hA12 hGF HZ4 HNF
      obtain ⟨q1, hq1⟩ : ∃ q1, q1 = qq := ⟨_, rfl⟩
      rw [← hq1] at HA12 ⊢
      clear hq1
      go_wp2_with fail
      refine C10.out.mono ?_
      rintro e w13 ⟨b13, hs⟩
      rcases hs with ⟨_, _, _, _, hI⟩ | ⟨ks', p', q', qq, rfl, hA, hI⟩ | ⟨_, hI⟩
      · exact (leaf_not_branch hI HI0.out).elim
      rotate_left
      · exact (hI.2 _ _ _ HI0.out).elim
      obtain ⟨e1, e2, e3⟩ := branch_one hI HI0.out
      rw [e1, e2, e3, ← HPQ.out] at hA
      clear e1 e2 e3
      obtain ⟨q2, hq2⟩ : ∃ q2, q2 = qq := ⟨_, rfl⟩
      rw [← hq2] at hA ⊢
      clear hq2
      have ta : ∀ W : World, (Instr.typeAssert (.iface 74 (.pointer (some ⟨q2, 0, none⟩))) 68 74 true).run Tryz.prog W = .ok (.tuple #[.pointer (some ⟨q2, 0, none⟩), .bool true]) W := fun _ => by kernel_rfl
      have B13 := HZ12.out.1.trans (b13.mono HZ12.out.1.size)
      have Z13 := (b13.block _ (by omega)).trans HZ12.out.2
      have hs13 := b13.size
      obtain ⟨q00, q01, q02, q03⟩ := four_cells Z13
      have LA := HA12.out.on b13
      have LB := hA.at_
      have P1 : Hid (∀ W, Below w13.heap.size w13 W → Calls Tryz.prog 170 #[.pointer (some ⟨q1, 0, none⟩)] W fun e w' => (∃ A n c, e = .returned (.slice A n c) ∧ Bs w' A n c P) ∧ Below W.heap.size W w' ∧ Below w13.heap.size w13 w') := fun W bW =>
        (branchPay_any W q1 ks ps (LA.on bW) hlen9 (by omega)).mono fun e w' ⟨⟨A, n, c, h1, h2⟩, h3⟩ => ⟨⟨A, n, c, h1, by rw [HPAY.out, ← HPP.out] at h2; exact h2⟩, h3, onto bW h3⟩
      have P3 : Hid (∀ W, Below w13.heap.size w13 W → Calls Tryz.prog 170 #[.pointer (some ⟨q2, 0, none⟩)] W fun e w' => (∃ A n c, e = .returned (.slice A n c) ∧ Bs w' A n c P) ∧ Below W.heap.size W w' ∧ Below w13.heap.size w13 w') := fun W bW =>
        (branchPay_any W q2 ks ps (LB.on bW) hlen9 (by omega)).mono fun e w' ⟨⟨A, n, c, h1, h2⟩, h3⟩ => ⟨⟨A, n, c, h1, by rw [HPAY.out, ← HPP.out] at h2; exact h2⟩, h3, onto bW h3⟩
      have P2 : Hid (∀ W, Below w13.heap.size w13 W → Calls Tryz.prog 39 #[.agg #[.bool true, .slice cA cn cc_, .slice kA kn kc, .slice pA pn pc]] W fun e w' => (∃ A n c, e = .returned (.slice A n c) ∧ Bs w' A n c P) ∧ Below W.heap.size W w' ∧ Below w13.heap.size w13 w') := fun W bW =>
        (CPy.out W (B13.trans (bW.mono B13.size)) hlen9 hp9).mono fun e w' ⟨⟨A, n, c, h1, h2, _⟩, h3⟩ => ⟨⟨A, n, c, h1, by rw [HPAY.out, ← HPP.out] at h2; exact h2⟩, h3, onto bW h3⟩
      have P4 := P2
      have HF := Lib.hid B13
      have KS := Lib.hid (fun (W : World) (bW : Below w13.heap.size w13 W) => And.intro ((bW.cell (p := ⟨w.heap.size, 0, none⟩) (show w.heap.size < _ by omega)).trans q00) (And.intro ((bW.cell (p := ⟨w.heap.size, 1, none⟩) (show w.heap.size < _ by omega)).trans q01) (And.intro ((bW.cell (p := ⟨w.heap.size, 2, none⟩) (show w.heap.size < _ by omega)).trans q02) ((bW.cell (p := ⟨w.heap.size, 3, none⟩) (show w.heap.size < _ by omega)).trans q03))))
      have hm1 : ∀ (W : World), (method 312 74 (.pointer (some ⟨q1, 0, none⟩)) "Pay").run Tryz.prog W = .ok (170, .pointer (some ⟨q1, 0, none⟩)) W := fun _ => by kernel_rfl
      have hm2 : ∀ (W : World), (method 312 74 (.pointer (some ⟨q2, 0, none⟩)) "Pay").run Tryz.prog W = .ok (170, .pointer (some ⟨q2, 0, none⟩)) W := fun _ => by kernel_rfl
      clear C10 hA hI b13 LA LB HA12 HZ12 B13 Z13 HI0 HPAY HPP CPy COf HP16
      go_wp2_with fail
      refine wp_region_noPanic ?_
      refine wp_region_held_drew (S := (fun w' : World => w'.cell? ⟨w.heap.size, 0, none⟩ = some (.bool true) ∧ w'.cell? ⟨w.heap.size, 1, none⟩ = some (.slice cA cn cc_) ∧ w'.cell? ⟨w.heap.size, 2, none⟩ = some (.slice kA kn kc) ∧ w'.cell? ⟨w.heap.size, 3, none⟩ = some (.slice pA pn pc))) (by kernel_rfl) (by exact ⟨q00, q01, q02, q03⟩) (fun hHeld => ?_)
      refine wpAnyH_take (i := 0) (oi := { dst := some 97, op := Go.Op.move (Go.Operand.tmp 16), type := 4, pos := "outright.go:77", after := #[], guard := none }) (v := ?_) rfl (by kernel_rfl) (by kernel_rfl) (by kernel_rfl) (fun _ _ _ h => h) (Or.inl ⟨by rfl, ?_⟩) (by assumption) ?_
      rotate_left
      · (intro w hSw; (try dsimp only at hSw); go_simp; try with_reducible rfl)
      try simp only [Act.put, List.setIfInBounds_toArray, List.set_cons_zero, List.set_cons_succ]
      refine wpAnyH_take (i := 1) (oi := { dst := some 98, op := Go.Op.fieldAddr 65 (Go.Operand.tmp 1) 0, type := 0, pos := "outright.go:77", after := #[], guard := none }) (v := ?_) rfl (by kernel_rfl) (by kernel_rfl) (by kernel_rfl) (fun _ _ _ h => h) (Or.inl ⟨by rfl, ?_⟩) (by assumption) ?_
      rotate_left
      · (intro w hSw; (try dsimp only at hSw); go_simp; try with_reducible rfl)
      try simp only [Act.put, List.setIfInBounds_toArray, List.set_cons_zero, List.set_cons_succ]
      refine wpAnyH_take (i := 2) (oi := { dst := some 99, op := Go.Op.load 4 (Go.Operand.tmp 98), type := 4, pos := "outright.go:77", after := #[{ on := 1, ground := Go.Ground.data }], guard := none }) (v := ?_) rfl (by kernel_rfl) (by kernel_rfl) (by kernel_rfl) (fun _ _ _ h => h) (Or.inl ⟨by rfl, ?_⟩) (by assumption) ?_
      rotate_left
      · (intro w hSw; (try dsimp only at hSw); go_simp; try with_reducible rfl)
      try simp only [Act.put, List.setIfInBounds_toArray, List.set_cons_zero, List.set_cons_succ]
      refine wpAnyH_take (i := 3) (oi := { dst := some 100, op := Go.Op.binOp Go.BinOp.eql 4 (Go.Operand.tmp 97) (Go.Operand.tmp 99) 4, type := 4, pos := "outright.go:77", after := #[{ on := 0, ground := Go.Ground.data }, { on := 2, ground := Go.Ground.data }], guard := none }) (v := ?_) rfl (by kernel_rfl) (by kernel_rfl) (by kernel_rfl) (fun _ _ _ h => h) (Or.inl ⟨by rfl, ?_⟩) (by assumption) ?_
      rotate_left
      · (intro w hSw; (try dsimp only at hSw); go_simp; try with_reducible rfl)
      try simp only [Act.put, List.setIfInBounds_toArray, List.set_cons_zero, List.set_cons_succ]
      refine wpAnyH_take (i := 4) (oi := { dst := some 101, op := Go.Op.move (Go.Operand.tmp 100), type := 4, pos := "outright.go:77", after := #[{ on := 3, ground := Go.Ground.data }], guard := none }) (v := ?_) rfl (by kernel_rfl) (by kernel_rfl) (by kernel_rfl) (fun _ _ _ h => h) (Or.inl ⟨by rfl, ?_⟩) (by assumption) ?_
      rotate_left
      · (intro w hSw; (try dsimp only at hSw); go_simp; try with_reducible rfl)
      try simp only [Act.put, List.setIfInBounds_toArray, List.set_cons_zero, List.set_cons_succ]
      refine wpAnyH_take (i := 5) (oi := { dst := some 102, op := Go.Op.move (Go.Operand.tmp 9), type := 68, pos := "outright.go:77", after := #[{ on := 4, ground := Go.Ground.guard }], guard := some (4, true) }) (v := ?_) rfl (by kernel_rfl) (by kernel_rfl) (by kernel_rfl) (fun _ _ _ h => h) (Or.inl ⟨by rfl, ?_⟩) (by assumption) ?_
      rotate_left
      · (intro w hSw; (try dsimp only at hSw); go_simp; try with_reducible rfl)
      try simp only [Act.put, List.setIfInBounds_toArray, List.set_cons_zero, List.set_cons_succ]
      refine wpAnyH_take (i := 8) (oi := { dst := some 105, op := Go.Op.load 65 (Go.Operand.tmp 1), type := 65, pos := "outright.go:77", after := #[{ on := 4, ground := Go.Ground.guard }], guard := some (4, true) }) (v := ?_) rfl (by kernel_rfl) (by kernel_rfl) (by kernel_rfl) (fun _ _ _ h => h) (Or.inl ⟨by rfl, ?_⟩) (by assumption) ?_
      rotate_left
      · (intro w hSw; (try dsimp only at hSw); go_simp; try with_reducible rfl)
      try simp only [Act.put, List.setIfInBounds_toArray, List.set_cons_zero, List.set_cons_succ]
      refine wpAnyH_ready (rs := [6]) (by kernel_rfl) (by simp) ?_
      refine AllReadyH.cons (o := { dst := some 103, op := Go.Op.call { callee := Go.Callee.invoke (Go.Operand.tmp 102) "Pay", args := #[], argTypes := #[] }, type := 43, pos := "outright.go:77", after := #[{ on := 5, ground := Go.Ground.data }, { on := 4, ground := Go.Ground.chain }, { on := 4, ground := Go.Ground.guard }], guard := some (4, true) }) rfl (fun K hK => ?_) AllReadyH.nil
      go_simp
      have QS := P1
      clear P1
      refine (QS.out _ (Below.refl _ _).drew).mono ?_
      clear QS
      rintro e wA ⟨⟨A1, n1, c1, rfl, r1⟩, bA1, bA2⟩
      have R1 := Lib.hid r1
      have BA := Lib.hid bA2
      have t1 := Bs.text r1 43 9 5 Tryz.underlying43 Tryz.underlying5 Tryz.underlying9
      have sA := KS.out _ bA2
      clear r1 bA1 bA2
      refine hK.out _ _ (by exact sA) (fun hHeld => ?_)
      clear hK K
      try simp only [Act.put, List.setIfInBounds_toArray, List.set_cons_zero, List.set_cons_succ]
      refine wpAnyH_ready (rs := [7, 9]) (by kernel_rfl) (by simp) ?_
      refine AllReadyH.cons (o := { dst := some 104, op := Go.Op.convert 43 9 (Go.Operand.tmp 103), type := 9, pos := "outright.go:77", after := #[{ on := 6, ground := Go.Ground.data }, { on := 4, ground := Go.Ground.guard }], guard := some (4, true) }) rfl (fun K hK => ?_) (AllReadyH.cons (o := { dst := some 106, op := Go.Op.call { callee := Go.Callee.value (Go.Operand.func 39), args := #[Go.Operand.tmp 105], argTypes := #[65] }, type := 43, pos := "outright.go:77", after := #[{ on := 8, ground := Go.Ground.data }, { on := 6, ground := Go.Ground.chain }, { on := 4, ground := Go.Ground.guard }], guard := some (4, true) }) rfl (fun K hK => ?_) AllReadyH.nil)
      · skip
        go_simp
        refine hK.out _ _ (by exact sA) (fun hHeld => ?_)
        clear hK K
        try simp only [Act.put, List.setIfInBounds_toArray, List.set_cons_zero, List.set_cons_succ]
        refine wpAnyH_ready (rs := [9]) (by kernel_rfl) (by simp) ?_
        refine AllReadyH.cons (o := { dst := some 106, op := Go.Op.call { callee := Go.Callee.value (Go.Operand.func 39), args := #[Go.Operand.tmp 105], argTypes := #[65] }, type := 43, pos := "outright.go:77", after := #[{ on := 8, ground := Go.Ground.data }, { on := 6, ground := Go.Ground.chain }, { on := 4, ground := Go.Ground.guard }], guard := some (4, true) }) rfl (fun K hK => ?_) AllReadyH.nil
        go_simp
        have QS := P2
        clear P2
        refine (QS.out _ BA.out).mono ?_
        clear QS
        rintro e wB ⟨⟨A2, n2, c2, rfl, r2⟩, bB1, bB2⟩
        have BB := Lib.hid bB2
        have t1b := Bs.text (R1.out.on bB1) 43 9 5 Tryz.underlying43 Tryz.underlying5 Tryz.underlying9
        have t2 := Bs.text r2 43 9 5 Tryz.underlying43 Tryz.underlying5 Tryz.underlying9
        have sB := KS.out _ bB2
        clear r2 bB1 bB2
        refine hK.out _ _ (by exact sB) (fun hHeld => ?_)
        clear hK K
        try simp only [Act.put, List.setIfInBounds_toArray, List.set_cons_zero, List.set_cons_succ]
        refine wpAnyH_ready (rs := [10]) (by kernel_rfl) (by simp) ?_
        refine AllReadyH.cons (o := { dst := some 107, op := Go.Op.convert 43 9 (Go.Operand.tmp 106), type := 9, pos := "outright.go:77", after := #[{ on := 9, ground := Go.Ground.data }, { on := 4, ground := Go.Ground.guard }], guard := some (4, true) }) rfl (fun K hK => ?_) AllReadyH.nil
        go_simp
        refine hK.out _ _ (by exact sB) (fun hHeld => ?_)
        clear hK K
        try simp only [Act.put, List.setIfInBounds_toArray, List.set_cons_zero, List.set_cons_succ]
        refine wpAnyH_take (i := 11) (oi := { dst := some 108, op := Go.Op.binOp Go.BinOp.eql 9 (Go.Operand.tmp 104) (Go.Operand.tmp 107) 9, type := 4, pos := "outright.go:77", after := #[{ on := 7, ground := Go.Ground.data }, { on := 10, ground := Go.Ground.data }, { on := 4, ground := Go.Ground.guard }], guard := some (4, true) }) (v := ?_) rfl (by kernel_rfl) (by kernel_rfl) (by kernel_rfl) (fun _ _ _ h => h) (Or.inl ⟨by rfl, ?_⟩) (by assumption) ?_
        rotate_left
        · (intro w hSw; (try dsimp only at hSw); go_simp; try with_reducible rfl)
        try simp only [Act.put, List.setIfInBounds_toArray, List.set_cons_zero, List.set_cons_succ]
        refine wpAnyH_take (i := 12) (oi := { dst := some 109, op := Go.Op.pick (Go.Operand.tmp 101) (Go.Operand.tmp 108) (Go.Operand.const (Go.Value.bool false)), type := 4, pos := "outright.go:77", after := #[{ on := 4, ground := Go.Ground.data }, { on := 11, ground := Go.Ground.data }], guard := none }) (v := ?_) rfl (by kernel_rfl) (by kernel_rfl) (by kernel_rfl) (fun _ _ _ h => h) (Or.inl ⟨by rfl, ?_⟩) (by assumption) ?_
        rotate_left
        · (intro w hSw; (try dsimp only at hSw); go_simp; try with_reducible rfl)
        try simp only [Act.put, List.setIfInBounds_toArray, List.set_cons_zero, List.set_cons_succ]
        refine wpAnyH_take (i := 13) (oi := { dst := some 110, op := Go.Op.move (Go.Operand.tmp 109), type := 4, pos := "outright.go:77", after := #[{ on := 12, ground := Go.Ground.data }, { on := 9, ground := Go.Ground.chain }], guard := none }) (v := ?_) rfl (by kernel_rfl) (by kernel_rfl) (by kernel_rfl) (fun _ _ _ h => h) (Or.inl ⟨by rfl, ?_⟩) (by assumption) ?_
        rotate_left
        · (intro w hSw; (try dsimp only at hSw); go_simp; try with_reducible rfl)
        try simp only [Act.put, List.setIfInBounds_toArray, List.set_cons_zero, List.set_cons_succ]
        refine wpAnyH_take (i := 14) (oi := { dst := some 111, op := Go.Op.move (Go.Operand.tmp 13), type := 68, pos := "outright.go:77", after := #[{ on := 13, ground := Go.Ground.guard }], guard := some (13, true) }) (v := ?_) rfl (by kernel_rfl) (by kernel_rfl) (by kernel_rfl) (fun _ _ _ h => h) (Or.inl ⟨by rfl, ?_⟩) (by assumption) ?_
        rotate_left
        · (intro w hSw; (try dsimp only at hSw); go_simp; try with_reducible rfl)
        try simp only [Act.put, List.setIfInBounds_toArray, List.set_cons_zero, List.set_cons_succ]
        refine wpAnyH_take (i := 17) (oi := { dst := some 114, op := Go.Op.load 65 (Go.Operand.tmp 1), type := 65, pos := "outright.go:77", after := #[{ on := 13, ground := Go.Ground.guard }], guard := some (13, true) }) (v := ?_) rfl (by kernel_rfl) (by kernel_rfl) (by kernel_rfl) (fun _ _ _ h => h) (Or.inl ⟨by rfl, ?_⟩) (by assumption) ?_
        rotate_left
        · (intro w hSw; (try dsimp only at hSw); go_simp; try with_reducible rfl)
        try simp only [Act.put, List.setIfInBounds_toArray, List.set_cons_zero, List.set_cons_succ]
        refine wpAnyH_ready (rs := [15]) (by kernel_rfl) (by simp) ?_
        refine AllReadyH.cons (o := { dst := some 112, op := Go.Op.call { callee := Go.Callee.invoke (Go.Operand.tmp 111) "Pay", args := #[], argTypes := #[] }, type := 43, pos := "outright.go:77", after := #[{ on := 14, ground := Go.Ground.data }, { on := 13, ground := Go.Ground.chain }, { on := 13, ground := Go.Ground.guard }], guard := some (13, true) }) rfl (fun K hK => ?_) AllReadyH.nil
        go_simp
        have QS := P3
        clear P3
        refine (QS.out _ BB.out).mono ?_
        clear QS
        rintro e wC ⟨⟨A3, n3, c3, rfl, r3⟩, bC1, bC2⟩
        have R3 := Lib.hid r3
        have BC := Lib.hid bC2
        have t3 := Bs.text r3 43 9 5 Tryz.underlying43 Tryz.underlying5 Tryz.underlying9
        have sC := KS.out _ bC2
        clear r3 bC1 bC2
        refine hK.out _ _ (by exact sC) (fun hHeld => ?_)
        clear hK K
        try simp only [Act.put, List.setIfInBounds_toArray, List.set_cons_zero, List.set_cons_succ]
        refine wpAnyH_ready (rs := [16, 18]) (by kernel_rfl) (by simp) ?_
        refine AllReadyH.cons (o := { dst := some 113, op := Go.Op.convert 43 9 (Go.Operand.tmp 112), type := 9, pos := "outright.go:77", after := #[{ on := 15, ground := Go.Ground.data }, { on := 13, ground := Go.Ground.guard }], guard := some (13, true) }) rfl (fun K hK => ?_) (AllReadyH.cons (o := { dst := some 115, op := Go.Op.call { callee := Go.Callee.value (Go.Operand.func 39), args := #[Go.Operand.tmp 114], argTypes := #[65] }, type := 43, pos := "outright.go:77", after := #[{ on := 17, ground := Go.Ground.data }, { on := 15, ground := Go.Ground.chain }, { on := 13, ground := Go.Ground.guard }], guard := some (13, true) }) rfl (fun K hK => ?_) AllReadyH.nil)
        · skip
          go_simp
          refine hK.out _ _ (by exact sC) (fun hHeld => ?_)
          clear hK K
          try simp only [Act.put, List.setIfInBounds_toArray, List.set_cons_zero, List.set_cons_succ]
          refine wpAnyH_ready (rs := [18]) (by kernel_rfl) (by simp) ?_
          refine AllReadyH.cons (o := { dst := some 115, op := Go.Op.call { callee := Go.Callee.value (Go.Operand.func 39), args := #[Go.Operand.tmp 114], argTypes := #[65] }, type := 43, pos := "outright.go:77", after := #[{ on := 17, ground := Go.Ground.data }, { on := 15, ground := Go.Ground.chain }, { on := 13, ground := Go.Ground.guard }], guard := some (13, true) }) rfl (fun K hK => ?_) AllReadyH.nil
          go_simp
          have QS := P4
          clear P4
          refine (QS.out _ BC.out).mono ?_
          clear QS
          rintro e wD ⟨⟨A4, n4, c4, rfl, r4⟩, bD1, bD2⟩
          have BD := Lib.hid bD2
          have t3d := Bs.text (R3.out.on bD1) 43 9 5 Tryz.underlying43 Tryz.underlying5 Tryz.underlying9
          have t4 := Bs.text r4 43 9 5 Tryz.underlying43 Tryz.underlying5 Tryz.underlying9
          have sD := KS.out _ bD2
          clear r4 bD1 bD2
          refine hK.out _ _ (by exact sD) (fun hHeld => ?_)
          clear hK K
          try simp only [Act.put, List.setIfInBounds_toArray, List.set_cons_zero, List.set_cons_succ]
          refine wpAnyH_ready (rs := [19]) (by kernel_rfl) (by simp) ?_
          refine AllReadyH.cons (o := { dst := some 116, op := Go.Op.convert 43 9 (Go.Operand.tmp 115), type := 9, pos := "outright.go:77", after := #[{ on := 18, ground := Go.Ground.data }, { on := 13, ground := Go.Ground.guard }], guard := some (13, true) }) rfl (fun K hK => ?_) AllReadyH.nil
          go_simp
          refine hK.out _ _ (by exact sD) (fun hHeld => ?_)
          clear hK K
          try simp only [Act.put, List.setIfInBounds_toArray, List.set_cons_zero, List.set_cons_succ]
          refine wpAnyH_take (i := 20) (oi := { dst := some 117, op := Go.Op.binOp Go.BinOp.eql 9 (Go.Operand.tmp 113) (Go.Operand.tmp 116) 9, type := 4, pos := "outright.go:77", after := #[{ on := 16, ground := Go.Ground.data }, { on := 19, ground := Go.Ground.data }, { on := 13, ground := Go.Ground.guard }], guard := some (13, true) }) (v := ?_) rfl (by kernel_rfl) (by kernel_rfl) (by kernel_rfl) (fun _ _ _ h => h) (Or.inl ⟨by rfl, ?_⟩) (by assumption) ?_
          rotate_left
          · (intro w hSw; (try dsimp only at hSw); go_simp; try with_reducible rfl)
          try simp only [Act.put, List.setIfInBounds_toArray, List.set_cons_zero, List.set_cons_succ]
          refine wpAnyH_take (i := 21) (oi := { dst := some 118, op := Go.Op.pick (Go.Operand.tmp 110) (Go.Operand.tmp 117) (Go.Operand.const (Go.Value.bool false)), type := 4, pos := "outright.go:77", after := #[{ on := 13, ground := Go.Ground.data }, { on := 20, ground := Go.Ground.data }], guard := none }) (v := ?_) rfl (by kernel_rfl) (by kernel_rfl) (by kernel_rfl) (fun _ _ _ h => h) (Or.inl ⟨by rfl, ?_⟩) (by assumption) ?_
          rotate_left
          · (intro w hSw; (try dsimp only at hSw); go_simp; try with_reducible rfl)
          try simp only [Act.put, List.setIfInBounds_toArray, List.set_cons_zero, List.set_cons_succ]
          refine wpAnyH_take (i := 22) (oi := { dst := some 2, op := Go.Op.assign (Go.Operand.tmp 118), type := 4, pos := "outright.go:77", after := #[{ on := 21, ground := Go.Ground.data }, { on := 18, ground := Go.Ground.chain }, { on := 0, ground := Go.Ground.phase }, { on := 1, ground := Go.Ground.phase }, { on := 2, ground := Go.Ground.phase }, { on := 3, ground := Go.Ground.phase }, { on := 4, ground := Go.Ground.phase }, { on := 5, ground := Go.Ground.phase }, { on := 6, ground := Go.Ground.phase }, { on := 7, ground := Go.Ground.phase }, { on := 8, ground := Go.Ground.phase }, { on := 9, ground := Go.Ground.phase }, { on := 10, ground := Go.Ground.phase }, { on := 11, ground := Go.Ground.phase }, { on := 12, ground := Go.Ground.phase }, { on := 13, ground := Go.Ground.phase }, { on := 14, ground := Go.Ground.phase }, { on := 15, ground := Go.Ground.phase }, { on := 16, ground := Go.Ground.phase }, { on := 17, ground := Go.Ground.phase }, { on := 18, ground := Go.Ground.phase }, { on := 19, ground := Go.Ground.phase }, { on := 20, ground := Go.Ground.phase }, { on := 21, ground := Go.Ground.phase }], guard := none }) (v := ?_) rfl (by kernel_rfl) (by kernel_rfl) (by kernel_rfl) (fun _ _ _ h => h) (Or.inl ⟨by rfl, ?_⟩) (by assumption) ?_
          rotate_left
          · (intro w hSw; (try dsimp only at hSw); go_simp; try with_reducible rfl)
          try simp only [Act.put, List.setIfInBounds_toArray, List.set_cons_zero, List.set_cons_succ]
          refine wpAnyH_done (by kernel_rfl) ?_ _
          refine NoPanic.normal ?_
          have HFF := Lib.hid (HF.out.trans (BD.out.mono HF.out.size))
          clear sA sB sC sD BA BB BC BD KS HF
          go_wp2
          go_ret
          exact ⟨rfl, HFF.out⟩
        · skip
          go_simp
          have QS := P4
          clear P4
          refine (QS.out _ BC.out).mono ?_
          clear QS
          rintro e wD ⟨⟨A4, n4, c4, rfl, r4⟩, bD1, bD2⟩
          have BD := Lib.hid bD2
          have t3d := Bs.text (R3.out.on bD1) 43 9 5 Tryz.underlying43 Tryz.underlying5 Tryz.underlying9
          have t4 := Bs.text r4 43 9 5 Tryz.underlying43 Tryz.underlying5 Tryz.underlying9
          have sD := KS.out _ bD2
          clear r4 bD1 bD2
          refine hK.out _ _ (by exact sD) (fun hHeld => ?_)
          clear hK K
          try simp only [Act.put, List.setIfInBounds_toArray, List.set_cons_zero, List.set_cons_succ]
          refine wpAnyH_ready (rs := [16, 19]) (by kernel_rfl) (by simp) ?_
          refine AllReadyH.cons (o := { dst := some 113, op := Go.Op.convert 43 9 (Go.Operand.tmp 112), type := 9, pos := "outright.go:77", after := #[{ on := 15, ground := Go.Ground.data }, { on := 13, ground := Go.Ground.guard }], guard := some (13, true) }) rfl (fun K hK => ?_) (AllReadyH.cons (o := { dst := some 116, op := Go.Op.convert 43 9 (Go.Operand.tmp 115), type := 9, pos := "outright.go:77", after := #[{ on := 18, ground := Go.Ground.data }, { on := 13, ground := Go.Ground.guard }], guard := some (13, true) }) rfl (fun K hK => ?_) AllReadyH.nil)
          · skip
            go_simp
            refine hK.out _ _ (by exact sD) (fun hHeld => ?_)
            clear hK K
            try simp only [Act.put, List.setIfInBounds_toArray, List.set_cons_zero, List.set_cons_succ]
            refine wpAnyH_ready (rs := [19]) (by kernel_rfl) (by simp) ?_
            refine AllReadyH.cons (o := { dst := some 116, op := Go.Op.convert 43 9 (Go.Operand.tmp 115), type := 9, pos := "outright.go:77", after := #[{ on := 18, ground := Go.Ground.data }, { on := 13, ground := Go.Ground.guard }], guard := some (13, true) }) rfl (fun K hK => ?_) AllReadyH.nil
            go_simp
            refine hK.out _ _ (by exact sD) (fun hHeld => ?_)
            clear hK K
            try simp only [Act.put, List.setIfInBounds_toArray, List.set_cons_zero, List.set_cons_succ]
            refine wpAnyH_take (i := 20) (oi := { dst := some 117, op := Go.Op.binOp Go.BinOp.eql 9 (Go.Operand.tmp 113) (Go.Operand.tmp 116) 9, type := 4, pos := "outright.go:77", after := #[{ on := 16, ground := Go.Ground.data }, { on := 19, ground := Go.Ground.data }, { on := 13, ground := Go.Ground.guard }], guard := some (13, true) }) (v := ?_) rfl (by kernel_rfl) (by kernel_rfl) (by kernel_rfl) (fun _ _ _ h => h) (Or.inl ⟨by rfl, ?_⟩) (by assumption) ?_
            rotate_left
            · (intro w hSw; (try dsimp only at hSw); go_simp; try with_reducible rfl)
            try simp only [Act.put, List.setIfInBounds_toArray, List.set_cons_zero, List.set_cons_succ]
            refine wpAnyH_take (i := 21) (oi := { dst := some 118, op := Go.Op.pick (Go.Operand.tmp 110) (Go.Operand.tmp 117) (Go.Operand.const (Go.Value.bool false)), type := 4, pos := "outright.go:77", after := #[{ on := 13, ground := Go.Ground.data }, { on := 20, ground := Go.Ground.data }], guard := none }) (v := ?_) rfl (by kernel_rfl) (by kernel_rfl) (by kernel_rfl) (fun _ _ _ h => h) (Or.inl ⟨by rfl, ?_⟩) (by assumption) ?_
            rotate_left
            · (intro w hSw; (try dsimp only at hSw); go_simp; try with_reducible rfl)
            try simp only [Act.put, List.setIfInBounds_toArray, List.set_cons_zero, List.set_cons_succ]
            refine wpAnyH_take (i := 22) (oi := { dst := some 2, op := Go.Op.assign (Go.Operand.tmp 118), type := 4, pos := "outright.go:77", after := #[{ on := 21, ground := Go.Ground.data }, { on := 18, ground := Go.Ground.chain }, { on := 0, ground := Go.Ground.phase }, { on := 1, ground := Go.Ground.phase }, { on := 2, ground := Go.Ground.phase }, { on := 3, ground := Go.Ground.phase }, { on := 4, ground := Go.Ground.phase }, { on := 5, ground := Go.Ground.phase }, { on := 6, ground := Go.Ground.phase }, { on := 7, ground := Go.Ground.phase }, { on := 8, ground := Go.Ground.phase }, { on := 9, ground := Go.Ground.phase }, { on := 10, ground := Go.Ground.phase }, { on := 11, ground := Go.Ground.phase }, { on := 12, ground := Go.Ground.phase }, { on := 13, ground := Go.Ground.phase }, { on := 14, ground := Go.Ground.phase }, { on := 15, ground := Go.Ground.phase }, { on := 16, ground := Go.Ground.phase }, { on := 17, ground := Go.Ground.phase }, { on := 18, ground := Go.Ground.phase }, { on := 19, ground := Go.Ground.phase }, { on := 20, ground := Go.Ground.phase }, { on := 21, ground := Go.Ground.phase }], guard := none }) (v := ?_) rfl (by kernel_rfl) (by kernel_rfl) (by kernel_rfl) (fun _ _ _ h => h) (Or.inl ⟨by rfl, ?_⟩) (by assumption) ?_
            rotate_left
            · (intro w hSw; (try dsimp only at hSw); go_simp; try with_reducible rfl)
            try simp only [Act.put, List.setIfInBounds_toArray, List.set_cons_zero, List.set_cons_succ]
            refine wpAnyH_done (by kernel_rfl) ?_ _
            refine NoPanic.normal ?_
            have HFF := Lib.hid (HF.out.trans (BD.out.mono HF.out.size))
            clear sA sB sC sD BA BB BC BD KS HF
            go_wp2
            go_ret
            exact ⟨rfl, HFF.out⟩
          · skip
            go_simp
            refine hK.out _ _ (by exact sD) (fun hHeld => ?_)
            clear hK K
            try simp only [Act.put, List.setIfInBounds_toArray, List.set_cons_zero, List.set_cons_succ]
            refine wpAnyH_ready (rs := [16]) (by kernel_rfl) (by simp) ?_
            refine AllReadyH.cons (o := { dst := some 113, op := Go.Op.convert 43 9 (Go.Operand.tmp 112), type := 9, pos := "outright.go:77", after := #[{ on := 15, ground := Go.Ground.data }, { on := 13, ground := Go.Ground.guard }], guard := some (13, true) }) rfl (fun K hK => ?_) AllReadyH.nil
            go_simp
            refine hK.out _ _ (by exact sD) (fun hHeld => ?_)
            clear hK K
            try simp only [Act.put, List.setIfInBounds_toArray, List.set_cons_zero, List.set_cons_succ]
            refine wpAnyH_take (i := 20) (oi := { dst := some 117, op := Go.Op.binOp Go.BinOp.eql 9 (Go.Operand.tmp 113) (Go.Operand.tmp 116) 9, type := 4, pos := "outright.go:77", after := #[{ on := 16, ground := Go.Ground.data }, { on := 19, ground := Go.Ground.data }, { on := 13, ground := Go.Ground.guard }], guard := some (13, true) }) (v := ?_) rfl (by kernel_rfl) (by kernel_rfl) (by kernel_rfl) (fun _ _ _ h => h) (Or.inl ⟨by rfl, ?_⟩) (by assumption) ?_
            rotate_left
            · (intro w hSw; (try dsimp only at hSw); go_simp; try with_reducible rfl)
            try simp only [Act.put, List.setIfInBounds_toArray, List.set_cons_zero, List.set_cons_succ]
            refine wpAnyH_take (i := 21) (oi := { dst := some 118, op := Go.Op.pick (Go.Operand.tmp 110) (Go.Operand.tmp 117) (Go.Operand.const (Go.Value.bool false)), type := 4, pos := "outright.go:77", after := #[{ on := 13, ground := Go.Ground.data }, { on := 20, ground := Go.Ground.data }], guard := none }) (v := ?_) rfl (by kernel_rfl) (by kernel_rfl) (by kernel_rfl) (fun _ _ _ h => h) (Or.inl ⟨by rfl, ?_⟩) (by assumption) ?_
            rotate_left
            · (intro w hSw; (try dsimp only at hSw); go_simp; try with_reducible rfl)
            try simp only [Act.put, List.setIfInBounds_toArray, List.set_cons_zero, List.set_cons_succ]
            refine wpAnyH_take (i := 22) (oi := { dst := some 2, op := Go.Op.assign (Go.Operand.tmp 118), type := 4, pos := "outright.go:77", after := #[{ on := 21, ground := Go.Ground.data }, { on := 18, ground := Go.Ground.chain }, { on := 0, ground := Go.Ground.phase }, { on := 1, ground := Go.Ground.phase }, { on := 2, ground := Go.Ground.phase }, { on := 3, ground := Go.Ground.phase }, { on := 4, ground := Go.Ground.phase }, { on := 5, ground := Go.Ground.phase }, { on := 6, ground := Go.Ground.phase }, { on := 7, ground := Go.Ground.phase }, { on := 8, ground := Go.Ground.phase }, { on := 9, ground := Go.Ground.phase }, { on := 10, ground := Go.Ground.phase }, { on := 11, ground := Go.Ground.phase }, { on := 12, ground := Go.Ground.phase }, { on := 13, ground := Go.Ground.phase }, { on := 14, ground := Go.Ground.phase }, { on := 15, ground := Go.Ground.phase }, { on := 16, ground := Go.Ground.phase }, { on := 17, ground := Go.Ground.phase }, { on := 18, ground := Go.Ground.phase }, { on := 19, ground := Go.Ground.phase }, { on := 20, ground := Go.Ground.phase }, { on := 21, ground := Go.Ground.phase }], guard := none }) (v := ?_) rfl (by kernel_rfl) (by kernel_rfl) (by kernel_rfl) (fun _ _ _ h => h) (Or.inl ⟨by rfl, ?_⟩) (by assumption) ?_
            rotate_left
            · (intro w hSw; (try dsimp only at hSw); go_simp; try with_reducible rfl)
            try simp only [Act.put, List.setIfInBounds_toArray, List.set_cons_zero, List.set_cons_succ]
            refine wpAnyH_done (by kernel_rfl) ?_ _
            refine NoPanic.normal ?_
            have HFF := Lib.hid (HF.out.trans (BD.out.mono HF.out.size))
            clear sA sB sC sD BA BB BC BD KS HF
            go_wp2
            go_ret
            exact ⟨rfl, HFF.out⟩
      · skip
        go_simp
        have QS := P2
        clear P2
        refine (QS.out _ BA.out).mono ?_
        clear QS
        rintro e wB ⟨⟨A2, n2, c2, rfl, r2⟩, bB1, bB2⟩
        have BB := Lib.hid bB2
        have t1b := Bs.text (R1.out.on bB1) 43 9 5 Tryz.underlying43 Tryz.underlying5 Tryz.underlying9
        have t2 := Bs.text r2 43 9 5 Tryz.underlying43 Tryz.underlying5 Tryz.underlying9
        have sB := KS.out _ bB2
        clear r2 bB1 bB2
        refine hK.out _ _ (by exact sB) (fun hHeld => ?_)
        clear hK K
        try simp only [Act.put, List.setIfInBounds_toArray, List.set_cons_zero, List.set_cons_succ]
        refine wpAnyH_ready (rs := [7, 10]) (by kernel_rfl) (by simp) ?_
        refine AllReadyH.cons (o := { dst := some 104, op := Go.Op.convert 43 9 (Go.Operand.tmp 103), type := 9, pos := "outright.go:77", after := #[{ on := 6, ground := Go.Ground.data }, { on := 4, ground := Go.Ground.guard }], guard := some (4, true) }) rfl (fun K hK => ?_) (AllReadyH.cons (o := { dst := some 107, op := Go.Op.convert 43 9 (Go.Operand.tmp 106), type := 9, pos := "outright.go:77", after := #[{ on := 9, ground := Go.Ground.data }, { on := 4, ground := Go.Ground.guard }], guard := some (4, true) }) rfl (fun K hK => ?_) AllReadyH.nil)
        · skip
          go_simp
          refine hK.out _ _ (by exact sB) (fun hHeld => ?_)
          clear hK K
          try simp only [Act.put, List.setIfInBounds_toArray, List.set_cons_zero, List.set_cons_succ]
          refine wpAnyH_ready (rs := [10]) (by kernel_rfl) (by simp) ?_
          refine AllReadyH.cons (o := { dst := some 107, op := Go.Op.convert 43 9 (Go.Operand.tmp 106), type := 9, pos := "outright.go:77", after := #[{ on := 9, ground := Go.Ground.data }, { on := 4, ground := Go.Ground.guard }], guard := some (4, true) }) rfl (fun K hK => ?_) AllReadyH.nil
          go_simp
          refine hK.out _ _ (by exact sB) (fun hHeld => ?_)
          clear hK K
          try simp only [Act.put, List.setIfInBounds_toArray, List.set_cons_zero, List.set_cons_succ]
          refine wpAnyH_take (i := 11) (oi := { dst := some 108, op := Go.Op.binOp Go.BinOp.eql 9 (Go.Operand.tmp 104) (Go.Operand.tmp 107) 9, type := 4, pos := "outright.go:77", after := #[{ on := 7, ground := Go.Ground.data }, { on := 10, ground := Go.Ground.data }, { on := 4, ground := Go.Ground.guard }], guard := some (4, true) }) (v := ?_) rfl (by kernel_rfl) (by kernel_rfl) (by kernel_rfl) (fun _ _ _ h => h) (Or.inl ⟨by rfl, ?_⟩) (by assumption) ?_
          rotate_left
          · (intro w hSw; (try dsimp only at hSw); go_simp; try with_reducible rfl)
          try simp only [Act.put, List.setIfInBounds_toArray, List.set_cons_zero, List.set_cons_succ]
          refine wpAnyH_take (i := 12) (oi := { dst := some 109, op := Go.Op.pick (Go.Operand.tmp 101) (Go.Operand.tmp 108) (Go.Operand.const (Go.Value.bool false)), type := 4, pos := "outright.go:77", after := #[{ on := 4, ground := Go.Ground.data }, { on := 11, ground := Go.Ground.data }], guard := none }) (v := ?_) rfl (by kernel_rfl) (by kernel_rfl) (by kernel_rfl) (fun _ _ _ h => h) (Or.inl ⟨by rfl, ?_⟩) (by assumption) ?_
          rotate_left
          · (intro w hSw; (try dsimp only at hSw); go_simp; try with_reducible rfl)
          try simp only [Act.put, List.setIfInBounds_toArray, List.set_cons_zero, List.set_cons_succ]
          refine wpAnyH_take (i := 13) (oi := { dst := some 110, op := Go.Op.move (Go.Operand.tmp 109), type := 4, pos := "outright.go:77", after := #[{ on := 12, ground := Go.Ground.data }, { on := 9, ground := Go.Ground.chain }], guard := none }) (v := ?_) rfl (by kernel_rfl) (by kernel_rfl) (by kernel_rfl) (fun _ _ _ h => h) (Or.inl ⟨by rfl, ?_⟩) (by assumption) ?_
          rotate_left
          · (intro w hSw; (try dsimp only at hSw); go_simp; try with_reducible rfl)
          try simp only [Act.put, List.setIfInBounds_toArray, List.set_cons_zero, List.set_cons_succ]
          refine wpAnyH_take (i := 14) (oi := { dst := some 111, op := Go.Op.move (Go.Operand.tmp 13), type := 68, pos := "outright.go:77", after := #[{ on := 13, ground := Go.Ground.guard }], guard := some (13, true) }) (v := ?_) rfl (by kernel_rfl) (by kernel_rfl) (by kernel_rfl) (fun _ _ _ h => h) (Or.inl ⟨by rfl, ?_⟩) (by assumption) ?_
          rotate_left
          · (intro w hSw; (try dsimp only at hSw); go_simp; try with_reducible rfl)
          try simp only [Act.put, List.setIfInBounds_toArray, List.set_cons_zero, List.set_cons_succ]
          refine wpAnyH_take (i := 17) (oi := { dst := some 114, op := Go.Op.load 65 (Go.Operand.tmp 1), type := 65, pos := "outright.go:77", after := #[{ on := 13, ground := Go.Ground.guard }], guard := some (13, true) }) (v := ?_) rfl (by kernel_rfl) (by kernel_rfl) (by kernel_rfl) (fun _ _ _ h => h) (Or.inl ⟨by rfl, ?_⟩) (by assumption) ?_
          rotate_left
          · (intro w hSw; (try dsimp only at hSw); go_simp; try with_reducible rfl)
          try simp only [Act.put, List.setIfInBounds_toArray, List.set_cons_zero, List.set_cons_succ]
          refine wpAnyH_ready (rs := [15]) (by kernel_rfl) (by simp) ?_
          refine AllReadyH.cons (o := { dst := some 112, op := Go.Op.call { callee := Go.Callee.invoke (Go.Operand.tmp 111) "Pay", args := #[], argTypes := #[] }, type := 43, pos := "outright.go:77", after := #[{ on := 14, ground := Go.Ground.data }, { on := 13, ground := Go.Ground.chain }, { on := 13, ground := Go.Ground.guard }], guard := some (13, true) }) rfl (fun K hK => ?_) AllReadyH.nil
          go_simp
          have QS := P3
          clear P3
          refine (QS.out _ BB.out).mono ?_
          clear QS
          rintro e wC ⟨⟨A3, n3, c3, rfl, r3⟩, bC1, bC2⟩
          have R3 := Lib.hid r3
          have BC := Lib.hid bC2
          have t3 := Bs.text r3 43 9 5 Tryz.underlying43 Tryz.underlying5 Tryz.underlying9
          have sC := KS.out _ bC2
          clear r3 bC1 bC2
          refine hK.out _ _ (by exact sC) (fun hHeld => ?_)
          clear hK K
          try simp only [Act.put, List.setIfInBounds_toArray, List.set_cons_zero, List.set_cons_succ]
          refine wpAnyH_ready (rs := [16, 18]) (by kernel_rfl) (by simp) ?_
          refine AllReadyH.cons (o := { dst := some 113, op := Go.Op.convert 43 9 (Go.Operand.tmp 112), type := 9, pos := "outright.go:77", after := #[{ on := 15, ground := Go.Ground.data }, { on := 13, ground := Go.Ground.guard }], guard := some (13, true) }) rfl (fun K hK => ?_) (AllReadyH.cons (o := { dst := some 115, op := Go.Op.call { callee := Go.Callee.value (Go.Operand.func 39), args := #[Go.Operand.tmp 114], argTypes := #[65] }, type := 43, pos := "outright.go:77", after := #[{ on := 17, ground := Go.Ground.data }, { on := 15, ground := Go.Ground.chain }, { on := 13, ground := Go.Ground.guard }], guard := some (13, true) }) rfl (fun K hK => ?_) AllReadyH.nil)
          · skip
            go_simp
            refine hK.out _ _ (by exact sC) (fun hHeld => ?_)
            clear hK K
            try simp only [Act.put, List.setIfInBounds_toArray, List.set_cons_zero, List.set_cons_succ]
            refine wpAnyH_ready (rs := [18]) (by kernel_rfl) (by simp) ?_
            refine AllReadyH.cons (o := { dst := some 115, op := Go.Op.call { callee := Go.Callee.value (Go.Operand.func 39), args := #[Go.Operand.tmp 114], argTypes := #[65] }, type := 43, pos := "outright.go:77", after := #[{ on := 17, ground := Go.Ground.data }, { on := 15, ground := Go.Ground.chain }, { on := 13, ground := Go.Ground.guard }], guard := some (13, true) }) rfl (fun K hK => ?_) AllReadyH.nil
            go_simp
            have QS := P4
            clear P4
            refine (QS.out _ BC.out).mono ?_
            clear QS
            rintro e wD ⟨⟨A4, n4, c4, rfl, r4⟩, bD1, bD2⟩
            have BD := Lib.hid bD2
            have t3d := Bs.text (R3.out.on bD1) 43 9 5 Tryz.underlying43 Tryz.underlying5 Tryz.underlying9
            have t4 := Bs.text r4 43 9 5 Tryz.underlying43 Tryz.underlying5 Tryz.underlying9
            have sD := KS.out _ bD2
            clear r4 bD1 bD2
            refine hK.out _ _ (by exact sD) (fun hHeld => ?_)
            clear hK K
            try simp only [Act.put, List.setIfInBounds_toArray, List.set_cons_zero, List.set_cons_succ]
            refine wpAnyH_ready (rs := [19]) (by kernel_rfl) (by simp) ?_
            refine AllReadyH.cons (o := { dst := some 116, op := Go.Op.convert 43 9 (Go.Operand.tmp 115), type := 9, pos := "outright.go:77", after := #[{ on := 18, ground := Go.Ground.data }, { on := 13, ground := Go.Ground.guard }], guard := some (13, true) }) rfl (fun K hK => ?_) AllReadyH.nil
            go_simp
            refine hK.out _ _ (by exact sD) (fun hHeld => ?_)
            clear hK K
            try simp only [Act.put, List.setIfInBounds_toArray, List.set_cons_zero, List.set_cons_succ]
            refine wpAnyH_take (i := 20) (oi := { dst := some 117, op := Go.Op.binOp Go.BinOp.eql 9 (Go.Operand.tmp 113) (Go.Operand.tmp 116) 9, type := 4, pos := "outright.go:77", after := #[{ on := 16, ground := Go.Ground.data }, { on := 19, ground := Go.Ground.data }, { on := 13, ground := Go.Ground.guard }], guard := some (13, true) }) (v := ?_) rfl (by kernel_rfl) (by kernel_rfl) (by kernel_rfl) (fun _ _ _ h => h) (Or.inl ⟨by rfl, ?_⟩) (by assumption) ?_
            rotate_left
            · (intro w hSw; (try dsimp only at hSw); go_simp; try with_reducible rfl)
            try simp only [Act.put, List.setIfInBounds_toArray, List.set_cons_zero, List.set_cons_succ]
            refine wpAnyH_take (i := 21) (oi := { dst := some 118, op := Go.Op.pick (Go.Operand.tmp 110) (Go.Operand.tmp 117) (Go.Operand.const (Go.Value.bool false)), type := 4, pos := "outright.go:77", after := #[{ on := 13, ground := Go.Ground.data }, { on := 20, ground := Go.Ground.data }], guard := none }) (v := ?_) rfl (by kernel_rfl) (by kernel_rfl) (by kernel_rfl) (fun _ _ _ h => h) (Or.inl ⟨by rfl, ?_⟩) (by assumption) ?_
            rotate_left
            · (intro w hSw; (try dsimp only at hSw); go_simp; try with_reducible rfl)
            try simp only [Act.put, List.setIfInBounds_toArray, List.set_cons_zero, List.set_cons_succ]
            refine wpAnyH_take (i := 22) (oi := { dst := some 2, op := Go.Op.assign (Go.Operand.tmp 118), type := 4, pos := "outright.go:77", after := #[{ on := 21, ground := Go.Ground.data }, { on := 18, ground := Go.Ground.chain }, { on := 0, ground := Go.Ground.phase }, { on := 1, ground := Go.Ground.phase }, { on := 2, ground := Go.Ground.phase }, { on := 3, ground := Go.Ground.phase }, { on := 4, ground := Go.Ground.phase }, { on := 5, ground := Go.Ground.phase }, { on := 6, ground := Go.Ground.phase }, { on := 7, ground := Go.Ground.phase }, { on := 8, ground := Go.Ground.phase }, { on := 9, ground := Go.Ground.phase }, { on := 10, ground := Go.Ground.phase }, { on := 11, ground := Go.Ground.phase }, { on := 12, ground := Go.Ground.phase }, { on := 13, ground := Go.Ground.phase }, { on := 14, ground := Go.Ground.phase }, { on := 15, ground := Go.Ground.phase }, { on := 16, ground := Go.Ground.phase }, { on := 17, ground := Go.Ground.phase }, { on := 18, ground := Go.Ground.phase }, { on := 19, ground := Go.Ground.phase }, { on := 20, ground := Go.Ground.phase }, { on := 21, ground := Go.Ground.phase }], guard := none }) (v := ?_) rfl (by kernel_rfl) (by kernel_rfl) (by kernel_rfl) (fun _ _ _ h => h) (Or.inl ⟨by rfl, ?_⟩) (by assumption) ?_
            rotate_left
            · (intro w hSw; (try dsimp only at hSw); go_simp; try with_reducible rfl)
            try simp only [Act.put, List.setIfInBounds_toArray, List.set_cons_zero, List.set_cons_succ]
            refine wpAnyH_done (by kernel_rfl) ?_ _
            refine NoPanic.normal ?_
            have HFF := Lib.hid (HF.out.trans (BD.out.mono HF.out.size))
            clear sA sB sC sD BA BB BC BD KS HF
            go_wp2
            go_ret
            exact ⟨rfl, HFF.out⟩
          · skip
            go_simp
            have QS := P4
            clear P4
            refine (QS.out _ BC.out).mono ?_
            clear QS
            rintro e wD ⟨⟨A4, n4, c4, rfl, r4⟩, bD1, bD2⟩
            have BD := Lib.hid bD2
            have t3d := Bs.text (R3.out.on bD1) 43 9 5 Tryz.underlying43 Tryz.underlying5 Tryz.underlying9
            have t4 := Bs.text r4 43 9 5 Tryz.underlying43 Tryz.underlying5 Tryz.underlying9
            have sD := KS.out _ bD2
            clear r4 bD1 bD2
            refine hK.out _ _ (by exact sD) (fun hHeld => ?_)
            clear hK K
            try simp only [Act.put, List.setIfInBounds_toArray, List.set_cons_zero, List.set_cons_succ]
            refine wpAnyH_ready (rs := [16, 19]) (by kernel_rfl) (by simp) ?_
            refine AllReadyH.cons (o := { dst := some 113, op := Go.Op.convert 43 9 (Go.Operand.tmp 112), type := 9, pos := "outright.go:77", after := #[{ on := 15, ground := Go.Ground.data }, { on := 13, ground := Go.Ground.guard }], guard := some (13, true) }) rfl (fun K hK => ?_) (AllReadyH.cons (o := { dst := some 116, op := Go.Op.convert 43 9 (Go.Operand.tmp 115), type := 9, pos := "outright.go:77", after := #[{ on := 18, ground := Go.Ground.data }, { on := 13, ground := Go.Ground.guard }], guard := some (13, true) }) rfl (fun K hK => ?_) AllReadyH.nil)
            · skip
              go_simp
              refine hK.out _ _ (by exact sD) (fun hHeld => ?_)
              clear hK K
              try simp only [Act.put, List.setIfInBounds_toArray, List.set_cons_zero, List.set_cons_succ]
              refine wpAnyH_ready (rs := [19]) (by kernel_rfl) (by simp) ?_
              refine AllReadyH.cons (o := { dst := some 116, op := Go.Op.convert 43 9 (Go.Operand.tmp 115), type := 9, pos := "outright.go:77", after := #[{ on := 18, ground := Go.Ground.data }, { on := 13, ground := Go.Ground.guard }], guard := some (13, true) }) rfl (fun K hK => ?_) AllReadyH.nil
              go_simp
              refine hK.out _ _ (by exact sD) (fun hHeld => ?_)
              clear hK K
              try simp only [Act.put, List.setIfInBounds_toArray, List.set_cons_zero, List.set_cons_succ]
              refine wpAnyH_take (i := 20) (oi := { dst := some 117, op := Go.Op.binOp Go.BinOp.eql 9 (Go.Operand.tmp 113) (Go.Operand.tmp 116) 9, type := 4, pos := "outright.go:77", after := #[{ on := 16, ground := Go.Ground.data }, { on := 19, ground := Go.Ground.data }, { on := 13, ground := Go.Ground.guard }], guard := some (13, true) }) (v := ?_) rfl (by kernel_rfl) (by kernel_rfl) (by kernel_rfl) (fun _ _ _ h => h) (Or.inl ⟨by rfl, ?_⟩) (by assumption) ?_
              rotate_left
              · (intro w hSw; (try dsimp only at hSw); go_simp; try with_reducible rfl)
              try simp only [Act.put, List.setIfInBounds_toArray, List.set_cons_zero, List.set_cons_succ]
              refine wpAnyH_take (i := 21) (oi := { dst := some 118, op := Go.Op.pick (Go.Operand.tmp 110) (Go.Operand.tmp 117) (Go.Operand.const (Go.Value.bool false)), type := 4, pos := "outright.go:77", after := #[{ on := 13, ground := Go.Ground.data }, { on := 20, ground := Go.Ground.data }], guard := none }) (v := ?_) rfl (by kernel_rfl) (by kernel_rfl) (by kernel_rfl) (fun _ _ _ h => h) (Or.inl ⟨by rfl, ?_⟩) (by assumption) ?_
              rotate_left
              · (intro w hSw; (try dsimp only at hSw); go_simp; try with_reducible rfl)
              try simp only [Act.put, List.setIfInBounds_toArray, List.set_cons_zero, List.set_cons_succ]
              refine wpAnyH_take (i := 22) (oi := { dst := some 2, op := Go.Op.assign (Go.Operand.tmp 118), type := 4, pos := "outright.go:77", after := #[{ on := 21, ground := Go.Ground.data }, { on := 18, ground := Go.Ground.chain }, { on := 0, ground := Go.Ground.phase }, { on := 1, ground := Go.Ground.phase }, { on := 2, ground := Go.Ground.phase }, { on := 3, ground := Go.Ground.phase }, { on := 4, ground := Go.Ground.phase }, { on := 5, ground := Go.Ground.phase }, { on := 6, ground := Go.Ground.phase }, { on := 7, ground := Go.Ground.phase }, { on := 8, ground := Go.Ground.phase }, { on := 9, ground := Go.Ground.phase }, { on := 10, ground := Go.Ground.phase }, { on := 11, ground := Go.Ground.phase }, { on := 12, ground := Go.Ground.phase }, { on := 13, ground := Go.Ground.phase }, { on := 14, ground := Go.Ground.phase }, { on := 15, ground := Go.Ground.phase }, { on := 16, ground := Go.Ground.phase }, { on := 17, ground := Go.Ground.phase }, { on := 18, ground := Go.Ground.phase }, { on := 19, ground := Go.Ground.phase }, { on := 20, ground := Go.Ground.phase }, { on := 21, ground := Go.Ground.phase }], guard := none }) (v := ?_) rfl (by kernel_rfl) (by kernel_rfl) (by kernel_rfl) (fun _ _ _ h => h) (Or.inl ⟨by rfl, ?_⟩) (by assumption) ?_
              rotate_left
              · (intro w hSw; (try dsimp only at hSw); go_simp; try with_reducible rfl)
              try simp only [Act.put, List.setIfInBounds_toArray, List.set_cons_zero, List.set_cons_succ]
              refine wpAnyH_done (by kernel_rfl) ?_ _
              refine NoPanic.normal ?_
              have HFF := Lib.hid (HF.out.trans (BD.out.mono HF.out.size))
              clear sA sB sC sD BA BB BC BD KS HF
              go_wp2
              go_ret
              exact ⟨rfl, HFF.out⟩
            · skip
              go_simp
              refine hK.out _ _ (by exact sD) (fun hHeld => ?_)
              clear hK K
              try simp only [Act.put, List.setIfInBounds_toArray, List.set_cons_zero, List.set_cons_succ]
              refine wpAnyH_ready (rs := [16]) (by kernel_rfl) (by simp) ?_
              refine AllReadyH.cons (o := { dst := some 113, op := Go.Op.convert 43 9 (Go.Operand.tmp 112), type := 9, pos := "outright.go:77", after := #[{ on := 15, ground := Go.Ground.data }, { on := 13, ground := Go.Ground.guard }], guard := some (13, true) }) rfl (fun K hK => ?_) AllReadyH.nil
              go_simp
              refine hK.out _ _ (by exact sD) (fun hHeld => ?_)
              clear hK K
              try simp only [Act.put, List.setIfInBounds_toArray, List.set_cons_zero, List.set_cons_succ]
              refine wpAnyH_take (i := 20) (oi := { dst := some 117, op := Go.Op.binOp Go.BinOp.eql 9 (Go.Operand.tmp 113) (Go.Operand.tmp 116) 9, type := 4, pos := "outright.go:77", after := #[{ on := 16, ground := Go.Ground.data }, { on := 19, ground := Go.Ground.data }, { on := 13, ground := Go.Ground.guard }], guard := some (13, true) }) (v := ?_) rfl (by kernel_rfl) (by kernel_rfl) (by kernel_rfl) (fun _ _ _ h => h) (Or.inl ⟨by rfl, ?_⟩) (by assumption) ?_
              rotate_left
              · (intro w hSw; (try dsimp only at hSw); go_simp; try with_reducible rfl)
              try simp only [Act.put, List.setIfInBounds_toArray, List.set_cons_zero, List.set_cons_succ]
              refine wpAnyH_take (i := 21) (oi := { dst := some 118, op := Go.Op.pick (Go.Operand.tmp 110) (Go.Operand.tmp 117) (Go.Operand.const (Go.Value.bool false)), type := 4, pos := "outright.go:77", after := #[{ on := 13, ground := Go.Ground.data }, { on := 20, ground := Go.Ground.data }], guard := none }) (v := ?_) rfl (by kernel_rfl) (by kernel_rfl) (by kernel_rfl) (fun _ _ _ h => h) (Or.inl ⟨by rfl, ?_⟩) (by assumption) ?_
              rotate_left
              · (intro w hSw; (try dsimp only at hSw); go_simp; try with_reducible rfl)
              try simp only [Act.put, List.setIfInBounds_toArray, List.set_cons_zero, List.set_cons_succ]
              refine wpAnyH_take (i := 22) (oi := { dst := some 2, op := Go.Op.assign (Go.Operand.tmp 118), type := 4, pos := "outright.go:77", after := #[{ on := 21, ground := Go.Ground.data }, { on := 18, ground := Go.Ground.chain }, { on := 0, ground := Go.Ground.phase }, { on := 1, ground := Go.Ground.phase }, { on := 2, ground := Go.Ground.phase }, { on := 3, ground := Go.Ground.phase }, { on := 4, ground := Go.Ground.phase }, { on := 5, ground := Go.Ground.phase }, { on := 6, ground := Go.Ground.phase }, { on := 7, ground := Go.Ground.phase }, { on := 8, ground := Go.Ground.phase }, { on := 9, ground := Go.Ground.phase }, { on := 10, ground := Go.Ground.phase }, { on := 11, ground := Go.Ground.phase }, { on := 12, ground := Go.Ground.phase }, { on := 13, ground := Go.Ground.phase }, { on := 14, ground := Go.Ground.phase }, { on := 15, ground := Go.Ground.phase }, { on := 16, ground := Go.Ground.phase }, { on := 17, ground := Go.Ground.phase }, { on := 18, ground := Go.Ground.phase }, { on := 19, ground := Go.Ground.phase }, { on := 20, ground := Go.Ground.phase }, { on := 21, ground := Go.Ground.phase }], guard := none }) (v := ?_) rfl (by kernel_rfl) (by kernel_rfl) (by kernel_rfl) (fun _ _ _ h => h) (Or.inl ⟨by rfl, ?_⟩) (by assumption) ?_
              rotate_left
              · (intro w hSw; (try dsimp only at hSw); go_simp; try with_reducible rfl)
              try simp only [Act.put, List.setIfInBounds_toArray, List.set_cons_zero, List.set_cons_succ]
              refine wpAnyH_done (by kernel_rfl) ?_ _
              refine NoPanic.normal ?_
              have HFF := Lib.hid (HF.out.trans (BD.out.mono HF.out.size))
              clear sA sB sC sD BA BB BC BD KS HF
              go_wp2
              go_ret
              exact ⟨rfl, HFF.out⟩
        · skip
          go_simp
          refine hK.out _ _ (by exact sB) (fun hHeld => ?_)
          clear hK K
          try simp only [Act.put, List.setIfInBounds_toArray, List.set_cons_zero, List.set_cons_succ]
          refine wpAnyH_ready (rs := [7]) (by kernel_rfl) (by simp) ?_
          refine AllReadyH.cons (o := { dst := some 104, op := Go.Op.convert 43 9 (Go.Operand.tmp 103), type := 9, pos := "outright.go:77", after := #[{ on := 6, ground := Go.Ground.data }, { on := 4, ground := Go.Ground.guard }], guard := some (4, true) }) rfl (fun K hK => ?_) AllReadyH.nil
          go_simp
          refine hK.out _ _ (by exact sB) (fun hHeld => ?_)
          clear hK K
          try simp only [Act.put, List.setIfInBounds_toArray, List.set_cons_zero, List.set_cons_succ]
          refine wpAnyH_take (i := 11) (oi := { dst := some 108, op := Go.Op.binOp Go.BinOp.eql 9 (Go.Operand.tmp 104) (Go.Operand.tmp 107) 9, type := 4, pos := "outright.go:77", after := #[{ on := 7, ground := Go.Ground.data }, { on := 10, ground := Go.Ground.data }, { on := 4, ground := Go.Ground.guard }], guard := some (4, true) }) (v := ?_) rfl (by kernel_rfl) (by kernel_rfl) (by kernel_rfl) (fun _ _ _ h => h) (Or.inl ⟨by rfl, ?_⟩) (by assumption) ?_
          rotate_left
          · (intro w hSw; (try dsimp only at hSw); go_simp; try with_reducible rfl)
          try simp only [Act.put, List.setIfInBounds_toArray, List.set_cons_zero, List.set_cons_succ]
          refine wpAnyH_take (i := 12) (oi := { dst := some 109, op := Go.Op.pick (Go.Operand.tmp 101) (Go.Operand.tmp 108) (Go.Operand.const (Go.Value.bool false)), type := 4, pos := "outright.go:77", after := #[{ on := 4, ground := Go.Ground.data }, { on := 11, ground := Go.Ground.data }], guard := none }) (v := ?_) rfl (by kernel_rfl) (by kernel_rfl) (by kernel_rfl) (fun _ _ _ h => h) (Or.inl ⟨by rfl, ?_⟩) (by assumption) ?_
          rotate_left
          · (intro w hSw; (try dsimp only at hSw); go_simp; try with_reducible rfl)
          try simp only [Act.put, List.setIfInBounds_toArray, List.set_cons_zero, List.set_cons_succ]
          refine wpAnyH_take (i := 13) (oi := { dst := some 110, op := Go.Op.move (Go.Operand.tmp 109), type := 4, pos := "outright.go:77", after := #[{ on := 12, ground := Go.Ground.data }, { on := 9, ground := Go.Ground.chain }], guard := none }) (v := ?_) rfl (by kernel_rfl) (by kernel_rfl) (by kernel_rfl) (fun _ _ _ h => h) (Or.inl ⟨by rfl, ?_⟩) (by assumption) ?_
          rotate_left
          · (intro w hSw; (try dsimp only at hSw); go_simp; try with_reducible rfl)
          try simp only [Act.put, List.setIfInBounds_toArray, List.set_cons_zero, List.set_cons_succ]
          refine wpAnyH_take (i := 14) (oi := { dst := some 111, op := Go.Op.move (Go.Operand.tmp 13), type := 68, pos := "outright.go:77", after := #[{ on := 13, ground := Go.Ground.guard }], guard := some (13, true) }) (v := ?_) rfl (by kernel_rfl) (by kernel_rfl) (by kernel_rfl) (fun _ _ _ h => h) (Or.inl ⟨by rfl, ?_⟩) (by assumption) ?_
          rotate_left
          · (intro w hSw; (try dsimp only at hSw); go_simp; try with_reducible rfl)
          try simp only [Act.put, List.setIfInBounds_toArray, List.set_cons_zero, List.set_cons_succ]
          refine wpAnyH_take (i := 17) (oi := { dst := some 114, op := Go.Op.load 65 (Go.Operand.tmp 1), type := 65, pos := "outright.go:77", after := #[{ on := 13, ground := Go.Ground.guard }], guard := some (13, true) }) (v := ?_) rfl (by kernel_rfl) (by kernel_rfl) (by kernel_rfl) (fun _ _ _ h => h) (Or.inl ⟨by rfl, ?_⟩) (by assumption) ?_
          rotate_left
          · (intro w hSw; (try dsimp only at hSw); go_simp; try with_reducible rfl)
          try simp only [Act.put, List.setIfInBounds_toArray, List.set_cons_zero, List.set_cons_succ]
          refine wpAnyH_ready (rs := [15]) (by kernel_rfl) (by simp) ?_
          refine AllReadyH.cons (o := { dst := some 112, op := Go.Op.call { callee := Go.Callee.invoke (Go.Operand.tmp 111) "Pay", args := #[], argTypes := #[] }, type := 43, pos := "outright.go:77", after := #[{ on := 14, ground := Go.Ground.data }, { on := 13, ground := Go.Ground.chain }, { on := 13, ground := Go.Ground.guard }], guard := some (13, true) }) rfl (fun K hK => ?_) AllReadyH.nil
          go_simp
          have QS := P3
          clear P3
          refine (QS.out _ BB.out).mono ?_
          clear QS
          rintro e wC ⟨⟨A3, n3, c3, rfl, r3⟩, bC1, bC2⟩
          have R3 := Lib.hid r3
          have BC := Lib.hid bC2
          have t3 := Bs.text r3 43 9 5 Tryz.underlying43 Tryz.underlying5 Tryz.underlying9
          have sC := KS.out _ bC2
          clear r3 bC1 bC2
          refine hK.out _ _ (by exact sC) (fun hHeld => ?_)
          clear hK K
          try simp only [Act.put, List.setIfInBounds_toArray, List.set_cons_zero, List.set_cons_succ]
          refine wpAnyH_ready (rs := [16, 18]) (by kernel_rfl) (by simp) ?_
          refine AllReadyH.cons (o := { dst := some 113, op := Go.Op.convert 43 9 (Go.Operand.tmp 112), type := 9, pos := "outright.go:77", after := #[{ on := 15, ground := Go.Ground.data }, { on := 13, ground := Go.Ground.guard }], guard := some (13, true) }) rfl (fun K hK => ?_) (AllReadyH.cons (o := { dst := some 115, op := Go.Op.call { callee := Go.Callee.value (Go.Operand.func 39), args := #[Go.Operand.tmp 114], argTypes := #[65] }, type := 43, pos := "outright.go:77", after := #[{ on := 17, ground := Go.Ground.data }, { on := 15, ground := Go.Ground.chain }, { on := 13, ground := Go.Ground.guard }], guard := some (13, true) }) rfl (fun K hK => ?_) AllReadyH.nil)
          · skip
            go_simp
            refine hK.out _ _ (by exact sC) (fun hHeld => ?_)
            clear hK K
            try simp only [Act.put, List.setIfInBounds_toArray, List.set_cons_zero, List.set_cons_succ]
            refine wpAnyH_ready (rs := [18]) (by kernel_rfl) (by simp) ?_
            refine AllReadyH.cons (o := { dst := some 115, op := Go.Op.call { callee := Go.Callee.value (Go.Operand.func 39), args := #[Go.Operand.tmp 114], argTypes := #[65] }, type := 43, pos := "outright.go:77", after := #[{ on := 17, ground := Go.Ground.data }, { on := 15, ground := Go.Ground.chain }, { on := 13, ground := Go.Ground.guard }], guard := some (13, true) }) rfl (fun K hK => ?_) AllReadyH.nil
            go_simp
            have QS := P4
            clear P4
            refine (QS.out _ BC.out).mono ?_
            clear QS
            rintro e wD ⟨⟨A4, n4, c4, rfl, r4⟩, bD1, bD2⟩
            have BD := Lib.hid bD2
            have t3d := Bs.text (R3.out.on bD1) 43 9 5 Tryz.underlying43 Tryz.underlying5 Tryz.underlying9
            have t4 := Bs.text r4 43 9 5 Tryz.underlying43 Tryz.underlying5 Tryz.underlying9
            have sD := KS.out _ bD2
            clear r4 bD1 bD2
            refine hK.out _ _ (by exact sD) (fun hHeld => ?_)
            clear hK K
            try simp only [Act.put, List.setIfInBounds_toArray, List.set_cons_zero, List.set_cons_succ]
            refine wpAnyH_ready (rs := [19]) (by kernel_rfl) (by simp) ?_
            refine AllReadyH.cons (o := { dst := some 116, op := Go.Op.convert 43 9 (Go.Operand.tmp 115), type := 9, pos := "outright.go:77", after := #[{ on := 18, ground := Go.Ground.data }, { on := 13, ground := Go.Ground.guard }], guard := some (13, true) }) rfl (fun K hK => ?_) AllReadyH.nil
            go_simp
            refine hK.out _ _ (by exact sD) (fun hHeld => ?_)
            clear hK K
            try simp only [Act.put, List.setIfInBounds_toArray, List.set_cons_zero, List.set_cons_succ]
            refine wpAnyH_take (i := 20) (oi := { dst := some 117, op := Go.Op.binOp Go.BinOp.eql 9 (Go.Operand.tmp 113) (Go.Operand.tmp 116) 9, type := 4, pos := "outright.go:77", after := #[{ on := 16, ground := Go.Ground.data }, { on := 19, ground := Go.Ground.data }, { on := 13, ground := Go.Ground.guard }], guard := some (13, true) }) (v := ?_) rfl (by kernel_rfl) (by kernel_rfl) (by kernel_rfl) (fun _ _ _ h => h) (Or.inl ⟨by rfl, ?_⟩) (by assumption) ?_
            rotate_left
            · (intro w hSw; (try dsimp only at hSw); go_simp; try with_reducible rfl)
            try simp only [Act.put, List.setIfInBounds_toArray, List.set_cons_zero, List.set_cons_succ]
            refine wpAnyH_take (i := 21) (oi := { dst := some 118, op := Go.Op.pick (Go.Operand.tmp 110) (Go.Operand.tmp 117) (Go.Operand.const (Go.Value.bool false)), type := 4, pos := "outright.go:77", after := #[{ on := 13, ground := Go.Ground.data }, { on := 20, ground := Go.Ground.data }], guard := none }) (v := ?_) rfl (by kernel_rfl) (by kernel_rfl) (by kernel_rfl) (fun _ _ _ h => h) (Or.inl ⟨by rfl, ?_⟩) (by assumption) ?_
            rotate_left
            · (intro w hSw; (try dsimp only at hSw); go_simp; try with_reducible rfl)
            try simp only [Act.put, List.setIfInBounds_toArray, List.set_cons_zero, List.set_cons_succ]
            refine wpAnyH_take (i := 22) (oi := { dst := some 2, op := Go.Op.assign (Go.Operand.tmp 118), type := 4, pos := "outright.go:77", after := #[{ on := 21, ground := Go.Ground.data }, { on := 18, ground := Go.Ground.chain }, { on := 0, ground := Go.Ground.phase }, { on := 1, ground := Go.Ground.phase }, { on := 2, ground := Go.Ground.phase }, { on := 3, ground := Go.Ground.phase }, { on := 4, ground := Go.Ground.phase }, { on := 5, ground := Go.Ground.phase }, { on := 6, ground := Go.Ground.phase }, { on := 7, ground := Go.Ground.phase }, { on := 8, ground := Go.Ground.phase }, { on := 9, ground := Go.Ground.phase }, { on := 10, ground := Go.Ground.phase }, { on := 11, ground := Go.Ground.phase }, { on := 12, ground := Go.Ground.phase }, { on := 13, ground := Go.Ground.phase }, { on := 14, ground := Go.Ground.phase }, { on := 15, ground := Go.Ground.phase }, { on := 16, ground := Go.Ground.phase }, { on := 17, ground := Go.Ground.phase }, { on := 18, ground := Go.Ground.phase }, { on := 19, ground := Go.Ground.phase }, { on := 20, ground := Go.Ground.phase }, { on := 21, ground := Go.Ground.phase }], guard := none }) (v := ?_) rfl (by kernel_rfl) (by kernel_rfl) (by kernel_rfl) (fun _ _ _ h => h) (Or.inl ⟨by rfl, ?_⟩) (by assumption) ?_
            rotate_left
            · (intro w hSw; (try dsimp only at hSw); go_simp; try with_reducible rfl)
            try simp only [Act.put, List.setIfInBounds_toArray, List.set_cons_zero, List.set_cons_succ]
            refine wpAnyH_done (by kernel_rfl) ?_ _
            refine NoPanic.normal ?_
            have HFF := Lib.hid (HF.out.trans (BD.out.mono HF.out.size))
            clear sA sB sC sD BA BB BC BD KS HF
            go_wp2
            go_ret
            exact ⟨rfl, HFF.out⟩
          · skip
            go_simp
            have QS := P4
            clear P4
            refine (QS.out _ BC.out).mono ?_
            clear QS
            rintro e wD ⟨⟨A4, n4, c4, rfl, r4⟩, bD1, bD2⟩
            have BD := Lib.hid bD2
            have t3d := Bs.text (R3.out.on bD1) 43 9 5 Tryz.underlying43 Tryz.underlying5 Tryz.underlying9
            have t4 := Bs.text r4 43 9 5 Tryz.underlying43 Tryz.underlying5 Tryz.underlying9
            have sD := KS.out _ bD2
            clear r4 bD1 bD2
            refine hK.out _ _ (by exact sD) (fun hHeld => ?_)
            clear hK K
            try simp only [Act.put, List.setIfInBounds_toArray, List.set_cons_zero, List.set_cons_succ]
            refine wpAnyH_ready (rs := [16, 19]) (by kernel_rfl) (by simp) ?_
            refine AllReadyH.cons (o := { dst := some 113, op := Go.Op.convert 43 9 (Go.Operand.tmp 112), type := 9, pos := "outright.go:77", after := #[{ on := 15, ground := Go.Ground.data }, { on := 13, ground := Go.Ground.guard }], guard := some (13, true) }) rfl (fun K hK => ?_) (AllReadyH.cons (o := { dst := some 116, op := Go.Op.convert 43 9 (Go.Operand.tmp 115), type := 9, pos := "outright.go:77", after := #[{ on := 18, ground := Go.Ground.data }, { on := 13, ground := Go.Ground.guard }], guard := some (13, true) }) rfl (fun K hK => ?_) AllReadyH.nil)
            · skip
              go_simp
              refine hK.out _ _ (by exact sD) (fun hHeld => ?_)
              clear hK K
              try simp only [Act.put, List.setIfInBounds_toArray, List.set_cons_zero, List.set_cons_succ]
              refine wpAnyH_ready (rs := [19]) (by kernel_rfl) (by simp) ?_
              refine AllReadyH.cons (o := { dst := some 116, op := Go.Op.convert 43 9 (Go.Operand.tmp 115), type := 9, pos := "outright.go:77", after := #[{ on := 18, ground := Go.Ground.data }, { on := 13, ground := Go.Ground.guard }], guard := some (13, true) }) rfl (fun K hK => ?_) AllReadyH.nil
              go_simp
              refine hK.out _ _ (by exact sD) (fun hHeld => ?_)
              clear hK K
              try simp only [Act.put, List.setIfInBounds_toArray, List.set_cons_zero, List.set_cons_succ]
              refine wpAnyH_take (i := 20) (oi := { dst := some 117, op := Go.Op.binOp Go.BinOp.eql 9 (Go.Operand.tmp 113) (Go.Operand.tmp 116) 9, type := 4, pos := "outright.go:77", after := #[{ on := 16, ground := Go.Ground.data }, { on := 19, ground := Go.Ground.data }, { on := 13, ground := Go.Ground.guard }], guard := some (13, true) }) (v := ?_) rfl (by kernel_rfl) (by kernel_rfl) (by kernel_rfl) (fun _ _ _ h => h) (Or.inl ⟨by rfl, ?_⟩) (by assumption) ?_
              rotate_left
              · (intro w hSw; (try dsimp only at hSw); go_simp; try with_reducible rfl)
              try simp only [Act.put, List.setIfInBounds_toArray, List.set_cons_zero, List.set_cons_succ]
              refine wpAnyH_take (i := 21) (oi := { dst := some 118, op := Go.Op.pick (Go.Operand.tmp 110) (Go.Operand.tmp 117) (Go.Operand.const (Go.Value.bool false)), type := 4, pos := "outright.go:77", after := #[{ on := 13, ground := Go.Ground.data }, { on := 20, ground := Go.Ground.data }], guard := none }) (v := ?_) rfl (by kernel_rfl) (by kernel_rfl) (by kernel_rfl) (fun _ _ _ h => h) (Or.inl ⟨by rfl, ?_⟩) (by assumption) ?_
              rotate_left
              · (intro w hSw; (try dsimp only at hSw); go_simp; try with_reducible rfl)
              try simp only [Act.put, List.setIfInBounds_toArray, List.set_cons_zero, List.set_cons_succ]
              refine wpAnyH_take (i := 22) (oi := { dst := some 2, op := Go.Op.assign (Go.Operand.tmp 118), type := 4, pos := "outright.go:77", after := #[{ on := 21, ground := Go.Ground.data }, { on := 18, ground := Go.Ground.chain }, { on := 0, ground := Go.Ground.phase }, { on := 1, ground := Go.Ground.phase }, { on := 2, ground := Go.Ground.phase }, { on := 3, ground := Go.Ground.phase }, { on := 4, ground := Go.Ground.phase }, { on := 5, ground := Go.Ground.phase }, { on := 6, ground := Go.Ground.phase }, { on := 7, ground := Go.Ground.phase }, { on := 8, ground := Go.Ground.phase }, { on := 9, ground := Go.Ground.phase }, { on := 10, ground := Go.Ground.phase }, { on := 11, ground := Go.Ground.phase }, { on := 12, ground := Go.Ground.phase }, { on := 13, ground := Go.Ground.phase }, { on := 14, ground := Go.Ground.phase }, { on := 15, ground := Go.Ground.phase }, { on := 16, ground := Go.Ground.phase }, { on := 17, ground := Go.Ground.phase }, { on := 18, ground := Go.Ground.phase }, { on := 19, ground := Go.Ground.phase }, { on := 20, ground := Go.Ground.phase }, { on := 21, ground := Go.Ground.phase }], guard := none }) (v := ?_) rfl (by kernel_rfl) (by kernel_rfl) (by kernel_rfl) (fun _ _ _ h => h) (Or.inl ⟨by rfl, ?_⟩) (by assumption) ?_
              rotate_left
              · (intro w hSw; (try dsimp only at hSw); go_simp; try with_reducible rfl)
              try simp only [Act.put, List.setIfInBounds_toArray, List.set_cons_zero, List.set_cons_succ]
              refine wpAnyH_done (by kernel_rfl) ?_ _
              refine NoPanic.normal ?_
              have HFF := Lib.hid (HF.out.trans (BD.out.mono HF.out.size))
              clear sA sB sC sD BA BB BC BD KS HF
              go_wp2
              go_ret
              exact ⟨rfl, HFF.out⟩
            · skip
              go_simp
              refine hK.out _ _ (by exact sD) (fun hHeld => ?_)
              clear hK K
              try simp only [Act.put, List.setIfInBounds_toArray, List.set_cons_zero, List.set_cons_succ]
              refine wpAnyH_ready (rs := [16]) (by kernel_rfl) (by simp) ?_
              refine AllReadyH.cons (o := { dst := some 113, op := Go.Op.convert 43 9 (Go.Operand.tmp 112), type := 9, pos := "outright.go:77", after := #[{ on := 15, ground := Go.Ground.data }, { on := 13, ground := Go.Ground.guard }], guard := some (13, true) }) rfl (fun K hK => ?_) AllReadyH.nil
              go_simp
              refine hK.out _ _ (by exact sD) (fun hHeld => ?_)
              clear hK K
              try simp only [Act.put, List.setIfInBounds_toArray, List.set_cons_zero, List.set_cons_succ]
              refine wpAnyH_take (i := 20) (oi := { dst := some 117, op := Go.Op.binOp Go.BinOp.eql 9 (Go.Operand.tmp 113) (Go.Operand.tmp 116) 9, type := 4, pos := "outright.go:77", after := #[{ on := 16, ground := Go.Ground.data }, { on := 19, ground := Go.Ground.data }, { on := 13, ground := Go.Ground.guard }], guard := some (13, true) }) (v := ?_) rfl (by kernel_rfl) (by kernel_rfl) (by kernel_rfl) (fun _ _ _ h => h) (Or.inl ⟨by rfl, ?_⟩) (by assumption) ?_
              rotate_left
              · (intro w hSw; (try dsimp only at hSw); go_simp; try with_reducible rfl)
              try simp only [Act.put, List.setIfInBounds_toArray, List.set_cons_zero, List.set_cons_succ]
              refine wpAnyH_take (i := 21) (oi := { dst := some 118, op := Go.Op.pick (Go.Operand.tmp 110) (Go.Operand.tmp 117) (Go.Operand.const (Go.Value.bool false)), type := 4, pos := "outright.go:77", after := #[{ on := 13, ground := Go.Ground.data }, { on := 20, ground := Go.Ground.data }], guard := none }) (v := ?_) rfl (by kernel_rfl) (by kernel_rfl) (by kernel_rfl) (fun _ _ _ h => h) (Or.inl ⟨by rfl, ?_⟩) (by assumption) ?_
              rotate_left
              · (intro w hSw; (try dsimp only at hSw); go_simp; try with_reducible rfl)
              try simp only [Act.put, List.setIfInBounds_toArray, List.set_cons_zero, List.set_cons_succ]
              refine wpAnyH_take (i := 22) (oi := { dst := some 2, op := Go.Op.assign (Go.Operand.tmp 118), type := 4, pos := "outright.go:77", after := #[{ on := 21, ground := Go.Ground.data }, { on := 18, ground := Go.Ground.chain }, { on := 0, ground := Go.Ground.phase }, { on := 1, ground := Go.Ground.phase }, { on := 2, ground := Go.Ground.phase }, { on := 3, ground := Go.Ground.phase }, { on := 4, ground := Go.Ground.phase }, { on := 5, ground := Go.Ground.phase }, { on := 6, ground := Go.Ground.phase }, { on := 7, ground := Go.Ground.phase }, { on := 8, ground := Go.Ground.phase }, { on := 9, ground := Go.Ground.phase }, { on := 10, ground := Go.Ground.phase }, { on := 11, ground := Go.Ground.phase }, { on := 12, ground := Go.Ground.phase }, { on := 13, ground := Go.Ground.phase }, { on := 14, ground := Go.Ground.phase }, { on := 15, ground := Go.Ground.phase }, { on := 16, ground := Go.Ground.phase }, { on := 17, ground := Go.Ground.phase }, { on := 18, ground := Go.Ground.phase }, { on := 19, ground := Go.Ground.phase }, { on := 20, ground := Go.Ground.phase }, { on := 21, ground := Go.Ground.phase }], guard := none }) (v := ?_) rfl (by kernel_rfl) (by kernel_rfl) (by kernel_rfl) (fun _ _ _ h => h) (Or.inl ⟨by rfl, ?_⟩) (by assumption) ?_
              rotate_left
              · (intro w hSw; (try dsimp only at hSw); go_simp; try with_reducible rfl)
              try simp only [Act.put, List.setIfInBounds_toArray, List.set_cons_zero, List.set_cons_succ]
              refine wpAnyH_done (by kernel_rfl) ?_ _
              refine NoPanic.normal ?_
              have HFF := Lib.hid (HF.out.trans (BD.out.mono HF.out.size))
              clear sA sB sC sD BA BB BC BD KS HF
              go_wp2
              go_ret
              exact ⟨rfl, HFF.out⟩

theorem pagerNodes_walk (w : World) (x : Nv) (cs : List Nd.Cell) (ks : List (List Nat)) (ps : List Int) (hx : NvIs w x cs ks ps) :
    Calls Tryz.prog 4 #[x.val] w fun e w' => e = .returned (.bool true) ∧ Below w.heap.size w w' := by
  cases hb : x.br with
  | false => exact pagerNodes_leaf w x cs ks ps hx hb
  | true => exact pagerNodes_branch w x cs ks ps hx hb

end Go.Proofs.YtmcldkcmialfeaaGreat.Nn
