/-
  What the program's branches' pages say.
-/
import Derived.Test.YtmcldkcmialfeaaGreatNdBranch
namespace Go.Proofs.YtmcldkcmialfeaaGreat.Nn
open Go.RowKit
set_option linter.unusedVariables false

/-- What a branch's page says; none, of one that may not be. -/
def payB (ks : List (List Nat)) (ps : List Int) : List Nat := if Nd.BranchMay ks ps then (match ps with | [] => [] | p :: q => Nd.branchPay ks p q) else []
theorem allK_take {l : List (List Nat × Int)} {k : Nat} {c : List Nat × Int} (h : l[k]? = some c) : Nd.allK (l.take (k + 1)) = Nd.allK (l.take k) ++ Nd.oneK c := by
  rw [List.take_add_one, h]; exact Nd.allK_snoc _ _
theorem zip_at {ks : List (List Nat)} {q : List Int} {k : Nat} {y : List Nat} {z : Int} (h1 : ks[k]? = some y) (h2 : q[k]? = some z) : (ks.zip q)[k]? = some (y, z) := by
  rw [List.getElem?_zip_eq_some]; exact ⟨h1, h2⟩
theorem Ks.lt {w : World} {A : Option Addr} {n c : Nat} {ks : List (List Nat)} (h : Ks w A n c ks) : ∀ y ∈ ks, ∀ x ∈ y, x < 256 := by
  intro y hy
  obtain ⟨k, hk⟩ := List.getElem?_of_mem hy
  have hlt : k < n := by rw [← h.len]; exact (List.getElem?_eq_some_iff.1 hk).1
  obtain ⟨b, off, A', n', c', y', _, _, hy', _, hr, _⟩ := h.get hlt
  rw [hk] at hy'
  injection hy' with e
  subst e
  exact hr.2.2.2.1
theorem branchPay_lt {ks : List (List Nat)} {p : Int} {q : List Int} (hl : ∀ y ∈ ks, ∀ x ∈ y, x < 256) (hk : ∀ y ∈ ks, y.length ≤ 100) : ∀ x ∈ Nd.branchPay ks p q, x < 256 := by
  intro x hx
  unfold Nd.branchPay at hx
  rcases List.mem_cons.1 hx with rfl | hx
  · omega
  rcases List.mem_append.1 hx with hx | hx
  · exact Nm.be_lt _ _ x hx
  rcases List.mem_append.1 hx with hx | hx
  · exact Nm.be_lt _ _ x hx
  · unfold Nd.allK at hx
    obtain ⟨⟨y, z⟩, hc, hx⟩ := List.mem_flatMap.1 hx
    have hy := (List.of_mem_zip hc).1
    unfold Nd.oneK at hx
    rcases List.mem_cons.1 hx with rfl | hx
    · have := hk y hy; simp only; omega
    rcases List.mem_append.1 hx with hx | hx
    · exact hl y hy x hx
    · exact Nm.be_lt _ _ x hx

set_option maxRecDepth 100000 in
set_option maxHeartbeats 1000000 in
theorem branchPay_new (w : World) (g : Nat) (ks : List (List Nat)) (ps : List Int) (h : BranchAt w g ks ps) (hf : Nd.branchLen ks ≤ 1000000000) (hp9 : ps.length ≤ 1000000000) :
    Calls Tryz.prog 170 #[.pointer (some ⟨g, 0, none⟩)] w fun e w' => (∃ A n c, e = .returned (.slice A n c) ∧ Bs w' A n c (payB ks ps) ∧ NewB w w' A) ∧ Below w.heap.size w w' := by
  have C1 := Lib.hid (branchMay_any w g ks ps h hf hp9)
  go_enter Tryz.func170, Tryz.ntmps170
  go_wp2_with fail
  refine C1.out.mono ?_
  rintro e w1 ⟨rfl, b1⟩
  replace h := h.on b1
  clear C1
  by_cases hm : Nd.BranchMay ks ps
  · rw [decide_eq_true hm]
    obtain ⟨p, q, rfl⟩ : ∃ p q, ps = p :: q := by
      cases ps with
      | nil => have := hm.2.2.2; simp at this
      | cons p q => exact ⟨p, q, rfl⟩
    have hpay : payB ks (p :: q) = Nd.branchPay ks p q := by unfold payB; rw [if_pos hm]
    have hm16 := hm.1
    have HM := Lib.hid hm
    have HPY := Lib.hid hpay
    have HL := Lib.hid h
    obtain ⟨hg, A, n, c, A', n', c', hc, hc', hr, hi⟩ := h
    have hn := hr.len
    have hn' := hi.len
    have hq : ks.length = q.length := by have := hm.2.2.2; simp at this; omega
    have HQ := Lib.hid hq
    have hnn : n' = n + 1 := by have := hm.2.2.2; omega
    have hn9 : n ≤ 1016 := by have := kcount_le ks; unfold Nd.branchLen at hm16; omega
    have HR := Lib.hid hr
    have HI := Lib.hid hi
    have HLT := Lib.hid (branchPay_lt (p := p) (q := q) hr.lt (fun y hy => (hm.2.2.1.1 y hy).2))
    have CL := Lib.hid (fun (W : World) (hW : Below w1.heap.size w1 W) => branchLen_any W g ks (p :: q) (HL.out.on hW) hf)
    have hpg := hm.2.1 p (by simp)
    obtain ⟨hp1, hp2⟩ := hpg
    obtain ⟨pn, rfl⟩ := Int.eq_ofNat_of_zero_le (show 0 ≤ p by omega)
    clear hr hi hm hpay
    subst hnn
    go_wp2_with fail
    go_region_held3 (fun w' => w'.cell? ⟨g, 0, none⟩ = some (.slice A n c)) (first | assumption | exact hc | go_keep) (first
      | (go_at_call 168; refine (CL.out _ (by first | exact below_drewN (Below.refl _ _) _ | exact Below.refl _ _ | assumption)).mono ?_; rintro e w2 ⟨rfl, rfl⟩)
      | (go_at_call 171; refine (begin_any _ w1.heap.size (by first | exact Nat.le_refl _ | simp) 2 n (Nd.branchLen ks) (by omega) (by omega) (by omega)).mono ?_; rintro e w3 ⟨v3, rfl, O3, F3⟩; have k3 := (F3.below.cell (p := ⟨g, 0, none⟩) hg).trans hc; have k3' := (F3.below.cell (p := ⟨g, 1, none⟩) hg).trans hc'))
    have B3 : Below w1.heap.size w1 w3 := ((Below.refl w1.heap.size w1).drew).trans F3.below
    obtain ⟨b, off, z, rfl, hbl, hz, _, cz⟩ := HI.out.get (k := 0) (by omega)
    simp only [List.getElem?_cons_zero, Option.some.injEq] at hz
    subst hz
    have cz3 := (B3.cell (p := ⟨b, off, none⟩) hbl).trans (by simpa using cz)
    have hs3 := B3.size
    have C4 := Lib.hid (putNumber_any w3 w1.heap.size v3 _ 3 O3 hs3 (by omega) pn (by omega) 4 (.inr (.inr rfl)))
    clear F3 hc hc' CL HL O3 cz
    go_wp2_with fail
    refine C4.out.mono ?_
    rintro e w4 ⟨v4, rfl, O4, F4⟩
    have B4 := B3.trans F4.below
    have k4 := (F4.below.cell (p := ⟨g, 0, none⟩) hg).trans k3
    have k4' := (F4.below.cell (p := ⟨g, 1, none⟩) hg).trans k3'
    have G1 := Lib.hid (fun (W : World) (hW : Below w1.heap.size w1 W) => (hW.cell (p := ⟨g, 1, none⟩) hg).trans ((B4.cell (p := ⟨g, 1, none⟩) hg).symm.trans k4'))
    clear C4 F4 B3 k3 k3' cz3
    go_wp2
    go_loopw [3, 30] (fun v i wr => ∃ k : Nat, k ≤ n ∧ i = .int .i64 k ∧ wr.ownsRow w1.heap.size 5 1 v (7 + Nd.klens (ks.take k)) (bv (2 :: (Nm.be 2 n ++ (Nm.be 4 pn ++ Nd.allK ((ks.zip q).take k))))) ∧ Below w1.heap.size w1 wr) (fun _ i _ => n - (intOf i).toNat)
    case atStart => exact ⟨0, Nat.zero_le _, rfl, by simpa [Nd.klens, Nd.allK, List.append_assoc] using O4, B4⟩
    case round =>
      clear O4 B4 k4 k4'
      obtain ⟨k, hk, rfl, hown, hbel⟩ := hrel
      by_cases hlt : k < n
      · obtain ⟨b2, off2, A1, n1, c1, y, rfl, hbl2, hy, c0, r1, _⟩ := HR.out.get hlt
        obtain ⟨_, _, z, e5, _, hz, _, cz⟩ := HI.out.get (k := k + 1) (by omega)
        injection e5 with e5
        injection e5 with e5 e6
        subst e5 e6
        rw [List.getElem?_cons_succ] at hz
        have hl1 := r1.1
        have hkl := (HM.out.2.2.1.1 y (List.mem_of_getElem? hy)).2
        have hzp := HM.out.2.1 z (by simp [List.mem_of_getElem? hz])
        obtain ⟨hz1, hz2⟩ := hzp
        obtain ⟨zn, rfl⟩ := Int.eq_ofNat_of_zero_le (show 0 ≤ z by omega)
        have f0 := (hbel.cell (p := ⟨b2, off2 + k, none⟩) hbl2).trans c0
        have hj1 : (k : Int) < (n : Int) := by omega
        have hl := klens_take_le ks (k + 1)
        have HLN := Lib.hid (klens_take hy)
        have HAL := Lib.hid (allK_take (zip_at hy hz))
        have hl2 := HLN.out
        unfold Nd.branchLen at hm16
        have C5 := Lib.hid (putKey_any w1 wr hbel _ _ _ hown (by omega) _ _ _ _ r1 (by omega))
        have HBL := Lib.hid hbel
        clear c0 r1 hy hown hbel hz
        go_wp2_with fail
        refine C5.out.mono ?_
        rintro e w5 ⟨v5, rfl, O5, F5⟩
        have B5 := HBL.out.trans F5.below
        have k5 := G1.out _ B5
        have cz5 := (B5.cell (p := ⟨b, off + (k + 1), none⟩) hbl).trans cz
        have hs5 := B5.size
        have C6 := Lib.hid (putNumber_any w5 w1.heap.size v5 _ _ O5 hs5 (by omega) zn (by omega) 4 (.inr (.inr rfl)))
        clear C5 F5 HBL O5 cz f0
        have hj2 : (k : Int) + 1 < (n : Int) + 1 := by omega
        go_wp2_with fail
        refine C6.out.mono ?_
        rintro e w6 ⟨v6, rfl, O6, F6⟩
        have B6 := B5.trans F6.below
        have O6' : w6.ownsRow w1.heap.size 5 1 v6 (7 + Nd.klens (ks.take (k + 1))) (bv (2 :: (Nm.be 2 n ++ (Nm.be 4 pn ++ Nd.allK ((ks.zip q).take (k + 1)))))) := by
          rw [HLN.out, HAL.out]
          unfold Nd.oneK
          rw [hl1]
          have e7 : 7 + (Nd.klens (ks.take k) + (5 + n1)) = 7 + Nd.klens (ks.take k) + (1 + n1) + 4 := by omega
          rw [e7]
          simpa [List.append_assoc] using O6
        clear O6 F6 C6 B5 k5 cz5
        go_wp2
        go_roundw
        case rel => exact ⟨k + 1, by omega, by go_num, O6', B6⟩
        case measure => simp [intOf]; omega
      · obtain rfl : k = n := by omega
        have hown' := hown
        rw [List.take_of_length_le (by omega), List.take_of_length_le (by rw [List.length_zip]; omega), show 7 + Nd.klens ks = (Nd.branchPay ks (pn : Int) q).length from (Nd.branchPay_len HQ.out).symm, show 2 :: (Nm.be 2 k ++ (Nm.be 4 pn ++ Nd.allK (ks.zip q))) = Nd.branchPay ks (pn : Int) q from by unfold Nd.branchPay; rw [hn]; rfl] at hown'
        have HNB := Lib.hid (NewB.of_own hown')
        obtain ⟨A3, c3, rfl, r3⟩ := Bs.of_own hown' HLT.out
        clear hown hown'
        go_wp2
        go_ret
        exact ⟨⟨_, _, _, rfl, by rw [HPY.out]; exact r3, fun b off e => ⟨Nat.le_trans b1.size (HNB.out b off (by rw [e])).1, (HNB.out b off (by rw [e])).2⟩⟩, onto b1 hbel⟩
  · rw [decide_eq_false hm]
    have hpay : payB ks ps = [] := if_neg hm
    go_wp2
    go_ret
    exact ⟨⟨_, _, _, rfl, by rw [hpay]; exact Bs.nil_ _ _ _ (Nat.zero_le _), fun b off e => by cases e⟩, b1⟩
theorem branchPay_any (w : World) (g : Nat) (ks : List (List Nat)) (ps : List Int) (h : BranchAt w g ks ps) (hf : Nd.branchLen ks ≤ 1000000000) (hp9 : ps.length ≤ 1000000000) :
    Calls Tryz.prog 170 #[.pointer (some ⟨g, 0, none⟩)] w fun e w' => (∃ A n c, e = .returned (.slice A n c) ∧ Bs w' A n c (payB ks ps)) ∧ Below w.heap.size w w' :=
  (branchPay_new w g ks ps h hf hp9).mono fun e w' ⟨⟨A, n, c, h1, h2, _⟩, h3⟩ => ⟨⟨A, n, c, h1, h2⟩, h3⟩
end Go.Proofs.YtmcldkcmialfeaaGreat.Nn
