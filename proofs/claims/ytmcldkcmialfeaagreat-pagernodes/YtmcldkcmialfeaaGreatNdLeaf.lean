/-
  The program's leaves: whether they may be, what their pages say.
-/
import Derived.Test.YtmcldkcmialfeaaGreatNdLen
namespace Go.Proofs.YtmcldkcmialfeaaGreat.Nn
open Go.RowKit
set_option linter.unusedVariables false

/-- The key ahead of the k-th; none, ahead of the first. -/
def prev (ks : List (List Nat)) (k : Nat) : List Nat := if k = 0 then [] else ks.getD (k - 1) []
theorem prev_zero (ks : List (List Nat)) : prev ks 0 = [] := rfl
theorem prev_succ {ks : List (List Nat)} {k : Nat} {a : List Nat} (h : ks[k]? = some a) : prev ks (k + 1) = a := by
  unfold prev
  rw [if_neg (by omega), Nat.add_sub_cancel, List.getD_eq_getElem?_getD, h]; rfl
theorem keys_prev {ks : List (List Nat)} {k : Nat} {b : List Nat} (hb : ks[k]? = some b) : Nd.Keys (ks.take (k + 1)) ↔ Nd.Keys (ks.take k) ∧ Nd.KeyOk b ∧ Nm.lexLess (prev ks k) b = true := by
  cases k with
  | zero =>
    rw [Nd.keys_take_one hb, prev_zero, lex_nil_left]
    constructor
    · intro h; exact ⟨Nd.keys_take_zero ks, h, by have := h.1; simpa using (by omega : 0 < b.length)⟩
    · intro h; exact h.2.1
  | succ k =>
    have hk : k < ks.length := by have := (List.getElem?_eq_some_iff.1 hb).1; omega
    have ha := List.getElem?_eq_getElem hk
    rw [Nd.keys_take_succ ha hb, prev_succ ha]
theorem key_at {cs : List Nd.Cell} {k : Nat} {c : Nd.Cell} (h : cs[k]? = some c) : (cs.map Nd.Cell.key)[k]? = some c.key := by rw [List.getElem?_map, h]; rfl
/-- The first k cells may be, and their keys rise. -/
def Fine (cs : List Nd.Cell) (k : Nat) : Prop := (∀ c ∈ cs.take k, c.Ok) ∧ Nd.Keys ((cs.map Nd.Cell.key).take k)
theorem fine_zero (cs : List Nd.Cell) : Fine cs 0 := ⟨by simp, Nd.keys_take_zero _⟩
theorem fine_succ {cs : List Nd.Cell} {k : Nat} {c : Nd.Cell} (h : cs[k]? = some c) : Fine cs (k + 1) ↔ Fine cs k ∧ (Nd.KeyOk c.key ∧ Nm.lexLess (prev (cs.map Nd.Cell.key) k) c.key = true) ∧ c.Ok := by
  unfold Fine
  rw [keys_prev (key_at h), List.take_add_one, h]
  constructor
  · rintro ⟨h1, h2, h3⟩
    exact ⟨⟨fun x hx => h1 x (by simp [hx]), h2⟩, h3, h1 c (by simp)⟩
  · rintro ⟨⟨h1, h2⟩, h3, h4⟩
    refine ⟨fun x hx => ?_, h2, h3⟩
    rcases List.mem_append.1 hx with h | h
    · exact h1 x h
    · simp at h; subst h; exact h4
theorem fine_of_may {cs : List Nd.Cell} (h : Nd.LeafMay cs) (k : Nat) : Fine cs k := ⟨fun c hc => h.2.1 c (List.mem_of_mem_take hc), Nd.keys_take k h.2.2⟩
theorem may_of_fine {cs : List Nd.Cell} (h : Fine cs cs.length) : Nd.LeafMay cs ↔ Nd.leafLen cs ≤ 1016 := by
  obtain ⟨h1, h2⟩ := h
  rw [List.take_length] at h1
  rw [List.take_of_length_le (by simp)] at h2
  exact ⟨fun h => h.1, fun h => ⟨h, h1, h2⟩⟩

set_option maxRecDepth 100000 in
set_option maxHeartbeats 1000000 in
theorem leafMay_any (w : World) (g : Nat) (cs : List Nd.Cell) (h : LeafAt w g cs) (hf : Nd.leafLen cs ≤ 1000000000) :
    Calls Tryz.prog 178 #[.pointer (some ⟨g, 0, none⟩)] w fun e w' => e = .returned (.bool (decide (Nd.LeafMay cs))) ∧ Below w.heap.size w w' := by
  have HL := Lib.hid h
  obtain ⟨hg, A, n, c, hc, hr⟩ := h
  have hn := hr.len
  have hn9 : n ≤ 1000000000 := by have := count_le cs; unfold Nd.leafLen at hf; omega
  have HR := Lib.hid hr
  clear hr
  go_enter Tryz.func178, Tryz.ntmps178
  go_wp2
  go_loopw [3, 11] (fun v i wr => ∃ k : Nat, k ≤ n ∧ i = .int .i64 k ∧ (∃ A n c, v = .slice A n c ∧ Bs w A n c (prev (cs.map Nd.Cell.key) k)) ∧ Hid (Fine cs k) ∧ Below w.heap.size w wr) (fun _ i _ => n - (intOf i).toNat)
  case atStart => exact ⟨0, Nat.zero_le _, rfl, ⟨none, 0, 0, rfl, Bs.nil_ _ _ _ (Nat.zero_le _)⟩, fine_zero cs, Below.refl _ _⟩
  case round =>
    obtain ⟨k, hk, rfl, ⟨A0, n0, c0', rfl, r0⟩, HF, hbel⟩ := hrel
    by_cases hlt : k < n
    · obtain ⟨b, off, x, y, rfl, hbl, hy, hcr, c0, c1, c2, c3⟩ := HR.out.get hlt
      have HC := Lib.hid hcr
      obtain ⟨⟨A1, n1, k1, e1, r1, _⟩, ⟨A2, n2, k2, e2, r2, _⟩, e3, e4, _, _⟩ := hcr
      have f0 := (hbel.cell (p := ⟨b, off + k * 4, none⟩) hbl).trans c0
      have f1 := (hbel.cell (p := ⟨b, off + k * 4 + 1, none⟩) hbl).trans c1
      have f2 := (hbel.cell (p := ⟨b, off + k * 4 + 2, none⟩) hbl).trans c2
      have f3 := (hbel.cell (p := ⟨b, off + k * 4 + 3, none⟩) hbl).trans c3
      rw [e1] at f0
      rw [e2] at f1
      have hj1 : (k : Int) < (n : Int) := by omega
      have HS := Lib.hid (fine_succ hy)
      have HP := Lib.hid (prev_succ (key_at hy))
      have bA : Below wr.heap.size wr (wr.alloc (.cells #[.slice A1 n1 k1, .slice A2 n2 k2, .int .i64 y.size, .int .i64 y.head] 134)) := (Below.refl _ _).alloc (Nat.le_refl _) _
      have CF := Lib.hid (mayFollow_any _ _ _ _ _ _ _ _ _ ((r0.on hbel).on bA) ((r1.on hbel).on bA))
      have L := mayHold_any (wr.alloc (.cells #[.slice A1 n1 k1, .slice A2 n2 k2, .int .i64 y.size, .int .i64 y.head] 134)) x y ((HC.out.on hbel).on bA)
      rw [show x.v = .agg #[.slice A1 n1 k1, .slice A2 n2 k2, .int .i64 y.size, .int .i64 y.head] from by unfold CV.v; rw [e1, e2, e3, e4]] at L
      have CL := Lib.hid L
      have HRK := Lib.hid r1
      clear c0 c1 c2 c3 r0 r1 r2 hy L
      go_wp2_with fail
      refine CF.out.mono ?_
      rintro e w2 ⟨rfl, rfl⟩
      by_cases h1 : Nd.KeyOk y.key ∧ Nm.lexLess (prev (cs.map Nd.Cell.key) k) y.key = true
      · rw [decide_eq_true h1]
        have B2 := hbel.trans (bA.mono hbel.size)
        go_wp2_with fail
        refine CL.out.mono ?_
        rintro e w2 ⟨rfl, b2⟩
        have B3 := B2.trans (b2.mono (by have := hbel.size; simp; omega))
        have M := four_cells ((b2.block wr.heap.size (by simp)).trans (heap_alloc_new wr (.cells #[.slice A1 n1 k1, .slice A2 n2 k2, .int .i64 y.size, .int .i64 y.head] 134)))
        have m0 := M.1
        clear M b2 hbel bA f0 f1 f2 f3 CL CF HC B2
        by_cases h2 : y.Ok
        · rw [decide_eq_true h2]
          have HF2 : Hid (Fine cs (k + 1)) := HS.out.2 ⟨HF.out, h1, h2⟩
          have HR2 : Hid (Bs w A1 n1 k1 (prev (cs.map Nd.Cell.key) (k + 1))) := by show Bs _ _ _ _ _; rw [HP.out]; exact HRK.out
          clear h1 h2 HF HS HP HRK
          go_wp2
          go_roundw
          case rel => exact ⟨k + 1, by omega, by go_num, ⟨_, _, _, rfl, HR2.out⟩, HF2, B3⟩
          case measure => simp [intOf]; omega
        · rw [decide_eq_false h2]
          have HN : Hid (decide (Nd.LeafMay cs) = false) := decide_eq_false fun hm => h2 (HS.out.1 (fine_of_may hm (k + 1))).2.2
          clear h1 h2 HF HS HP HRK
          go_wp2
          go_ret
          exact ⟨by rw [HN.out]; rfl, B3⟩
      · rw [decide_eq_false h1]
        have HN : Hid (decide (Nd.LeafMay cs) = false) := decide_eq_false fun hm => h1 (HS.out.1 (fine_of_may hm (k + 1))).2.1
        have B2 := hbel.trans (bA.mono hbel.size)
        clear h1 HF HS HP HRK hbel bA f0 f1 f2 f3 CL CF HC
        go_wp2
        go_ret
        exact ⟨by rw [HN.out]; rfl, B2⟩
    · obtain rfl : k = n := by omega
      have CL := Lib.hid (leafLen_any wr g cs (HL.out.on hbel) hf)
      have HE : Hid (decide (Nd.LeafMay cs) = decide ((Nd.leafLen cs : Int) ≤ 1016)) := by
        show _ = _
        have := HF.out
        rw [← hn] at this
        rw [decide_eq_decide, may_of_fine this]; omega
      clear HR HF r0
      go_wp2_with fail
      refine CL.out.mono ?_
      rintro e w2 ⟨rfl, b2⟩
      have B2 := onto hbel b2
      clear CL b2 hbel
      go_wp2
      go_ret
      exact ⟨by rw [HE.out]; rfl, B2⟩

/-- What a leaf's page says; none, of one that may not be. -/
def payL (cs : List Nd.Cell) : List Nat := if Nd.LeafMay cs then Nd.leafPay cs else []
theorem all_take {cs : List Nd.Cell} {k : Nat} {c : Nd.Cell} (h : cs[k]? = some c) : Nd.all (cs.take (k + 1)) = Nd.all (cs.take k) ++ Nd.one c := by
  rw [List.take_add_one, h]; exact Nd.all_snoc _ _
theorem leafPay_lt {w : World} {cs : List Nd.Cell} (hl : ∀ c ∈ cs, c.Lt) (hk : ∀ c ∈ cs, c.key.length ≤ 100) : ∀ x ∈ Nd.leafPay cs, x < 256 := by
  intro x hx
  unfold Nd.leafPay at hx
  rcases List.mem_cons.1 hx with rfl | hx
  · omega
  rcases List.mem_append.1 hx with hx | hx
  · exact Nm.be_lt _ _ x hx
  · unfold Nd.all at hx
    obtain ⟨c, hc, hx⟩ := List.mem_flatMap.1 hx
    exact Nd.one_lt (hl c hc) (by have := hk c hc; omega) x hx
theorem Cs.lt {w : World} {A : Option Addr} {n c : Nat} {cs : List Nd.Cell} (h : Cs w A n c cs) : ∀ c ∈ cs, c.Lt := by
  intro y hy
  obtain ⟨k, hk⟩ := List.getElem?_of_mem hy
  have hlt : k < n := by rw [← h.len]; exact (List.getElem?_eq_some_iff.1 hk).1
  obtain ⟨b, off, x, y', _, _, hy', hr, _⟩ := h.get hlt
  rw [hk] at hy'
  injection hy' with e
  subst e
  obtain ⟨_, _, _, _, r1, _⟩ := hr.k
  obtain ⟨_, _, _, _, r2, _⟩ := hr.i
  exact ⟨r1.2.2.2.1, r2.2.2.2.1⟩

set_option maxRecDepth 100000 in
set_option maxHeartbeats 1000000 in
theorem leafPay_new (w : World) (g : Nat) (cs : List Nd.Cell) (h : LeafAt w g cs) (hf : Nd.leafLen cs ≤ 1000000000) :
    Calls Tryz.prog 179 #[.pointer (some ⟨g, 0, none⟩)] w fun e w' => (∃ A n c, e = .returned (.slice A n c) ∧ Bs w' A n c (payL cs) ∧ NewB w w' A) ∧ Below w.heap.size w w' := by
  have C1 := Lib.hid (leafMay_any w g cs h hf)
  go_enter Tryz.func179, Tryz.ntmps179
  go_wp2_with fail
  refine C1.out.mono ?_
  rintro e w1 ⟨rfl, b1⟩
  replace h := h.on b1
  clear C1
  by_cases hm : Nd.LeafMay cs
  · rw [decide_eq_true hm]
    have hpay : payL cs = Nd.leafPay cs := if_pos hm
    have hm16 := hm.1
    have HM := Lib.hid hm
    have HPY := Lib.hid hpay
    have HL := Lib.hid h
    obtain ⟨hg, A, n, c, hc, hr⟩ := h
    have hn := hr.len
    have hn9 : n ≤ 1016 := by have := count_le cs; unfold Nd.leafLen at hm16; omega
    have HR := Lib.hid hr
    have HLT := Lib.hid (leafPay_lt (w := w1) hr.lt (fun c hc => (hm.2.2.1 _ (List.mem_map_of_mem hc)).2))
    have CL := Lib.hid (fun (W : World) (hW : Below w1.heap.size w1 W) => leafLen_any W g cs (HL.out.on hW) hf)
    clear hr hm hpay
    go_wp2_with fail
    go_region_held3 (fun w' => w'.cell? ⟨g, 0, none⟩ = some (.slice A n c)) (first | assumption | exact hc | go_keep) (first
      | (go_at_call 177; refine (CL.out _ (by first | exact below_drewN (Below.refl _ _) _ | exact Below.refl _ _ | assumption)).mono ?_; rintro e w2 ⟨rfl, b2⟩; have k2 := (b2.cell (p := ⟨g, 0, none⟩) hg).trans hc)
      | (go_at_call 171; refine (begin_any _ w1.heap.size (by first | exact b2.size | exact Nat.le_refl _ | (have := b2.size; simpa using this)) 1 n (Nd.leafLen cs) (by omega) (by omega) (by omega)).mono ?_; rintro e w3 ⟨v3, rfl, O3, F3⟩; have k3 := (F3.below.cell (p := ⟨g, 0, none⟩) hg).trans k2))
    have B3 : Below w1.heap.size w1 w3 := ((Below.refl w1.heap.size w1).drew).trans (b2.trans F3.below)
    clear b2 F3 k2 hc CL HL
    go_wp2
    go_loopw [3, 22] (fun v i wr => ∃ k : Nat, k ≤ n ∧ i = .int .i64 k ∧ wr.ownsRow w1.heap.size 5 1 v (3 + Nd.lens (cs.take k)) (bv (1 :: (Nm.be 2 n ++ Nd.all (cs.take k)))) ∧ Below w1.heap.size w1 wr) (fun _ i _ => n - (intOf i).toNat)
    case atStart => exact ⟨0, Nat.zero_le _, rfl, by simpa [Nd.lens, Nd.all] using O3, B3⟩
    case round =>
      clear O3 B3 k3
      obtain ⟨k, hk, rfl, hown, hbel⟩ := hrel
      by_cases hlt : k < n
      · obtain ⟨b, off, x, y, rfl, hbl, hy, hcr, c0, c1, c2, c3⟩ := HR.out.get hlt
        have HC := Lib.hid hcr
        obtain ⟨⟨A1, n1, k1, e1, r1, _⟩, ⟨A2, n2, k2, e2, r2, _⟩, e3, e4, _, _⟩ := hcr
        have f0 := (hbel.cell (p := ⟨b, off + k * 4, none⟩) hbl).trans c0
        have f1 := (hbel.cell (p := ⟨b, off + k * 4 + 1, none⟩) hbl).trans c1
        have f2 := (hbel.cell (p := ⟨b, off + k * 4 + 2, none⟩) hbl).trans c2
        have f3 := (hbel.cell (p := ⟨b, off + k * 4 + 3, none⟩) hbl).trans c3
        rw [e1] at f0
        rw [e2] at f1
        have hj1 : (k : Int) < (n : Int) := by omega
        have bA : Below wr.heap.size wr (wr.alloc (.cells #[.slice A1 n1 k1, .slice A2 n2 k2, .int .i64 y.size, .int .i64 y.head] 134)) := (Below.refl _ _).alloc (Nat.le_refl _) _
        have bB := hbel.trans (bA.mono hbel.size)
        have hl := lens_take_le cs (k + 1)
        have HLN := Lib.hid (lens_take hy)
        have HAL := Lib.hid (all_take hy)
        have hmem := List.mem_of_getElem? hy
        have hl2 := HLN.out
        unfold Nd.leafLen at hm16
        have L := putCell_any w1 _ bB _ _ _ (own_on hown bA) (by omega) x y HC.out (HM.out.2.1 y hmem) (by have := (HM.out.2.2.1 _ (List.mem_map_of_mem (f := Nd.Cell.key) hmem)).2; omega)
        rw [show x.v = .agg #[.slice A1 n1 k1, .slice A2 n2 k2, .int .i64 y.size, .int .i64 y.head] from by unfold CV.v; rw [e1, e2, e3, e4]] at L
        have CL := Lib.hid L
        have HbB := Lib.hid bB
        clear c0 c1 c2 c3 r1 r2 hy L hown hbel bA bB hmem hl hl2
        go_wp2_with fail
        refine CL.out.mono ?_
        rintro e w2 ⟨v2, rfl, O2, F2⟩
        have B2 := HbB.out.trans F2.below
        have O2' : w2.ownsRow w1.heap.size 5 1 v2 (3 + Nd.lens (cs.take (k + 1))) (bv (1 :: (Nm.be 2 n ++ Nd.all (cs.take (k + 1))))) := by
          rw [HLN.out, HAL.out, ← Nat.add_assoc]
          simpa [List.append_assoc] using O2
        clear O2 F2 CL HbB
        go_wp2
        go_roundw
        case rel => exact ⟨k + 1, by omega, by go_num, O2', B2⟩
        case measure => simp [intOf]; omega
      · obtain rfl : k = n := by omega
        rw [List.take_of_length_le (by omega)] at hown
        have hown' := hown
        rw [show 3 + Nd.lens cs = (Nd.leafPay cs).length from (Nd.leafPay_len cs).symm, show 1 :: (Nm.be 2 k ++ Nd.all cs) = Nd.leafPay cs from by unfold Nd.leafPay; rw [hn]] at hown'
        have HNB := Lib.hid (NewB.of_own hown')
        obtain ⟨A3, c3, rfl, r3⟩ := Bs.of_own hown' HLT.out
        clear hown hown'
        go_wp2
        go_ret
        exact ⟨⟨_, _, _, rfl, by rw [HPY.out]; exact r3, fun b off e => ⟨Nat.le_trans b1.size (HNB.out b off (by rw [e])).1, (HNB.out b off (by rw [e])).2⟩⟩, onto b1 hbel⟩
  · rw [decide_eq_false hm]
    have hpay : payL cs = [] := if_neg hm
    go_wp2
    go_ret
    exact ⟨⟨_, _, _, rfl, by rw [hpay]; exact Bs.nil_ _ _ _ (Nat.zero_le _), fun b off e => by cases e⟩, b1⟩
theorem leafPay_any (w : World) (g : Nat) (cs : List Nd.Cell) (h : LeafAt w g cs) (hf : Nd.leafLen cs ≤ 1000000000) :
    Calls Tryz.prog 179 #[.pointer (some ⟨g, 0, none⟩)] w fun e w' => (∃ A n c, e = .returned (.slice A n c) ∧ Bs w' A n c (payL cs)) ∧ Below w.heap.size w w' :=
  (leafPay_new w g cs h hf).mono fun e w' ⟨⟨A, n, c, h1, h2, _⟩, h3⟩ => ⟨⟨A, n, c, h1, h2⟩, h3⟩
end Go.Proofs.YtmcldkcmialfeaaGreat.Nn
