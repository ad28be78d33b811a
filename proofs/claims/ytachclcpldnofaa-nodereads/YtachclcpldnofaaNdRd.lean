/-
  The program's reader: take, number, key, cell, ended; bytes.Clone.
-/
import Derived.Test.YtachclcpldnofaaNdCell
import Derived.Test.YtachclcpldnofaaNdParse
import Derived.Test.YtachclcpldnofaaNbFour
namespace Go.Proofs.Ytachclcpldnofaa.Nn
open Go.RowKit
set_option linter.unusedVariables false

/-- v lies in the block D, or nowhere. -/
def InD (D : Nat) (v : Value) : Prop := ∀ k, v.ownBlock = some k → k = D
theorem InD.nil_ (D : Nat) : InD D (.slice none 0 0) := fun k h => by cases h
/-- The reader at g has yet to read r, which lies in D. -/
structure Rd (w : World) (g D : Nat) (r : List Nat) : Prop where
  at_ : ∃ v, w.heap[g]? = some (.cells #[v] 68 (0, 0)) ∧ SlV w v r ∧ InD D v
  ne : D ≠ g
  dlt : D < w.heap.size
theorem Rd.off {S : Nat → Prop} {w w' : World} {g D : Nat} {r : List Nat} (h : Rd w g D r) (ho : Off S w w') (hg : ¬ S g) (hD : ¬ S D) : Rd w' g D r := by
  obtain ⟨⟨v, h1, h2, h3⟩, hne, hd⟩ := h
  exact ⟨⟨v, ho.at_ h1 hg, h2.off ho (fun k hk => by rw [h3 k hk]; exact hD), h3⟩, hne, Nat.lt_of_lt_of_le hd ho.size⟩
theorem Rd.on {w w' : World} {g D : Nat} {r : List Nat} (h : Rd w g D r) (hb : Below w.heap.size w w') : Rd w' g D r := h.off (S := fun _ => False) (Off.of_below hb) (fun h => h) (fun h => h)
theorem Rd.lt {w : World} {g D : Nat} {r : List Nat} (h : Rd w g D r) : g < w.heap.size := by obtain ⟨⟨v, h1, _⟩, _, _⟩ := h; exact (Array.getElem?_eq_some_iff.1 h1).1
theorem Rd.bytes {w : World} {g D : Nat} {r : List Nat} (h : Rd w g D r) : ∀ x ∈ r, x < 256 := by obtain ⟨⟨v, _, ⟨_, _, _, _, hb, _⟩, _⟩, _, _⟩ := h; exact hb.2.2.2.1
def At1 (g : Nat) : Nat → Prop := fun k => k = g
theorem set1 {w : World} {g t : Nat} {v0 : Value} (h : w.heap[g]? = some (.cells #[v0] t (0, 0))) (v : Value) : (w.setCell ⟨g, 0, none⟩ v).heap[g]? = some (.cells #[v] t (0, 0)) ∧ Off (At1 g) w (w.setCell ⟨g, 0, none⟩ v) := by
  refine ⟨?_, (Off.refl _ _).set v rfl⟩
  have := heap_setCell_same w g 0 #[v0] t v h
  simpa using this
theorem tk_short {n : Nat} {r : List Nat} (h : r.length < n) : Nd.tk n r = ([], []) := by unfold Nd.tk; rw [if_pos h]
theorem tk_long {n : Nat} {r : List Nat} (h : n ≤ r.length) : Nd.tk n r = (r.take n, r.drop n) := by unfold Nd.tk; rw [if_neg (by omega)]

/-- What is cut off at the front. -/
theorem bs_drop {w : World} {b off n c : Nat} {l : List Nat} (h : Bs w (some ⟨b, off, none⟩) n c l) (k : Nat) (hk : k ≤ n) : Bs w (if c = k then some ⟨b, off, none⟩ else some ⟨b, off + k, none⟩) (n - k) (c - k) (l.drop k) := by
  by_cases hn : k < n
  · have := h.2.1
    rw [if_neg (by omega)]
    exact h.cut_far k hn
  · have hkn : k = n := by omega
    have e : l.drop k = [] := List.drop_eq_nil_of_le (by rw [h.1]; omega)
    rw [e, show n - k = 0 by omega]
    exact Bs.nil_ _ _ _ (by have := h.2.2.1; omega)
theorem bs_front {w : World} {A : Option Addr} {n c : Nat} {l : List Nat} (h : Bs w A n c l) (k : Nat) (hk : k ≤ n) : Bs w A k k (l.take k) := by
  obtain ⟨h1, h2, h3, h4, h5⟩ := h.first k hk
  exact ⟨h1, Nat.le_refl _, by omega, h4, h5⟩

set_option maxRecDepth 100000 in
set_option maxHeartbeats 1000000 in
theorem take_any (w : World) (g D : Nat) (r : List Nat) (h : Rd w g D r) (m : Nat) (hm : m ≤ 100000) :
    Calls Try.prog 31 #[.pointer (some ⟨g, 0, none⟩), .int .i64 (m : Int)] w fun e w' => ∃ v, e = .returned v ∧ SlV w' v (Nd.tk m r).1 ∧ InD D v ∧ Rd w' g D (Nd.tk m r).2 ∧ Off (At1 g) w w' := by
  obtain ⟨⟨v0, hg, ⟨A, n, c, rfl, hb, hc⟩, hin⟩, hne, hdl⟩ := h
  have hn := hb.1
  have hnc := hb.2.1
  have c0 := cell_of_row w g 0 _ _ (0, 0) hg
  have fz := frozen_of_row w g 0 _ _ hg
  simp at c0
  have S1 := Lib.hid (fun v => set1 hg v)
  have HNE := Lib.hid hne
  have HIN := Lib.hid hin
  have HB := Lib.hid hb
  clear hb hg hne hin
  by_cases hlt : n < m
  · rw [tk_short (by omega)]
    have d : decide ((m : Int) > (n : Int)) = true := by simp; omega
    go_enter Try.func31, Try.ntmps31
    go_wp2
    go_ret
    obtain ⟨q1, q2⟩ := S1.out (.slice none 0 0)
    exact ⟨_, rfl, SlV.nil_ _, InD.nil_ _, ⟨⟨_, q1, SlV.nil_ _, InD.nil_ _⟩, HNE.out, Nat.lt_of_lt_of_le hdl q2.size⟩, q2⟩
  · rw [tk_long (by omega)]
    have d : decide ((m : Int) > (n : Int)) = false := by simp; omega
    have hmn : (m : Int) ≤ (n : Int) := by omega
    have hmc : (m : Int) ≤ (c : Int) := by omega
    have hncz : (n : Int) ≤ (c : Int) := by omega
    match A with
    | none =>
      have hn0 : n = 0 := by
        rcases Nat.eq_zero_or_pos n with h | h
        · exact h
        · obtain ⟨_, _, e, _⟩ := HB.out.2.2.2.2 h; cases e
      obtain rfl : m = 0 := by omega
      subst hn0
      go_enter Try.func31, Try.ntmps31
      go_wp2
      go_ret
      have hr0 : r = [] := List.eq_nil_of_length_eq_zero hn
      subst hr0
      obtain ⟨q1, q2⟩ := S1.out (.slice none 0 c)
      exact ⟨_, rfl, SlV.nil_ _, InD.nil_ _, ⟨⟨_, q1, ⟨none, 0, c, rfl, Bs.nil_ _ _ _ HB.out.2.2.1, hc⟩, fun k h => by cases h⟩, HNE.out, Nat.lt_of_lt_of_le hdl q2.size⟩, q2⟩
    | some a =>
      rcases Nat.eq_zero_or_pos n with hn0 | hn0
      · obtain rfl : m = 0 := by omega
        subst hn0
        go_enter Try.func31, Try.ntmps31
        go_wp2
        go_ret
        have hr0 : r = [] := List.eq_nil_of_length_eq_zero hn
        subst hr0
        obtain ⟨q1, q2⟩ := S1.out (.slice (some a) 0 c)
        refine ⟨_, rfl, ⟨some a, 0, 0, rfl, Bs.nil_ _ _ _ (Nat.zero_le _), by omega⟩, fun k h => HIN.out k h, ⟨⟨_, q1, ⟨some a, 0, c, rfl, Bs.nil_ _ _ _ HB.out.2.2.1, hc⟩, fun k h => HIN.out k h⟩, HNE.out, Nat.lt_of_lt_of_le hdl q2.size⟩, q2⟩
      · obtain ⟨b, off, e, _, _⟩ := HB.out.2.2.2.2 hn0
        injection e with e
        subst e
        have P1 := Lib.hid (bs_front HB.out m (by omega))
        have P2 := Lib.hid (bs_drop HB.out m (by omega))
        by_cases hcm : c = m
        · rw [if_pos hcm, show c - m = 0 by omega] at P2
          go_enter Try.func31, Try.ntmps31
          go_wp2
          go_ret
          obtain ⟨q1, q2⟩ := S1.out (.slice (some ⟨b, off, none⟩) (n - m) 0)
          have hD : ∀ a : Addr, some (⟨b, off, none⟩ : Addr) = some a → ¬ At1 g a.block := fun a e => by
            injection e with e
            subst e
            intro e
            exact HNE.out ((HIN.out b rfl).symm.trans e)
          exact ⟨_, rfl, ⟨_, _, _, rfl, bs_off P1.out q2 hD, by omega⟩, fun k h => HIN.out k h, ⟨⟨_, q1, ⟨_, _, _, rfl, bs_off P2.out q2 hD, by omega⟩, fun k h => HIN.out k h⟩, HNE.out, Nat.lt_of_lt_of_le hdl q2.size⟩, q2⟩
        · rw [if_neg hcm] at P2
          go_enter Try.func31, Try.ntmps31
          go_wp2
          go_ret
          obtain ⟨q1, q2⟩ := S1.out (.slice (some ⟨b, off + m, none⟩) (n - m) (c - m))
          have hD : ∀ (o : Nat) (a : Addr), some (⟨b, o, none⟩ : Addr) = some a → ¬ At1 g a.block := fun o a e => by
            injection e with e
            subst e
            intro e
            exact HNE.out ((HIN.out b rfl).symm.trans e)
          exact ⟨_, rfl, ⟨_, _, _, rfl, bs_off P1.out q2 (hD _), by omega⟩, fun k h => HIN.out k h, ⟨⟨_, q1, ⟨_, _, _, rfl, bs_off P2.out q2 (hD _), by omega⟩, fun k h => HIN.out k h⟩, HNE.out, Nat.lt_of_lt_of_le hdl q2.size⟩, q2⟩

theorem fromBe_snoc0 (l : List Nat) (j : Nat) : Nm.fromBe (l ++ List.replicate j 0) = Nm.fromBe l * 256 ^ j := by
  induction j with
  | zero => simp
  | succ j ih => rw [List.replicate_succ', ← List.append_assoc, Nm.fromBe_snoc, ih, Nat.pow_succ, Nat.mul_assoc]; rfl
theorem nb_get {k : Nat} {r : List Nat} (hk : k = 1 ∨ k = 2 ∨ k = 4) : Nm.fromBe (pad4 (Nd.tk k r).1) / 2 ^ (8 * (4 - k)) = (Nd.nb k r).1 := by
  have hp : (2 : Nat) ^ (8 * (4 - k)) = 256 ^ (4 - k) := by rw [Nat.pow_mul]
  unfold Nd.nb
  by_cases h : r.length < k
  · rw [tk_short h]
    have : Nm.fromBe (pad4 []) = 0 := by decide
    rw [this]; simp [Nm.fromBe]
  · rw [tk_long (by omega)]
    unfold pad4
    have hl : (r.take k).length = k := by rw [List.length_take]; omega
    rw [List.take_of_length_le (by rw [hl]; omega), hl, fromBe_snoc0, hp, Nat.mul_div_cancel _ (Nat.pow_pos (by omega))]

set_option maxRecDepth 100000 in
set_option maxHeartbeats 1000000 in
theorem number_any (w : World) (g D : Nat) (r : List Nat) (h : Rd w g D r) (k : Nat) (hk : k = 1 ∨ k = 2 ∨ k = 4) :
    Calls Try.prog 30 #[.pointer (some ⟨g, 0, none⟩), .int .i64 (k : Int)] w fun e w' => e = .returned (.int .i64 ((Nd.nb k r).1 : Int)) ∧ Rd w' g D (Nd.nb k r).2 ∧ Off (At1 g) w w' := by
  have C1 := Lib.hid (take_any w g D r h k (by omega))
  have hlt0 := (Nd.nb_lt (k := k) h.bytes).1
  have hlt : (Nd.nb k r).1 < 4294967296 := Nat.lt_of_lt_of_le hlt0 (by rw [← Nd.p4]; exact Nat.pow_le_pow_right (by omega) (by omega))
  have HG := Lib.hid (nb_get (r := r) hk)
  have e2 : (Nd.nb k r).2 = (Nd.tk k r).2 := rfl
  rw [e2]
  clear hlt0 e2 h
  go_enter Try.func30, Try.ntmps30
  go_wp2_with fail
  refine C1.out.mono ?_
  rintro e w1 ⟨v, rfl, ⟨A, n, c, rfl, hb, _⟩, hin, hrd, hof⟩
  have C2 := Lib.hid (get32_any w1 A n c _ hb)
  have HRD := Lib.hid hrd
  have HOF := Lib.hid hof
  have hlt4 := fromBe4_lt _ hb.2.2.2.1
  generalize Nm.fromBe (pad4 (Nd.tk k r).1) = z at *
  clear hb hin hrd hof C1
  go_wp2_with fail
  refine C2.out.mono ?_
  rintro e w2 ⟨rfl, b2⟩
  have RS := Lib.hid (And.intro (HRD.out.on b2) (HOF.out.trans (Off.of_below (S := At1 g) b2)))
  clear C2 b2 HRD HOF
  rcases hk with rfl | rfl | rfl
  · have h : z / 16777216 = _ := HG.out
    have h2 : (z : Int) / 16777216 = (((Nd.nb 1 r).1 : Nat) : Int) := by rw [← h]; omega
    have H2 := Lib.hid h2
    clear h h2 HG
    go_wp2
    go_ret
    exact ⟨by rw [← H2.out]; rfl, RS.out⟩
  · have h : z / 65536 = _ := HG.out
    have h2 : (z : Int) / 65536 = (((Nd.nb 2 r).1 : Nat) : Int) := by rw [← h]; omega
    have H2 := Lib.hid h2
    clear h h2 HG
    go_wp2
    go_ret
    exact ⟨by rw [← H2.out]; rfl, RS.out⟩
  · have h : z / 1 = _ := HG.out
    have h2 : (z : Int) = (((Nd.nb 4 r).1 : Nat) : Int) := by rw [← h]; omega
    have H2 := Lib.hid h2
    clear h h2 HG
    go_wp2
    go_ret
    exact ⟨by rw [← H2.out]; simp, RS.out⟩

set_option maxRecDepth 100000 in
theorem ended_any (w : World) (g D : Nat) (r : List Nat) (h : Rd w g D r) :
    Calls Try.prog 52 #[.pointer (some ⟨g, 0, none⟩)] w fun e w' => e = .returned (.bool (decide (r.length = 0))) ∧ w = w' := by
  obtain ⟨⟨v0, hg, ⟨A, n, c, rfl, hb, hc⟩, hin⟩, hne, _⟩ := h
  have c0 := cell_of_row w g 0 _ _ (0, 0) hg
  simp at c0
  have e : decide (r.length = 0) = ((n : Int) == 0) := by rw [hb.1, Bool.eq_iff_iff]; simp
  rw [e]
  clear hg hb hin hne e
  go_enter Try.func52, Try.ntmps52
  go_wp2
  go_ret
  exact ⟨rfl, rfl⟩

set_option maxRecDepth 100000 in
set_option maxHeartbeats 400000 in
theorem rkey_any (w : World) (g D : Nat) (r : List Nat) (h : Rd w g D r) :
    Calls Try.prog 54 #[.pointer (some ⟨g, 0, none⟩)] w fun e w' => ∃ v, e = .returned v ∧ SlV w' v (Nd.pkey r).1 ∧ InD D v ∧ Rd w' g D (Nd.pkey r).2 ∧ Off (At1 g) w w' := by
  have C1 := Lib.hid (number_any w g D r h 1 (.inl rfl))
  have hlt := (Nd.nb_lt (k := 1) h.bytes).1
  clear h
  go_enter Try.func54, Try.ntmps54
  go_wp2_with fail
  refine C1.out.mono ?_
  rintro e w1 ⟨rfl, hrd, hof⟩
  have C2 := Lib.hid (take_any w1 g D _ hrd (Nd.nb 1 r).1 (by rw [Nat.pow_one] at hlt; omega))
  have HOF := Lib.hid hof
  clear hrd hof C1
  go_wp2_with fail
  refine C2.out.mono ?_
  rintro e w2 ⟨v, rfl, hs, hin, hrd, hof⟩
  have RS := Lib.hid (And.intro hs (And.intro hin (And.intro hrd (HOF.out.trans hof))))
  clear hs hin hrd hof C2 HOF
  go_wp2
  go_ret
  exact ⟨_, rfl, RS.out⟩
end Go.Proofs.Ytachclcpldnofaa.Nn
