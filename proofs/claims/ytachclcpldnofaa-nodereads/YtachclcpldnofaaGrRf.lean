/-
  The document's part: so many bytes from a place on.
-/
/-
  What the document reads of a page, plainly: cell by cell, key by key, each at its place. No Go here.
-/
/-
  The document's FromPay: what its ways share; the way of a page that is neither mark's.
-/
/-
  The document's FromPay: a leaf, and a branch, under way in memory.
-/
import Derived.Test.YtachclcpldnofaaNdRfMay
import Derived.Test.YtachclcpldnofaaNdRfLk
import Derived.Test.YtachclcpldnofaaNdFrom
import Derived.Test.YtachclcpldnofaaNdRfPl
namespace Go.Proofs.Ytachclcpldnofaa.Nn
open Go.RowKit
set_option linter.unusedVariables false

/-- An append of bytes onto an empty row of the call's own: the row is there. -/
theorem run_append_new {P : Program} (w : World) (base : Nat) (t ty e : TypeId) (i : TypeInfo) (z : Value) (ht : P.underlying t = some (.slice e)) (hi : P.info? e = some i) (hz : i.zero = some z)
    (hsize : i.size = 1) (hby : i.bytes = 1) (hzs : z.cells.size = 1) (g c0 : Nat) (hown : w.ownsRow base e 1 (.slice (some ⟨g, 0, none⟩) 0 c0) 0 (bv []))
    (A : Option Addr) (m c : Nat) (l : List Nat) (hr : Bs w A m c l) (hsum : m ≤ 1000000) (hbase : base ≤ w.heap.size) :
    ∃ v' w', (Builtin.append_ #[t, t] ty #[.slice (some ⟨g, 0, none⟩) 0 c0, .slice A m c]).run P w = .ok v' w' ∧
      ((∃ g' c', v' = .slice (some ⟨g', 0, none⟩) m c') ∧ w'.ownsRow base e 1 v' m (bv l)) ∧ w.grownBy w' (some g) := by
  by_cases hm : m = 0
  · subst hm
    have hl : l = [] := List.eq_nil_of_length_eq_zero hr.1
    subst hl
    have hadd : (Builtin.append_ #[t, t] ty #[.slice (some ⟨g, 0, none⟩) 0 c0, .slice A 0 c]).run P w = .ok (.slice (some ⟨g, 0, none⟩) 0 c0) w := by
      cases A <;> simp [Builtin.append_, run_underlying ht, sizeOf, typeInfo, hi, Builtin.lenOf, Builtin.firstCells, storeCells, loadCells, loadCellsFrom]
    exact ⟨_, _, hadd, ⟨⟨g, c0, rfl⟩, hown⟩, World.grownBy.refl w _⟩
  · obtain ⟨v', w', h1, h2, h3⟩ := run_append_bs (P := P) w base t ty e i z ht hi hz hsize hby hzs _ 0 _ hown A m c l hr (by omega) hbase
    rw [bv_app, List.nil_append, Nat.zero_add] at h2
    refine ⟨v', w', h1, ⟨?_, h2⟩, h3⟩
    rcases h2.2 with ⟨_, h0⟩ | ⟨g', cap, cur, hv, _⟩
    · exact absurd h0 hm
    · exact ⟨g', cap, hv⟩

set_option maxRecDepth 100000 in
set_option maxHeartbeats 1000000 in
theorem part_yes (w : World) (A : Option Addr) (n c : Nat) (l : List Nat) (h : Bs w A n c l) (hn9 : n ≤ 100000) (hn0 : 0 < n) (p k : Nat) (hk : p + k ≤ n) :
    Calls Try.prog 26 #[.slice A n c, .int .i64 (p : Int), .int .i64 (k : Int)] w fun e w' => (∃ g cap, e = .returned (.slice (some ⟨g, 0, none⟩) k cap) ∧ Bs w' (some ⟨g, 0, none⟩) k cap ((l.drop p).take k) ∧ w.heap.size ≤ g ∧ ∃ cs, w'.heap[g]? = some (.cells cs 5 (0, 0))) ∧ Below w.heap.size w w' := by
  obtain ⟨i0, hi, hz0, hz1, hz2⟩ := info_parts Try.info5
  have hlt := h.2.2.2.1
  obtain ⟨bb, off, rfl, hbl, _⟩ := h.2.2.2.2 hn0
  have hcc := h.2.1
  have hcm := h.2.2.1
  unfold maxLen at hcm
  have hl := h.1
  have BA : Below w.heap.size w (w.alloc (.cells #[] 5)) := (Below.refl _ _).alloc (Nat.le_refl _) _
  have OA : Hid ((w.alloc (.cells #[] 5)).ownsRow w.heap.size 5 1 (.slice (some ⟨w.heap.size, 0, none⟩) 0 0) 0 (bv [])) := World.ownsRow_made (base := w.heap.size) (e := 5) (size := 1) w #[] 0 (Nat.le_refl _) (Nat.zero_le _) rfl
  have hsA := BA.size
  have HBA := Lib.hid BA
  have hw : IntKind.i64.wrap ((p : Int) + (k : Int)) = (p : Int) + (k : Int) := IntWalk.i64_in _ ⟨by omega, by omega⟩
  have j0 : decide ((p : Int) < 0) = false := by simp
  have j1 : (p : Int) + (k : Int) ≤ (n : Int) := by omega
  have j2 : (p : Int) ≤ (p : Int) + (k : Int) := by omega
  have j3 : (p : Int) + (k : Int) ≤ (c : Int) := by omega
  have jg : decide ((p : Int) + (k : Int) > (n : Int)) = false := by simp; omega
  have HL : Hid ((∀ x ∈ (l.drop p).take k, x < 256) ∧ ((l.drop p).take k).length = k) := ⟨fun x hx => hlt x (List.mem_of_mem_drop (List.mem_of_mem_take hx)), by rw [List.length_take, List.length_drop]; omega⟩
  have HS := Lib.hid h
  by_cases hcp : c = p
  · have S := Lib.hid (Bs.nil_ (w.alloc (.cells #[] 5)) (some ⟨bb, off, none⟩) 0 (Nat.zero_le _))
    obtain rfl : k = 0 := by omega
    obtain rfl : n = c := by omega
    subst hcp
    clear h BA hlt
    go_enter Try.func26, Try.ntmps26
    go_wp2_with fail
    go_ret
    exact ⟨⟨_, _, rfl, by rw [List.take_zero]; exact Bs.nil_ _ _ _ (Nat.zero_le _), Nat.le_refl _, _, heap_alloc_new _ _⟩, HBA.out⟩
  · have S : Hid (Bs (w.alloc (.cells #[] 5)) (some ⟨bb, off + p, none⟩) (p + k - p) (c - p) ((l.drop p).take (p + k - p))) := by
      show Bs _ _ _ _ _
      by_cases hpn : p < n
      · exact ((HS.out.below BA (Nat.le_refl _)).cut_far p hpn).first (p + k - p) (by omega)
      · rw [show p + k - p = 0 by omega, List.take_zero]
        exact Bs.nil_ _ _ _ (by unfold maxLen; omega)
    clear h BA hlt
    go_enter Try.func26, Try.ntmps26
    go_wp2_with (at_builtin; refine wpList_append_ran _ rfl _ _ 22 22 rfl (.slice (some ⟨w.heap.size, 0, none⟩) 0 0) (.slice (some ⟨bb, off + p, none⟩) (p + k - p) (c - p)) rfl rfl _ (run_append_new _ w.heap.size 22 _ 5 i0 (.int .u8 0) Try.underlying22 hi hz0 hz1 hz2 rfl _ 0 OA.out _ (p + k - p) (c - p) _ S.out (by omega) hsA) ?_; rintro v5 w5 ⟨⟨⟨g5, c5, rfl⟩, O5⟩, g5'⟩)
    have B5 := below_own HBA.out OA.out g5' hsA (Nat.le_refl _)
    rw [show p + k - p = k by omega] at O5
    have RS : Hid (Bs w5 (some ⟨g5, 0, none⟩) k c5 ((l.drop p).take k) ∧ w.heap.size ≤ g5 ∧ ∃ cs, w5.heap[g5]? = some (.cells cs 5 (0, 0))) := by
      obtain ⟨hl1, hl2⟩ := HL.out
      have O6 := O5
      rw [← hl2] at O6
      have hO := O6
      obtain ⟨A6, c6, e6, r6⟩ := Bs.of_own (l := (l.drop p).take k) (by rw [hl2] at hO; rw [hl2]; exact O5) hl1
      rw [hl2] at e6 r6
      injection e6 with e1 e2 e3
      subst e1 e3
      exact ⟨r6, (O5.lt g5 rfl).1, own_type O5 rfl⟩
    clear O5 g5'
    go_ret
    exact ⟨⟨_, _, rfl, RS.out⟩, B5⟩

set_option maxRecDepth 100000 in
set_option maxHeartbeats 400000 in
theorem part_no (w : World) (A : Option Addr) (n c : Nat) (hn9 : n ≤ 100000) (p k : Nat) (hp : p ≤ 100000) (hk9 : k ≤ 100000) (hk : n < p + k) :
    Calls Try.prog 26 #[.slice A n c, .int .i64 (p : Int), .int .i64 (k : Int)] w fun e w' => e = .returned (.slice none 0 0) ∧ w = w' := by
  have hw : IntKind.i64.wrap ((p : Int) + (k : Int)) = (p : Int) + (k : Int) := IntWalk.i64_in _ ⟨by omega, by omega⟩
  have j0 : decide ((p : Int) < 0) = false := by simp
  have jg : decide ((p : Int) + (k : Int) > (n : Int)) = true := by simp; omega
  go_enter Try.func26, Try.ntmps26
  go_wp2
  go_ret
  exact ⟨rfl, rfl⟩
end Go.Proofs.Ytachclcpldnofaa.Nn
namespace Go.Proofs.Ytachclcpldnofaa.Nn
open Go.RowKit
set_option linter.unusedVariables false

theorem drop_cons {b : List Nat} {p x : Nat} (h : b[p]? = some x) : b.drop p = x :: b.drop (p + 1) := by
  rw [List.drop_eq_getElem_cons (List.getElem?_eq_some_iff.1 h).1, (List.getElem?_eq_some_iff.1 h).2]
theorem two_at {b : List Nat} {q x y : Nat} (hx : b[q]? = some x) (hy : b[q + 1]? = some y) : Nm.fromBe ((b.drop q).take 2) = 256 * x + y := by
  rw [drop_cons hx, drop_cons hy]
  simp [Nm.fromBe]
  omega
theorem mark_of {b : List Nat} {x : Nat} (h : b[0]? = some x) : (Nd.nb 1 b).1 = x := by
  have e := drop_cons h
  rw [List.drop_zero] at e
  rw [e, Nd.nb_one]
theorem rc_end {b : List Nat} (hb : b.length = 1016) {p : Nat} (h : 1016 ≤ p) : Nd.readCell (b.drop p) = none := by
  rw [List.drop_eq_nil_of_le (by omega)]; rfl
theorem rc_short {b : List Nat} (hb : b.length = 1016) {p k : Nat} (hk : b[p]? = some k) (h : 1016 < p + 1 + k + 2) : Nd.readCell (b.drop p) = none := by
  rw [drop_cons hk]
  unfold Nd.readCell
  dsimp only
  rw [if_pos (by rw [List.length_drop]; omega)]
theorem rc_plain {b : List Nat} (hb : b.length = 1016) {p k x y : Nat} (hk : b[p]? = some k) (hx : b[p + 1 + k]? = some x) (hy : b[p + 1 + k + 1]? = some y) (hs : 256 * x + y ≤ 200) :
    Nd.readCell (b.drop p) = if 1016 < p + 1 + k + 2 + (256 * x + y) then none else some (⟨(b.drop (p + 1)).take k, (b.drop (p + 1 + k + 2)).take (256 * x + y), 0, 0⟩, b.drop (p + 1 + k + 2 + (256 * x + y))) := by
  have h2 := (List.getElem?_eq_some_iff.1 hy).1
  rw [drop_cons hk]
  unfold Nd.readCell
  dsimp only
  rw [if_neg (by rw [List.length_drop]; omega), List.drop_drop, two_at hx hy, if_pos hs, List.length_drop, List.drop_drop, List.drop_drop]
  by_cases h : 1016 < p + 1 + k + 2 + (256 * x + y)
  · rw [if_pos h, if_pos (by omega)]
  · rw [if_neg h, if_neg (by omega)]
    simp only [Nat.add_assoc]
theorem rc_chain {b : List Nat} (hb : b.length = 1016) {p k x y : Nat} (hk : b[p]? = some k) (hx : b[p + 1 + k]? = some x) (hy : b[p + 1 + k + 1]? = some y) (hs : ¬ 256 * x + y ≤ 200) :
    Nd.readCell (b.drop p) = if 1016 < p + 1 + k + 8 then none else some (⟨(b.drop (p + 1)).take k, [], ((256 * x + y : Nat) : Int), (Nm.fromBe ((b.drop (p + 1 + k + 2)).take 4) : Int)⟩, b.drop (p + 1 + k + 8)) := by
  have h2 := (List.getElem?_eq_some_iff.1 hy).1
  rw [drop_cons hk]
  unfold Nd.readCell
  dsimp only
  rw [if_neg (by rw [List.length_drop]; omega), List.drop_drop, two_at hx hy, if_neg hs, List.length_drop, List.drop_drop, List.drop_drop]
  by_cases h : 1016 < p + 1 + k + 8
  · rw [if_pos h, if_pos (by omega)]
  · rw [if_neg h, if_neg (by omega)]
    simp only [Nat.add_assoc]
theorem rk_end {b : List Nat} (hb : b.length = 1016) {p : Nat} (h : 1016 ≤ p) : Nd.readK (b.drop p) = none := by
  rw [List.drop_eq_nil_of_le (by omega)]; rfl
theorem rk_short {b : List Nat} (hb : b.length = 1016) {p k : Nat} (hk : b[p]? = some k) (h : 1016 < p + 1 + k + 4) : Nd.readK (b.drop p) = none := by
  rw [drop_cons hk]
  unfold Nd.readK
  dsimp only
  rw [if_pos (by rw [List.length_drop]; omega)]
theorem rk_yes {b : List Nat} (hb : b.length = 1016) {p k : Nat} (hk : b[p]? = some k) (h : p + 1 + k + 4 ≤ 1016) :
    Nd.readK (b.drop p) = some (((b.drop (p + 1)).take k, (Nm.fromBe ((b.drop (p + 1 + k)).take 4) : Int)), b.drop (p + 1 + k + 4)) := by
  rw [drop_cons hk]
  unfold Nd.readK
  dsimp only
  rw [if_neg (by rw [List.length_drop]; omega), List.drop_drop, List.drop_drop]
  simp only [Nat.add_assoc]

/-- Whatever leaf it is, it has n cells, and its first ones are these. -/
def LInv (b : List Nat) (n i : Nat) (acc : List Nd.Cell) : Prop := ∀ cs, IsLeaf b cs → cs.length = n ∧ cs.take i = acc
theorem leaf_count {b : List Nat} {cs : List Nd.Cell} (h : IsLeaf b cs) : cs.length = Nm.fromBe ((b.drop 1).take 2) := by
  have h1 := Nd.count_lt h.1
  rw [h.2]
  unfold Nd.fill
  generalize List.replicate _ _ = Z
  have e : Nd.leafPay cs ++ Z = 1 :: (Nm.be 2 cs.length ++ (Nd.all cs ++ Z)) := by unfold Nd.leafPay; simp [List.append_assoc]
  rw [e, List.drop_succ_cons, List.drop_zero, Mt.take_app (Nm.be_len 2 _), Nm.fromBe_be 2 _ h1]
theorem LInv.start {b : List Nat} : LInv b (Nm.fromBe ((b.drop 1).take 2)) 0 [] := fun cs h => ⟨leaf_count h, rfl⟩
theorem leaf_next {b : List Nat} {cs : List Nd.Cell} {i : Nat} (h : IsLeaf b cs) (hi : i < cs.length) : ∃ y r, cs[i]? = some y ∧ Nd.readCell (b.drop (3 + Nd.lens (cs.take i))) = some (y, r) := by
  have hy := List.getElem?_eq_getElem hi
  refine ⟨_, Nd.all (cs.drop (i + 1)) ++ List.replicate (1016 - Nd.leafLen cs) 0, hy, ?_⟩
  rw [h.2, Nd.leaf_at hy]
  exact Nd.readCell_one (h.1.2.1 _ (List.mem_of_getElem? hy)) _
theorem LInv.no {b : List Nat} {n i : Nat} {acc : List Nd.Cell} (h : LInv b n i acc) (hi : i < n) (hr : Nd.readCell (b.drop (3 + Nd.lens acc)) = none) : ∀ cs, ¬ IsLeaf b cs := by
  intro cs hc
  obtain ⟨h1, h2⟩ := h cs hc
  obtain ⟨y, r, _, hy⟩ := leaf_next (i := i) hc (by omega)
  rw [h2, hr] at hy
  cases hy
theorem LInv.more {b : List Nat} {n i : Nat} {acc : List Nd.Cell} {c : Nd.Cell} {r : List Nat} (h : LInv b n i acc) (hi : i < n) (hr : Nd.readCell (b.drop (3 + Nd.lens acc)) = some (c, r)) : LInv b n (i + 1) (acc ++ [c]) := by
  intro cs hc
  obtain ⟨h1, h2⟩ := h cs hc
  obtain ⟨y, r', hy, he⟩ := leaf_next (i := i) hc (by omega)
  rw [h2, hr] at he
  injection he with he
  injection he with he _
  subst he
  refine ⟨h1, ?_⟩
  rw [List.take_add_one, hy, h2]
  rfl
theorem LInv.all {b : List Nat} {n : Nat} {acc : List Nd.Cell} (h : LInv b n n acc) : ∀ cs, IsLeaf b cs → cs = acc := by
  intro cs hc
  obtain ⟨h1, h2⟩ := h cs hc
  rw [List.take_of_length_le (by omega)] at h2
  exact h2

/-- Whatever branch it is, it has n keys, its first kid is p, and its first keys and kids are these. -/
def BInv (b : List Nat) (n i : Nat) (p : Int) (ka : List (List Nat)) (qa : List Int) : Prop := ∀ ks p' q, IsBranch b ks p' q → ks.length = n ∧ p' = p ∧ ks.take i = ka ∧ q.take i = qa
theorem branch_eq {ks : List (List Nat)} {p : Int} {q : List Int} (Z : List Nat) : Nd.branchPay ks p q ++ Z = 2 :: (Nm.be 2 ks.length ++ (Nm.be 4 p.toNat ++ (Nd.allK (ks.zip q) ++ Z))) := by unfold Nd.branchPay; simp [List.append_assoc]
theorem branch_count {b : List Nat} {ks : List (List Nat)} {p : Int} {q : List Int} (h : IsBranch b ks p q) : ks.length = Nm.fromBe ((b.drop 1).take 2) ∧ p = (Nm.fromBe ((b.drop 3).take 4) : Int) := by
  have h1 := Nd.kcount_lt h.1.1
  have hp := h.1.2.1 p (by simp)
  rw [h.2]
  unfold Nd.fill
  generalize List.replicate _ _ = Z
  rw [branch_eq]
  constructor
  · rw [List.drop_succ_cons, List.drop_zero, Mt.take_app (Nm.be_len 2 _), Nm.fromBe_be 2 _ h1]
  · rw [show (3 : Nat) = 2 + 1 from rfl, List.drop_succ_cons, Nd.drop_at0 (Nm.be_len 2 _), Mt.take_app (Nm.be_len 4 _), Nm.fromBe_be 4 _ (by have := hp.2; rw [Nd.p4]; omega)]
    have := hp.1
    omega
theorem BInv.start {b : List Nat} : BInv b (Nm.fromBe ((b.drop 1).take 2)) 0 (Nm.fromBe ((b.drop 3).take 4) : Int) [] [] := fun ks p' q h => ⟨(branch_count h).1, (branch_count h).2, rfl, rfl⟩
theorem allK_part {l : List (List Nat × Int)} {i : Nat} {c : List Nat × Int} (h : l[i]? = some c) : Nd.allK l = Nd.allK (l.take i) ++ (Nd.oneK c ++ Nd.allK (l.drop (i + 1))) := by
  have e : l = l.take i ++ (c :: l.drop (i + 1)) := by
    conv => lhs; rw [← List.take_append_drop i l]
    rw [List.drop_eq_getElem_cons (List.getElem?_eq_some_iff.1 h).1, (List.getElem?_eq_some_iff.1 h).2]
  conv => lhs; rw [e]
  simp [Nd.allK]
theorem branch_next {b : List Nat} {ks : List (List Nat)} {p : Int} {q : List Int} {i : Nat} (h : IsBranch b ks p q) (hi : i < ks.length) : ∃ k z r, ks[i]? = some k ∧ q[i]? = some z ∧ Nd.readK (b.drop (7 + Nd.klens (ks.take i))) = some ((k, z), r) := by
  have hl : ks.length = q.length := by have := h.1.2.2.2; simp at this; omega
  have hk := List.getElem?_eq_getElem hi
  have hz := List.getElem?_eq_getElem (l := q) (i := i) (by omega)
  have hp := h.1.2.1 _ (List.mem_cons_of_mem p (List.mem_of_getElem? hz))
  refine ⟨_, _, Nd.allK ((ks.zip q).drop (i + 1)) ++ List.replicate (1016 - (Nd.branchPay ks p q).length) 0, hk, hz, ?_⟩
  rw [h.2]
  unfold Nd.fill
  generalize List.replicate (1016 - (Nd.branchPay ks p q).length) 0 = Z
  have e : Nd.branchPay ks p q ++ Z = (2 :: (Nm.be 2 ks.length ++ Nm.be 4 p.toNat)) ++ (Nd.allK ((ks.zip q).take i) ++ (Nd.oneK (ks[i], q[i]) ++ (Nd.allK ((ks.zip q).drop (i + 1)) ++ Z))) := by
    rw [branch_eq, allK_part (zip_at hk hz)]
    simp [List.append_assoc]
  have l2 : (Nd.allK ((ks.zip q).take i)).length = Nd.klens (ks.take i) := by
    rw [List.zip, List.take_zipWith]
    exact Nd.allK_len _ _ (by rw [List.length_take, List.length_take]; omega)
  rw [e, Nd.drop_at (show (2 :: (Nm.be 2 ks.length ++ Nm.be 4 p.toNat)).length = 7 by rw [List.length_cons, List.length_append, Nm.be_len, Nm.be_len]), Nd.drop_at0 l2]
  exact Nd.readK_one hp _
theorem BInv.no {b : List Nat} {n i : Nat} {p : Int} {ka : List (List Nat)} {qa : List Int} (h : BInv b n i p ka qa) (hi : i < n) (hr : Nd.readK (b.drop (7 + Nd.klens ka)) = none) : ∀ ks p q, ¬ IsBranch b ks p q := by
  intro ks p' q hc
  obtain ⟨h1, _, h2, _⟩ := h ks p' q hc
  obtain ⟨y, z, r, _, _, hy⟩ := branch_next (i := i) hc (by omega)
  rw [h2, hr] at hy
  cases hy
theorem BInv.more {b : List Nat} {n i : Nat} {p : Int} {ka : List (List Nat)} {qa : List Int} {c : List Nat × Int} {r : List Nat} (h : BInv b n i p ka qa) (hi : i < n) (hr : Nd.readK (b.drop (7 + Nd.klens ka)) = some (c, r)) : BInv b n (i + 1) p (ka ++ [c.1]) (qa ++ [c.2]) := by
  intro ks p' q hc
  obtain ⟨h1, h0, h2, h3⟩ := h ks p' q hc
  obtain ⟨y, z, r', hy, hz, he⟩ := branch_next (i := i) hc (by omega)
  rw [h2, hr] at he
  injection he with he
  injection he with he _
  subst he
  refine ⟨h1, h0, ?_, ?_⟩
  · rw [List.take_add_one, hy, h2]
    rfl
  · rw [List.take_add_one, hz, h3]
    rfl
theorem BInv.all {b : List Nat} {n : Nat} {p : Int} {ka : List (List Nat)} {qa : List Int} (h : BInv b n n p ka qa) : ∀ ks p' q, IsBranch b ks p' q → ks = ka ∧ p' = p ∧ q = qa := by
  intro ks p' q hc
  obtain ⟨h1, h0, h2, h3⟩ := h ks p' q hc
  have hl : ks.length = q.length := by have := hc.1.2.2.2; simp at this; omega
  rw [List.take_of_length_le (by omega)] at h2 h3
  exact ⟨h2, h0, h3⟩
theorem noNode_leaf {b : List Nat} (h1 : b[0]? = some 1) (h : ∀ cs, ¬ IsLeaf b cs) : NoNode b := ⟨h, fun ks p q h' => by have := (isBranch_is h').1; rw [mark_of h1] at this; omega⟩
theorem noNode_branch {b : List Nat} (h1 : b[0]? = some 2) (h : ∀ ks p q, ¬ IsBranch b ks p q) : NoNode b := ⟨fun cs h' => by have := (isLeaf_is h').1; rw [mark_of h1] at this; omega, h⟩
theorem noNode_mark {b : List Nat} {x : Nat} (hx : b[0]? = some x) (h1 : x ≠ 1) (h2 : x ≠ 2) : NoNode b := noMark (by rw [mark_of hx]; exact h1) (by rw [mark_of hx]; exact h2)
end Go.Proofs.Ytachclcpldnofaa.Nn
namespace Go.Proofs.Ytachclcpldnofaa.Nn
open Go.RowKit
set_option linter.unusedVariables false

/-- The node that says nothing. -/
def nv0 (br : Bool) : Nv := ⟨br, none, 0, 0, none, 0, 0, none, 0, 0⟩
def nob (br : Bool) : Obj := .cells #[.bool br, .slice none 0 0, .slice none 0 0, .slice none 0 0] 33

set_option maxRecDepth 100000 in
set_option maxHeartbeats 1000000 in
theorem refFromPay_short (w : World) (A : Option Addr) (n c : Nat) (b : List Nat) (h : Bs w A n c b) (hn : n ≠ 1016) :
    Calls Try.prog 9 #[.slice A n c] w fun e w' => e = .returned (.tuple #[(nv0 false).val, .bool false]) ∧ Below w.heap.size w w' := by
  have d : ((n : Int) != 1016) = true := by simp; omega
  have Z1 := heap_alloc_new w (.cells #[.bool false, .slice none 0 0, .slice none 0 0, .slice none 0 0] 33)
  have B1 : Below w.heap.size w (w.alloc (.cells #[.bool false, .slice none 0 0, .slice none 0 0, .slice none 0 0] 33)) := (Below.refl _ _).alloc (Nat.le_refl _) _
  obtain ⟨g0, g1, g2, g3⟩ := four_cells Z1
  have fr := fun i => frozen_of_row _ w.heap.size i _ _ Z1
  have HB := Lib.hid B1
  clear h Z1 B1
  go_enter Try.func9, Try.ntmps9
  go_wp2_with fail
  refine bodyPost_ret (v := .tuple #[(nv0 false).val, .bool false]) (by simp [results, Try.results9, go_sem, nv0, Nv.val, g0, g1, g2, g3]) rfl ⟨rfl, HB.out⟩

set_option maxRecDepth 100000 in
set_option maxHeartbeats 1000000 in
theorem refFromPay_mark (w : World) (A : Option Addr) (c : Nat) (b : List Nat) (h : Bs w A 1016 c b) (x : Nat) (hx : b[0]? = some x) (h1 : x ≠ 1) (h2 : x ≠ 2) :
    Calls Try.prog 9 #[.slice A 1016 c] w fun e w' => e = .returned (.tuple #[(nv0 false).val, .bool false]) ∧ Below w.heap.size w w' := by
  have d1 : ((x : Int) != 1) = true := by simp; omega
  have d2 : ((x : Int) != 2) = true := by simp; omega
  obtain ⟨bb, off, rfl, hbl, hc⟩ := h.2.2.2.2 (by omega)
  have cx := hc 0 x hx
  rw [Nat.add_zero] at cx
  have Z1 := heap_alloc_new w (.cells #[.bool false, .slice none 0 0, .slice none 0 0, .slice none 0 0] 33)
  have B1 : Below w.heap.size w (w.alloc (.cells #[.bool false, .slice none 0 0, .slice none 0 0, .slice none 0 0] 33)) := (Below.refl _ _).alloc (Nat.le_refl _) _
  have cx1 := (B1.cell (p := ⟨bb, off, none⟩) hbl).trans cx
  obtain ⟨g0, g1, g2, g3⟩ := four_cells Z1
  have fr := fun i => frozen_of_row _ w.heap.size i _ _ Z1
  have HB := Lib.hid B1
  clear h Z1 B1 hc
  go_enter Try.func9, Try.ntmps9
  go_wp2_with fail
  refine bodyPost_ret (v := .tuple #[(nv0 false).val, .bool false]) (by simp [results, Try.results9, go_sem, nv0, Nv.val, g0, g1, g2, g3]) rfl ⟨rfl, HB.out⟩
end Go.Proofs.Ytachclcpldnofaa.Nn
namespace Go.Proofs.Ytachclcpldnofaa.Nn
open Go.RowKit
set_option linter.unusedVariables false

theorem infoRC : (Try.prog.info? 51).map (fun i => (i.zero, i.size, i.bytes)) = some (some (.agg #[.slice none 0 0, .slice none 0 0, .int .i64 0, .int .i64 0]), 4, 64) := by kernel_rfl
/-- A value whose block, if it has one, is new, and a row of bytes. -/
def InU (w wr : World) (v : Value) : Prop := ∀ k, v.ownBlock = some k → w.heap.size + 2 ≤ k ∧ ∃ cs, wr.heap[k]? = some (.cells cs 5 (0, 0))
theorem InU.off {S : Nat → Prop} {w wr wr' : World} {v : Value} (h : InU w wr v) (ho : Off S wr wr') (hn : ∀ k, v.ownBlock = some k → ¬ S k) : InU w wr' v := fun k hk => by
  obtain ⟨h1, cs, h2⟩ := h k hk
  exact ⟨h1, cs, ho.at_ h2 (hn k hk)⟩
theorem InU.nil_ (w wr : World) : InU w wr (.slice none 0 0) := fun k hk => by cases hk
theorem inU_mk {w wr : World} {g n cap : Nat} (hg : w.heap.size + 2 ≤ g) (ht : ∃ cs, wr.heap[g]? = some (.cells cs 5 (0, 0))) : InU w wr (.slice (some ⟨g, 0, none⟩) n cap) := fun k hk => by
  have hk' : g = k := by simpa [Value.ownBlock] using hk
  subst hk'
  exact ⟨hg, ht⟩
theorem inU_not {w wr : World} {base e s n : Nat} {v vc : Value} {xs : List Value} (h : InU w wr v) (ho : wr.ownsRow base e s vc n xs) (he : e ≠ 5) : ∀ k, v.ownBlock = some k → ¬ vc.ownBlock = some k := fun k hk hc => by
  obtain ⟨_, cs, h2⟩ := h k hk
  obtain ⟨cs', h3⟩ := own_type ho hc
  rw [h2] at h3
  injection h3 with h3
  injection h3 with _ h3
  exact he h3.symm
theorem set_four {wC : World} {g t : Nat} {a0 a1 a2 a3 : Value} (h : wC.heap[g]? = some (.cells #[a0, a1, a2, a3] t (0, 0))) (v : Value) :
    (wC.setCell ⟨g, 1, none⟩ v).heap[g]? = some (.cells #[a0, v, a2, a3] t (0, 0)) ∧ (wC.setCell ⟨g, 2, none⟩ v).heap[g]? = some (.cells #[a0, a1, v, a3] t (0, 0)) ∧ (wC.setCell ⟨g, 3, none⟩ v).heap[g]? = some (.cells #[a0, a1, a2, v] t (0, 0)) := by
  refine ⟨?_, ?_, ?_⟩
  · have := heap_setCell_same wC g 1 _ t v h; simpa using this
  · have := heap_setCell_same wC g 2 _ t v h; simpa using this
  · have := heap_setCell_same wC g 3 _ t v h; simpa using this
theorem pad4_whole {l : List Nat} (h : 4 ≤ l.length) : pad4 l = l.take 4 := by unfold pad4; rw [show 4 - l.length = 0 by omega, List.replicate_zero, List.append_nil]
/-- A leaf under way: the result's block, the node's block, its cells. -/
structure Fl (w wr : World) (vc : Value) (xs : List CV) (acc : List Nd.Cell) : Prop where
  r : wr.heap[w.heap.size]? = some (.cells #[.bool false, .slice none 0 0, .slice none 0 0, .slice none 0 0] 33 (0, 0))
  at_ : wr.heap[w.heap.size + 1]? = some (.cells #[.bool false, vc, .slice none 0 0, .slice none 0 0] 33 (0, 0))
  own : wr.ownsRow (w.heap.size + 2) 51 4 vc acc.length (cc xs)
  al : Along (fun x y => CR wr x y ∧ InU w wr x.k ∧ InU w wr x.i) xs acc
  below : Below w.heap.size w wr
section
variable {w wr wr' wA wC : World} {vc : Value} {xs : List CV} {acc : List Nd.Cell}
theorem Fl.size (h : Fl w wr vc xs acc) : w.heap.size + 2 ≤ wr.heap.size := (Array.getElem?_eq_some_iff.1 h.at_).1
theorem Fl.on (h : Fl w wr vc xs acc) (hb : Below wr.heap.size wr wr') : Fl w wr' vc xs acc := by
  have ho : Off (fun _ => False) wr wr' := Off.of_below hb
  have hs := h.size
  exact ⟨ho.at_ h.r (fun h => h), ho.at_ h.at_ (fun h => h), ho.own h.own (fun _ _ h => h), h.al.mono fun x y g => ⟨g.1.off ho (fun _ _ h => h) (fun _ _ h => h), g.2.1.off ho (fun _ _ h => h), g.2.2.off ho (fun _ _ h => h)⟩, h.below.trans (hb.mono (by omega))⟩
theorem Fl.more {gn cap : Nat} {x : CV} {c : Nd.Cell} (h : Fl w wA vc xs acc) (hx : CR wA x c) (hk : InU w wA x.k) (hi : InU w wA x.i)
    (OC : wC.ownsRow (w.heap.size + 2) 51 4 (.slice (some ⟨gn, 0, none⟩) (acc.length + 1) cap) (acc.length + 1) (cc xs ++ x.vs))
    (gC : (wA.alloc (.cells x.vs.toArray 51)).grownBy wC vc.ownBlock) :
    Fl w (wC.setCell ⟨w.heap.size + 1, 1, none⟩ (.slice (some ⟨gn, 0, none⟩) (acc.length + 1) cap)) (.slice (some ⟨gn, 0, none⟩) (acc.length + 1) cap) (xs ++ [x]) (acc ++ [c]) := by
  have hs := h.size
  have hv : ∀ k, vc.ownBlock = some k → w.heap.size + 2 ≤ k := fun k hk => (h.own.lt k hk).1
  have oAC : Off (fun k => vc.ownBlock = some k) wA wC := ((Off.refl _ wA).alloc _).trans (Off.of_grown gC fun k hk => hk)
  have zC := oAC.at_ h.at_ (fun e => by have := hv _ e; omega)
  have rC := oAC.at_ h.r (fun e => by have := hv _ e; omega)
  obtain ⟨q1, _, _⟩ := set_four zC (.slice (some ⟨gn, 0, none⟩) (acc.length + 1) cap)
  have oCD : Off (fun k => k = w.heap.size + 1) wC (wC.setCell ⟨w.heap.size + 1, 1, none⟩ (.slice (some ⟨gn, 0, none⟩) (acc.length + 1) cap)) := (Off.refl _ _).set _ rfl
  have oAD : Off (fun k => k = w.heap.size + 1 ∨ vc.ownBlock = some k) wA (wC.setCell ⟨w.heap.size + 1, 1, none⟩ (.slice (some ⟨gn, 0, none⟩) (acc.length + 1) cap)) :=
    (oAC.mono fun k hk => .inl (.inr hk)).trans (oCD.mono fun k hk => .inl (.inl hk))
  have far : ∀ v, InU w wA v → ∀ k, v.ownBlock = some k → ¬ (k = w.heap.size + 1 ∨ vc.ownBlock = some k) := fun v hu k hk => by
    rintro (e | e)
    · have := (hu k hk).1; omega
    · exact inU_not hu h.own (by decide) k hk e
  have keep : ∀ (x : CV) (y : Nd.Cell), CR wA x y ∧ InU w wA x.k ∧ InU w wA x.i → CR (wC.setCell ⟨w.heap.size + 1, 1, none⟩ (.slice (some ⟨gn, 0, none⟩) (acc.length + 1) cap)) x y ∧ InU w (wC.setCell ⟨w.heap.size + 1, 1, none⟩ (.slice (some ⟨gn, 0, none⟩) (acc.length + 1) cap)) x.k ∧ InU w (wC.setCell ⟨w.heap.size + 1, 1, none⟩ (.slice (some ⟨gn, 0, none⟩) (acc.length + 1) cap)) x.i :=
    fun x y g => ⟨g.1.off oAD (far _ g.2.1) (far _ g.2.2), g.2.1.off oAD (far _ g.2.1), g.2.2.off oAD (far _ g.2.2)⟩
  refine ⟨oCD.at_ rC (by omega), q1, ?_, (h.al.mono keep).snoc (keep _ _ ⟨hx, hk, hi⟩), h.below.trans (oAD.below (fun k hk => ?_) (by omega))⟩
  · rw [List.length_append, cc_app, cc_one]
    exact oCD.own OC fun k hk e => by
      have := (OC.lt k hk).1
      omega
  · rcases hk with e | e
    · omega
    · have := hv _ e; omega
theorem Fl.done (h : Fl w wr vc xs acc) (ho : Off (fun k => k = w.heap.size) wr wr') : ∃ A c, vc = .slice A acc.length c ∧ Cs wr' A acc.length c acc := by
  have far : ∀ v, InU w wr v → ∀ k, v.ownBlock = some k → ¬ k = w.heap.size := fun v hu k hk e => by have := (hu k hk).1; omega
  have own' := ho.own h.own fun k hk e => by have := (h.own.lt k hk).1; omega
  obtain ⟨A, c, e, hr⟩ := Rw.of_own (by omega) own'
  exact ⟨A, c, e, xs, hr, h.al.mono fun x y g => g.1.off ho (far _ g.2.1) (far _ g.2.2)⟩
theorem Fl.now (h : Fl w wr vc xs acc) : ∃ A c, vc = .slice A acc.length c ∧ Cs wr A acc.length c acc := h.done (Off.refl _ _)
theorem Fl.kept {o : Obj} (h : Fl w wA vc xs acc) (gC : (wA.alloc o).grownBy wC vc.ownBlock) : wC.heap[w.heap.size + 1]? = some (.cells #[.bool false, vc, .slice none 0 0, .slice none 0 0] 33 (0, 0)) :=
  (((Off.refl (fun k => vc.ownBlock = some k) wA).alloc o).trans (Off.of_grown gC fun k hk => hk)).at_ h.at_ (fun e => by have := (h.own.lt _ e).1; omega)
theorem Fl.fail (h : Fl w wr vc xs acc) :
    (set4 wr w.heap.size (.bool false) (.slice none 0 0) (.slice none 0 0) (.slice none 0 0)).heap[w.heap.size]? = some (.cells #[.bool false, .slice none 0 0, .slice none 0 0, .slice none 0 0] 33 (0, 0)) ∧
    Below w.heap.size w (set4 wr w.heap.size (.bool false) (.slice none 0 0) (.slice none 0 0) (.slice none 0 0)) :=
  ⟨set4_at h.r _ _ _ _, h.below.trans ((off_set4 (S := fun k => w.heap.size ≤ k) (Off.refl _ wr) (Nat.le_refl _) _ _ _ _).below (fun k hk => hk) (by have := h.size; omega))⟩
theorem Fl.full (h : Fl w wr vc xs acc) : ∃ A c, vc = .slice A acc.length c ∧
    (set4 wr w.heap.size (.bool false) (.slice A acc.length c) (.slice none 0 0) (.slice none 0 0)).heap[w.heap.size]? = some (.cells #[.bool false, .slice A acc.length c, .slice none 0 0, .slice none 0 0] 33 (0, 0)) ∧
    Cs (set4 wr w.heap.size (.bool false) (.slice A acc.length c) (.slice none 0 0) (.slice none 0 0)) A acc.length c acc ∧
    Below w.heap.size w (set4 wr w.heap.size (.bool false) (.slice A acc.length c) (.slice none 0 0) (.slice none 0 0)) := by
  obtain ⟨A, c, e, _⟩ := h.now
  obtain ⟨A', c', e', h'⟩ := h.done (off_set4 (S := fun k => k = w.heap.size) (Off.refl _ wr) rfl (.bool false) (.slice A acc.length c) (.slice none 0 0) (.slice none 0 0))
  rw [e] at e'
  injection e' with e1 _ e3
  subst e1 e3
  exact ⟨A, c, e, set4_at h.r _ _ _ _, h', h.below.trans ((off_set4 (S := fun k => w.heap.size ≤ k) (Off.refl _ wr) (Nat.le_refl _) _ _ _ _).below (fun k hk => hk) (by have := h.size; omega))⟩
end
/-- A branch under way: the result's block, the node's block, its keys and its kids. -/
structure Fb (w wr : World) (vk vp : Value) (xs : List Value) (ks : List (List Nat)) (ps : List Int) : Prop where
  r : wr.heap[w.heap.size]? = some (.cells #[.bool false, .slice none 0 0, .slice none 0 0, .slice none 0 0] 33 (0, 0))
  at_ : wr.heap[w.heap.size + 1]? = some (.cells #[.bool true, .slice none 0 0, vk, vp] 33 (0, 0))
  kown : wr.ownsRow (w.heap.size + 2) 22 1 vk ks.length xs
  kal : Along (fun x y => SlV wr x y ∧ InU w wr x) xs ks
  pown : wr.ownsRow (w.heap.size + 2) 3 1 vp ps.length (iv ps)
  pin : ∀ z ∈ ps, I64 z
  below : Below w.heap.size w wr
section
variable {w wr wr' wA wC : World} {vk vp : Value} {xs : List Value} {ks : List (List Nat)} {ps : List Int}
theorem Fb.size (h : Fb w wr vk vp xs ks ps) : w.heap.size + 2 ≤ wr.heap.size := (Array.getElem?_eq_some_iff.1 h.at_).1
theorem Fb.on (h : Fb w wr vk vp xs ks ps) (hb : Below wr.heap.size wr wr') : Fb w wr' vk vp xs ks ps := by
  have ho : Off (fun _ => False) wr wr' := Off.of_below hb
  have hs := h.size
  exact ⟨ho.at_ h.r (fun h => h), ho.at_ h.at_ (fun h => h), ho.own h.kown (fun _ _ h => h), h.kal.mono fun x y g => ⟨g.1.off ho (fun _ _ h => h), g.2.off ho (fun _ _ h => h)⟩, ho.own h.pown (fun _ _ h => h), h.pin, h.below.trans (hb.mono (by omega))⟩
theorem Fb.key {gn cap : Nat} {x : Value} {y : List Nat} (h : Fb w wA vk vp xs ks ps) (hx : SlV wA x y) (hu : InU w wA x)
    (OC : wC.ownsRow (w.heap.size + 2) 22 1 (.slice (some ⟨gn, 0, none⟩) (ks.length + 1) cap) (ks.length + 1) (xs ++ [x]))
    (gC : (wA.alloc (.cells #[x] 22)).grownBy wC vk.ownBlock) :
    Fb w (wC.setCell ⟨w.heap.size + 1, 2, none⟩ (.slice (some ⟨gn, 0, none⟩) (ks.length + 1) cap)) (.slice (some ⟨gn, 0, none⟩) (ks.length + 1) cap) vp (xs ++ [x]) (ks ++ [y]) ps := by
  have hs := h.size
  have hv : ∀ k, vk.ownBlock = some k → w.heap.size + 2 ≤ k := fun k hk => (h.kown.lt k hk).1
  have oAC : Off (fun k => vk.ownBlock = some k) wA wC := ((Off.refl _ wA).alloc _).trans (Off.of_grown gC fun k hk => hk)
  have zC := oAC.at_ h.at_ (fun e => by have := hv _ e; omega)
  have rC := oAC.at_ h.r (fun e => by have := hv _ e; omega)
  obtain ⟨_, q1, _⟩ := set_four zC (.slice (some ⟨gn, 0, none⟩) (ks.length + 1) cap)
  have oCD : Off (fun k => k = w.heap.size + 1) wC (wC.setCell ⟨w.heap.size + 1, 2, none⟩ (.slice (some ⟨gn, 0, none⟩) (ks.length + 1) cap)) := (Off.refl _ _).set _ rfl
  have oAD : Off (fun k => k = w.heap.size + 1 ∨ vk.ownBlock = some k) wA (wC.setCell ⟨w.heap.size + 1, 2, none⟩ (.slice (some ⟨gn, 0, none⟩) (ks.length + 1) cap)) :=
    (oAC.mono fun k hk => .inl (.inr hk)).trans (oCD.mono fun k hk => .inl (.inl hk))
  have far : ∀ v, InU w wA v → ∀ k, v.ownBlock = some k → ¬ (k = w.heap.size + 1 ∨ vk.ownBlock = some k) := fun v hu k hk => by
    rintro (e | e)
    · have := (hu k hk).1; omega
    · exact inU_not hu h.kown (by decide) k hk e
  have keep : ∀ (x : Value) (y : List Nat), SlV wA x y ∧ InU w wA x → SlV (wC.setCell ⟨w.heap.size + 1, 2, none⟩ (.slice (some ⟨gn, 0, none⟩) (ks.length + 1) cap)) x y ∧ InU w (wC.setCell ⟨w.heap.size + 1, 2, none⟩ (.slice (some ⟨gn, 0, none⟩) (ks.length + 1) cap)) x :=
    fun x y g => ⟨g.1.off oAD (far _ g.2), g.2.off oAD (far _ g.2)⟩
  refine ⟨oCD.at_ rC (by omega), q1, ?_, (h.kal.mono keep).snoc (keep _ _ ⟨hx, hu⟩), oAD.own h.pown fun k hk => ?_, h.pin, h.below.trans (oAD.below (fun k hk => ?_) (by omega))⟩
  · rw [List.length_append]
    exact oCD.own OC fun k hk e => by
      have := (OC.lt k hk).1
      omega
  · rintro (e | e)
    · have := (h.pown.lt k hk).1; omega
    · rcases own_ne h.pown h.kown (by decide) with h1 | h1
      · rw [h1] at hk; cases hk
      · exact h1 (hk.trans e.symm)
  · rcases hk with e | e
    · omega
    · have := hv _ e; omega
theorem Fb.kid {gn cap : Nat} {z : Int} (h : Fb w wA vk vp xs ks ps) (hz : I64 z)
    (OC : wC.ownsRow (w.heap.size + 2) 3 1 (.slice (some ⟨gn, 0, none⟩) (ps.length + 1) cap) (ps.length + 1) (iv ps ++ [.int .i64 z]))
    (gC : (wA.alloc (.cells #[.int .i64 z] 3)).grownBy wC vp.ownBlock) :
    Fb w (wC.setCell ⟨w.heap.size + 1, 3, none⟩ (.slice (some ⟨gn, 0, none⟩) (ps.length + 1) cap)) vk (.slice (some ⟨gn, 0, none⟩) (ps.length + 1) cap) xs ks (ps ++ [z]) := by
  have hs := h.size
  have hv : ∀ k, vp.ownBlock = some k → w.heap.size + 2 ≤ k := fun k hk => (h.pown.lt k hk).1
  have oAC : Off (fun k => vp.ownBlock = some k) wA wC := ((Off.refl _ wA).alloc _).trans (Off.of_grown gC fun k hk => hk)
  have zC := oAC.at_ h.at_ (fun e => by have := hv _ e; omega)
  have rC := oAC.at_ h.r (fun e => by have := hv _ e; omega)
  obtain ⟨_, _, q1⟩ := set_four zC (.slice (some ⟨gn, 0, none⟩) (ps.length + 1) cap)
  have oCD : Off (fun k => k = w.heap.size + 1) wC (wC.setCell ⟨w.heap.size + 1, 3, none⟩ (.slice (some ⟨gn, 0, none⟩) (ps.length + 1) cap)) := (Off.refl _ _).set _ rfl
  have oAD : Off (fun k => k = w.heap.size + 1 ∨ vp.ownBlock = some k) wA (wC.setCell ⟨w.heap.size + 1, 3, none⟩ (.slice (some ⟨gn, 0, none⟩) (ps.length + 1) cap)) :=
    (oAC.mono fun k hk => .inl (.inr hk)).trans (oCD.mono fun k hk => .inl (.inl hk))
  have far : ∀ v, InU w wA v → ∀ k, v.ownBlock = some k → ¬ (k = w.heap.size + 1 ∨ vp.ownBlock = some k) := fun v hu k hk => by
    rintro (e | e)
    · have := (hu k hk).1; omega
    · exact inU_not hu h.pown (by decide) k hk e
  refine ⟨oCD.at_ rC (by omega), q1, oAD.own h.kown fun k hk => ?_, h.kal.mono fun x y g => ⟨g.1.off oAD (far _ g.2), g.2.off oAD (far _ g.2)⟩, ?_, fun y hy => ?_, h.below.trans (oAD.below (fun k hk => ?_) (by omega))⟩
  · rintro (e | e)
    · have := (h.kown.lt k hk).1; omega
    · rcases own_ne h.kown h.pown (by decide) with h1 | h1
      · rw [h1] at hk; cases hk
      · exact h1 (hk.trans e.symm)
  · rw [List.length_append, show iv (ps ++ [z]) = iv ps ++ [.int .i64 z] from by simp [iv]]
    exact oCD.own OC fun k hk e => by
      have := (OC.lt k hk).1
      omega
  · rcases List.mem_append.1 hy with h1 | h1
    · exact h.pin y h1
    · simp at h1; subst h1; exact hz
  · rcases hk with e | e
    · omega
    · have := hv _ e; omega
theorem Fb.done (h : Fb w wr vk vp xs ks ps) (ho : Off (fun k => k = w.heap.size) wr wr') : ∃ A c A' c', vk = .slice A ks.length c ∧ vp = .slice A' ps.length c' ∧ Ks wr' A ks.length c ks ∧ Is wr' A' ps.length c' ps := by
  have far : ∀ v, InU w wr v → ∀ k, v.ownBlock = some k → ¬ k = w.heap.size := fun v hu k hk e => by have := (hu k hk).1; omega
  have kown' := ho.own h.kown fun k hk e => by have := (h.kown.lt k hk).1; omega
  have pown' := ho.own h.pown fun k hk e => by have := (h.pown.lt k hk).1; omega
  obtain ⟨A, c, e, hr⟩ := Rw.of_own (by omega) kown'
  obtain ⟨A', c', e', hr'⟩ := Rw.of_own (by omega) pown'
  exact ⟨A, c, A', c', e, e', ⟨xs, hr, h.kal.mono fun x y g => g.1.off ho (far _ g.2)⟩, hr', h.pin⟩
theorem Fb.now (h : Fb w wr vk vp xs ks ps) : ∃ A c A' c', vk = .slice A ks.length c ∧ vp = .slice A' ps.length c' ∧ Ks wr A ks.length c ks ∧ Is wr A' ps.length c' ps := h.done (Off.refl _ _)
theorem Fb.keptK {o : Obj} (h : Fb w wA vk vp xs ks ps) (gC : (wA.alloc o).grownBy wC vk.ownBlock) : wC.heap[w.heap.size + 1]? = some (.cells #[.bool true, .slice none 0 0, vk, vp] 33 (0, 0)) :=
  (((Off.refl (fun k => vk.ownBlock = some k) wA).alloc o).trans (Off.of_grown gC fun k hk => hk)).at_ h.at_ (fun e => by have := (h.kown.lt _ e).1; omega)
theorem Fb.keptP {o : Obj} (h : Fb w wA vk vp xs ks ps) (gC : (wA.alloc o).grownBy wC vp.ownBlock) : wC.heap[w.heap.size + 1]? = some (.cells #[.bool true, .slice none 0 0, vk, vp] 33 (0, 0)) :=
  (((Off.refl (fun k => vp.ownBlock = some k) wA).alloc o).trans (Off.of_grown gC fun k hk => hk)).at_ h.at_ (fun e => by have := (h.pown.lt _ e).1; omega)
theorem Fb.fail (h : Fb w wr vk vp xs ks ps) :
    (set4 wr w.heap.size (.bool false) (.slice none 0 0) (.slice none 0 0) (.slice none 0 0)).heap[w.heap.size]? = some (.cells #[.bool false, .slice none 0 0, .slice none 0 0, .slice none 0 0] 33 (0, 0)) ∧
    Below w.heap.size w (set4 wr w.heap.size (.bool false) (.slice none 0 0) (.slice none 0 0) (.slice none 0 0)) :=
  ⟨set4_at h.r _ _ _ _, h.below.trans ((off_set4 (S := fun k => w.heap.size ≤ k) (Off.refl _ wr) (Nat.le_refl _) _ _ _ _).below (fun k hk => hk) (by have := h.size; omega))⟩
theorem Fb.full (h : Fb w wr vk vp xs ks ps) : ∃ A c A' c', vk = .slice A ks.length c ∧ vp = .slice A' ps.length c' ∧
    (set4 wr w.heap.size (.bool true) (.slice none 0 0) (.slice A ks.length c) (.slice A' ps.length c')).heap[w.heap.size]? = some (.cells #[.bool true, .slice none 0 0, .slice A ks.length c, .slice A' ps.length c'] 33 (0, 0)) ∧
    Ks (set4 wr w.heap.size (.bool true) (.slice none 0 0) (.slice A ks.length c) (.slice A' ps.length c')) A ks.length c ks ∧
    Is (set4 wr w.heap.size (.bool true) (.slice none 0 0) (.slice A ks.length c) (.slice A' ps.length c')) A' ps.length c' ps ∧
    Below w.heap.size w (set4 wr w.heap.size (.bool true) (.slice none 0 0) (.slice A ks.length c) (.slice A' ps.length c')) := by
  obtain ⟨A, c, A', c', e, e', _, _⟩ := h.now
  obtain ⟨B, d, B', d', f, f', h1, h2⟩ := h.done (off_set4 (S := fun k => k = w.heap.size) (Off.refl _ wr) rfl (.bool true) (.slice none 0 0) (.slice A ks.length c) (.slice A' ps.length c'))
  rw [e] at f
  rw [e'] at f'
  injection f with e1 _ e3
  injection f' with e4 _ e6
  subst e1 e3 e4 e6
  exact ⟨A, c, A', c', e, e', set4_at h.r _ _ _ _, h1, h2, h.below.trans ((off_set4 (S := fun k => w.heap.size ≤ k) (Off.refl _ wr) (Nat.le_refl _) _ _ _ _).below (fun k hk => hk) (by have := h.size; omega))⟩
end
end Go.Proofs.Ytachclcpldnofaa.Nn
