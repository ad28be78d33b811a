/-
  A row of bytes of the call's own, from some place in its block on: appended to.
-/
import Derived.Test.YtbfofhgnamheeaaPoPay
import Derived.Test.YtbfofhgnamheeaaMtApp
import Derived.ArgAppend
namespace Go.Proofs.Ytbfofhgnamheeaa.Pq
open Go.RowKit
set_option linter.unusedVariables false

/-- The slice v, at ⟨g, o⟩ in a block of the call's own, reads as xs. -/
structure At (w : World) (base g o cap : Nat) (xs : List Nat) : Prop where
  blk : ∃ cs, w.heap[g]? = some (.cells cs 5 (0, 0)) ∧ cs.size = o + cap ∧ (cs.toList.drop o).take xs.length = bv xs
  base : base ≤ g
  len : xs.length ≤ cap
  cap : cap ≤ maxLen
  lt : ∀ x ∈ xs, x < 256
def atV (g o n cap : Nat) : Value := .slice (some ⟨g, o, none⟩) n cap
section
variable {w w1 : World} {base g o cap : Nat} {xs : List Nat}
theorem At.g_lt (h : At w base g o cap xs) : g < w.heap.size := by obtain ⟨cs, hc, _⟩ := h.blk; exact (Array.getElem?_eq_some_iff.1 hc).1
theorem At.bs (h : At w base g o cap xs) : Bs w (some ⟨g, o, none⟩) xs.length cap xs := by
  obtain ⟨cs, hc, hs, ht⟩ := h.blk
  refine ⟨rfl, h.len, h.cap, h.lt, fun _ => ⟨g, o, rfl, h.g_lt, fun j x hx => ?_⟩⟩
  rw [cell_of_row w g (o + j) _ _ (0, 0) hc]
  have hj : j < xs.length := (List.getElem?_eq_some_iff.1 hx).1
  have e : (bv xs)[j]? = some (.int .u8 (x : Int)) := by unfold bv; rw [List.getElem?_map, hx]; rfl
  rw [← ht, List.getElem?_take, if_pos hj, List.getElem?_drop] at e
  rw [← Array.getElem?_toList]; exact e
theorem At.at_ (h : At w base g o cap xs) (hb : w1.heap[g]? = w.heap[g]?) : At w1 base g o cap xs := by
  obtain ⟨cs, hc, r⟩ := h.blk
  exact ⟨⟨cs, hb.trans hc, r⟩, h.base, h.len, h.cap, h.lt⟩
theorem At.on (h : At w base g o cap xs) (hb : Below w.heap.size w w1) : At w1 base g o cap xs := h.at_ (hb.block g h.g_lt)
theorem At.low {b' : Nat} (h : At w base g o cap xs) (hb : b' ≤ base) : At w b' g o cap xs := ⟨h.blk, Nat.le_trans hb h.base, h.len, h.cap, h.lt⟩
end
/-- A row of the call's own, from k on. -/
theorem At.of_own {w : World} {base n : Nat} {v : Value} {l : List Nat} (h : w.ownsRow base 5 1 v n (bv l)) (hn : l.length = n) (hp : 0 < n) (hl : ∀ x ∈ l, x < 256) :
    ∃ g cap, v = .slice (some ⟨g, 0, none⟩) n cap ∧ ∀ k, k ≤ n → At w base g k (cap - k) (l.drop k) := by
  rcases h.2 with ⟨_, h0⟩ | ⟨g, cap, cur, hv, hb, hg, h1, h2, hs, ht⟩
  · omega
  · refine ⟨g, cap, hv, fun k hk => ⟨⟨cur, hg, by omega, ?_⟩, hb, by rw [List.length_drop]; omega, by omega, fun x hx => hl x (List.mem_of_mem_drop hx)⟩⟩
    rw [Nat.mul_one] at ht
    rw [List.length_drop, hn]
    have e : bv (l.drop k) = (bv l).drop k := by unfold bv; rw [List.map_drop]
    rw [e, ← ht, List.drop_take]
theorem take_set_snoc {l : List Value} {o : Nat} {v : Value} (h : o < l.length) : (l.set o v).take (o + 1) = l.take o ++ [v] := by
  rw [List.take_add_one, List.getElem?_set_self h, List.take_set_of_le (Nat.le_refl _)]; rfl
theorem setCells_row {g : Nat} {t : TypeId} : ∀ (vs : List Value) (o : Nat) (w : World) (cs : Array Value), w.heap[g]? = some (.cells cs t (0, 0)) → o + vs.length ≤ cs.size →
    ∃ cs', (w.setCells g o vs).heap[g]? = some (.cells cs' t (0, 0)) ∧ cs'.size = cs.size ∧ cs'.toList = cs.toList.take o ++ vs ++ cs.toList.drop (o + vs.length)
  | [], o, w, cs, h, hl => ⟨cs, h, rfl, by simp⟩
  | v :: vs, o, w, cs, h, hl => by
    have h1 := heap_setCell_same w g o cs t v h
    have ho : o < cs.toList.length := by simp at hl ⊢; omega
    obtain ⟨cs', a, b, c⟩ := setCells_row vs (o + 1) (w.setCell ⟨g, o, none⟩ v) _ h1 (by simp at hl ⊢; omega)
    refine ⟨cs', a, by rw [b]; simp, ?_⟩
    rw [c, Array.toList_setIfInBounds, take_set_snoc ho, List.drop_set_of_lt (by omega)]
    simp [Nat.add_assoc, Nat.add_comm 1]
theorem setCells_grown (g : Nat) : ∀ (vs : List Value) (o : Nat) (w : World), w.grownBy (w.setCells g o vs) (some g)
  | [], o, w => ⟨rfl, rfl, rfl, Nat.le_refl _, fun _ _ _ => rfl⟩
  | v :: vs, o, w => by
    have a : w.grownBy (w.setCell ⟨g, o, none⟩ v) (some g) := ⟨rfl, rfl, rfl, by simp [World.setCell], fun i _ hi => heap_setCell_other w _ i v (fun e => hi (by rw [e]))⟩
    have b := setCells_grown g vs (o + 1) (w.setCell ⟨g, o, none⟩ v)
    exact ⟨b.os.trans a.os, b.tape.trans a.tape, b.output.trans a.output, Nat.le_trans a.size b.size, fun i hi hn => (b.block i (Nat.lt_of_lt_of_le hi a.size) hn).trans (a.block i hi hn)⟩
set_option maxRecDepth 10000 in
/-- Bytes are appended. -/
theorem run_append_at (w : World) (base : Nat) (ty : TypeId) (g o cap : Nat) (xs : List Nat) (h : At w base g o cap xs) (b' off' m c : Nat) (l : List Nat) (hr : Bs w (some ⟨b', off', none⟩) m c l) (hsum : xs.length + m ≤ 100000) (hbase : base ≤ w.heap.size) :
    ∃ g' o' cap' w', (Builtin.append_ #[48, 48] ty #[.slice (some ⟨g, o, none⟩) xs.length cap, .slice (some ⟨b', off', none⟩) m c]).run Try.prog w = .ok (.slice (some ⟨g', o', none⟩) (xs.length + m) cap') w' ∧ At w' base g' o' cap' (xs ++ l) ∧ w.grownBy w' (some g) := by
  obtain ⟨i, hi, hz, hs1, hby⟩ := info_parts Try.info5
  have hml := hr.1
  have hll : (bv l).length = m * i.size := by rw [bv_len, hs1, Nat.mul_one]; exact hml
  by_cases hroom : xs.length + m ≤ cap
  · obtain ⟨cs, hc, hcs, ht⟩ := h.blk
    have hcell : ∀ j, j < (bv l).length → (w.cell? ⟨g, o + xs.length * i.size + j, none⟩).isSome = true := fun j hj => by
      rw [bv_len] at hj
      have hjs : o + xs.length * i.size + j < cs.size := by rw [hs1]; omega
      rw [cell_of_row w g _ _ _ (0, 0) hc, Array.getElem?_eq_getElem hjs]; rfl
    have hfr : ∀ j, j < (bv l).length → w.frozen? ⟨g, o + xs.length * i.size + j, none⟩ = false := fun j _ => frozen_of_row w g _ _ _ hc
    have hrun := run_append_room_cells (P := Try.prog) w 48 ty 5 i Try.underlying48 hi g o xs.length cap ⟨b', off', none⟩ m c (bv l) hll (bs_news hr) (bv_one l) hroom hcell hfr
    obtain ⟨cs', k1, k2, k3⟩ := setCells_row (bv l) (o + xs.length * i.size) w cs hc (by rw [bv_len, hs1]; omega)
    refine ⟨g, o, cap, _, hrun, ⟨⟨cs', k1, by rw [k2, hcs], ?_⟩, h.base, by rw [List.length_append, hml]; exact hroom, h.cap, ?_⟩, setCells_grown g _ _ _⟩
    · have e1 : bv (xs ++ l) = bv xs ++ bv l := by simp [bv]
      rw [k3, hs1, Nat.mul_one, e1, ← ht]
      have hlen : cs.toList.length = o + cap := by simpa using hcs
      have e2 : cs.toList.take (o + xs.length) = cs.toList.take o ++ (cs.toList.drop o).take xs.length := by rw [List.take_add]
      rw [e2, List.append_assoc, List.append_assoc, List.drop_append, List.drop_eq_nil_of_le (by rw [List.length_take]; omega), List.nil_append]
      rw [List.length_take, show o - min o cs.toList.length = 0 by omega, List.drop_zero]
      rw [show (xs ++ l).length = ((cs.toList.drop o).take xs.length ++ bv l).length from by rw [List.length_append, List.length_append, List.length_take, List.length_drop, bv_len]; omega]
      rw [← List.append_assoc]
      exact List.take_left
    · intro x hx
      rcases List.mem_append.1 hx with h1 | h1
      · exact h.lt x h1
      · exact hr.2.2.2.1 x h1
  · have hl0 : (bv xs).length = xs.length * i.size := by rw [bv_len, hs1, Nat.mul_one]
    have hrun := run_append_grow (P := Try.prog) w 48 ty 5 i _ Try.underlying48 hi hz ⟨g, o, none⟩ xs.length cap (bv xs) hl0 (bs_news h.bs) ⟨b', off', none⟩ m c (bv l) hll (bs_news hr) (by omega) (by omega) (growslice_fits (by omega) (by rw [hby]; omega))
    have hge := grownCap_ge w (xs.length + m) cap 5
    have hcm : grownCap w (xs.length + m) cap 5 ≤ maxLen := grownCap_le_maxLen w (xs.length + m) cap 5 (by unfold maxLen; omega)
    refine ⟨w.heap.size, 0, _, _, hrun, ⟨⟨_, heap_alloc_new w.drew _, ?_, ?_⟩, hbase, by rw [List.length_append, hml]; exact hge, hcm, ?_⟩, ⟨rfl, rfl, rfl, by simp, fun j hj _ => heap_alloc_old w.drew _ hj⟩⟩
    · simp only [Array.size_append, List.size_toArray, size_zeroCells, hl0, hll, hs1]
      simp [Value.cells]; omega
    · have e1 : bv (xs ++ l) = bv xs ++ bv l := by simp [bv]
      rw [e1, List.drop_zero]
      simp only [Array.toList_append]
      rw [show (xs ++ l).length = (bv xs ++ bv l).length from by rw [List.length_append, List.length_append, bv_len, bv_len]]
      exact List.take_left
    · intro x hx
      rcases List.mem_append.1 hx with h1 | h1
      · exact h.lt x h1
      · exact hr.2.2.2.1 x h1

end Go.Proofs.Ytbfofhgnamheeaa.Pq
