/-
  A row of bytes of the call's own, of some base: bytes and texts are put behind it.
-/
import Derived.Test.YtbhahihgojhcmaaRtRow
import Derived.Lib.AppendStr
namespace Go.Proofs.Ytbhahihgojhcmaa.Rt
open Go.RowKit
set_option linter.unusedVariables false

structure OwnB (w0 w : World) (v : Value) (l : List Nat) : Prop where
  own : w.ownsRow w0.heap.size 5 1 v l.length (bv l)
  bel : Below w0.heap.size w0 w
  lt : ∀ x ∈ l, x < 256
theorem OwnB.on {w0 w w' : World} {v : Value} {l : List Nat} (h : OwnB w0 w v l) (hb : Below w.heap.size w w') : OwnB w0 w' v l :=
  ⟨own_on h.own hb, h.bel.trans (hb.mono h.bel.size), h.lt⟩
theorem OwnB.bs {w0 w : World} {v : Value} {l : List Nat} (h : OwnB w0 w v l) : ∃ A c, v = .slice A l.length c ∧ Bs w A l.length c l := Bs.of_own h.own h.lt
theorem bv_app' (a b : List Nat) : bv (a ++ b) = bv a ++ bv b := by simp [bv]
theorem strCells_txt {l : List Nat} (hl : ∀ x ∈ l, x < 256) : Lib.strCells (txt l) = bv l := by
  unfold Lib.strCells bv
  rw [txt_data, List.map_map]
  exact List.map_congr_left fun x hx => by simp only [Function.comp]; rw [of8 (hl x hx)]
theorem run_addB (w0 w : World) (v : Value) (l : List Nat) (hv : OwnB w0 w v l) (A : Option Addr) (m c : Nat) (k : List Nat) (hr : Bs w A m c k) (hsum : l.length + m ≤ 100000) (ty : TypeId) :
    ∃ v' w', (Builtin.append_ #[23, 23] ty #[v, .slice A m c]).run Try.prog w = .ok v' w' ∧ (OwnB w0 w' v' (l ++ k) ∧ w.grownBy w' v.ownBlock) := by
  obtain ⟨i0, hi, hz0, hz1, hz2⟩ := info_parts Try.info5
  obtain ⟨v', w', h1, h2, h3⟩ := run_append_bs (P := Try.prog) w w0.heap.size 23 ty 5 i0 _ Try.underlying23 hi hz0 hz1 hz2 rfl v l.length (bv l) hv.own A m c k hr (by omega) hv.bel.size
  refine ⟨v', w', h1, ⟨?_, below_own hv.bel hv.own h3 hv.bel.size (Nat.le_refl _), ?_⟩, h3⟩
  · rw [List.length_append, hr.1, bv_app']; exact h2
  · intro x hx
    rcases List.mem_append.1 hx with h | h
    · exact hv.lt x h
    · exact hr.2.2.2.1 x h
theorem run_addS (w0 w : World) (v : Value) (l : List Nat) (hv : OwnB w0 w v l) (k : List Nat) (hk : ∀ x ∈ k, x < 256) (hsum : l.length + k.length ≤ 100000) (ty : TypeId) :
    ∃ v' w', (Builtin.append_ #[23, 9] ty #[v, .string (txt k)]).run Try.prog w = .ok v' w' ∧ (OwnB w0 w' v' (l ++ k) ∧ w.grownBy w' v.ownBlock) := by
  obtain ⟨i0, hi, hz0, hz1, hz2⟩ := info_parts Try.info5
  obtain ⟨v', w', h1, h2, h3, _⟩ := Lib.run_append_own_string (P := Try.prog) w w0.heap.size 23 9 ty 5 i0 Try.underlying23 Try.underlying9 hi hz0 hz1 hz2 v l.length (bv l) hv.own (txt k) (by rw [txt_size]; unfold maxLen; omega) (by rw [txt_size]; omega) hv.bel.size
  refine ⟨v', w', h1, ⟨?_, below_own hv.bel hv.own h3 hv.bel.size (Nat.le_refl _), ?_⟩, h3⟩
  · rw [txt_size, strCells_txt hk] at h2
    rw [List.length_append, bv_app']; exact h2
  · intro x hx
    rcases List.mem_append.1 hx with h | h
    · exact hv.lt x h
    · exact hk x h
/-- .. and behind one that is nobody's own, and full. -/
theorem run_addN (w : World) (b off n : Nat) (l : List Nat) (h0 : Bs w (some ⟨b, off, none⟩) n n l) (b' off' m c : Nat) (k : List Nat) (hr : Bs w (some ⟨b', off', none⟩) m c k) (hm : 0 < m) (hsum : n + m ≤ 100000) (ty : TypeId) :
    ∃ v' w', (Builtin.append_ #[23, 23] ty #[.slice (some ⟨b, off, none⟩) n n, .slice (some ⟨b', off', none⟩) m c]).run Try.prog w = .ok v' w' ∧ OwnB w w' v' (l ++ k) := by
  obtain ⟨i0, hi, hz0, hz1, hz2⟩ := info_parts Try.info5
  have hl0 : (bv l).length = n * i0.size := by rw [bv_len, hz1, Nat.mul_one]; exact h0.1
  have hl : (bv k).length = m * i0.size := by rw [bv_len, hz1, Nat.mul_one]; exact hr.1
  have hrun := run_append_grow (P := Try.prog) w 23 ty 5 i0 _ Try.underlying23 hi hz0 ⟨b, off, none⟩ n n (bv l) hl0 (bs_news h0) ⟨b', off', none⟩ m c (bv k) hl (bs_news hr) (by omega) (by omega) (growslice_fits (by omega) (by rw [hz2]; omega))
  have hge := grownCap_ge w (n + m) n 5
  have hcm : grownCap w (n + m) n 5 ≤ maxLen := grownCap_le_maxLen w (n + m) n 5 (by unfold maxLen; omega)
  refine ⟨_, _, hrun, ⟨?_, ⟨rfl, rfl, rfl, by simp, fun j hj => heap_alloc_old w.drew _ hj⟩, ?_⟩⟩
  · rw [List.length_append, h0.1, hr.1]
    refine ⟨?_, .inr ⟨w.heap.size, _, _, rfl, Nat.le_refl _, heap_alloc_new w.drew _, hge, hcm, ?_, ?_⟩⟩
    · rw [bv_len, List.length_append, h0.1, hr.1, Nat.mul_one]
    · simp only [Array.size_append, List.size_toArray, size_zeroCells, hl0, hl, hz1]; simp [Value.cells]; omega
    · rw [bv_app']
      simp only [Array.toList_append]
      rw [show (n + m) * 1 = (bv l ++ bv k).length from by rw [List.length_append, bv_len, bv_len, h0.1, hr.1, Nat.mul_one]]
      exact List.take_left
  · intro x hx
    rcases List.mem_append.1 hx with h | h
    · exact h0.2.2.2.1 x h
    · exact hr.2.2.2.1 x h
theorem bs_lit1 (w : World) (x : Nat) (hx : x < 256) : Bs (w.alloc (.cells #[.int .u8 (x : Int)] 5)) (some ⟨w.heap.size, 0, none⟩) 1 1 [x] := by
  have hn := heap_alloc_new w (.cells #[.int .u8 (x : Int)] 5)
  refine ⟨rfl, Nat.le_refl _, by unfold maxLen; omega, by simpa using hx, fun _ => ⟨w.heap.size, 0, rfl, by simp, fun j y hy => ?_⟩⟩
  have hj : j = 0 := by have := (List.getElem?_eq_some_iff.1 hy).1; simp at this; exact this
  subst hj
  simp at hy
  subst hy
  have c0 := cell_of_row _ _ 0 _ _ (0, 0) hn
  rw [Nat.add_zero, c0]; rfl
theorem _root_.Go.Proofs.Ytbhahihgojhcmaa.Bs.some_ {w : World} {A : Option Addr} {n c : Nat} {l : List Nat} (h : Bs w A n c l) (hn : 0 < n) : ∃ b off, A = some ⟨b, off, none⟩ := by
  obtain ⟨b, off, e, _⟩ := h.2.2.2.2 hn
  exact ⟨b, off, e⟩
theorem Bs.grown {w w' : World} {A : Option Addr} {n c : Nat} {l : List Nat} {row : Option Nat} (h : Bs w A n c l) (hg : w.grownBy w' row) (hn : ∀ a, A = some a → row ≠ some a.block) : Bs w' A n c l := by
  obtain ⟨h1, h2, h3, h4, h5⟩ := h
  refine ⟨h1, h2, h3, h4, fun hp => ?_⟩
  obtain ⟨b, off, e, hlt, hc⟩ := h5 hp
  have hk := hg.block b hlt (fun e2 => hn _ e e2.symm)
  exact ⟨b, off, e, Nat.lt_of_lt_of_le hlt hg.size, fun j x hx => by
    have := hc j x hx
    unfold World.cell? at *
    simp only at *
    rw [hk]; exact this⟩
/-- A root's block is no row of bytes. -/
theorem Rb.grownB {w0 w w' : World} {v : Value} {l : List Nat} {g : Nat} {r : Rm.R} (h : Rb w g r) (hv : OwnB w0 w v l) (hg : w.grownBy w' v.ownBlock) : Rb w' g r := by
  refine (hg.block g h.lt fun e => ?_).trans h
  obtain ⟨cs, hc⟩ := own_type hv.own e.symm
  have h' : w.heap[g]? = some (.cells #[.string (txt r.name), .int .i64 r.page, .int .i64 r.count] 34 (0, 0)) := h
  rw [hc] at h'
  injection h' with h'
  injection h' with _ h2
  exact absurd h2 (by decide)
/-- The mark ahead of the roots' page. -/
theorem croo_bs (w : World) (fr : Nat × Nat) : Bs (w.alloc (.cells #[.int .u8 67, .int .u8 82, .int .u8 79, .int .u8 79] 5 fr)) (some ⟨w.heap.size, 0, none⟩) 4 4 [67, 82, 79, 79] := by
  refine ⟨rfl, Nat.le_refl _, by unfold maxLen; omega, by simp, fun _ => ⟨w.heap.size, 0, rfl, by simp, fun j x hx => ?_⟩⟩
  have h := heap_alloc_new w (.cells #[.int .u8 67, .int .u8 82, .int .u8 79, .int .u8 79] 5 fr)
  rw [Nat.zero_add]
  unfold World.cell?
  simp only [h]
  match j, hx with
  | 0, hx => injection hx with hx; subst hx; rfl
  | 1, hx => injection hx with hx; subst hx; rfl
  | 2, hx => injection hx with hx; subst hx; rfl
  | 3, hx => injection hx with hx; subst hx; rfl

end Go.Proofs.Ytbhahihgojhcmaa.Rt
