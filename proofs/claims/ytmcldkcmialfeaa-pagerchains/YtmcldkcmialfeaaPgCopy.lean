/-
  copyOf and Torn (page).
-/
import Derived.Test.YtmcldkcmialfeaaPgRow
import Derived.Test.YtmcldkcmialfeaaGrPl9
import Derived.Laws.OwnMore
import Derived.Laws.CopyOwn
namespace Go.Proofs.Ytmcldkcmialfeaa
open Go.RowKit
set_option linter.unusedVariables false

theorem made_zero (n : Nat) : (madeCells (Value.int .u8 0).cells (n * 1)).toList = bv (List.replicate n 0) := by
  rw [show (Value.int .u8 0).cells = #[.int .u8 0] from rfl, Nat.mul_one, toList_madeCells_one]; simp [bv]
/-- What a copy takes out of a slice. -/
theorem Bs.src {w : World} {A : Option Addr} {n c : Nat} {l : List Nat} (h : Bs w A n c l) : 0 < (bv l).length → ∃ ad, A = some ad ∧ ∀ (j : Nat) (v : Value), (bv l)[j]? = some v → w.cell? (ad.add j) = some v := by
  intro hp
  obtain ⟨h1, _, _, _, h5⟩ := h
  rw [bv_len] at hp
  obtain ⟨b, off, e, hlt, hc⟩ := h5 (by omega)
  refine ⟨_, e, fun j v hv => ?_⟩
  rw [bv, List.getElem?_map] at hv
  cases hx : l[j]? with
  | none => rw [hx] at hv; cases hv
  | some x =>
    rw [hx] at hv
    simp only [Option.map_some, Option.some.injEq] at hv
    subst hv
    have hcj := hc j x hx
    by_cases hj : j = 0
    · subst hj; simpa [Addr.add] using hcj
    · simpa [Addr.add, hj] using hcj
theorem splice_bv (z l : List Nat) (o : Nat) : splice (bv z) o (bv l) = bv (splice z o l) := by
  unfold splice bv
  simp only [List.map_append, List.map_take, List.map_drop, List.length_map]
theorem splice_all (n : Nat) (l : List Nat) (h : l.length = n) : splice (List.replicate n 0) 0 l = l := by
  subst h
  simp [splice]
theorem Row.bs' {w : World} {g n : Nat} {l : List Nat} (h : Row w g l) (hl : ∀ x ∈ l, x < 256) (hn : l.length = n) (hm : n ≤ 1000000) : Bs w (some ⟨g, 0, none⟩) n n l := by
  subst hn; exact h.bs hl (by unfold maxLen; omega)

set_option maxRecDepth 100000 in
theorem copyOf_any (w : World) (A : Option Addr) (n c : Nat) (l : List Nat) (hb : Bs w A n c l) (hn : n ≤ 1000000) :
    Calls Try.prog 75 #[.slice A n c] w fun e w' => e = .returned (.slice (some ⟨w.heap.size, 0, none⟩) n n) ∧ Row w' w.heap.size l ∧ Below w.heap.size w w' := by
  obtain ⟨i0, hi, hz0, hz1, hz2⟩ := info_parts Try.info5
  have hsz : (Try.prog.info? 5).map (·.size) = some 1 := by rw [show Try.prog.info? 5 = _ from hi]; simp [hz1]
  have HB := Lib.hid hb
  have hl := hb.1
  have HL := Lib.hid hl
  clear hl hb
  go_enter Try.func75, Try.ntmps75
  go_wp2_with (first
    | (refine wpList_make_full _ rfl _ _ 22 rfl w.heap.size 5 i0 (.int .u8 0) 1 Try.underlying22 hi hz0 hz1 .i64 .i64 _ _ n rfl rfl rfl rfl (by rw [hz2]; omega) (by unfold maxLen; omega) (Nat.le_refl _) ?_; intro w1 hown hgrow; rw [made_zero] at hown; have R1 := Lib.hid (Row.of_own hown); have B1 := (Below.refl w.heap.size w).grown hgrow (Nat.le_refl _) (fun k hk => by cases hk); have S1 := Lib.hid (HB.out.on B1); clear hown hgrow)
    | (refine wpList_copy_splice (o := ⟨some 9, _, _, _, _, _⟩) rfl (.tmp 7) (.tmp 8) 22 22 rfl 5 Try.underlying22 hsz _ _ _ _ _ _ rfl rfl w.heap.size 0 (bv (List.replicate n 0)) 5 R1.out (bv l) (by rw [bv_len, HL.out]; exact (Nat.min_self n).symm) (fun h => ⟨rfl, S1.out.src h⟩) (by simp [bv, HL.out]) (bv_one l) w.heap.size w B1 (Nat.le_refl _) ?_; intro w2 HG hB))
  go_ret
  refine ⟨rfl, ?_, hB⟩
  have := HG.out
  rwa [splice_bv, splice_all n l HL.out] at this

theorem torn_row (l : List Nat) (h : 0 < l.length) : (bv l).set (l.length - 1) (.int .u8 ((l.getD (l.length - 1) 0 ^^^ 255 : Nat) : Int)) = bv (Pg.torn l) := by
  unfold Pg.torn bv; rw [List.map_set]
theorem torn_nil : Pg.torn [] = [] := rfl
theorem xor_all {x : Nat} (h : x < 256) : bits .xor .u8 (x : Int) 255 = ((x ^^^ 255 : Nat) : Int) := u8_xor_nat x 255 h (by omega)


end Go.Proofs.Ytmcldkcmialfeaa
