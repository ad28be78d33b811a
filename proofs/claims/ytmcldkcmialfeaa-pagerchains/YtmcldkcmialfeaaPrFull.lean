/-
  Full: bytes again and again.
-/
import Derived.Test.YtmcldkcmialfeaaPgCopy
import Derived.Test.YtmcldkcmialfeaaGrDisk
namespace Go.Proofs.Ytmcldkcmialfeaa.Pr
open Go.RowKit
set_option linter.unusedVariables false

def fullAt (b : List Nat) (i : Nat) : Nat := if b.length = 0 then 0 else b.getD (i % b.length) 0
def full (b : List Nat) (m : Nat) : List Nat := (List.range m).map (fullAt b)
def fullTo (b : List Nat) (m k : Nat) : List Nat := (List.range k).map (fullAt b) ++ List.replicate (m - k) 0
theorem full_len (b : List Nat) (m : Nat) : (full b m).length = m := by unfold full; rw [List.length_map, List.length_range]
theorem fullAt_lt {b : List Nat} (h : ∀ x ∈ b, x < 256) (i : Nat) : fullAt b i < 256 := by
  unfold fullAt
  split
  · omega
  · rename_i hb
    have hi : i % b.length < b.length := Nat.mod_lt _ (by omega)
    rw [List.getD_eq_getElem?_getD, List.getElem?_eq_getElem hi]
    exact h _ (List.getElem_mem hi)
theorem full_lt {b : List Nat} (h : ∀ x ∈ b, x < 256) (m : Nat) : ∀ x ∈ full b m, x < 256 := by
  intro x hx
  obtain ⟨i, _, rfl⟩ := List.mem_map.1 hx
  exact fullAt_lt h i
theorem fullTo_len (b : List Nat) (m k : Nat) (h : k ≤ m) : (fullTo b m k).length = m := by unfold fullTo; rw [List.length_append, List.length_map, List.length_range, List.length_replicate]; omega
theorem fullTo_none (b : List Nat) (m : Nat) : fullTo b m 0 = List.replicate m 0 := by unfold fullTo; simp
theorem fullTo_all (b : List Nat) (m : Nat) : fullTo b m m = full b m := by unfold fullTo full; rw [Nat.sub_self, List.replicate_zero, List.append_nil]
theorem full_nil (m k : Nat) (h : k ≤ m) : fullTo [] m k = full [] m := by
  unfold fullTo full
  have e : ∀ j, (List.range j).map (fullAt []) = List.replicate j 0 := by
    intro j
    refine List.eq_replicate_iff.2 ⟨by rw [List.length_map, List.length_range], fun x hx => ?_⟩
    obtain ⟨i, _, rfl⟩ := List.mem_map.1 hx
    rfl
  rw [e, e, List.replicate_append_replicate]
  congr 1; omega
theorem fullTo_set (b : List Nat) (m k : Nat) (h : k < m) : (bv (fullTo b m k)).set k (.int .u8 ((fullAt b k : Nat) : Int)) = bv (fullTo b m (k + 1)) := by
  have e : (fullTo b m k).set k (fullAt b k) = fullTo b m (k + 1) := by
    unfold fullTo
    have hl : ((List.range k).map (fullAt b)).length = k := by rw [List.length_map, List.length_range]
    rw [List.set_append_right _ _ (by omega), hl, Nat.sub_self, show m - k = (m - (k + 1)) + 1 from by omega, List.replicate_succ, List.set_cons_zero, List.range_succ, List.map_append, List.append_assoc]
    rfl
  rw [← e]; unfold bv; rw [List.map_set]

set_option maxRecDepth 100000 in
theorem full_any (w : World) (A : Option Addr) (n c : Nat) (b : List Nat) (hb : Bs w A n c b) (z : Int) (m : Nat) (hm : (m : Int) = min (max z 0) 17000) :
    Calls Try.prog 10 #[.slice A n c, .int .i64 z] w fun e w' => e = .returned (.slice (some ⟨w.heap.size, 0, none⟩) m m) ∧ Row w' w.heap.size (full b m) ∧ Below w.heap.size w w' := by
  obtain ⟨i0, hi, hz0, hz1, hz2⟩ := info_parts Try.info5
  have HM := Lib.hid hm
  have hm7 : m ≤ 17000 := by omega
  have hl := hb.1
  have hnc := hb.2.1
  have hcm := hb.2.2.1
  unfold maxLen at hcm
  have HS := Lib.hid hb
  clear hm hb
  go_enter Try.func10, Try.ntmps10
  go_wp2_with (at_make; refine wpList_make_full _ rfl _ _ 22 rfl w.heap.size 5 i0 (.int .u8 0) 1 Try.underlying22 hi hz0 hz1 .i64 .i64 _ _ m rfl rfl (by have := HM.out; omega) (by have := HM.out; omega) (by rw [hz2]; omega) (by unfold maxLen; omega) (Nat.le_refl _) ?_; intro w1 hown hgrow; rw [made_zero, ← fullTo_none b m] at hown; have R1 := Lib.hid (Row.of_own hown); have B1 := Lib.hid ((Below.refl w.heap.size w).grown hgrow (Nat.le_refl _) (fun k hk => by cases hk)); clear hown hgrow)
  all_goals
    go_loopw [6] (fun i wr => ∃ k : Nat, k ≤ m ∧ i = .int .i64 (k : Int) ∧ Row wr w.heap.size (fullTo b m k) ∧ Below w.heap.size w wr) (fun i _ => m - (intOf i).toNat)
    case atStart => exact ⟨0, Nat.zero_le _, rfl, R1.out, B1.out⟩
    case round =>
      obtain ⟨k, hk, rfl, hR, hB⟩ := hrel
      by_cases hlt : k < m
      · have z1 : (k : Int) < (m : Int) := by omega
        by_cases hn0 : n = 0
        · have z0 : ¬ (0 : Int) < (n : Int) := by omega
          have hbn : b = [] := List.eq_nil_of_length_eq_zero (by omega)
          rw [hbn, full_nil m k hk, ← hbn] at hR
          have HR := Lib.hid (And.intro hR hB)
          clear hR hB R1 B1 hn0 hbn
          go_wp2
          go_ret
          exact ⟨rfl, HR.out⟩
        · have z0 : (0 : Int) < (n : Int) := by omega
          obtain ⟨q, hq⟩ : ∃ q : Nat, q = k % n := ⟨_, rfl⟩
          have hqn : q < n := by rw [hq]; exact Nat.mod_lt _ (by omega)
          have e1 : Int.tmod (k : Int) (n : Int) = (q : Int) := by rw [Int.tmod_eq_emod_of_nonneg (by omega), hq]; rfl
          have zq : (q : Int) < (n : Int) := by omega
          have hx : fullAt b k = b.getD q 0 := by unfold fullAt; rw [if_neg (by omega), hl, hq]
          obtain ⟨y, hy⟩ : ∃ y, b[q]? = some y := ⟨_, List.getElem?_eq_getElem (by omega)⟩
          have hxy : fullAt b k = y := by rw [hx, List.getD_eq_getElem?_getD, hy]; rfl
          obtain ⟨bb, off, rfl, hbl, hc⟩ := HS.out.2.2.2.2 (by omega)
          have cB := (hB.cell (p := ⟨bb, off + q, none⟩) (by exact hbl)).trans (hc q y hy)
          have O1 := hR.own (base := w.heap.size) (n := m) (Nat.le_refl _) (fullTo_len b m k hk) (by unfold maxLen; omega)
          obtain ⟨y', hy'⟩ : ∃ y', (fullTo b m k)[k]? = some y' := ⟨_, List.getElem?_eq_getElem (by rw [fullTo_len b m k hk]; exact hlt)⟩
          have cy := hR.cell hy'
          have fy := O1.frozenAt k
          have hS := O1.stored k (.int .u8 (y : Int))
          rw [← hxy, fullTo_set b m k hlt, hxy] at hS
          have HR := Lib.hid (Row.of_own hS.1)
          have HB := Lib.hid (hB.grown hS.2 hB.size (fun j hj => by injection hj with hj; omega))
          have HX := Lib.hid hxy
          clear hS O1 hR hB hy hy' R1 B1 hq hx hxy hc
          go_wp2
          go_roundw
          case rel => exact ⟨k + 1, by omega, by go_num, HR.out, HB.out⟩
          case measure => simp [intOf]; omega
      · have z1 : ¬ (k : Int) < (m : Int) := by omega
        obtain rfl : k = m := by omega
        rw [fullTo_all] at hR
        have HR := Lib.hid (And.intro hR hB)
        clear hR hB R1 B1
        go_wp2
        go_ret
        exact ⟨rfl, HR.out⟩

end Go.Proofs.Ytmcldkcmialfeaa.Pr
