/-
  The program's pager: fromEnd, an iterator over the parts of a value, the last one first.
-/
import Derived.Test.YtmcldkcmialfeaaPrChainP
import Derived.RangeFuncNested
import Derived.RangeFuncBound
import Derived.RangeFuncCalls
import Derived.RangeFuncLeaves
import Derived.RangeFuncBox
import Derived.Shelf.Abstract
import Derived.Shelf.RegionOpen
import Derived.OwnWalkIn
import Derived.TacticsInMore
import Derived.LoopNIn
import Derived.LoopIn
import Derived.Maps.AppendAt
namespace Go.Proofs.Ytmcldkcmialfeaa.Pr
open Go.RowKit Go.Shelf
set_option linter.unusedVariables false
attribute [local go_sem] Oper.semAt_some

/-- A part's number: it begins at 1010 times that. -/
abbrev Pt (n : Nat) := { i : Nat // i * 1010 < n }
/-- Where a part ends. -/
def endOf (n i : Nat) : Nat := min n (i * 1010 + 1010)
/-- What the round is handed. -/
def encP (b off n c : Nat) (i : Pt n) : Array Value := #[.slice (some ⟨b, off + i.1 * 1010, none⟩) (endOf n i.1 - i.1 * 1010) (c - i.1 * 1010)]
/-- The box of the value stays. -/
def KpB (B : Nat) (W W' : World) : Prop := ∀ o, W.heap[B]? = some o → W'.heap[B]? = some o
theorem KpB.t {B : Nat} {X Y Z : World} (h : KpB B X Y) (k : KpB B Y Z) : KpB B X Z := fun o ho => k o (h o ho)
theorem KpB.b {B : Nat} {w : World} (hB : B < w.heap.size) (W : World) (l : Nat) (o o' : Obj) (hl : w.heap.size ≤ l) (h : W.heap[l]? = some o) (_ : o.isCells = false) (_ : o.isWalk = false) : KpB B W (W.putObj l o') :=
  fun p hp => (World.putObj_heap_other (by omega)).trans hp
/-- The parts, the last one first, down to the k-th. -/
def downTo (m k : Nat) : List Nat := ((List.range m).drop k).reverse
theorem downTo_all (m : Nat) : downTo m 0 = (List.range m).reverse := by unfold downTo; rw [List.drop_zero]
theorem downTo_none (m : Nat) : downTo m m = [] := by unfold downTo; rw [List.drop_of_length_le (by rw [List.length_range]; exact Nat.le_refl _)]; rfl
theorem downTo_step {m k : Nat} (h : k < m) : downTo m (k + 1) ++ [k] = downTo m k := by
  unfold downTo
  rw [List.drop_eq_getElem_cons (i := k) (by rw [List.length_range]; exact h), List.reverse_cons, List.getElem_range]
theorem downTo_len (m k : Nat) : (downTo m k).length = m - k := by unfold downTo; rw [List.length_reverse, List.length_drop, List.length_range]
theorem downTo_pre {m k : Nat} (h : k ≤ m) : downTo m k <+: (List.range m).reverse := by
  rw [← downTo_all]
  induction k with
  | zero => exact List.prefix_refl _
  | succ k ih => exact List.IsPrefix.trans ⟨[k], downTo_step (by omega)⟩ (ih (by omega))

set_option maxRecDepth 100000 in
theorem fromEnd_any (w : World) (v : Value) (A : Option Addr) (n c : Nat) (hv : v = .slice A n c) : Calls Try.prog 28 #[v] w fun e w' => e = .returned (.func (.func 44) #[] #[.pointer (some ⟨w.heap.size, 0, none⟩)]) ∧ w' = w.alloc (.cells #[v] 22) := by
  subst hv
  go_enter Try.func28, Try.ntmps28
  go_wp2
  go_ret
  exact ⟨rfl, rfl⟩

set_option maxRecDepth 100000 in
set_option maxHeartbeats 2000000 in
theorem fromEnd1_in (l B b off n c : Nat) (h0 : 0 < n) (hn : n ≤ 16384) (hnc : n ≤ c) (hc : c ≤ maxLen) (J Jx : List (Pt n) → World → Prop)
    (hY : ∀ pre (x : Pt n) W, J pre W → pre.length < many n → YieldAt Fence.wide 2 Try.prog l (encP b off n c x) W fun e W' =>
      (e = .returned (.bool true) ∧ J (pre ++ [x]) W' ∧ KpB B W W') ∨ (e = .returned (.bool false) ∧ Jx (pre ++ [x]) W'))
    (W : World) (hB : Boxed W B 22 (.slice (some ⟨b, off, none⟩) n c)) (hJ : J [] W) :
    CallsIn Fence.wide 3 Try.prog 44 #[.func (.yield l) #[] #[], .pointer (some ⟨B, 0, none⟩)] W fun e W' => (∃ v, e = .returned v) ∧
      ((∃ ys : List (Pt n), ys.map (·.1) = (List.range (many n)).reverse ∧ J ys W') ∨ (∃ pre : List (Pt n), pre.map (·.1) <+: (List.range (many n)).reverse ∧ Jx pre W')) := by
  unfold maxLen at hc
  have hmn : many n ≤ 17 := by unfold many; omega
  have hpo : pagesOf (n : Int) = (many n : Int) := by unfold pagesOf many; split <;> omega
  have hm1 : (many n - 1) * 1010 < n ∧ n ≤ many n * 1010 := by unfold many; omega
  have CP := fun W => (callsIn_wide (n := 2)).2 (pagesFor_any W (n : Int) ⟨by omega, by omega⟩)
  rw [hpo] at CP
  obtain ⟨m, hm⟩ : ∃ m, m = many n := ⟨_, rfl⟩
  rw [← hm] at CP hmn hm1 hY ⊢
  clear hpo hm
  replace CP := Lib.hid CP
  have HY := Lib.hid hY
  have hBc := hB.cell
  clear hY
  refine callsIn_of_wp Try.func44 rfl trivial ?_ rfl
  simp only [Try.ntmps44, List.size_toArray, List.length_cons, List.length_nil, Nat.reduceAdd, Nat.reduceSub, Array.replicate_succ, Array.replicate_zero, List.push_toArray, List.append_toArray, List.nil_append, List.cons_append]
  gi_wp2_with (refine ⟨trivial, ?_⟩; gi_at_call 33; refine (CP.out _).mono ?_; rintro e w' ⟨rfl, rfl⟩)
  gi_loopw [3, 4] (fun ev cv wr => ∃ (k en : Nat) (pre : List (Pt n)), k ≤ m ∧ cv = .int .i64 (k : Int) ∧ ev = .int .i64 (en : Int) ∧ en = min n (k * 1010) ∧ pre.map (·.1) = downTo m k ∧ J pre wr ∧ Boxed wr B 22 (.slice (some ⟨b, off, none⟩) n c)) (fun _ cv _ => (intOf cv).toNat)
  case atStart => exact ⟨m, n, [], Nat.le_refl _, rfl, rfl, by omega, by rw [downTo_none]; rfl, hJ, hB⟩
  case round =>
    clear hBc hB hJ
    obtain ⟨k, en, pre, hk, rfl, rfl, hen, hpre, hJs, hBs⟩ := hrel
    by_cases hk0 : 0 < k
    · have z0 : (0 : Int) < (k : Int) := by omega
      obtain ⟨q, rfl⟩ : ∃ q, k = q + 1 := ⟨k - 1, by omega⟩
      have hq : q * 1010 < n := by omega
      have hlen : pre.length < m := by
        have := congrArg List.length hpre
        rw [List.length_map, downTo_len] at this
        omega
      obtain ⟨y, hy1⟩ : ∃ y : Pt n, y.1 = q := ⟨⟨q, hq⟩, rfl⟩
      have hY2 := HY.out pre y wr hJs hlen
      have hen2 : en = endOf n q := by rw [hen]; unfold endOf; omega
      have hpre2 : (pre ++ [y]).map (·.1) = downTo m q := by rw [List.map_append, hpre, List.map_singleton, hy1]; exact downTo_step (by omega)
      have hpf : (pre ++ [y]).map (·.1) <+: (List.range m).reverse := by rw [hpre2]; exact downTo_pre (by omega)
      obtain ⟨st, hst⟩ : ∃ st, q * 1010 = st := ⟨_, rfl⟩
      unfold encP at hY2
      rw [hy1, ← hen2, hst] at hY2
      have hse : st ≤ en ∧ en ≤ n := by rw [hen, ← hst]; omega
      have hs2 : st = min n (q * 1010) := by omega
      obtain ⟨fn, tmps, assign, body, hy, hR⟩ := hY2
      have hsc : st < c := by omega
      have hsc1 : ¬ c = st := by omega
      have hse1 : (st : Int) ≤ (en : Int) := by omega
      have hse2 : (en : Int) ≤ (c : Int) := by omega
      obtain ⟨k, hkq⟩ : ∃ k, q + 1 = k := ⟨_, rfl⟩
      rw [hkq] at z0 hk hk0 ⊢
      have w1 : IntKind.i64.wrap ((k : Int) - 1) = (q : Int) := by rw [IntWalk.i64_in _ ⟨by omega, by omega⟩]; omega
      have w2 : IntKind.i64.wrap ((q : Int) * 1010) = (st : Int) := by rw [IntWalk.i64_in _ ⟨by omega, by omega⟩]; omega
      have hBc := hBs.cell
      have HH := Lib.hid (And.intro hpre2 (And.intro hpf (And.intro hs2 hBs)))
      have HK := Lib.hid hkq
      clear hpre2 hpf hs2 hBs hpre hen hen2 hst hkq hq hlen hJs hy1
      gi_wp2
      refine hR.mono ?_
      rintro e W3 (⟨rfl, hJ3, hk3⟩ | ⟨rfl, hJx3⟩)
      · gi_wp2
        go_roundw
        case rel => exact ⟨q, st, _, by have := HK.out; omega, rfl, rfl, HH.out.2.2.1, HH.out.1, hJ3, hk3 _ HH.out.2.2.2⟩
        case measure => have := HK.out; simp [intOf]; omega
      · gi_wp2
        refine bodyPost_ret (results_none rfl _ _ _) rfl ?_
        exact ⟨⟨_, rfl⟩, .inr ⟨_, HH.out.2.1, hJx3⟩⟩
    · have z0 : ¬ (0 : Int) < (k : Int) := by omega
      obtain rfl : k = 0 := by omega
      gi_wp2
      go_end0
      exact ⟨⟨_, rfl⟩, .inl ⟨pre, hpre.trans (downTo_all m), hJs⟩⟩

/-- What fromEnd tells stops where a round says so. -/
theorem fromEnd_stops (w : World) (B b off n c : Nat) (h0 : 0 < n) (hn : n ≤ 16384) (hnc : n ≤ c) (hc : c ≤ maxLen) (hB : Boxed w B 22 (.slice (some ⟨b, off, none⟩) n c)) :
    SeqStopsK Fence.wide 3 Try.prog 44 #[.pointer (some ⟨B, 0, none⟩)] (encP b off n c) (KpB B) (fun xs => xs.map (·.1) = (List.range (many n)).reverse) (fun pre => pre.map (·.1) <+: (List.range (many n)).reverse) (many n) w :=
  fun l J Jx W hW _ _ hY hJ => fromEnd1_in l B b off n c h0 hn hnc hc J Jx hY W (show W.heap[B]? = _ from (hW.block B hB.lt).trans hB) hJ

end Go.Proofs.Ytmcldkcmialfeaa.Pr
