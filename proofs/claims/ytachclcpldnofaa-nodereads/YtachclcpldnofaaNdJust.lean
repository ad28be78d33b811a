/-
  bytes.Clone; whether a page's bytes are these, and then 0.
-/
import Derived.Test.YtachclcpldnofaaNdRd
import Derived.Test.YtachclcpldnofaaAppZero
namespace Go.Proofs.Ytachclcpldnofaa.Nn
open Go.RowKit
set_option linter.unusedVariables false

set_option maxRecDepth 100000 in
set_option maxHeartbeats 400000 in
theorem clone_any (w : World) (A : Option Addr) (n c : Nat) (l : List Nat) (h : Bs w A n c l) (hn : 0 < n) (hn9 : n ≤ 100000) :
    Calls Try.prog 32 #[.slice A n c] w fun e w' => ∃ g' c', e = .returned (.slice (some ⟨g', 0, none⟩) n c') ∧ Bs w' (some ⟨g', 0, none⟩) n c' l ∧ w.heap.size ≤ g' ∧ g' < w'.heap.size ∧ Below w.heap.size w w' := by
  obtain ⟨i0, hi, hz0, hz1, hz2⟩ := info_parts Try.info5
  obtain ⟨b, off, rfl, hlt, _⟩ := h.2.2.2.2 hn
  have HL := Lib.hid h.1
  have HLT := Lib.hid h.2.2.2.1
  have O0 := World.ownsRow_made (base := w.heap.size) (e := 5) (size := 1) w #[] 0 (Nat.le_refl _) (Nat.zero_le _) rfl
  have S0 := h.alloc (.cells #[] 5)
  have B0 : Below w.heap.size w (w.alloc (.cells #[] 5)) := (Below.refl _ _).alloc (Nat.le_refl _) _
  have hnil := fun W => Lib.run_eql_slice_nil (P := Try.prog) W 22 5 (some ⟨b, off, none⟩) n c 0 0 Try.underlying22
  clear h
  go_enter Try.func32, Try.ntmps32
  go_wp2_with (at_builtin; refine wpList_append_bs _ rfl _ _ 22 rfl w.heap.size 5 i0 (.int .u8 0) Try.underlying22 hi hz0 hz1 hz2 rfl _ _ _ rfl O0 _ _ _ _ rfl S0 (by omega) (by simp) ?_; intro v2 w2 O2 g2)
  have B2 := below_own B0 O0 g2 (by simp) (Nat.le_refl _)
  rw [Nat.zero_add, List.nil_append] at O2
  have hown := O2
  rcases hown.2 with ⟨_, h0⟩ | ⟨g', cap, cur, rfl, hb, hg, _⟩
  · omega
  · have R := own_bs O2 HL.out HLT.out
    clear O0 S0 B0 O2 g2 hown
    go_ret
    exact ⟨g', cap, rfl, R, hb, (Array.getElem?_eq_some_iff.1 hg).1, B2⟩

theorem just_iff {b t : List Nat} (h : t.length ≤ b.length) (h1 : b.take t.length = t) : b.drop t.length = List.replicate (b.length - t.length) 0 ↔ b = t ++ List.replicate (b.length - t.length) 0 := by
  constructor
  · intro h2
    conv => lhs; rw [← List.take_append_drop t.length b, h1, h2]
  · intro h2
    have := congrArg (List.drop t.length) h2
    rw [List.drop_left] at this
    exact this
theorem made_zero (m : Nat) : madeCells (Value.int .u8 0).cells m = (bv (List.replicate m 0)).toArray := by
  apply Array.ext
  · simp [madeCells, bv]
  · intro i h1 h2
    simp [madeCells, Value.cells, Nat.mod_one, bv]
/-- Bytes that are these, and then 0. -/
def Just (b t : List Nat) : Prop := 0 < t.length ∧ t.length ≤ b.length ∧ b = t ++ List.replicate (b.length - t.length) 0
instance (b t : List Nat) : Decidable (Just b t) := inferInstanceAs (Decidable (_ ∧ _))

set_option maxRecDepth 100000 in
set_option maxHeartbeats 2000000 in
theorem saysJust_any (w : World) (A A' : Option Addr) (n c n' c' : Nat) (b t : List Nat) (ha : Bs w A n c b) (hb : Bs w A' n' c' t) (hn9 : n ≤ 100000) :
    Calls Try.prog 23 #[.slice A n c, .slice A' n' c'] w fun e w' => e = .returned (.bool (decide (Just b t))) ∧ Below w.heap.size w w' := by
  obtain ⟨i0, hi, hz0, hz1, hz2⟩ := info_parts Try.info5
  have hl := ha.1
  have hl' := hb.1
  have hc := ha.2.1
  have hc9 := ha.2.2.1
  have hc9' := hb.2.2.1
  have hcc' := hb.2.1
  unfold maxLen at hc9 hc9'
  have CP := Lib.hid (fun (W : World) (hW : Below w.heap.size w W) => hasPrefix_any W A A' n c n' c' b t (ha.on hW) (hb.on hW))
  have BD := Lib.hid (fun m => below_drewN (Below.refl w.heap.size w) m)
  by_cases h0 : n' = 0
  · have d0 : decide ((n' : Int) > 0) = false := by simp; omega
    have e : decide (Just b t) = false := by rw [decide_eq_false_iff_not]; unfold Just; omega
    have HE := Lib.hid e
    clear e ha hb
    go_enter Try.func23, Try.ntmps23
    go_wp2_with fail
    go_quiet (fail)
    go_wp2
    go_ret
    exact ⟨by rw [HE.out]; rfl, BD.out _⟩
  · have d0 : decide ((n' : Int) > 0) = true := by simp; omega
    by_cases h1 : n' ≤ n ∧ b.take n' = t
    · obtain ⟨h1, h2⟩ := h1
      have E := Lib.hid (just_iff (b := b) (t := t) (by omega) (by rw [hl']; exact h2))
      have hd1 : decide (n' ≤ n ∧ b.take n' = t) = true := decide_eq_true ⟨h1, h2⟩
      rw [hd1] at CP
      obtain ⟨bb, off, rfl, hlt, _⟩ := ha.2.2.2.2 (by omega)
      have HE : Hid (decide (Just b t) = decide (b.drop n' = List.replicate (n - n') 0)) := by
        show _ = _
        have e := E.out
        rw [hl, hl'] at e
        rw [decide_eq_decide]
        unfold Just
        rw [hl, hl', e]
        exact ⟨fun h => h.2.2, fun h => ⟨by omega, by omega, h⟩⟩
      have HD := Lib.hid (bs_drop ha n' h1)
      obtain ⟨m, rfl⟩ : ∃ m, n = n' + m := ⟨n - n', by omega⟩
      rw [show n' + m - n' = m by omega] at HD HE
      have hm9 : m ≤ 100000 := by omega
      have hpos : 0 < n' := by omega
      have b1 : (n' : Int) ≤ (n' : Int) + (m : Int) := by omega
      have b2 : (n' : Int) + (m : Int) ≤ (c : Int) := by omega
      have hmk : ∀ W : World, (Instr.makeSlice 22 (.int .i64 (m : Int)) (.int .i64 (m : Int))).run Try.prog W = .ok (.slice (some ⟨W.heap.size, 0, none⟩) m m) (W.alloc (.cells (bv (List.replicate m 0)).toArray 5)) := by
        intro W
        have h := run_make (P := Try.prog) W 22 5 i0 (.int .u8 0) Try.underlying22 hi hz0 .i64 .i64 (m : Int) (m : Int) (by omega) (Int.le_refl _) (by rw [hz2]; omega) (by omega)
        rw [h, hz1]
        simp only [Int.toNat_natCast, Nat.mul_one]
        rw [made_zero]
      have hw1 : IntKind.i64.wrap ((n' : Int) + (m : Int) - (n' : Int)) = (m : Int) := by rw [IntWalk.i64_in _ ⟨by omega, by omega⟩]; omega
      have ZB : ∀ W : World, Bs (W.alloc (.cells (bv (List.replicate m 0)).toArray 5)) (some ⟨W.heap.size, 0, none⟩) m m (List.replicate m 0) := by
        intro W
        have h : Row (W.alloc (.cells (bv (List.replicate m 0)).toArray 5)) W.heap.size (List.replicate m 0) := heap_alloc_new W _
        have := h.bs (fun x hx => by have := List.eq_of_mem_replicate hx; omega) (by rw [List.length_replicate]; unfold maxLen; omega)
        rwa [List.length_replicate] at this
      have HZB := Lib.hid ZB
      clear E hd1 h2 ha hb ZB
      by_cases hcn : c = n'
      · subst hcn
        have hbd : b.drop c = [] := List.drop_eq_nil_of_le (by omega)
        rw [hbd] at HE
        have CQ := Lib.hid (equal_any ((w.alloc (.cells (bv (List.replicate m 0)).toArray 5)).drew) _ _ _ _ _ _ _ _ (Bs.nil_ _ (some ⟨bb, off, none⟩) 0 (Nat.zero_le _)) (Bs.drew (HZB.out w)))
        have BA : Hid (Below w.heap.size w ((w.alloc (.cells (bv (List.replicate m 0)).toArray 5)).drew)) := ((Below.refl w.heap.size w).alloc (Nat.le_refl _) _).drew
        generalize (bv (List.replicate m 0)).toArray = ZC at *
        generalize decide ([] = List.replicate m 0) = DD at *
        clear HD hbd
        clear HZB
        go_enter Try.func23, Try.ntmps23
        go_wp2_with fail
        go_region_held3 (fun _ => True) (trivial) (first
          | (go_at_call 41; refine (CP.out _ (by first | exact below_drewN (Below.refl _ _) _ | exact Below.refl _ _ | assumption)).mono ?_; rintro e w2 ⟨rfl, rfl⟩)
          | (go_at_call 42; refine CQ.out.mono ?_; rintro e w2 ⟨rfl, rfl⟩))
        all_goals
          go_wp2
          go_ret
          exact ⟨by rw [HE.out]; rfl, BA.out⟩
      · rw [if_neg hcn] at HD
        have CQ := Lib.hid (equal_any ((w.alloc (.cells (bv (List.replicate m 0)).toArray 5)).drew) _ _ _ _ _ _ _ _ (Bs.drew (Bs.alloc HD.out _)) (Bs.drew (HZB.out w)))
        have BA : Hid (Below w.heap.size w ((w.alloc (.cells (bv (List.replicate m 0)).toArray 5)).drew)) := ((Below.refl w.heap.size w).alloc (Nat.le_refl _) _).drew
        generalize (bv (List.replicate m 0)).toArray = ZC at *
        generalize decide (b.drop n' = List.replicate m 0) = DD at *
        clear HZB
        go_enter Try.func23, Try.ntmps23
        go_wp2_with fail
        go_region_held3 (fun _ => True) (trivial) (first
          | (go_at_call 41; refine (CP.out _ (by first | exact below_drewN (Below.refl _ _) _ | exact Below.refl _ _ | assumption)).mono ?_; rintro e w2 ⟨rfl, rfl⟩)
          | (go_at_call 42; refine CQ.out.mono ?_; rintro e w2 ⟨rfl, rfl⟩))
        all_goals
          go_wp2
          go_ret
          exact ⟨by rw [HE.out]; rfl, BA.out⟩
    · have e : decide (Just b t) = false := by
        rw [decide_eq_false_iff_not]
        rintro ⟨_, h3, h4⟩
        refine h1 ⟨by omega, ?_⟩
        rw [h4, ← hl', List.take_left]
      have HE := Lib.hid e
      rw [decide_eq_false h1] at CP
      clear e h1 ha hb
      go_enter Try.func23, Try.ntmps23
      go_wp2_with fail
      have hpos : 0 < n' := by omega
      go_quiet ((first | (go_at_call 41; exact Calls.quiet_of_same ((CP.out _ (by first | exact below_drewN (Below.refl _ _) _ | exact Below.refl _ _)).mono fun _ _ h => ⟨h.1, h.2.symm⟩))))
      go_wp2
      go_ret
      exact ⟨by rw [HE.out]; rfl, BD.out _⟩
end Go.Proofs.Ytachclcpldnofaa.Nn
