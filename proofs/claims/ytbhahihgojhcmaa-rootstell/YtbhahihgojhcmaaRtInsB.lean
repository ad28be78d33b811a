/-
  A root is put in among roots of the call's own: where there is room.
-/
import Derived.Test.YtbhahihgojhcmaaRtIns
namespace Go.Proofs.Ytbhahihgojhcmaa.Rt
open Go.RowKit
set_option linter.unusedVariables false

set_option maxRecDepth 100000 in
set_option maxHeartbeats 400000 in
/-- Ahead of some, where there is room. -/
theorem ins_shift (w0 w : World) (g cap i n : Nat) (cur : Array Value) (xs : List Rm.R) (r : Rm.R) (vb : Nat) (hv : Own w0 w (.slice (some ⟨g, 0, none⟩) n cap) xs) (hn : xs.length = n)
    (hg : w.heap[g]? = some (.cells cur 34 (0, 0))) (hgb : w0.heap.size ≤ g) (hcs : cur.size = cap * 3) (hcm : cap ≤ maxLen) (ht : cur.toList.take (n * 3) = rcs xs) (hr : In r) (hb : Rb w vb r) (hne : vb ≠ g) (hi : i < n) (hroom : n + 1 ≤ cap) :
    Calls Try.prog 32 #[.slice (some ⟨g, 0, none⟩) n cap, .int .i64 (i : Int), .slice (some ⟨vb, 0, none⟩) 1 1] w fun e w' => InsSays w0 w xs i r e w' := by
  unfold maxLen at hcm
  have hz : ∀ w, (Go.sizeOf 34).run Try.prog w = .ok 3 w := by
    obtain ⟨i0, h0, _, hs, _⟩ := info_parts infoR
    intro w; simp [sizeOf, typeInfo, h0, hs]
  have hov : ∀ lb cb, (callFunc 37 #[.slice (some ⟨vb, 0, none⟩) 1 1, .slice (some ⟨g, (i + 1) * 3, none⟩) lb cb]).run Try.prog w = .ok (.value (.bool false)) w := fun lb cb => by
    rw [run_callFunc_extern Try.func37 (by kernel_rfl) (by kernel_rfl) (by kernel_rfl) (e := Extern.SlicesOverlaps.overlaps #[22, 22] #[4]) (by kernel_rfl),
      Lib.run_overlaps_apart w 22 4 34 Try.underlying22 3 hz ⟨vb, 0, none⟩ ⟨g, (i + 1) * 3, none⟩ 1 1 lb cb hne 34 34 3 cur.size (by unfold World.shape?; rw [hb]; rfl) (by unfold World.shape?; rw [hg]) (by omega) (frozen_of_row w vb 0 _ _ hb) (frozen_of_row w vb 3 _ _ hb)]
    rfl
  have HOV := Lib.hid hov
  have hdl : (rcs (xs.drop i)).length = (n - i) * 3 := by rw [rcs_len, List.length_drop, hn]
  have hlen : cur.toList.length = cap * 3 := by rw [Array.length_toList]; exact hcs
  have hti : cur.toList.take (i * 3) = rcs (xs.take i) := by
    rw [← rcs_take, ← ht, List.take_take, Nat.min_eq_left (by omega)]
  obtain ⟨k1, k2, k3⟩ := two_copies (C := cur.toList) (r := r) (i := i) hn (by omega) hti (by omega) rfl rfl
  obtain ⟨C1, hC1⟩ : ∃ C1, C1 = cur.toList.take ((i + 1) * 3) ++ rcs (xs.drop i) ++ cur.toList.drop ((i + 1) * 3 + (rcs (xs.drop i)).length) := ⟨_, rfl⟩
  rw [← hC1] at k1 k2 k3
  obtain ⟨C2, hC2⟩ : ∃ C2, C2 = C1.take (i * 3) ++ rc r ++ C1.drop (i * 3 + (rc r).length) := ⟨_, rfl⟩
  rw [← hC2] at k2 k3
  have cp1 := Lib.hid (fun ty dc sc => run_copy_rows w.drew ty g ((i + 1) * 3) (n - i) dc ⟨g, i * 3, none⟩ (n + 1 - i) sc cur 34 (rcs (xs.drop i)) hg
    (by show _ = min (n + 1 - i) (n - i) * 3; rw [hdl, Nat.min_eq_right (by omega)])
    (fun j u hu => by
      rw [Addr.add_lit]
      have := cut3 hn ht hi j u hu
      refine (cell_of_row w g _ _ _ (0, 0) hg).trans ?_
      rw [← Array.getElem?_toList]; exact this)
    (by rw [hdl, hcs]; omega) (rcs_cell _))
  rw [← hC1] at cp1
  have g1 : (w.drew.setRow g C1.toArray).heap[g]? = some (.cells C1.toArray 34 (0, 0)) := setRow_heap w.drew g cur _ _ _ hg
  have b1 : ∀ j u, (rc r)[j]? = some u → (w.drew.setRow g C1.toArray).cell? ⟨vb, j, none⟩ = some u := by
    intro j u hu
    rw [cell_setRow_other _ _ _ _ (by exact hne)]
    refine (cell_of_row w vb j _ _ (0, 0) hb).trans ?_
    simpa [rc] using hu
  have cp2 := Lib.hid (fun ty dc => run_copy_rows (w.drew.setRow g C1.toArray) ty g (i * 3) (n + 1 - i) dc ⟨vb, 0, none⟩ 1 1 C1.toArray 34 (rc r) g1
    (by show _ = min 1 (n + 1 - i) * 3; rw [Nat.min_eq_left (by omega)]; rfl)
    (fun j u hu => by rw [Addr.add_lit, Nat.zero_add]; exact b1 j u hu)
    (by show i * 3 + 3 ≤ C1.toArray.size; rw [List.size_toArray, k1, hlen]; omega) (fun u hu => rcs_cell [r] u (by rw [rcs_one]; exact hu)))
  rw [show C1.toArray.toList = C1 from rfl, ← hC2] at cp2
  have fin : InsSays w0 w xs i r (.returned (.slice (some ⟨g, 0, none⟩) (n + 1) cap)) ((w.drew.setRow g C1.toArray).setRow g C2.toArray) := by
    refine ⟨⟨_, cap, by rw [hn], ?_⟩, below_setRow (below_setRow hv.bel.drew hgb _) hgb _⟩
    have g2 := setRow_heap (w.drew.setRow g C1.toArray) g _ C2.toArray _ _ g1
    rw [hn]
    exact rs_of_block g2 (by simp; omega) hroom (by unfold maxLen; omega) (by rw [List.size_toArray, k2, hlen]; omega) k3 (ins_all hv.all hr)
  have HF := Lib.hid fin
  generalize w.drew.setRow g C1.toArray = W1 at *
  clear fin b1 g1 k1 k2 k3 hC1 hC2 hti ht hv hb hg hov
  go_enter Try.func32, Try.ntmps32
  have hw1 : IntKind.i64.wrap ((i : Int) + 1) = (i : Int) + 1 := by rw [IntKind.wrap_i64]; omega
  have hb1 : (0 : Int) ≤ (i : Int) + 1 := by omega
  have htn : ((i : Int) + 1).toNat = i + 1 := by omega
  have hb2 : ¬ (cap = i + 1) := by omega
  have hb3 : (i : Int) + 1 ≤ (n : Int) + 1 := by omega
  have hb4 : ¬ (cap = i) := by omega
  have hb5 : (i : Int) ≤ (n : Int) + 1 := by omega
  go_wp2_with (simp only [HOV.out])
  go_region_law (refine step_copy_ran rfl _ _ 22 22 rfl (.slice (some ⟨g, (i + 1) * 3, none⟩) (n - i) (cap - (i + 1))) (.slice (some ⟨g, i * 3, none⟩) (n + 1 - i) (cap - i)) (by simp [Act.eval, Act.put]) (by simp [Act.eval, Act.put]) (cp1.out _ _ _) ?_)
  go_wp2_with (simp only [cp2.out])
  go_ret
  exact HF.out

end Go.Proofs.Ytbhahihgojhcmaa.Rt
