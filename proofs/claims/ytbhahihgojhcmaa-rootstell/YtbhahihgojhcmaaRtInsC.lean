/-
  A root is put in among roots of the call's own: where there is no room.
-/
import Derived.Test.YtbhahihgojhcmaaRtInsB
namespace Go.Proofs.Ytbhahihgojhcmaa.Rt
open Go.RowKit
set_option linter.unusedVariables false

set_option maxRecDepth 100000 in
set_option maxHeartbeats 400000 in
/-- Ahead of some, where there is no room. -/
theorem ins_grow (w0 w : World) (g cap i n : Nat) (cur : Array Value) (xs : List Rm.R) (r : Rm.R) (vb : Nat) (hv : Own w0 w (.slice (some ⟨g, 0, none⟩) n cap) xs) (hn : xs.length = n)
    (hg : w.heap[g]? = some (.cells cur 34 (0, 0))) (hcs : cur.size = cap * 3) (hcm : cap ≤ maxLen) (ht : cur.toList.take (n * 3) = rcs xs) (hr : In r) (hb : Rb w vb r) (hi : i < n) (hnc : n ≤ cap) (hroom : ¬ n + 1 ≤ cap) (hm : n ≤ 1000) :
    Calls Try.prog 32 #[.slice (some ⟨g, 0, none⟩) n cap, .int .i64 (i : Int), .slice (some ⟨vb, 0, none⟩) 1 1] w fun e w' => InsSays w0 w xs i r e w' := by
  unfold maxLen at hcm
  obtain ⟨i0, hi0, hz0, hs0, hby⟩ := info_parts infoR
  have hgl : g < w.heap.size := (Array.getElem?_eq_some_iff.1 hg).1
  have hbl := hb.lt
  have hdl : (rcs (xs.drop i)).length = (n - i) * 3 := by rw [rcs_len, List.length_drop, hn]
  have hlen : cur.toList.length = cap * 3 := by rw [Array.length_toList]; exact hcs
  have hti : cur.toList.take (i * 3) = rcs (xs.take i) := by
    rw [← rcs_take, ← ht, List.take_take, Nat.min_eq_left (by omega)]
  have hold : (Builtin.firstCells i0.size i (.slice (some ⟨g, 0, none⟩) i cap)).run Try.prog w.drew = .ok (rcs (xs.take i)).toArray w.drew := by
    have hl := run_loadCells_list (P := Try.prog) w.drew ⟨g, 0, none⟩ (rcs (xs.take i)) (fun j u hu => by
      rw [Addr.add_lit, Nat.zero_add]
      refine (cell_of_row w g _ _ _ (0, 0) hg).trans ?_
      rw [← hti, List.getElem?_take] at hu
      split at hu
      · rw [← Array.getElem?_toList]; exact hu
      · cases hu)
    have e : (rcs (xs.take i)).length = i * i0.size := by rw [rcs_len, List.length_take, hs0]; omega
    rw [e] at hl
    simpa [Builtin.firstCells] using hl
  have hik : i + (n + 1 - i) = n + 1 := by omega
  have hkk : (n : Int) + 1 - (i : Int) = ((n + 1 - i : Nat) : Int) := by omega
  have hrz : ∀ ty, _ := fun ty => Lib.run_append_grow_zeros (P := Try.prog) w 22 3 ty 34 i0 _ .i64 .i64 Try.underlying22 Try.underlying3 hi0 hz0 (some ⟨g, 0, none⟩) i cap (rcs (xs.take i)) hold (n + 1 - i) (by omega) (by omega) (by omega) (by omega) (by rw [hby]; omega) (growslice_fits (by omega) (by rw [hby]; omega))
  rw [hik, ← hkk] at hrz
  obtain ⟨G, hG⟩ : ∃ G, G = grownCap w (n + 1) cap 34 := ⟨_, rfl⟩
  have hGn : n + 1 ≤ G := by rw [hG]; exact grownCap_ge w _ _ _
  have hGm : G ≤ maxLen := by rw [hG]; exact grownCap_le_maxLen w (n + 1) cap _ (by unfold maxLen; omega)
  have hGm' := hGm
  unfold maxLen at hGm'
  rw [← hG] at hrz
  obtain ⟨ROW, hROW⟩ : ∃ ROW : Array Value, ROW = (rcs (xs.take i)).toArray ++ Builtin.zeroCells (Value.agg #[.string ⟨#[]⟩, .int .i64 0, .int .i64 0]).cells (n + 1 - i) ++ Builtin.zeroCells (Value.agg #[.string ⟨#[]⟩, .int .i64 0, .int .i64 0]).cells (G - (n + 1)) := ⟨_, rfl⟩
  rw [← hROW] at hrz
  have hRs : ROW.size = G * 3 := by
    rw [hROW]
    simp [size_zeroCells, Value.cells, rcs_len]; omega
  have hRt : ROW.toList.take (i * 3) = rcs (xs.take i) := by
    have e : (rcs (xs.take i)).length = i * 3 := by rw [rcs_len, List.length_take]; omega
    rw [hROW, Array.toList_append, Array.toList_append, List.append_assoc, ← e]
    exact List.take_left
  have hRl : ROW.toList.length = G * 3 := by rw [Array.length_toList]; exact hRs
  obtain ⟨k1, k2, k3⟩ := two_copies' (C := ROW.toList) (r := r) (i := i) hn (by omega) hRt (by omega) rfl rfl
  obtain ⟨C1, hC1⟩ : ∃ C1, C1 = ROW.toList.take (i * 3) ++ rc r ++ ROW.toList.drop (i * 3 + (rc r).length) := ⟨_, rfl⟩
  rw [← hC1] at k1 k2 k3
  obtain ⟨C2, hC2⟩ : ∃ C2, C2 = C1.take ((i + 1) * 3) ++ rcs (xs.drop i) ++ C1.drop ((i + 1) * 3 + (rcs (xs.drop i)).length) := ⟨_, rfl⟩
  rw [← hC2] at k2 k3
  have h1 : (w.drew.alloc (.cells ROW 34)).heap[w.heap.size]? = some (.cells ROW 34 (0, 0)) := heap_alloc_new w.drew _
  obtain ⟨W1, hW1⟩ : ∃ W1, W1 = w.drew.alloc (.cells ROW 34) := ⟨_, rfl⟩
  rw [← hW1] at h1 hrz
  have old1 : ∀ k, k < w.heap.size → W1.heap[k]? = w.heap[k]? := fun k hk => by rw [hW1]; exact heap_alloc_old w.drew _ hk
  have cpA := Lib.hid (fun (W : World) (hW : W.heap = W1.heap) ty dc => run_copy_rows W ty w.heap.size (i * 3) (n + 1 - i) dc ⟨vb, 0, none⟩ 1 1 ROW 34 (rc r) (by rw [hW]; exact h1)
    (by show _ = min 1 (n + 1 - i) * 3; rw [Nat.min_eq_left (by omega)]; rfl)
    (fun j u hu => by
      rw [Addr.add_lit, Nat.zero_add]
      have hb' : W.heap[vb]? = some (.cells #[.string (txt r.name), .int .i64 r.page, .int .i64 r.count] 34 (0, 0)) := by rw [hW, old1 _ hbl]; exact hb
      refine (cell_of_row W vb j _ _ (0, 0) hb').trans ?_
      simpa [rc] using hu)
    (by show i * 3 + 3 ≤ ROW.size; rw [hRs]; omega) (fun u hu => rcs_cell [r] u (by rw [rcs_one]; exact hu)))
  rw [← hC1] at cpA
  have h2 : ∀ W : World, W.heap = W1.heap → (W.setRow w.heap.size C1.toArray).heap[w.heap.size]? = some (.cells C1.toArray 34 (0, 0)) := fun W hW => setRow_heap W _ _ _ _ _ (by rw [hW]; exact h1)
  have old2 : ∀ W : World, W.heap = W1.heap → ∀ k, k < w.heap.size → (W.setRow w.heap.size C1.toArray).heap[k]? = w.heap[k]? := fun W hW k hk => by rw [setRow_other _ _ _ _ (by omega), hW]; exact old1 k hk
  have cpB := Lib.hid (fun (W W' : World) (hW : W.heap = W1.heap) (hW' : W'.heap = (W.setRow w.heap.size C1.toArray).heap) ty dc sc => run_copy_rows W' ty w.heap.size ((i + 1) * 3) (n - i) dc ⟨g, i * 3, none⟩ (n - i) sc C1.toArray 34 (rcs (xs.drop i)) (by rw [hW']; exact h2 W hW)
    (by show _ = min (n - i) (n - i) * 3; rw [hdl, Nat.min_self])
    (fun j u hu => by
      rw [Addr.add_lit]
      have hg' : W'.heap[g]? = some (.cells cur 34 (0, 0)) := by rw [hW', old2 W hW _ hgl]; exact hg
      refine (cell_of_row W' g _ _ _ (0, 0) hg').trans ?_
      rw [← Array.getElem?_toList]; exact cut3 hn ht hi j u hu)
    (by rw [hdl, List.size_toArray, k1, hRl]; omega) (rcs_cell _))
  rw [show C1.toArray.toList = C1 from rfl, ← hC2] at cpB
  have fin : ∀ W : World, Below w0.heap.size w0 W → W.heap[w.heap.size]? = some (.cells C2.toArray 34 (0, 0)) → InsSays w0 w xs i r (.returned (.slice (some ⟨w.heap.size, 0, none⟩) (n + 1) G)) W := by
    intro W hB hW
    refine ⟨⟨_, G, by rw [hn], ?_⟩, hB⟩
    rw [hn]
    exact rs_of_block hW (by simp; omega) hGn hGm (by rw [List.size_toArray, k2, hRl]; omega) k3 (ins_all hv.all hr)
  have HF := Lib.hid fin
  have HB := Lib.hid hv.bel
  have H1 := Lib.hid h1
  have H2 := Lib.hid h2
  have HW1 := Lib.hid hW1
  have HRZ := Lib.hid hrz
  clear fin h1 h2 old1 old2 k1 k2 k3 hC1 hC2 hti ht hv hb hg hrz hold hW1 hROW hRs hRt hRl hG hkk hik
  go_enter Try.func32, Try.ntmps32
  have cpA1 := Lib.hid (fun ty dc => cpA.out W1 rfl ty dc)
  have cpB1 := Lib.hid (fun ty dc sc => cpB.out W1 (W1.setRow w.heap.size C1.toArray).drew rfl rfl ty dc sc)
  have hw1 : IntKind.i64.wrap ((i : Int) + 1) = (i : Int) + 1 := by rw [IntKind.wrap_i64]; omega
  have hb1 : (0 : Int) ≤ (i : Int) + 1 := by omega
  have htn : ((i : Int) + 1).toNat = i + 1 := by omega
  have hG1 : ¬ (G = i + 1) := by omega
  have hG2 : ¬ (G = i) := by omega
  have hb3 : (i : Int) + 1 ≤ (n : Int) + 1 := by omega
  have hb4 : ¬ (cap = i) := by omega
  have hb5 : (i : Int) ≤ (n : Int) + 1 := by omega
  have hb6 : (i : Int) ≤ (n : Int) := by omega
  have hfin := Lib.hid (HF.out (((W1.setRow w.heap.size C1.toArray).drew).setRow w.heap.size C2.toArray) (below_setRow (below_setRow (by rw [HW1.out]; exact HB.out.drew.alloc HB.out.size _) HB.out.size _).drew HB.out.size _) (setRow_heap _ _ _ _ _ _ (H2.out W1 rfl)))
  clear cpA cpB HF H1 H2
  go_wp2_with (first
    | (at_builtin; refine Lib.wpList_append_run _ rfl _ _ _ _ rfl _ _ rfl rfl _ _ (HRZ.out _) ?_)
    | simp only [cpA1.out])
  go_region_law (refine step_copy_ran rfl _ _ 22 22 rfl (.slice (some ⟨w.heap.size, (i + 1) * 3, none⟩) (n - i) (G - (i + 1))) (.slice (some ⟨g, i * 3, none⟩) (n - i) (cap - i)) (by simp [Act.eval, Act.put]) (by simp [Act.eval, Act.put]) (cpB1.out _ _ _) ?_)
  go_wp2
  go_ret
  exact hfin.out

set_option maxRecDepth 100000 in
/-- slices.Insert, whatever road it takes. -/
theorem insert_any (w0 w : World) (v : Value) (i : Nat) (xs : List Rm.R) (r : Rm.R) (vb : Nat) (hv : Own w0 w v xs) (hr : In r) (hb : Rb w vb r) (hne : v.ownBlock ≠ some vb) (hi : i ≤ xs.length) (hm : xs.length ≤ 1000) :
    Calls Try.prog 32 #[v, .int .i64 (i : Int), .slice (some ⟨vb, 0, none⟩) 1 1] w fun e w' => InsSays w0 w xs i r e w' := by
  by_cases he : i = xs.length
  · subst he
    exact ins_end w0 w v xs r vb hv hr (by
      refine ⟨rfl, Nat.le_refl _, by unfold maxLen; omega, by simpa using hr, fun _ => ⟨vb, 0, rfl, hb.lt, fun j x hx => ?_⟩⟩
      have hj : j = 0 := by have := (List.getElem?_eq_some_iff.1 hx).1; simp at this; exact this
      subst hj
      simp at hx
      subst hx
      exact hb.at_) hm
  · rcases hv.own.2 with ⟨rfl, h0⟩ | ⟨g, cap, cur, rfl, hgb, hg, hnc, hcm, hcs, ht⟩
    · omega
    · have hne' : vb ≠ g := fun e => hne (by simp [Value.ownBlock, e])
      by_cases hroom : xs.length + 1 ≤ cap
      · exact ins_shift w0 w g cap i xs.length cur xs r vb hv rfl hg hgb hcs hcm ht hr hb hne' (by omega) hroom
      · exact ins_grow w0 w g cap i xs.length cur xs r vb hv rfl hg hcs hcm ht hr hb (by omega) hnc hroom hm

end Go.Proofs.Ytbhahihgojhcmaa.Rt
