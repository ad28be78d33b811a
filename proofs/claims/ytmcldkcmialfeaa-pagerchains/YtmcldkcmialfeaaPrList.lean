/-
  The program's pager: Fresh (the keys of the map, sorted).
-/
import Derived.Test.YtmcldkcmialfeaaPrNew
import Derived.Test.YtmcldkcmialfeaaLay7
namespace Go.Proofs.Ytmcldkcmialfeaa.Pr
open Go.RowKit Go.Maps Go.Sort Go.Shelf
set_option linter.unusedVariables false

theorem intKeys_mh (l : List (F Value)) : intKeys (mh l) = l.map (·.1) := by
  unfold mh intKeys
  simp only [List.map_map]
  rfl
theorem sorted_keys {l : List (F Value)} (hr : Rises l) {ss : List Int} (h : ss.Perm (intKeys (mh l))) : ss.mergeSort leI = l.map (·.1) := by
  rw [mergeSort_of_perm_i h, intKeys_mh]
  refine List.mergeSort_of_pairwise (List.pairwise_map.2 (hr.imp fun {a b} h => ?_))
  simpa [leI] using Int.le_of_lt h
theorem sorts (m : Nat) : AnyZI.SortsIn Try.prog Try.laidSorted_ren Fence.wide m :=
  ⟨fun blk off cap ss W hH hblk hsz => callsIn_wide.2 (AnyM.slices_Sort_int Try.laidSort blk off cap ss W hH hblk hsz),
   fun p cap W => callsIn_wide.2 (AnyM.slices_Sort_int_none Try.laidSort p cap W)⟩
theorem keys_any (fb : Nat) (w : World) : Calls Try.prog 32 #[.map (some fb)] w fun e w' =>
    e = .returned (.func (.func 48) #[] #[.pointer (some ⟨w.heap.size, 0, none⟩)]) ∧ w' = w.alloc (.cells #[.map (some fb)] 62) :=
  (callsIn_wide (n := 5)).1 (AnyZI.keys_in Try.laidKeysB Fence.wide 5 trivial rfl (some fb) w)
set_option maxHeartbeats 1000000 in
theorem sorted_any (w : World) (fb : Nat) (vs : List (F Value)) (hm : w.ownsMap Try.prog 3 hold fb vs.length (mh vs)) (hr : Rises vs) (hf : vs.length ≤ 2048) :
    Calls Try.prog 31 #[.func (.func 48) #[] #[.pointer (some ⟨w.heap.size, 0, none⟩)]] (w.alloc (.cells #[.map (some fb)] 62)) fun e w' =>
      ∃ v, e = .returned v ∧ w'.ownsRow (w.alloc (.cells #[.map (some fb)] 62)).heap.size 3 1 v vs.length (vs.map fun f => .int .i64 f.1) ∧ Below (w.alloc (.cells #[.map (some fb)] 62)).heap.size (w.alloc (.cells #[.map (some fb)] 62)) w' := by
  have hbl := World.ownsMap.lt hm
  have hsz := size_mh vs
  have hseq : SeqGives Fence.wide 2 Try.prog 48 #[.pointer (some ⟨w.heap.size, 0, none⟩)] encZ (fun ss => ss.Perm (intKeys (mh vs))) (Maps.size (mh vs)) (w.alloc (.cells #[.map (some fb)] 62)) :=
    AnyZI.keys_gives (ρ := Try.laidKeysB_ren) { Try.laidKeysB with } Fence.wide _ trivial rfl (by omega) w.heap.size fb vs.length (mh vs) _ (by simp) (by simp) (by
      obtain ⟨es, clock, hb, Ft, hs, hD⟩ := hm
      exact ⟨es, clock, (Below.heap_alloc _ _ fb hbl).trans hb, Ft, hs, hD⟩)
  have cS := AnyZI.sorted_in Try.laidSorted Fence.wide 5 trivial trivial trivial trivial rfl (by omega) (sorts _) (enters_of Try.func47 (by kernel_rfl) rfl) 48 #[.pointer (some ⟨w.heap.size, 0, none⟩)] trivial (enters_of Try.func48 (by kernel_rfl) rfl) _ _ (by rw [hsz]; unfold maxLen; omega) (by rw [hsz]; omega) _ hseq
  change CallsIn _ _ Try.prog 31 _ _ _ at cS
  refine ((callsIn_wide (n := 5)).1 cS).mono ?_
  rintro e w' ⟨v, ss, rfl, hS, hrow, _, hb⟩
  refine ⟨v, rfl, ?_, hb⟩
  have e1 := sorted_keys hr hS
  have e2 : ss.length = vs.length := by rw [hS.length_eq, intKeys_mh, List.length_map]
  change World.ownsRow _ _ _ _ _ _ ((ss.mergeSort leI).map encZ) at hrow
  rw [e1, e2, List.map_map] at hrow
  exact hrow

/-- The fresh pages' numbers, as cells. -/
def kc (l : List (F (List Nat))) : List Value := l.map fun f => .int .i64 f.1
theorem own_low {w : World} {base base' e size n : Nat} {v : Value} {xs : List Value} (h : w.ownsRow base e size v n xs) (hb : base' ≤ base) : w.ownsRow base' e size v n xs := by
  refine ⟨h.1, ?_⟩
  rcases h.2 with h0 | ⟨g, cap, cur, hv, hg, r⟩
  · exact .inl h0
  · exact .inr ⟨g, cap, cur, hv, Nat.le_trans hb hg, r⟩
theorem fresh_any (w : World) (G : Gh) (a : Pa) (h : Pgr w G a) :
    Calls Try.prog 12 #[.pointer (some ⟨G.x, 0, none⟩)] w fun e w' => ∃ v, e = .returned v ∧ w'.ownsRow w.heap.size 3 1 v a.l.length (kc a.l) ∧ Below w.heap.size w w' := by
  obtain ⟨vs, hm⟩ := h.fresh
  have hfew := few h.ok
  have hvl := hm.says.len
  have c4 := h.str.c4
  have CK := Lib.hid (keys_any G.fb w)
  have CS := Lib.hid (sorted_any w G.fb vs hm.map hm.says.rv (by omega))
  have e1 : vs.map (fun f => Value.int .i64 f.1) = kc a.l := by
    have := congrArg (List.map fun z => Value.int .i64 z) hm.says.keys
    rw [List.map_map, List.map_map] at this
    exact this
  rw [e1, hvl] at CS
  clear h hm hvl e1
  go_enter Try.func12, Try.ntmps12
  go_wp2_with fail
  refine CK.out.mono ?_
  rintro e w1 ⟨rfl, rfl⟩
  go_wp2_with fail
  refine CS.out.mono ?_
  rintro e w2 ⟨v, rfl, hS, hB⟩
  have RS := Lib.hid (And.intro (own_low (base' := w.heap.size) hS (by simp)) (((Below.refl w.heap.size w).alloc (Nat.le_refl _) (.cells #[.map (some G.fb)] 62)).trans (hB.mono (by simp))))
  clear hS hB CS CK
  go_wp2
  go_ret
  exact ⟨v, rfl, RS.out⟩

end Go.Proofs.Ytmcldkcmialfeaa.Pr
