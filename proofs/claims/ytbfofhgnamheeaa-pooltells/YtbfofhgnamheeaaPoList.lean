/-
  List: the keys of the map, sorted; Clone.
-/
import Derived.Test.YtbfofhgnamheeaaPoRow
import Derived.Test.YtbfofhgnamheeaaPoAlloc
import Derived.Test.YtbfofhgnamheeaaLay7
namespace Go.Proofs.Ytbfofhgnamheeaa.Pq
open Go.RowKit Go.Maps Go.Sort Go.Shelf
set_option linter.unusedVariables false

theorem intKeys_md (l : List Pl.F) : intKeys (md l) = l.map (·.1) := by
  unfold md intKeys
  simp only [List.map_map]
  rfl
theorem sorted_keys {l : List Pl.F} (hr : Pl.Rises l) {ss : List Int} (h : ss.Perm (intKeys (md l))) : ss.mergeSort leI = l.map (·.1) := by
  rw [mergeSort_of_perm_i h, intKeys_md]
  refine List.mergeSort_of_pairwise (List.pairwise_map.2 (hr.imp fun {a b} h => ?_))
  simpa [leI] using Int.le_of_lt h
theorem sorts (m : Nat) : AnyZI.SortsIn Try.prog Try.laidSorted_ren Fence.wide m :=
  ⟨fun blk off cap ss W hH hblk hsz => callsIn_wide.2 (AnyM.slices_Sort_int Try.laidSort blk off cap ss W hH hblk hsz),
   fun p cap W => callsIn_wide.2 (AnyM.slices_Sort_int_none Try.laidSort p cap W)⟩
theorem keys_any (mb : Nat) (w : World) : Calls Try.prog 35 #[.map (some mb)] w fun e w' =>
    e = .returned (.func (.func 48) #[] #[.pointer (some ⟨w.heap.size, 0, none⟩)]) ∧ w' = w.alloc (.cells #[.map (some mb)] 61) :=
  (callsIn_wide (n := 5)).1 (AnyZI.keys_in Try.laidKeys Fence.wide 5 trivial rfl (some mb) w)
set_option maxHeartbeats 1000000 in
theorem sorted_any (w : World) (mb : Nat) (l : List Pl.F) (hm : Mp w mb l) (hr : Pl.Rises l) (hf : l.length ≤ 2048) :
    Calls Try.prog 34 #[.func (.func 48) #[] #[.pointer (some ⟨w.heap.size, 0, none⟩)]] (w.alloc (.cells #[.map (some mb)] 61)) fun e w' =>
      ∃ v, e = .returned v ∧ w'.ownsRow (w.alloc (.cells #[.map (some mb)] 61)).heap.size 3 1 v l.length (l.map fun f => .int .i64 f.1) ∧ Below (w.alloc (.cells #[.map (some mb)] 61)).heap.size (w.alloc (.cells #[.map (some mb)] 61)) w' := by
  have hbl := hm.lt
  have hsz := size_md l
  have hseq : SeqGives Fence.wide 2 Try.prog 48 #[.pointer (some ⟨w.heap.size, 0, none⟩)] encZ (fun ss => ss.Perm (intKeys (md l))) (Maps.size (md l)) (w.alloc (.cells #[.map (some mb)] 61)) :=
    AnyZI.keys_gives (ρ := Try.laidKeys_ren) { Try.laidKeys with } Fence.wide _ trivial rfl (by omega) w.heap.size mb l.length (md l) _ (by simp) (by simp) (by
      obtain ⟨es, clock, hb, Ft, hs, hD⟩ := hm
      exact ⟨es, clock, (Below.heap_alloc _ _ mb hbl).trans hb, Ft, hs, hD⟩)
  have cS := AnyZI.sorted_in Try.laidSorted Fence.wide 5 trivial trivial trivial trivial rfl (by omega) (sorts _) (enters_of Try.func47 (by kernel_rfl) rfl) 48 #[.pointer (some ⟨w.heap.size, 0, none⟩)] trivial (enters_of Try.func48 (by kernel_rfl) rfl) _ _ (by rw [hsz]; unfold maxLen; omega) (by rw [hsz]; omega) _ hseq
  change CallsIn _ _ Try.prog 34 _ _ _ at cS
  refine ((callsIn_wide (n := 5)).1 cS).mono ?_
  rintro e w' ⟨v, ss, rfl, hS, hrow, _, hb⟩
  refine ⟨v, rfl, ?_, hb⟩
  have e1 := sorted_keys hr hS
  have e2 : ss.length = l.length := by rw [hS.length_eq, intKeys_md, List.length_map]
  change World.ownsRow _ _ _ _ _ _ ((ss.mergeSort leI).map encZ) at hrow
  rw [e1, e2, List.map_map] at hrow
  exact hrow

end Go.Proofs.Ytbfofhgnamheeaa.Pq
