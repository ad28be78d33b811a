/-
  The program's disk: Waiting, New.
-/
import Derived.Test.YtcpgmglpgffhdaaDkCrash
namespace Go.Proofs.Ytcpgmglpgffhdaa
open Go.RowKit
set_option linter.unusedVariables false

/-- Numbers as values. -/
def nv (l : List Nat) : List Value := l.map fun (n : Nat) => Value.int .i64 (n : Int)
theorem nv_snoc (l : List Nat) (n : Nat) : nv (l ++ [n]) = nv l ++ [.int .i64 (n : Int)] := by simp [nv]
theorem nv_len (l : List Nat) : (nv l).length = l.length := by simp [nv]
theorem Try.info3 : (Try.prog.info? 3).map (fun i => (i.zero, i.size, i.bytes)) = some (some (.int .i64 0), 1, 8) := by kernel_rfl
/-- The numbers of the writes that wait. -/
def Dk.nos (d : Dk.Pd) : List Nat := d.waits.map fun x => x.1
theorem nos_len (d : Dk.Pd) : (Dk.nos d).length = d.waits.length := by simp [Dk.nos]
theorem nos_step {d : Dk.Pd} {k no : Nat} {l : List Nat} (h : d.waits[k]? = some (no, l)) : (Dk.nos d).take (k + 1) = (Dk.nos d).take k ++ [no] := by
  rw [List.take_add_one]; simp [Dk.nos, h]
theorem Rd.of_own {w : World} {base e n : Nat} {v : Value} {l : List Value} (h : w.ownsRow base e 1 v n l) : ∃ A c, v = .slice A n c ∧ Rd w A n c l := by
  have hl : l.length = n := by have := h.1; omega
  rcases h.2 with ⟨hv, h0⟩ | ⟨g, cap, cur, hv, _, hg, hnc, hcm, _, _⟩
  · subst h0
    exact ⟨none, 0, hv, hl, Nat.le_refl _, Nat.zero_le _, fun h => absurd h (by omega)⟩
  · refine ⟨_, _, hv, hl, hnc, hcm, fun _ => ⟨g, 0, rfl, ?_, fun j x hx => ?_⟩⟩
    · rcases Nat.lt_or_ge g w.heap.size with hlt | hge
      · exact hlt
      · rw [Array.getElem?_eq_none hge] at hg; cases hg
    · have := h.cells (g := g) (by rw [hv]; rfl) j x hx
      by_cases hj : j = 0
      · subst hj; simpa [Addr.add] using this
      · simpa [Addr.add, hj] using this


theorem Try.info25 : (Try.prog.info? 25).map (fun i => (i.zero, i.size, i.bytes)) = some (some (.slice none 0 0), 1, 24) := by kernel_rfl
theorem fresh_len (n : Nat) : (Dk.fresh n).pages.length = n := List.length_replicate
theorem nils_along (w : World) (n : Nat) : Along (SfV w) (List.replicate n (.slice none 0 0)) (Dk.fresh n).pages := by
  refine ⟨by rw [fresh_len, List.length_replicate], fun i x y hx hy => ?_⟩
  have h1 := List.eq_of_mem_replicate (List.mem_of_getElem? hx)
  have h2 := List.eq_of_mem_replicate (List.mem_of_getElem? hy)
  exact .inl ⟨h1, h2⟩
/-- A disk that is made. -/
theorem made_disk {w w1 : World} {n : Nat} (hn2 : n ≤ 2048) (hown : w1.ownsRow 0 25 1 (.slice (some ⟨w.heap.size, 0, none⟩) n n) n (madeCells (Value.slice none 0 0).cells (n * 1)).toList) :
    Dsk ((w1.alloc (.map #[] 0)).alloc (.cells #[.slice (some ⟨w.heap.size, 0, none⟩) n n, .slice none 0 0, .map (some w1.heap.size), .int .i64 0, .bool false] 68)) ⟨w1.heap.size + 1, w1.heap.size, .slice (some ⟨w.heap.size, 0, none⟩) n n, .slice none 0 0⟩ (Dk.fresh n) := by
  have e : (madeCells (Value.slice none 0 0).cells (n * 1)).toList = List.replicate n (.slice none 0 0) := by
    rw [show (Value.slice none 0 0).cells = #[.slice none 0 0] from rfl, Nat.mul_one, toList_madeCells_one]
  rw [e] at hown
  have hm := World.ownsMap_made w1 Try.prog 3 hold
  have es : (w1.alloc (.map #[] 0)).heap.size = w1.heap.size + 1 := by simp
  refine ⟨?_, ⟨_, ?_, nils_along _ n⟩, ⟨[], World.ownsRow_nil _ _ _ _, Along.nil_⟩, ⟨.map [], hm.alloc _, fun _ _ => rfl, fun _ _ h => absurd h Bool.false_ne_true⟩, fun x hx => absurd hx List.not_mem_nil, by rw [fresh_len]; exact hn2, by show 0 < _; omega⟩
  · exact es ▸ heap_alloc_new (w1.alloc (.map #[] 0)) (.cells #[.slice (some ⟨w.heap.size, 0, none⟩) n n, .slice none 0 0, .map (some w1.heap.size), .int .i64 0, .bool false] 68)
  · rw [fresh_len]
    exact (hown.alloc _).alloc _

set_option maxRecDepth 100000 in
theorem newD_any (w : World) (z : Int) (n : Nat) (hn : (n : Int) = min (max z 0) 2048) :
    Calls Try.prog 16 #[.int .i64 z] w fun e w' => ∃ H : Hd, e = .returned (.pointer (some ⟨H.p, 0, none⟩)) ∧ Dsk w' H (Dk.fresh n) ∧ (∀ k, H.own k → w.heap.size ≤ k) ∧ Below w.heap.size w w' := by
  obtain ⟨i0, hi, hz0, hz1, hz2⟩ := info_parts Try.info25
  have hmm := @run_makeMap Try.prog
  have HN := Lib.hid hn
  have hn2 : n ≤ 2048 := by omega
  have fin : ∀ w1 : World, w1.ownsRow 0 25 1 (.slice (some ⟨w.heap.size, 0, none⟩) n n) n (madeCells (Value.slice none 0 0).cells (n * 1)).toList → w.grownBy w1 none →
      Hid (Dsk ((w1.alloc (.map #[] 0)).alloc (.cells #[.slice (some ⟨w.heap.size, 0, none⟩) n n, .slice none 0 0, .map (some w1.heap.size), .int .i64 0, .bool false] 68)) ⟨w1.heap.size + 1, w1.heap.size, .slice (some ⟨w.heap.size, 0, none⟩) n n, .slice none 0 0⟩ (Dk.fresh n) ∧ (∀ k, Hd.own ⟨w1.heap.size + 1, w1.heap.size, .slice (some ⟨w.heap.size, 0, none⟩) n n, .slice none 0 0⟩ k → w.heap.size ≤ k) ∧
        Below w.heap.size w ((w1.alloc (.map #[] 0)).alloc (.cells #[.slice (some ⟨w.heap.size, 0, none⟩) n n, .slice none 0 0, .map (some w1.heap.size), .int .i64 0, .bool false] 68))) := by
    intro w1 ho hg
    have hs := hg.size
    refine ⟨made_disk hn2 ho, ?_, ?_⟩
    · rintro k (rfl | rfl | hk | hk)
      · show _ ≤ w1.heap.size + 1; omega
      · exact hs
      · injection hk with hk; subst hk; exact Nat.le_refl _
      · cases hk
    · exact (((Below.refl w.heap.size w).grown hg (Nat.le_refl _) (fun k hk => by cases hk)).alloc hs _).alloc (by simp; omega) _
  have FIN := Lib.hid fin
  clear fin hn
  go_enter Try.func16, Try.ntmps16
  go_wp2_with (at_make; refine wpList_make_full _ rfl _ _ 64 rfl 0 25 i0 (.slice none 0 0) 1 Try.underlying64 hi hz0 hz1 .i64 .i64 _ _ n rfl rfl (by have := HN.out; omega) (by have := HN.out; omega) (by rw [hz2]; omega) (by unfold maxLen; omega) (Nat.zero_le _) ?_; intro w1 hown hgrow; have D1 := FIN.out w1 hown hgrow; clear hown hgrow)
  all_goals (go_ret; exact ⟨_, rfl, D1.out.1, D1.out.2.1, D1.out.2.2⟩)

end Go.Proofs.Ytcpgmglpgffhdaa
