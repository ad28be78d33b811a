/-
  Find.
-/
import Derived.Test.YtbhahihgojhcmaaRtFind
namespace Go.Proofs.Ytbhahihgojhcmaa.Rt
open Go.RowKit
set_option linter.unusedVariables false

def r0 : Rm.R := ⟨[], 0, 0⟩
theorem txt_nil : txt [] = ⟨#[]⟩ := rfl
theorem in_r0 : In r0 := ⟨by simp [r0], by simp [r0], ⟨by decide, by decide⟩, ⟨by decide, by decide⟩⟩
/-- Three cells of a block, one behind the other. -/
def set3 (w : World) (g : Nat) (b0 b1 b2 : Value) : World := ((w.setCell ⟨g, 0, none⟩ b0).setCell ⟨g, 1, none⟩ b1).setCell ⟨g, 2, none⟩ b2
theorem set3_at {w : World} {g t : Nat} {a0 a1 a2 : Value} (h : w.heap[g]? = some (.cells #[a0, a1, a2] t (0, 0))) (b0 b1 b2 : Value) : (set3 w g b0 b1 b2).heap[g]? = some (.cells #[b0, b1, b2] t (0, 0)) := by
  unfold set3
  simp [World.setCell, Array.getElem?_modify, h]
theorem set3_below {B g : Nat} {w w' : World} (h : Below B w w') (hg : B ≤ g) (b0 b1 b2 : Value) : Below B w (set3 w' g b0 b1 b2) :=
  ((h.setCell (p := ⟨g, 0, none⟩) hg _).setCell (p := ⟨g, 1, none⟩) hg _).setCell (p := ⟨g, 2, none⟩) hg _
def findV (o : Option Rm.R) : Value := .tuple #[rv (o.getD r0), .bool o.isSome]
theorem find_idx : ∀ (L : List Rm.R) (nm : List Nat), Rm.find L nm = L[idx (fun x => decide (x.name = nm)) L]?
  | [], nm => rfl
  | x :: t, nm => by
    have ih := find_idx t nm
    unfold Rm.find at *
    by_cases h : x.name = nm
    · rw [idx_yes (by simpa using h)]; simp [h]
    · rw [idx_no (by simpa using h)]
      simp only [h, decide_false, Bool.false_eq_true, not_false_eq_true, List.find?_cons_of_neg, ih, List.getElem?_cons_succ]

set_option maxRecDepth 100000 in
set_option maxHeartbeats 1000000 in
theorem find_any (w : World) (A : Option Addr) (n c : Nat) (L : List Rm.R) (nm : List Nat) (h : Rs w A n c L) (hn : ∀ z ∈ nm, z < 256) :
    Calls Try.prog 18 #[.slice A n c, .string (txt nm)] w fun e w' => e = .returned (findV (Rm.find L nm)) ∧ Below w.heap.size w w' := by
  have hmf : ∀ (fn : Fn) (first cap : Array Value) (w : World), (Instr.makeFunc fn first cap).run Try.prog w = .ok (.func fn first cap) w := fun _ _ _ _ => rfl
  have hl := h.1
  have hcm := h.2.2.1
  have hnc := h.2.1
  unfold maxLen at hcm
  have K1 := heap_alloc_new w (.cells #[.string (txt nm)] 9)
  have z1 : w.heap.size < (w.alloc (.cells #[.string (txt nm)] 9)).heap.size := by simp
  have B1 : Below w.heap.size w (w.alloc (.cells #[.string (txt nm)] 9)) := (Below.refl _ _).alloc (Nat.le_refl _) _
  obtain ⟨w1, hw1⟩ : ∃ w1, w1 = w.alloc (.cells #[.string (txt nm)] 9) := ⟨_, rfl⟩
  have hs1 : w1.heap.size = w.heap.size + 1 := by rw [hw1]; simp
  rw [← hw1] at K1 z1 B1
  have K2 := heap_alloc_new w1 (.cells #[.string ⟨#[]⟩, .int .i64 0, .int .i64 0] 34)
  have B2 : Below w1.heap.size w1 (w1.alloc (.cells #[.string ⟨#[]⟩, .int .i64 0, .int .i64 0] 34)) := (Below.refl _ _).alloc (Nat.le_refl _) _
  have z2 : w1.heap.size < (w1.alloc (.cells #[.string ⟨#[]⟩, .int .i64 0, .int .i64 0] 34)).heap.size := by simp
  obtain ⟨w2, hw2⟩ : ∃ w2, w2 = w1.alloc (.cells #[.string ⟨#[]⟩, .int .i64 0, .int .i64 0] 34) := ⟨_, rfl⟩
  rw [← hw2] at K2 B2 z2
  have B12 := onto B1 B2
  have K1b := (B2.block _ z1).trans K1
  have R2 := h.on B12
  have C := Lib.hid (firstF w.heap.size (fun x => decide (x.name = nm)) w2 A n c L R2 (fun W x hx hW => findIs_any W x nm w.heap.size hx hn ((hW.cell (p := ⟨w.heap.size, 0, none⟩) (by show w.heap.size < w2.heap.size; omega)).trans (cell_of_row w2 w.heap.size 0 _ _ (0, 0) K1b)) (Nat.lt_of_lt_of_le (by omega) hW.size)))
  have HF := Lib.hid (find_idx L nm)
  have hle := idx_le (fun x => decide (x.name = nm)) L
  generalize idx (fun x => decide (x.name = nm)) L = q at *
  have HR2 := Lib.hid R2
  have HK2 := Lib.hid K2
  have HB := Lib.hid B12
  generalize hO : Rm.find L nm = O at *
  have hsz : w.heap.size + 1 < w2.heap.size := by omega
  clear h K1 K1b K2 B1 B2 B12 R2 hO z1
  go_enter Try.func18, Try.ntmps18
  go_wp2_with fail
  rw [← hw1]
  try rw [← hw2]
  refine C.out.mono ?_
  rintro e w3 ⟨rfl, b3⟩
  have K3 := (b3.block _ (by omega)).trans HK2.out
  rw [hs1] at K3
  have B3 := Lib.hid (onto HB.out b3)
  have HR3 := Lib.hid (HR2.out.on b3)
  obtain ⟨p0, p1, p2⟩ : w3.cell? ⟨w.heap.size + 1, 0, none⟩ = some (.string ⟨#[]⟩) ∧ w3.cell? ⟨w.heap.size + 1, 1, none⟩ = some (.int .i64 0) ∧ w3.cell? ⟨w.heap.size + 1, 2, none⟩ = some (.int .i64 0) :=
    ⟨cell_of_row w3 _ 0 _ _ (0, 0) K3, cell_of_row w3 _ 1 _ _ (0, 0) K3, cell_of_row w3 _ 2 _ _ (0, 0) K3⟩
  have f0 := frozen_of_row w3 (w.heap.size + 1) 0 _ _ K3
  have f1 := frozen_of_row w3 (w.heap.size + 1) 1 _ _ K3
  have f2 := frozen_of_row w3 (w.heap.size + 1) 2 _ _ K3
  have HK3 := Lib.hid K3
  clear C b3 K3 HK2 HR2 HB hw1 hw2 hs1 z2
  by_cases hq : q < n
  · obtain ⟨bb, off, x, rfl, hbb, hx, hin, c0, c1, c2⟩ := HR3.out.get hq
    have hO : O = some x := by rw [HF.out, hx]
    subst hO
    have hqn : ((q : Int) == (n : Int)) = false := by simp; omega
    clear hx
    go_wp2
    have k5 := set3_at HK3.out (.string (txt x.name)) (.int .i64 x.page) (.int .i64 x.count)
    have B5 := set3_below B3.out (Nat.le_succ w.heap.size) (.string (txt x.name)) (.int .i64 x.page) (.int .i64 x.count)
    unfold set3 at k5 B5
    obtain ⟨q0, q1, q2⟩ : _ ∧ _ ∧ _ := ⟨cell_of_row _ _ 0 _ _ (0, 0) k5, cell_of_row _ _ 1 _ _ (0, 0) k5, cell_of_row _ _ 2 _ _ (0, 0) k5⟩
    simp only [List.getElem?_toArray, List.getElem?_cons_zero, List.getElem?_cons_succ] at q0 q1 q2
    refine bodyPost_ret (v := .tuple #[rv x, .bool true]) (by simp [results, Try.results18, go_sem, rv, q0, q1, q2]) rfl ⟨rfl, B5⟩
  · have hqe : q = n := by omega
    have hO : O = none := by rw [HF.out, List.getElem?_eq_none (by omega)]
    subst hO hqe
    go_wp2
    have k5 := set3_at HK3.out (.string ⟨#[]⟩) (.int .i64 0) (.int .i64 0)
    have B5 := set3_below B3.out (Nat.le_succ w.heap.size) (.string ⟨#[]⟩) (.int .i64 0) (.int .i64 0)
    unfold set3 at k5 B5
    obtain ⟨q0, q1, q2⟩ : _ ∧ _ ∧ _ := ⟨cell_of_row _ _ 0 _ _ (0, 0) k5, cell_of_row _ _ 1 _ _ (0, 0) k5, cell_of_row _ _ 2 _ _ (0, 0) k5⟩
    simp only [List.getElem?_toArray, List.getElem?_cons_zero, List.getElem?_cons_succ] at q0 q1 q2
    refine bodyPost_ret (v := .tuple #[rv r0, .bool false]) (by simp [results, Try.results18, go_sem, rv, r0, txt_nil, q0, q1, q2]) rfl ⟨rfl, B5⟩

end Go.Proofs.Ytbhahihgojhcmaa.Rt
