/-
  Pieces; what the document's example answers.
-/
import Derived.Test.YtbfofhgnamheeaaPoNew
import Derived.Test.YtbfofhgnamheeaaPlPay
namespace Go.Proofs.Ytbfofhgnamheeaa.Pq
open Go.RowKit
set_option linter.unusedVariables false

theorem pieces_any (w : World) (z : Int) (hz : I64 z) :
    Calls Try.prog 25 #[.int .i64 z] w fun e w' => e = .returned (.int .i64 (Pl.pieces z)) ∧ w = w' := by
  unfold I64 at hz
  obtain ⟨hz1, hz2⟩ := hz
  by_cases h : z < 1
  · have e : Pl.pieces z = 1 := if_pos h
    rw [e]
    clear e
    go_enter Try.func25, Try.ntmps25
    go_wp2
    go_ret
    exact ⟨rfl, rfl⟩
  · have e : Pl.pieces z = (z - 1) / 84 + 1 := if_neg h
    have h1 : IntKind.i64.wrap (z - 1) = z - 1 := IntWalk.i64_in _ ⟨by omega, by omega⟩
    have h2 : Int.tdiv (z - 1) 84 = (z - 1) / 84 := Int.tdiv_eq_ediv_of_nonneg (by omega)
    have h3 : IntKind.i64.wrap ((z - 1) / 84) = (z - 1) / 84 := IntWalk.i64_in _ ⟨by omega, by omega⟩
    have h4 : IntKind.i64.wrap ((z - 1) / 84 + 1) = (z - 1) / 84 + 1 := IntWalk.i64_in _ ⟨by omega, by omega⟩
    rw [e]
    clear e
    go_enter Try.func25, Try.ntmps25
    go_wp2
    go_ret
    exact ⟨rfl, rfl⟩

def d0 : Pl.Pd := ⟨5, 4, [(2, 7), (3, 9)]⟩
theorem new0 : newOf 5 4 [(3, 9), (2, 7)] = some d0 := rfl
theorem two_row (w : World) : Fs (w.alloc (.cells #[.int .i64 3, .int .u64 9, .int .i64 2, .int .u64 7] 57)) (some ⟨w.heap.size, 0, none⟩) 2 2 [(3, 9), (2, 7)] := by
  have hn := heap_alloc_new w (.cells #[.int .i64 3, .int .u64 9, .int .i64 2, .int .u64 7] 57)
  refine ⟨rfl, Nat.le_refl _, by unfold maxLen; omega, ?_, fun _ => ⟨w.heap.size, 0, rfl, by simp, fun j x hx => ?_⟩⟩
  · intro f hf
    simp at hf
    rcases hf with rfl | rfl <;> (unfold In I64; simp)
  · have c0 := cell_of_row _ _ 0 _ _ (0, 0) hn
    have c1 := cell_of_row _ _ 1 _ _ (0, 0) hn
    have c2 := cell_of_row _ _ 2 _ _ (0, 0) hn
    have c3 := cell_of_row _ _ 3 _ _ (0, 0) hn
    have hj : j < 2 := by have := (List.getElem?_eq_some_iff.1 hx).1; simpa using this
    rcases (by omega : j = 0 ∨ j = 1) with rfl | rfl
    · simp at hx; subst hx
      simp only [Nat.zero_mul, Nat.add_zero, Nat.zero_add]
      rw [c0, c1]; exact ⟨rfl, rfl⟩
    · simp at hx; subst hx
      simp only [Nat.one_mul, Nat.zero_add, Nat.reduceAdd]
      rw [c2, c3]; exact ⟨rfl, rfl⟩

set_option maxRecDepth 100000 in
theorem awake_any (w : World) : Calls Try.prog 9 #[] w fun e w' => e = .returned (.bool true) ∧ Below w.heap.size w w' := by
  have C0 := Lib.hid (new_any _ 5 4 _ 2 2 [(3, 9), (2, 7)] (two_row w) (by unfold I64; omega) (by omega))
  rw [new0] at C0
  have CP := Lib.hid (fun W => pieces_any W 85 (by unfold I64; omega))
  have BA := Lib.hid ((Below.refl _ w).alloc (Nat.le_refl _) (.cells #[.int .i64 3, .int .u64 9, .int .i64 2, .int .u64 7] 57))
  go_enter Try.func9, Try.ntmps9
  go_wp2_with fail
  refine C0.out.mono ?_
  rintro e w1 ⟨p, mb, rfl, hP, B1⟩
  obtain ⟨hP, hp, hm⟩ := hP d0 rfl
  simp only [newV]
  have HB1 : Hid (Below w.heap.size w w1) := BA.out.trans (B1.mono (by simp))
  have hsz : w.heap.size ≤ p ∧ w.heap.size ≤ mb := by simp at hp hm; omega
  have HS := Lib.hid hsz
  have A1 := Lib.hid (alloc_any w1 p mb d0 8 hP)
  rw [show Pl.allocNo d0 8 = 2 from rfl, show Pl.allocCode d0 8 = 0 from rfl, show Pl.alloc d0 8 = ⟨5, 4, [(3, 9)]⟩ from rfl] at A1
  clear hP hp hm hsz B1 BA C0
  go_wp2_with fail
  refine A1.out.mono ?_
  rintro e w2 ⟨rfl, hP, o2⟩
  have A2 := Lib.hid (alloc_any w2 p mb _ 8 hP)
  rw [show Pl.allocNo ⟨5, 4, [(3, 9)]⟩ 8 = 4 from rfl, show Pl.allocCode ⟨5, 4, [(3, 9)]⟩ 8 = 0 from rfl, show Pl.alloc ⟨5, 4, [(3, 9)]⟩ 8 = ⟨5, 5, [(3, 9)]⟩ from rfl] at A2
  have O2 := Lib.hid o2
  clear hP o2 A1
  go_wp2_with fail
  refine A2.out.mono ?_
  rintro e w3 ⟨rfl, hP, o3⟩
  have A3 := Lib.hid (alloc_any w3 p mb _ 8 hP)
  rw [show Pl.allocNo ⟨5, 5, [(3, 9)]⟩ 8 = 0 from rfl, show Pl.allocCode ⟨5, 5, [(3, 9)]⟩ 8 = 2 from rfl, show Pl.alloc ⟨5, 5, [(3, 9)]⟩ 8 = ⟨5, 5, [(3, 9)]⟩ from rfl] at A3
  have O3 := Lib.hid (O2.out.trans o3)
  clear hP o3 A2 O2
  go_wp2_with fail
  refine A3.out.mono ?_
  rintro e w4 ⟨rfl, hP, o4⟩
  have A4 := Lib.hid (alloc_any w4 p mb _ 9 hP)
  rw [show Pl.allocNo ⟨5, 5, [(3, 9)]⟩ 9 = 3 from rfl, show Pl.allocCode ⟨5, 5, [(3, 9)]⟩ 9 = 0 from rfl] at A4
  have O4 := Lib.hid (O3.out.trans o4)
  clear hP o4 A3 O3
  go_wp2_with fail
  refine A4.out.mono ?_
  rintro e w5 ⟨rfl, hP, o5⟩
  have O5 := Lib.hid (O4.out.trans o5)
  clear hP o5 A4 O4
  go_wp2_with fail
  refine (CP.out _).mono ?_
  rintro e w6 ⟨rfl, rfl⟩
  rw [show Pl.pieces 85 = 2 from rfl]
  go_wp2
  go_ret
  exact ⟨rfl, HB1.out.trans (O5.out.below (B := w.heap.size) (by have := HS.out; rintro k (rfl | rfl) <;> omega) HB1.out.size)⟩

end Go.Proofs.Ytbfofhgnamheeaa.Pq
