/-
  The document's Open: the bytes of which it is the page.
-/
import Derived.Test.YtcpgmglpgffhdaaPgRef
namespace Go.Proofs.Ytcpgmglpgffhdaa
open Go.RowKit
set_option linter.unusedVariables false

set_option maxRecDepth 100000 in
set_option maxHeartbeats 400000 in
theorem refOpen_any (w : World) (no : Int) (A : Option Addr) (n c : Nat) (l : List Nat) (hb : Bs w A n c l) :
    Calls Try.prog 52 #[.int .i64 no, .slice A n c] w fun e w' =>
      (Pg.Opens no l → ∃ A' c', e = .returned (.tuple #[.slice A' 1016 c', .int .i64 0]) ∧ Bs w' A' 1016 c' (l.take 1016)) ∧
      (¬ Pg.Opens no l → e = .returned (.tuple #[.slice none 0 0, .int .i64 4])) ∧ Below w.heap.size w w' := by
  by_cases hn : n = 1024
  · subst hn
    have hl := hb.1
    have hlt := hb.2.2.2.1
    have HI := Lib.hid (Pg.opens_iff (no := no) hlt hl)
    obtain ⟨b, off, rfl, _, _⟩ := hb.2.2.2.2 (by omega)
    have hc := hb.2.1
    have hcm := hb.2.2.1
    unfold maxLen at hcm
    have F := hb.first 1016 (by omega)
    have HF := Lib.hid F
    have HB := Lib.hid hb
    clear F hb hl hlt
    have c1 : (1016 : Int) ≤ (c : Int) := by omega
    go_enter Try.func52, Try.ntmps52
    go_wp2_with fail
    by_cases h0 : 0 ≤ no ∧ no ≤ 2147483647
    · obtain ⟨k, rfl⟩ := Int.eq_ofNat_of_zero_le h0.1
      refine (refFrame_any _ k _ _ _ _ (by exact HF.out) (by omega) (by omega)).mono ?_
      rintro e w1 ⟨A1, c1', rfl, S1, B1⟩
      have P1 := HB.out.on B1
      have G1 := Lib.hid (HF.out.on B1)
      go_wp2_with fail
      refine (same_any _ _ _ _ _ _ _ _ _ S1 P1).mono ?_
      rintro e w2 ⟨rfl, m, rfl⟩
      have hi := HI.out
      rw [show ((k : Int)).toNat = k from rfl] at hi
      by_cases he : Pg.page k (l.take 1016) = l
      · rw [show decide (Pg.page k (l.take 1016) = l) = true by simpa using he]
        have HO : Hid (Pg.Opens (k : Int) l) := hi.2 ⟨h0, he⟩
        have B2 := below_drewN B1 m
        have G2 := Lib.hid (G1.out.drewN m)
        clear G1 S1 P1 B1 hi
        generalize w1.drewN m = w2 at *
        obtain ⟨i0, hi, hz0, hz1, hz2⟩ := info_parts Try.info5
        have O0 : Hid ((w2.alloc (.cells #[] 5)).ownsRow w.heap.size 5 1 (.slice (some ⟨w2.heap.size, 0, none⟩) 0 0) 0 []) := World.ownsRow_made w2 #[] 0 B2.size (Nat.zero_le _) rfl
        have S0 := Lib.hid (G2.out.alloc (.cells #[] 5))
        have hsz := B2.size
        have B3 : Below w.heap.size w (w2.alloc (.cells #[] 5)) := B2.alloc hsz _
        clear G2 B2
        go_wp2_with (at_builtin; refine wpList_append_bs _ rfl _ _ 25 rfl w.heap.size 5 i0 (.int .u8 0) Try.underlying25 hi hz0 hz1 hz2 rfl _ _ _ rfl O0.out _ _ _ _ rfl S0.out (by omega) (by simp; omega) ?_; intro v4 w4 O4 g4)
        have B4 : Below w.heap.size w w4 := below_own B3 O0.out g4 (by simp; omega) (Nat.le_refl _)
        rw [Nat.zero_add, List.nil_append] at O4
        obtain ⟨A4, c4, rfl, hc4, hm4⟩ := own_form O4
        have S4 := own_bs O4 HF.out.1 HF.out.2.2.2.1
        go_ret2
        exact ⟨fun _ => ⟨_, _, rfl, S4⟩, fun h => absurd HO.out h, B4⟩
      · rw [show decide (Pg.page k (l.take 1016) = l) = false by simpa using he]
        have HO : Hid (¬ Pg.Opens (k : Int) l) := fun h => he (hi.1 h).2
        have B2 := below_drewN B1 m
        go_wp2
        go_ret2
        exact ⟨fun h => absurd h HO.out, fun _ => rfl, B2⟩
    · refine (refFrame_no _ no _ _ _ (fun h => h0 h.1)).mono ?_
      rintro e w1 ⟨rfl, rfl⟩
      have HO : Hid (¬ Pg.Opens no l) := fun h => h0 h.1
      go_wp2
      go_ret2
      exact ⟨fun h => absurd h HO.out, fun _ => rfl, Below.refl _ _⟩
  · have hne : ((n : Int) != 1024) = true := by rw [bne_iff_ne]; omega
    have HO : Hid (¬ Pg.Opens no l) := fun h => hn (by rw [← hb.1]; exact h.2.1)
    clear hb
    go_enter Try.func52, Try.ntmps52
    go_wp2
    go_ret2
    exact ⟨fun h => absurd h HO.out, fun _ => rfl, Below.refl _ _⟩

end Go.Proofs.Ytcpgmglpgffhdaa
