/-
  Frame (page): the page of a place.
-/
import Derived.Test.YtmcldkcmialfeaaPgCopy
import Derived.Test.YtmcldkcmialfeaaPgParts
import Derived.Test.YtmcldkcmialfeaaCrMore
namespace Go.Proofs.Ytmcldkcmialfeaa
open Go.RowKit
set_option linter.unusedVariables false

/-- The row behind each of the three copies. -/
theorem row_one (l : List Nat) (h : l.length ≤ 1016) : splice (List.replicate 1024 0) 0 l = Pg.fill l ++ List.replicate 8 0 := by
  unfold splice Pg.fill
  simp only [List.take_zero, List.nil_append, Nat.zero_add, List.drop_replicate, List.append_assoc, List.replicate_append_replicate]
  congr 2; omega
theorem row_two (l : List Nat) (no : Nat) (h : l.length ≤ 1016) : splice (Pg.fill l ++ List.replicate 8 0) 1016 (Nm.be 4 no) = Pg.ahead no l ++ List.replicate 4 0 := by
  unfold splice Pg.ahead
  have e := Pg.fill_len h
  rw [Nm.be_len, List.take_append_of_le_length (by omega), List.take_of_length_le (by omega), List.drop_append, List.drop_eq_nil_of_le (by omega), e, List.drop_replicate, List.append_assoc]
  rfl
theorem row_three (l : List Nat) (no : Nat) (h : l.length ≤ 1016) : splice (Pg.ahead no l ++ List.replicate 4 0) 1020 (Nm.be 4 (Cr.sum (Pg.ahead no l))) = Pg.page no l := by
  unfold splice Pg.page
  have e := Pg.ahead_len no h
  rw [Nm.be_len, List.take_append_of_le_length (by omega), List.take_of_length_le (by omega), List.drop_append, List.drop_eq_nil_of_le (by omega), e, List.drop_replicate]
  simp
theorem two_len (l : List Nat) (no : Nat) (h : l.length ≤ 1016) : (Pg.ahead no l ++ List.replicate 4 0).length = 1024 := by simp [Pg.ahead_len no h]
theorem two_lt {l : List Nat} (no : Nat) (h : ∀ x ∈ l, x < 256) : ∀ x ∈ Pg.ahead no l ++ List.replicate 4 0, x < 256 := by
  intro x hx
  rcases List.mem_append.1 hx with h1 | h1
  · exact Pg.ahead_lt no h x h1
  · have := List.eq_of_mem_replicate h1; omega
theorem two_ahead (l : List Nat) (no : Nat) (h : l.length ≤ 1016) : ((Pg.ahead no l ++ List.replicate 4 0).drop 0).take 1020 = Pg.ahead no l := by
  rw [List.drop_zero, List.take_append_of_le_length (by rw [Pg.ahead_len no h]; omega), List.take_of_length_le (by rw [Pg.ahead_len no h]; omega)]

theorem frame_no (w : World) (no : Int) (A : Option Addr) (n c : Nat) (hc : n ≤ 9223372036854775807) (h : ¬ ((0 ≤ no ∧ no ≤ 2147483647) ∧ n ≤ 1016)) :
    Calls Try.prog 53 #[.int .i64 no, .slice A n c] w fun e w' => e = .returned (.tuple #[.slice none 0 0, .int .i64 1]) ∧ w = w' := by
  go_enter Try.func53, Try.ntmps53
  go_wp2_with fail
  refine (mayBeNo_any _ no).mono ?_
  rintro e w1 ⟨rfl, rfl⟩
  by_cases h0 : 0 ≤ no ∧ no ≤ 2147483647
  · rw [show decide (0 ≤ no ∧ no ≤ 2147483647) = true by simpa using h0]
    have hn : (n : Int) > 1016 := by have : ¬ n ≤ 1016 := fun h' => h ⟨h0, h'⟩
                                     omega
    go_wp2
    go_ret2
    exact ⟨rfl, rfl⟩
  · rw [show decide (0 ≤ no ∧ no ≤ 2147483647) = false by simp; omega]
    go_wp2
    go_ret2
    exact ⟨rfl, rfl⟩

set_option maxRecDepth 100000 in
set_option maxHeartbeats 400000 in
theorem frame_any (w : World) (no : Nat) (A : Option Addr) (n c : Nat) (l : List Nat) (hb : Bs w A n c l) (hno : no ≤ 2147483647) (hn : n ≤ 1016) :
    Calls Try.prog 53 #[.int .i64 (no : Int), .slice A n c] w fun e w' => e = .returned (.tuple #[.slice (some ⟨w.heap.size, 0, none⟩) 1024 1024, .int .i64 0]) ∧ Row w' w.heap.size (Pg.page no l) ∧ Below w.heap.size w w' := by
  obtain ⟨i0, hi, hz0, hz1, hz2⟩ := info_parts Try.info5
  have hsz : (Try.prog.info? 5).map (·.size) = some 1 := by rw [show Try.prog.info? 5 = _ from hi]; simp [hz1]
  have hl := hb.1
  have hlt := hb.2.2.2.1
  have hln : l.length ≤ 1016 := by omega
  have F1 := Lib.hid (row_one l hln)
  have F2 := Lib.hid (row_two l no hln)
  have F3 := Lib.hid (row_three l no hln)
  have F4 := Lib.hid (two_len l no hln)
  have F5 := Lib.hid (two_lt no hlt)
  have F6 := Lib.hid (two_ahead l no hln)
  have F7 := Lib.hid (Pg.fill_len hln)
  have HL := Lib.hid hl
  have HB := Lib.hid hb
  have h32 : L32 no := by unfold L32; omega
  clear hl hlt hln hb
  go_enter Try.func53, Try.ntmps53
  go_wp2_with fail
  refine (mayBeNo_any _ no).mono ?_
  rintro e w1 ⟨rfl, rfl⟩
  rw [show decide (0 ≤ (no : Int) ∧ (no : Int) ≤ 2147483647) = true by simp; omega]
  have hn1 : ¬ (n : Int) > 1016 := by omega
  go_wp2_with (refine wpList_make_full _ rfl _ _ 22 rfl w.heap.size 5 i0 (.int .u8 0) 1 Try.underlying22 hi hz0 hz1 .i64 .i64 _ _ 1024 rfl rfl rfl rfl (by rw [hz2]; omega) (by unfold maxLen; omega) (Nat.le_refl _) ?_; intro w1 hown hgrow; rw [made_zero] at hown; have R1 := Lib.hid (Row.of_own hown); have B1 := (Below.refl w.heap.size w).grown hgrow (Nat.le_refl _) (fun k hk => by cases hk); have S1 := Lib.hid (HB.out.on B1); clear hown hgrow)
  refine (payOf_any _ _ _ _ (by omega)).mono ?_
  rintro e w2 ⟨rfl, rfl⟩
  have hmin : Hid ((bv l).length = Nat.min n 1016) := by show _ = _; rw [bv_len, HL.out]; exact (Nat.min_eq_left hn).symm
  go_wp2_with (refine wpList_copy_splice (o := ⟨some 19, _, _, _, _, _⟩) rfl (.tmp 17) (.tmp 18) 22 22 rfl 5 Try.underlying22 hsz _ _ _ _ _ _ rfl rfl w.heap.size 0 (bv (List.replicate 1024 0)) 5 R1.out (bv l) hmin.out (fun h => ⟨rfl, S1.out.src h⟩) (by simp [bv, HL.out]; omega) (bv_one l) w.heap.size w B1 (Nat.le_refl _) ?_; intro w2 HG hB)
  rw [splice_bv, F1.out] at HG
  clear R1 B1 S1 hmin
  refine (noOf_any _ _ _ _ (by omega)).mono ?_
  rintro e w3 ⟨rfl, rfl⟩
  go_wp2_with fail
  refine (put32_any _ no h32).mono ?_
  rintro e w3 ⟨A3, c3, rfl, S3, B3⟩
  have R3 : Row w3 w.heap.size (Pg.fill l ++ List.replicate 8 0) := Row.on (w := w2) HG.out B3
  have hB3 := onto hB B3
  clear HG hB B3
  go_wp2_with (refine wpList_copy_splice (o := ⟨some 25, _, _, _, _, _⟩) rfl (.tmp 21) (.tmp 24) 22 22 rfl 5 Try.underlying22 hsz _ _ _ _ _ _ rfl rfl w.heap.size 1016 (bv (Pg.fill l ++ List.replicate 8 0)) 5 R3 (bv (Nm.be 4 no)) (by rw [bv_len, Nm.be_len]; rfl) (fun h => ⟨rfl, S3.src h⟩) (by simp [bv, F7.out, Nm.be_len]) (bv_one _) w.heap.size w hB3 (Nat.le_refl _) ?_; intro w4 HG hB)
  rw [splice_bv, F2.out] at HG
  clear R3 hB3 S3
  refine (sumOf_any _ _ _ _ (by omega)).mono ?_
  rintro e w5 ⟨rfl, rfl⟩
  go_wp2_with fail
  refine (summedOf_any _ _ _ _ (by omega)).mono ?_
  rintro e w5 ⟨rfl, rfl⟩
  go_wp2_with fail
  have R4 : Row w4 w.heap.size (Pg.ahead no l ++ List.replicate 4 0) := HG.out
  have S4 := R4.part F5.out (by rw [F4.out]; unfold maxLen; omega) 0 1020 (by rw [F4.out]; omega)
  rw [F6.out] at S4
  refine (sum_any _ _ _ _ _ S4).mono ?_
  rintro e w5 ⟨rfl, B5⟩
  have R5 := R4.on B5
  have hB5 := onto hB B5
  have hs : L32 (Cr.sum (Pg.ahead no l)) := Cr.more_lt _ _
  clear S4 R4 HG hB B5
  go_wp2_with fail
  refine (put32_any _ _ hs).mono ?_
  rintro e w6 ⟨A6, c6, rfl, S6, B6⟩
  have R6 := R5.on B6
  have hB6 := onto hB5 B6
  clear R5 hB5 B6 hs
  go_wp2_with (refine wpList_copy_splice (o := ⟨some 32, _, _, _, _, _⟩) rfl (.tmp 27) (.tmp 31) 22 22 rfl 5 Try.underlying22 hsz _ _ _ _ _ _ rfl rfl w.heap.size 1020 (bv (Pg.ahead no l ++ List.replicate 4 0)) 5 R6 (bv (Nm.be 4 (Cr.sum (Pg.ahead no l)))) (by rw [bv_len, Nm.be_len]; rfl) (fun h => ⟨rfl, S6.src h⟩) (by rw [bv_len, bv_len, F4.out, Nm.be_len]; omega) (bv_one _) w.heap.size w hB6 (Nat.le_refl _) ?_; intro w7 HG hB)
  rw [splice_bv, F3.out] at HG
  go_ret2
  exact ⟨rfl, HG.out, hB⟩

end Go.Proofs.Ytmcldkcmialfeaa
