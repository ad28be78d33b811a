/-
  The document's metas: Pay.
-/
import Derived.Test.YtcpgmglpgffhdaaMtRef
import Derived.Test.YtcpgmglpgffhdaaMtApp
import Derived.Lib.SlBytesConst
import Derived.Test.YtcpgmglpgffhdaaPgRef
namespace Go.Proofs.Ytcpgmglpgffhdaa
open Go.RowKit
set_option linter.unusedVariables false

theorem own_le {w : World} {base base' e size n : Nat} {v : Value} {xs : List Value} (h : w.ownsRow base' e size v n xs) (hb : base ≤ base') : w.ownsRow base e size v n xs := by
  refine ⟨h.1, ?_⟩
  rcases h.2 with h0 | ⟨g, cap, cur, hv, hg, hr⟩
  · exact .inl h0
  · exact .inr ⟨g, cap, cur, hv, Nat.le_trans hb hg, hr⟩
/-- The cells of a meta. -/
theorem mt_cells {w : World} {g : Nat} {a0 a1 a2 a3 : Value} (h : w.heap[g]? = some (.cells #[a0, a1, a2, a3] 24 (0, 0))) : w.cell? ⟨g, 0, none⟩ = some a0 ∧ w.cell? ⟨g, 1, none⟩ = some a1 ∧ w.cell? ⟨g, 2, none⟩ = some a2 ∧ w.cell? ⟨g, 3, none⟩ = some a3 :=
  ⟨cell_of_row w _ 0 _ _ (0, 0) h, cell_of_row w _ 1 _ _ (0, 0) h, cell_of_row w _ 2 _ _ (0, 0) h, cell_of_row w _ 3 _ _ (0, 0) h⟩
theorem Bs.some_ {w : World} {A : Option Addr} {n c : Nat} {l : List Nat} (h : Bs w A n c l) (hn : 0 < n) : ∃ b off, A = some ⟨b, off, none⟩ := by
  obtain ⟨b, off, e, _⟩ := h.2.2.2.2 hn
  exact ⟨b, off, e⟩
theorem camb_bs (w : World) : Bs (w.alloc (.cells #[.int .u8 67, .int .u8 65, .int .u8 77, .int .u8 66] 5 (4, 5))) (some ⟨w.heap.size, 0, none⟩) 4 4 [67, 65, 77, 66] := by
  refine ⟨rfl, Nat.le_refl _, by unfold maxLen; omega, by simp, fun _ => ⟨w.heap.size, 0, rfl, by simp, fun j x hx => ?_⟩⟩
  rw [Nat.zero_add, cell_of_row _ _ j _ _ (4, 5) (heap_alloc_new w _)]
  match j, hx with
  | 0, hx => injection hx with hx; subst hx; rfl
  | 1, hx => injection hx with hx; subst hx; rfl
  | 2, hx => injection hx with hx; subst hx; rfl
  | 3, hx => injection hx with hx; subst hx; rfl
theorem tail4 {w : World} {b off c v : Nat} (h : Bs w (some ⟨b, off, none⟩) 8 c (Nm.be 8 v)) : Bs w (some ⟨b, off + 4, none⟩) 4 (c - 4) (Nm.be 4 v) := by
  have := h.cut_far 4 (by omega)
  rwa [be_drop] at this

set_option maxRecDepth 100000 in
set_option maxHeartbeats 1000000 in
theorem refPay_yes (w : World) (m : Mt.M) (h : Mt.May m) :
    Calls Try.prog 13 #[mv m] w fun e w' => ∃ A c, e = .returned (.slice A 24 c) ∧ w'.ownsRow w.heap.size 5 1 (.slice A 24 c) 24 (bv (Mt.pay m)) ∧ Below w.heap.size w w' := by
  obtain ⟨i0, hi, hz0, hz1, hz2⟩ := info_parts Try.info5
  have hM := Lib.hid (fun W => refMay_any W m)
  rw [decide_eq_true h] at hM
  have kc := fun (w : World) (C : Array Value) (n c : Nat) => Lib.run_convert_bytes_const (P := Try.prog) w 25 5 C n c Try.underlying25 Try.underlying5
  obtain ⟨g, hi', ro, fr⟩ := m
  obtain ⟨⟨g1, g2⟩, ⟨h1, h2⟩, r, f⟩ := h
  simp only at g1 g2 h1 h2 r f
  have r' : 0 ≤ ro ∧ ro < 2048 := by rcases r with r | r <;> omega
  have f' : 0 ≤ fr ∧ fr < 2048 := by rcases f with f | f <;> omega
  obtain ⟨hh, rfl⟩ : ∃ k : Nat, hi' = (k : Int) := ⟨hi'.toNat, by omega⟩
  obtain ⟨rr, rfl⟩ : ∃ k : Nat, ro = (k : Int) := ⟨ro.toNat, by omega⟩
  obtain ⟨ff, rfl⟩ : ∃ k : Nat, fr = (k : Int) := ⟨fr.toNat, by omega⟩
  clear r f
  unfold mv at *
  simp only at *
  go_enter Try.func13, Try.ntmps13
  go_wp2_with fail
  refine (hM.out _).mono ?_
  rintro e w1 ⟨rfl, B1⟩
  have kb1 : w1.heap[w.heap.size]? = some (.cells #[.int .u64 (g : Int), .int .i64 (hh : Int), .int .i64 (rr : Int), .int .i64 (ff : Int)] 24 (0, 0)) := (B1.block w.heap.size (by simp)).trans (heap_alloc_new w _)
  have HW1 : Hid (w.heap.size < w1.heap.size) := by have := B1.size; simp at this; exact this
  have BW := Lib.hid (((Below.refl w.heap.size w).alloc (Nat.le_refl _) (.cells #[.int .u64 (g : Int), .int .i64 (hh : Int), .int .i64 (rr : Int), .int .i64 (ff : Int)] 24)).trans (B1.mono (by simp)))
  have kb2 := (((Below.refl w1.heap.size w1).alloc (Nat.le_refl _) (.cells #[.int .u8 67, .int .u8 65, .int .u8 77, .int .u8 66] 5 (4, 5))).block _ HW1.out).trans kb1
  have S2 := Lib.hid (camb_bs w1)
  obtain ⟨c0, c1, c2, c3⟩ := mt_cells kb2
  have wr1 : IntKind.u64.wrap (hh : Int) = (hh : Int) := IntWalk.u64_in _ ⟨by omega, by omega⟩
  have wr2 : IntKind.u64.wrap (rr : Int) = (rr : Int) := IntWalk.u64_in _ ⟨by omega, by omega⟩
  have wr3 : IntKind.u64.wrap (ff : Int) = (ff : Int) := IntWalk.u64_in _ ⟨by omega, by omega⟩
  clear B1 kb1
  go_wp2_with fail
  refine (refKey_any _ g (by unfold L64; omega)).mono ?_
  rintro e w3 ⟨A3, k3, rfl, s3, B3⟩
  obtain ⟨b3, o3, rfl⟩ := s3.some_ (by omega)
  have kb3 := (B3.block _ (Array.getElem?_eq_some_iff.1 kb2).1).trans kb2
  have S3 := Lib.hid s3
  have S2' := Lib.hid (S2.out.on B3)
  have HB3 := Lib.hid B3
  have W13 : Hid (w1.heap.size ≤ w3.heap.size) := by have := B3.size; simp at this; show _ ≤ _; omega
  clear s3 B3 c0 c1 c2 c3 S2 kb2
  go_wp2_with (at_builtin; refine wpList_append_new _ rfl _ _ 25 rfl 5 i0 (.int .u8 0) Try.underlying25 hi hz0 hz1 hz2 rfl w1.heap.size 0 4 4 [67, 65, 77, 66] rfl S2'.out b3 o3 8 k3 (Nm.be 8 g) rfl S3.out (by omega) (by omega) ?_; intro cap4 w4 O4 B4; have kb4 := (B4.block _ (Array.getElem?_eq_some_iff.1 kb3).1).trans kb3; have R4 := Lib.hid (onto (onto ((Below.refl w1.heap.size w1).alloc (Nat.le_refl _) _) HB3.out) B4); obtain ⟨d0, d1, d2, d3⟩ := mt_cells kb4)
  have W34 : Hid (w3.heap.size ≤ w4.heap.size) := B4.size
  refine (refKey_any w4 hh (by unfold L64; omega)).mono ?_
  rintro e w5 ⟨A4, k4, rfl, s4, B4⟩
  obtain ⟨b4, o4, rfl⟩ := s4.some_ (by omega)
  have kb5 := (B4.block _ (Array.getElem?_eq_some_iff.1 kb4).1).trans kb4
  have hc4 := s4.2.1
  have S4 := Lib.hid (tail4 s4)
  have O5 := Lib.hid (own_on O4 B4)
  have R5 := Lib.hid (onto R4.out B4)
  have W35 : Hid (w3.heap.size ≤ w5.heap.size) := Nat.le_trans W34.out B4.size
  clear s4 B4 O4
  go_wp2_with (at_builtin; refine wpList_append_bs _ rfl _ _ 25 rfl w3.heap.size 5 i0 (.int .u8 0) Try.underlying25 hi hz0 hz1 hz2 rfl _ _ _ rfl O5.out _ _ _ _ rfl S4.out (by omega) W35.out ?_; intro v6 w6 O6 g6; have B6 := below_own (Below.refl w1.heap.size w5) O5.out g6 R5.out.size W13.out; have kb6 := (B6.block _ HW1.out).trans kb5; have R6 := Lib.hid (R5.out.trans B6); have W36 : Hid (w3.heap.size ≤ w6.heap.size) := Nat.le_trans W35.out B6.size; obtain ⟨f40, f41, f42, f43⟩ := mt_cells kb6)
  refine (refKey_any w6 rr (by unfold L64; omega)).mono ?_
  rintro e w7 ⟨A6, k6, rfl, s6, B6⟩
  obtain ⟨b6, o6, rfl⟩ := s6.some_ (by omega)
  have kb7 := (B6.block _ (Array.getElem?_eq_some_iff.1 kb6).1).trans kb6
  have hc6 := s6.2.1
  have S6 := Lib.hid (tail4 s6)
  have O7 := Lib.hid (own_on O6 B6)
  have R7 := Lib.hid (onto R6.out B6)
  have W37 : Hid (w3.heap.size ≤ w7.heap.size) := Nat.le_trans W36.out B6.size
  clear s6 B6 O6
  go_wp2_with (at_builtin; refine wpList_append_bs _ rfl _ _ 25 rfl w3.heap.size 5 i0 (.int .u8 0) Try.underlying25 hi hz0 hz1 hz2 rfl _ _ _ rfl O7.out _ _ _ _ rfl S6.out (by omega) W37.out ?_; intro v8 w8 O8 g8; have B8 := below_own (Below.refl w1.heap.size w7) O7.out g8 R7.out.size W13.out; have kb8 := (B8.block _ HW1.out).trans kb7; have R8 := Lib.hid (R7.out.trans B8); have W38 : Hid (w3.heap.size ≤ w8.heap.size) := Nat.le_trans W37.out B8.size; obtain ⟨f60, f61, f62, f63⟩ := mt_cells kb8)
  refine (refKey_any w8 ff (by unfold L64; omega)).mono ?_
  rintro e w9 ⟨A8, k8, rfl, s8, B8⟩
  obtain ⟨b8, o8, rfl⟩ := s8.some_ (by omega)
  have kb9 := (B8.block _ (Array.getElem?_eq_some_iff.1 kb8).1).trans kb8
  have hc8 := s8.2.1
  have S8 := Lib.hid (tail4 s8)
  have O9 := Lib.hid (own_on O8 B8)
  have R9 := Lib.hid (onto R8.out B8)
  have W39 : Hid (w3.heap.size ≤ w9.heap.size) := Nat.le_trans W38.out B8.size
  clear s8 B8 O8
  go_wp2_with (at_builtin; refine wpList_append_bs _ rfl _ _ 25 rfl w3.heap.size 5 i0 (.int .u8 0) Try.underlying25 hi hz0 hz1 hz2 rfl _ _ _ rfl O9.out _ _ _ _ rfl S8.out (by omega) W39.out ?_; intro v10 w10 O10 g10; have B10 := below_own (Below.refl w1.heap.size w9) O9.out g10 R9.out.size W13.out; have kb10 := (B10.block _ HW1.out).trans kb9; have R10 := Lib.hid (R9.out.trans B10); have W310 : Hid (w3.heap.size ≤ w10.heap.size) := Nat.le_trans W39.out B10.size; obtain ⟨f80, f81, f82, f83⟩ := mt_cells kb10)
  obtain ⟨A, c, rfl, _, _⟩ := own_form O10
  have e1 : bv ([67, 65, 77, 66] ++ Nm.be 8 g) ++ bv (Nm.be 4 hh) ++ bv (Nm.be 4 rr) ++ bv (Nm.be 4 ff) = bv (Mt.pay ⟨g, (hh : Int), (rr : Int), (ff : Int)⟩) := by
    unfold Mt.pay
    simp only [Int.toNat_natCast, bv, List.map_append, List.append_assoc]
  rw [e1] at O10
  go_ret
  exact ⟨A, c, rfl, own_le O10 (Nat.le_trans (Nat.le_of_lt HW1.out) W13.out), BW.out.trans (R10.out.mono (Nat.le_of_lt HW1.out))⟩

set_option maxRecDepth 100000 in
theorem refPay_no (w : World) (m : Mt.M) (h : ¬ Mt.May m) :
    Calls Try.prog 13 #[mv m] w fun e w' => e = .returned (.slice none 0 0) ∧ Below w.heap.size w w' := by
  have hM := Lib.hid (fun W => refMay_any W m)
  rw [decide_eq_false h] at hM
  unfold mv at *
  go_enter Try.func13, Try.ntmps13
  go_wp2_with fail
  refine (hM.out _).mono ?_
  rintro e w1 ⟨rfl, B1⟩
  have HB := Lib.hid (((Below.refl w.heap.size w).alloc (Nat.le_refl _) (.cells #[.int .u64 (m.gen : Int), .int .i64 m.high, .int .i64 m.root, .int .i64 m.free] 24)).trans (B1.mono (by simp)))
  go_wp2
  go_ret
  exact ⟨rfl, HB.out⟩

end Go.Proofs.Ytcpgmglpgffhdaa
