/-
  MetaNewest: of any two metas, at their places, the one of the greater number is the newest.
-/
import Derived.Test.YtcpgmglpgffhdaaMtAwake
import Derived.Test.YtcpgmglpgffhdaaMtEq
namespace Go.Proofs.Ytcpgmglpgffhdaa
open Go.RowKit
set_option linter.unusedVariables false

theorem newest_may {a b : Mt.M} (ha : Mt.May a) (hb : Mt.May b) : Mt.May (if a.gen % 2 ≠ b.gen % 2 ∧ b.gen < a.gen then a else b) := by split <;> assumption

set_option maxRecDepth 100000 in
set_option maxHeartbeats 4000000 in
theorem metaNewest_walk (w : World) (a b : Mt.M) :
    Calls Try.prog 6 #[mv a, mv b] w fun e w' => e = .returned (.bool true) ∧ Below w.heap.size w w' := by
  have B0 : Below w.heap.size w (w.alloc (.cells #[.int .u64 (a.gen : Int), .int .i64 a.high, .int .i64 a.root, .int .i64 a.free] 24)) := (Below.refl _ _).alloc (Nat.le_refl _) _
  have M0 := (Mb.new w a).alloc (.cells #[.int .u64 (b.gen : Int), .int .i64 b.high, .int .i64 b.root, .int .i64 b.free] 24)
  have N0 := Mb.new (w.alloc (.cells #[.int .u64 (a.gen : Int), .int .i64 a.high, .int .i64 a.root, .int .i64 a.free] 24)) b
  have B1 := B0.alloc B0.size (.cells #[.int .u64 (b.gen : Int), .int .i64 b.high, .int .i64 b.root, .int .i64 b.free] 24)
  rw [show (w.alloc (.cells #[.int .u64 (a.gen : Int), .int .i64 a.high, .int .i64 a.root, .int .i64 a.free] 24)).heap.size = w.heap.size + 1 by simp] at N0
  unfold mv
  go_enter Try.func6, Try.ntmps6
  go_wp2_with fail
  obtain ⟨gb, hgb⟩ : ∃ gb, gb = w.heap.size + 1 := ⟨_, rfl⟩
  rw [← hgb]
  rw [← hgb] at N0
  obtain ⟨ga, hga⟩ : ∃ ga, ga = w.heap.size := ⟨_, rfl⟩
  rw [← hga]
  rw [← hga] at M0
  have hab : ga < gb := by omega
  have hgw : w.heap.size ≤ ga := by omega
  clear hgb hga B0
  refine (awake_any _).mono ?_
  rintro e w1 ⟨rfl, b1⟩
  have M1 := Lib.hid (M0.on b1)
  have N1 := Lib.hid (N0.on b1)
  have B2 := Lib.hid (onto B1 b1)
  clear M0 N0 B1 b1
  obtain ⟨a0, a1, a2, a3⟩ := M1.out.cells
  obtain ⟨b0, b1, b2, b3⟩ := N1.out.cells
  have C1 := Lib.hid (refMay_any w1 a)
  unfold mv at C1
  by_cases hA : Mt.May a
  · rw [decide_eq_true hA] at C1
    go_wp2_with fail
    refine C1.out.mono ?_
    rintro e w2 ⟨rfl, x2⟩
    have M2 := Lib.hid (M1.out.on x2)
    have N2 := Lib.hid (N1.out.on x2)
    have B3 := Lib.hid (onto B2.out x2)
    clear a0 a1 a2 a3 b0 b1 b2 b3 M1 N1 B2 x2 C1
    obtain ⟨a0, a1, a2, a3⟩ := M2.out.cells
    obtain ⟨b0, b1, b2, b3⟩ := N2.out.cells
    have C2 := Lib.hid (refMay_any w2 b)
    unfold mv at C2
    by_cases hB : Mt.May b
    · rw [decide_eq_true hB] at C2
      go_wp2_with fail
      refine C2.out.mono ?_
      rintro e w3 ⟨rfl, x3⟩
      have M3 := Lib.hid (M2.out.on x3)
      have N3 := Lib.hid (N2.out.on x3)
      have B4 := Lib.hid (onto B3.out x3)
      clear a0 a1 a2 a3 b0 b1 b2 b3 M2 N2 B3 x3 C2
      obtain ⟨t1, t2, t3, t4, _, t6, t7⟩ := Mt.newest_two hA hB
      have C3 := Lib.hid (hnew w3 2 2 (by decide))
      go_wp2_with fail
      refine C3.out.mono ?_
      rintro e w4 ⟨p, rfl, h4⟩
      have M4 := Lib.hid (M3.out.on h4.below)
      have N4 := Lib.hid (N3.out.on h4.below)
      have C4 := Lib.hid (hmwrite w4 p _ h4 a (by show 0 < 1000; omega))
      unfold mv at C4
      rw [t1] at C4
      obtain ⟨a0, a1, a2, a3⟩ := M4.out.cells
      clear C3 h4
      go_wp2_with fail
      refine C4.out.mono ?_
      rintro e w5 ⟨rfl, h5⟩
      have N5 := Lib.hid (N3.out.on h5.below)
      have C5 := Lib.hid (hmwrite w5 p _ h5 b (by omega))
      unfold mv at C5
      rw [t2] at C5
      obtain ⟨b0, b1, b2, b3⟩ := N5.out.cells
      clear C4 h5 a0 a1 a2 a3 M4 N4
      go_wp2_with fail
      refine C5.out.mono ?_
      rintro e w6 ⟨rfl, h6⟩
      have C6 := Lib.hid (hsync w6 p _ h6 (by omega))
      rw [t3] at C6
      clear C5 h6 b0 b1 b2 b3 N5
      go_wp2_with fail
      refine C6.out.mono ?_
      rintro e w7 ⟨rfl, h7⟩
      have M7 := Lib.hid (M3.out.on h7.below)
      have N7 := Lib.hid (N3.out.on h7.below)
      have B7 := Lib.hid (onto B4.out h7.below)
      obtain ⟨a0, a1, a2, a3⟩ := M7.out.cells
      obtain ⟨b0, b1, b2, b3⟩ := N7.out.cells
      have H7 := Lib.hid h7
      have la := M7.out.lt
      have lb := N7.out.lt
      clear C6 h7 M3 N3 B4
      have C8 := Lib.hid (fun W h => hnewest W p (Dk.sync (Mt.write (Mt.write (Dk.fresh 2) a) b)) (S := fun _ => False) (wb := w3) h)
      have hwm := (newest_may hA hB).1.1
      have hnc : Mt.newestCode (Dk.sync (Mt.write (Mt.write (Dk.fresh 2) a) b)) = 0 := by
        unfold Mt.newestCode
        rw [t4, if_neg (by omega)]
      rw [t4, hnc] at C8
      generalize Dk.sync (Mt.write (Mt.write (Dk.fresh 2) a) b) = dd at *
      clear t1 t2 t3 t4 t6 t7 hnc hwm
      have ka := hA.1.2
      have kb := hB.1.2
      have k1 : (a.gen : Int).tmod 2 = ((a.gen % 2 : Nat) : Int) := by
        have : (a.gen : Int).tmod 2 = (a.gen : Int) % 2 := Int.tmod_eq_emod_of_nonneg (by omega)
        rw [this]; omega
      have k2 : (b.gen : Int).tmod 2 = ((b.gen % 2 : Nat) : Int) := by
        have : (b.gen : Int).tmod 2 = (b.gen : Int) % 2 := Int.tmod_eq_emod_of_nonneg (by omega)
        rw [this]; omega
      generalize a.gen % 2 = ra at *
      generalize b.gen % 2 = rb at *
      by_cases hg : ra ≠ rb ∧ b.gen < a.gen
      · rw [if_pos hg] at C8
        have g1 : ((ra : Int) != (rb : Int)) = true := by rw [bne_iff_ne]; have := hg.1; omega
        have g2 : (b.gen : Int) < (a.gen : Int) := by have := hg.2; omega
        clear hg hA hB
        have K8 := heap_alloc_new w7 (.cells #[.int .u64 (a.gen : Int), .int .i64 a.high, .int .i64 a.root, .int .i64 a.free] 24)
        have L8 := alloc_lt w7 (.cells #[.int .u64 (a.gen : Int), .int .i64 a.high, .int .i64 a.root, .int .i64 a.free] 24)
        have A8 := Lib.hid ((Below.refl w7.heap.size w7).alloc (Nat.le_refl _) (.cells #[.int .u64 (a.gen : Int), .int .i64 a.high, .int .i64 a.root, .int .i64 a.free] 24))
        have HK8 := Lib.hid K8
        have HL8 := Lib.hid L8
        have D8 := Lib.hid (C8.out _ (H7.out.on A8.out))
        have EQ := fun W => mt_eq W a a
        simp only [decide_true] at EQ
        have HEQ := Lib.hid EQ
        unfold mv at D8
        clear K8 L8 C8 EQ
        go_wp2_with fail
        refine D8.out.mono ?_
        rintro e w9 ⟨rfl, b9⟩
        have K9 := (b9.block _ HL8.out).trans HK8.out
        obtain ⟨q0, q1, q2, q3⟩ := mt_cells K9
        have B9 := onto (onto B7.out A8.out) b9
        have B10 := Lib.hid (B9.alloc B9.size (.cells #[.int .u64 (a.gen : Int), .int .i64 a.high, .int .i64 a.root, .int .i64 a.free] 24))
        have L9 : w7.heap.size < w9.heap.size := (Array.getElem?_eq_some_iff.1 K9).1
        have EQ := HEQ.out
        clear K9 B9 b9 D8 HK8 HL8 a0 a1 a2 a3 b0 b1 b2 b3
        go_wp2
        go_ret
        exact ⟨rfl, B10.out⟩
      · rw [if_neg hg] at C8
        by_cases hr : ra = rb
        · have g1 : ((ra : Int) != (rb : Int)) = false := by rw [hr]; simp
          clear hg hA hB hr
          have K8 := heap_alloc_new w7 (.cells #[.int .u64 (b.gen : Int), .int .i64 b.high, .int .i64 b.root, .int .i64 b.free] 24)
          have L8 := alloc_lt w7 (.cells #[.int .u64 (b.gen : Int), .int .i64 b.high, .int .i64 b.root, .int .i64 b.free] 24)
          have A8 := Lib.hid ((Below.refl w7.heap.size w7).alloc (Nat.le_refl _) (.cells #[.int .u64 (b.gen : Int), .int .i64 b.high, .int .i64 b.root, .int .i64 b.free] 24))
          have HK8 := Lib.hid K8
          have HL8 := Lib.hid L8
          have D8 := Lib.hid (C8.out _ (H7.out.on A8.out))
          have EQ := fun W => mt_eq W b b
          simp only [decide_true] at EQ
          have HEQ := Lib.hid EQ
          unfold mv at D8
          clear K8 L8 C8 EQ
          go_wp2_with fail
          refine D8.out.mono ?_
          rintro e w9 ⟨rfl, b9⟩
          have K9 := (b9.block _ HL8.out).trans HK8.out
          obtain ⟨q0, q1, q2, q3⟩ := mt_cells K9
          have B9 := onto (onto B7.out A8.out) b9
          have B10 := Lib.hid (B9.alloc B9.size (.cells #[.int .u64 (b.gen : Int), .int .i64 b.high, .int .i64 b.root, .int .i64 b.free] 24))
          have L9 : w7.heap.size < w9.heap.size := (Array.getElem?_eq_some_iff.1 K9).1
          have EQ := HEQ.out
          clear K9 B9 b9 D8 HK8 HL8 a0 a1 a2 a3 b0 b1 b2 b3
          go_wp2
          go_ret
          exact ⟨rfl, B10.out⟩
        · have g1 : ((ra : Int) != (rb : Int)) = true := by rw [bne_iff_ne]; omega
          have g2 : ¬ (b.gen : Int) < (a.gen : Int) := by have h : ¬ b.gen < a.gen := fun h => hg ⟨hr, h⟩; omega
          clear hg hA hB hr
          have K8 := heap_alloc_new w7 (.cells #[.int .u64 (b.gen : Int), .int .i64 b.high, .int .i64 b.root, .int .i64 b.free] 24)
          have L8 := alloc_lt w7 (.cells #[.int .u64 (b.gen : Int), .int .i64 b.high, .int .i64 b.root, .int .i64 b.free] 24)
          have A8 := Lib.hid ((Below.refl w7.heap.size w7).alloc (Nat.le_refl _) (.cells #[.int .u64 (b.gen : Int), .int .i64 b.high, .int .i64 b.root, .int .i64 b.free] 24))
          have HK8 := Lib.hid K8
          have HL8 := Lib.hid L8
          have D8 := Lib.hid (C8.out _ (H7.out.on A8.out))
          have EQ := fun W => mt_eq W b b
          simp only [decide_true] at EQ
          have HEQ := Lib.hid EQ
          unfold mv at D8
          clear K8 L8 C8 EQ
          go_wp2_with fail
          refine D8.out.mono ?_
          rintro e w9 ⟨rfl, b9⟩
          have K9 := (b9.block _ HL8.out).trans HK8.out
          obtain ⟨q0, q1, q2, q3⟩ := mt_cells K9
          have B9 := onto (onto B7.out A8.out) b9
          have B10 := Lib.hid (B9.alloc B9.size (.cells #[.int .u64 (b.gen : Int), .int .i64 b.high, .int .i64 b.root, .int .i64 b.free] 24))
          have L9 : w7.heap.size < w9.heap.size := (Array.getElem?_eq_some_iff.1 K9).1
          have EQ := HEQ.out
          clear K9 B9 b9 D8 HK8 HL8 a0 a1 a2 a3 b0 b1 b2 b3
          go_wp2
          go_ret
          exact ⟨rfl, B10.out⟩
    · rw [decide_eq_false hB] at C2
      go_wp2_with fail
      refine C2.out.mono ?_
      rintro e w3 ⟨rfl, x3⟩
      have B4 := Lib.hid (onto B3.out x3)
      clear a0 a1 a2 a3 b0 b1 b2 b3 x3 C2
      go_wp2
      go_ret
      exact ⟨rfl, B4.out⟩
  · rw [decide_eq_false hA] at C1
    go_wp2_with fail
    refine C1.out.mono ?_
    rintro e w2 ⟨rfl, x2⟩
    have B3 := Lib.hid (onto B2.out x2)
    clear a0 a1 a2 a3 b0 b1 b2 b3 x2 C1
    go_wp2
    go_ret
    exact ⟨rfl, B3.out⟩

end Go.Proofs.Ytcpgmglpgffhdaa
