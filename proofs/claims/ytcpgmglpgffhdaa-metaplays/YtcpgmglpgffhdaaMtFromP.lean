/-
  The program's metas: FromPay.
-/
import Derived.Test.YtcpgmglpgffhdaaMtMay
import Derived.Test.YtcpgmglpgffhdaaGrPlain
import Derived.Test.YtcpgmglpgffhdaaCrText
import Derived.Test.YtcpgmglpgffhdaaPgParts
import Derived.Deep.CutBlock
import Derived.Deep.DeepCutAuto
import Derived.Deep.RegionHeld3
namespace Go.Proofs.Ytcpgmglpgffhdaa
open Go.RowKit
set_option linter.unusedVariables false

theorem camb_txt : txt [67, 65, 77, 66] = ⟨#[67, 65, 77, 66]⟩ := by decide +kernel

set_option maxRecDepth 100000 in
set_option maxHeartbeats 1000000 in
theorem from_short (w : World) (A : Option Addr) (n c : Nat) (hn : n ≠ 1016) (hc : n ≤ 9223372036854775807) :
    Calls Try.prog 14 #[.slice A n c] w fun e w' => e = .returned (.tuple #[mv m0, .int .i64 5]) ∧ Below w.heap.size w w' := by
  have hd : ((n : Int) != 1016) = true := by rw [bne_iff_ne]; omega
  have HB := Lib.hid ((Below.refl w.heap.size w).alloc (Nat.le_refl _) (.cells #[.int .u64 0, .int .i64 0, .int .i64 0, .int .i64 0] 24))
  go_enter Try.func14, Try.ntmps14
  go_wp2
  have q := mt_cells (heap_alloc_new w (.cells #[.int .u64 0, .int .i64 0, .int .i64 0, .int .i64 0] 24))
  obtain ⟨q0, q1, q2, q3⟩ := q
  refine bodyPost_ret (v := .tuple #[mv m0, .int .i64 5]) (by simp [results, Try.results14, go_sem, mv, m0, q0, q1, q2, q3]) rfl ⟨rfl, HB.out⟩

set_option maxRecDepth 100000 in
set_option maxHeartbeats 2000000 in
theorem from_no (w : World) (A : Option Addr) (c : Nat) (l : List Nat) (hb : Bs w A 1016 c l) (hz : ¬ (l.take 4 = [67, 65, 77, 66] ∧ l.drop 24 = List.replicate 992 0)) :
    Calls Try.prog 14 #[.slice A 1016 c] w fun e w' => e = .returned (.tuple #[mv m0, .int .i64 5]) ∧ Below w.heap.size w w' := by
  obtain ⟨b, off, rfl, hp⟩ := hb.part (by omega)
  have hc := hb.2.1
  have hcm := hb.2.2.1
  unfold maxLen at hcm
  have n24 : ¬ (c = 24) := by omega
  have B0 : Below w.heap.size w (w.alloc (.cells #[.int .u64 0, .int .i64 0, .int .i64 0, .int .i64 0] 24)) := (Below.refl _ _).alloc (Nat.le_refl _) _
  have T4 := Bs.text (P := Try.prog) ((hb.first 4 (by omega)).on B0) 25 9 5 Try.underlying25 Try.underlying5 Try.underlying9
  have Z := Lib.hid (allZero_any _ _ _ _ _ ((hb.cut_far 24 (by omega)).on B0))
  obtain ⟨q0, q1, q2, q3⟩ := mt_cells (heap_alloc_new w (.cells #[.int .u64 0, .int .i64 0, .int .i64 0, .int .i64 0] 24))
  have HB := Lib.hid B0
  by_cases h4 : l.take 4 = [67, 65, 77, 66]
  · have hz' : l.drop 24 ≠ List.replicate 992 0 := fun h => hz ⟨h4, h⟩
    rw [h4, camb_txt] at T4
    rw [show 1016 - 24 = 992 from rfl, decide_eq_false hz'] at Z
    clear hz h4 hz' hb hp B0
    go_enter Try.func14, Try.ntmps14
    go_wp2_with fail
    refine Z.out.mono ?_
    rintro e w1 ⟨rfl, rfl⟩
    go_wp2
    refine bodyPost_ret (v := .tuple #[mv m0, .int .i64 5]) (by simp [results, Try.results14, go_sem, mv, m0, q0, q1, q2, q3]) rfl ⟨rfl, HB.out⟩
  · have ht := hb.2.2.2.1
    have hne : txt (l.take 4) ≠ ⟨#[67, 65, 77, 66]⟩ := fun e => h4 (txt_inj (fun x hx => ht x (List.mem_of_mem_take hx)) (by decide) (e.trans camb_txt.symm))
    generalize txt (l.take 4) = T at *
    have t1 : (T.toList == [67, 65, 77, 66]) = false := by
      rw [beq_eq_false_iff_ne]
      intro e
      rw [ByteArray.toList_eq] at e
      apply hne
      obtain ⟨D⟩ := T
      congr 1
      exact Array.toList_inj.1 e
    clear hz h4 hb hp B0 ht Z hne
    go_enter Try.func14, Try.ntmps14
    go_wp2
    refine bodyPost_ret (v := .tuple #[mv m0, .int .i64 5]) (by simp [results, Try.results14, go_sem, mv, m0, q0, q1, q2, q3]) rfl ⟨rfl, HB.out⟩

set_option maxRecDepth 100000 in
set_option maxHeartbeats 8000000 in
theorem from_yes (w : World) (A : Option Addr) (c : Nat) (l : List Nat) (hb : Bs w A 1016 c l) (h4 : l.take 4 = [67, 65, 77, 66]) (hz : l.drop 24 = List.replicate 992 0) :
    Calls Try.prog 14 #[.slice A 1016 c] w fun e w' => e = .returned (if Mt.May (Mt.of l) then .tuple #[mv (Mt.of l), .int .i64 0] else .tuple #[mv m0, .int .i64 5]) ∧ Below w.heap.size w w' := by
  obtain ⟨b, off, rfl, hp⟩ := hb.part (by omega)
  have hc := hb.2.1
  have hcm := hb.2.2.1
  unfold maxLen at hcm
  have n24 : ¬ (c = 24) := by omega
  have n12 : ¬ (c = 12) := by omega
  have i16 : (16 : Int) ≤ (c : Int) := by omega
  have i20 : (20 : Int) ≤ (c : Int) := by omega
  have i24 : (24 : Int) ≤ (c : Int) := by omega
  have j16 : 16 ≤ c := by omega
  have j20 : 20 ≤ c := by omega
  have j24 : 24 ≤ c := by omega
  have n16 : ¬ (c = 16) := by omega
  have n20 : ¬ (c = 20) := by omega
  have B0 : Below w.heap.size w (w.alloc (.cells #[.int .u64 0, .int .i64 0, .int .i64 0, .int .i64 0] 24)) := (Below.refl _ _).alloc (Nat.le_refl _) _
  have T4 := Bs.text (P := Try.prog) ((hb.first 4 (by omega)).on B0) 25 9 5 Try.underlying25 Try.underlying5 Try.underlying9
  have Z := Lib.hid (allZero_any _ _ _ _ _ ((hb.cut_far 24 (by omega)).on B0))
  have hk0 := Lib.hid (heap_alloc_new w (.cells #[.int .u64 0, .int .i64 0, .int .i64 0, .int .i64 0] 24))
  have hlt0 : w.heap.size < (w.alloc (.cells #[.int .u64 0, .int .i64 0, .int .i64 0, .int .i64 0] 24)).heap.size := by simp
  have HB0 := Lib.hid B0
  have HB := Lib.hid hb
  have HPT := Lib.hid hp
  have D4 := Lib.hid (((hb.cut_far 4 (by omega)).first 8 (by omega)).on B0)
  have D12 := Lib.hid (((hb.cut_far 12 (by omega)).first 4 (by omega)).on B0)
  have D16 := Lib.hid (((hb.cut_far 16 (by omega)).first 4 (by omega)).on B0)
  have D20 := Lib.hid (((hb.cut_far 20 (by omega)).first 4 (by omega)).on B0)
  rw [h4, camb_txt] at T4
  rw [show 1016 - 24 = 992 from rfl, decide_eq_true hz] at Z
  have hl := hb.1
  have ht := hb.2.2.2.1
  have p4 : ∀ a, a + 4 ≤ 1016 → pad4 ((l.drop a).take 4) = (l.drop a).take 4 := fun a h => by
    rw [pad4_take (by rw [List.length_take, List.length_drop]; omega), List.take_take]
    rfl
  obtain ⟨x1, hx1, y1⟩ : ∃ x, Nm.fromBe (pad4 ((l.drop 12).take 4)) = x ∧ x < 4294967296 := ⟨_, rfl, fromBe4_lt _ fun y hy => ht y (List.mem_of_mem_drop (List.mem_of_mem_take hy))⟩
  obtain ⟨x2, hx2, y2⟩ : ∃ x, Nm.fromBe (pad4 ((l.drop 16).take 4)) = x ∧ x < 4294967296 := ⟨_, rfl, fromBe4_lt _ fun y hy => ht y (List.mem_of_mem_drop (List.mem_of_mem_take hy))⟩
  obtain ⟨x3, hx3, y3⟩ : ∃ x, Nm.fromBe (pad4 ((l.drop 20).take 4)) = x ∧ x < 4294967296 := ⟨_, rfl, fromBe4_lt _ fun y hy => ht y (List.mem_of_mem_drop (List.mem_of_mem_take hy))⟩
  have eo : Hid (Mt.of l = ⟨Nm.fromBe ((l.drop 4).take 8), (x1 : Int), (x2 : Int), (x3 : Int)⟩) := by
    show _ = _
    unfold Mt.of
    rw [← hx1, ← hx2, ← hx3, p4 12 (by omega), p4 16 (by omega), p4 20 (by omega)]
  have X1 := Lib.hid hx1
  have X2 := Lib.hid hx2
  have X3 := Lib.hid hx3
  have v1 : IntKind.i64.wrap (x1 : Int) = (x1 : Int) := IntWalk.i64_in _ ⟨by omega, by omega⟩
  have v2 : IntKind.i64.wrap (x2 : Int) = (x2 : Int) := IntWalk.i64_in _ ⟨by omega, by omega⟩
  have v3 : IntKind.i64.wrap (x3 : Int) = (x3 : Int) := IntWalk.i64_in _ ⟨by omega, by omega⟩
  have CU := Lib.hid (unkey_yes _ _ _ _ D4.out)
  clear hx1 hx2 hx3 hl ht p4 hb hp B0 h4 hz D4
  generalize Nm.fromBe ((l.drop 4).take 8) = G at *
  go_enter Try.func14, Try.ntmps14
  go_wp2_with fail
  refine Z.out.mono ?_
  rintro e w1 ⟨rfl, rfl⟩
  clear Z
  go_wp2_with fail
  refine CU.out.mono ?_
  rintro e w1 ⟨rfl, rfl⟩
  clear CU T4
  generalize w.alloc (.cells #[.int .u64 0, .int .i64 0, .int .i64 0, .int .i64 0] 24) = w1 at *
  go_upto_region 4 with fail
  go_cut [6] (fun v wx => ∃ bx, v = .pointer (some ⟨bx, 0, none⟩) ∧ wx.heap[bx]? = some (.cells #[.int .u64 (G : Int), .int .i64 (x1 : Int), .int .i64 (x2 : Int), .int .i64 (x3 : Int)] 24 (0, 0)) ∧ Below w1.heap.size w1 wx)
  case first =>
    go_region_held3 (fun _ => True) (trivial) (first
      | (go_at_call 36; refine (get32_any _ _ _ _ _ (by with_reducible exact D12.out.drew)).mono ?_; rintro e w3 ⟨rfl, b3⟩; have run : Below w1.heap.size w1 w3 := onto (Below.refl _ _).drew b3; rw [X1.out])
      | (go_at_call 36; refine (get32_any _ _ _ _ _ (by with_reducible exact (D12.out.alloc _).drew)).mono ?_; rintro e w3 ⟨rfl, b3⟩; have lb := Nat.le_refl w1.heap.size; have kb := (b3.block w1.heap.size (alloc_lt w1 _)).trans (heap_alloc_new w1 _); have run : Below w1.heap.size w1 w3 := onto ((Below.refl _ _).alloc (Nat.le_refl _) _).drew b3; obtain ⟨q0, q1, q2, q3⟩ := mt_cells kb; have f0 := frozen_of_row w3 _ 0 _ _ kb; have f1 := frozen_of_row w3 _ 1 _ _ kb; have f2 := frozen_of_row w3 _ 2 _ _ kb; have f3 := frozen_of_row w3 _ 3 _ _ kb; rw [X1.out])
      | (go_at_call 36; refine (get32_any _ _ _ _ _ (by with_reducible exact D12.out.alloc _)).mono ?_; rintro e w3 ⟨rfl, b3⟩; have lb := Nat.le_refl w1.heap.size; have kb := (b3.block w1.heap.size (alloc_lt w1 _)).trans (heap_alloc_new w1 _); have run : Below w1.heap.size w1 w3 := onto ((Below.refl _ _).alloc (Nat.le_refl _) _) b3; obtain ⟨q0, q1, q2, q3⟩ := mt_cells kb; have f0 := frozen_of_row w3 _ 0 _ _ kb; have f1 := frozen_of_row w3 _ 1 _ _ kb; have f2 := frozen_of_row w3 _ 2 _ _ kb; have f3 := frozen_of_row w3 _ 3 _ _ kb; rw [X1.out])
      | (go_at_call 36; have k0 := kb; refine (get32_any _ _ _ _ _ (by with_reducible exact D16.out.on run)).mono ?_; clear kb; rintro e w3 ⟨rfl, b3⟩; have kb := (b3.block _ (Array.getElem?_eq_some_iff.1 k0).1).trans k0; replace run := onto run b3; obtain ⟨q0, q1, q2, q3⟩ := mt_cells kb; have f0 := frozen_of_row w3 _ 0 _ _ kb; have f1 := frozen_of_row w3 _ 1 _ _ kb; have f2 := frozen_of_row w3 _ 2 _ _ kb; have f3 := frozen_of_row w3 _ 3 _ _ kb; rw [X2.out])
      | (go_at_call 36; refine (get32_any _ _ _ _ _ (by with_reducible exact D16.out.on run)).mono ?_; rintro e w3 ⟨rfl, b3⟩; replace run := onto run b3; rw [X2.out])
      | (go_at_call 36; refine (get32_any _ _ _ _ _ (by with_reducible exact (D16.out.on run).alloc _)).mono ?_; have ol := heap_alloc_new w3 (.cells #[.int .u64 0, .int .i64 0, .int .i64 0, .int .i64 0] 24); have sl := alloc_lt w3 (.cells #[.int .u64 0, .int .i64 0, .int .i64 0, .int .i64 0] 24); have lb := run.size; have ru := run.alloc run.size (.cells #[.int .u64 0, .int .i64 0, .int .i64 0, .int .i64 0] 24); rintro e w3 ⟨rfl, b3⟩; have kb := (b3.block _ sl).trans ol; replace run := onto ru b3; obtain ⟨q0, q1, q2, q3⟩ := mt_cells kb; have f0 := frozen_of_row w3 _ 0 _ _ kb; have f1 := frozen_of_row w3 _ 1 _ _ kb; have f2 := frozen_of_row w3 _ 2 _ _ kb; have f3 := frozen_of_row w3 _ 3 _ _ kb; rw [X2.out])
      | (go_at_call 36; have k0 := kb; refine (get32_any _ _ _ _ _ (by with_reducible exact D20.out.on run)).mono ?_; clear kb; rintro e w3 ⟨rfl, b3⟩; have kb := (b3.block _ (Array.getElem?_eq_some_iff.1 k0).1).trans k0; replace run := onto run b3; obtain ⟨q0, q1, q2, q3⟩ := mt_cells kb; have f0 := frozen_of_row w3 _ 0 _ _ kb; have f1 := frozen_of_row w3 _ 1 _ _ kb; have f2 := frozen_of_row w3 _ 2 _ _ kb; have f3 := frozen_of_row w3 _ 3 _ _ kb; rw [X3.out])
      | (go_at_call 36; refine (get32_any _ _ _ _ _ (by with_reducible exact D20.out.on run)).mono ?_; rintro e w3 ⟨rfl, b3⟩; replace run := onto run b3; rw [X3.out])
      | (go_at_call 36; refine (get32_any _ _ _ _ _ (by with_reducible exact (D20.out.on run).alloc _)).mono ?_; have ol := heap_alloc_new w3 (.cells #[.int .u64 0, .int .i64 0, .int .i64 0, .int .i64 0] 24); have sl := alloc_lt w3 (.cells #[.int .u64 0, .int .i64 0, .int .i64 0, .int .i64 0] 24); have lb := run.size; have ru := run.alloc run.size (.cells #[.int .u64 0, .int .i64 0, .int .i64 0, .int .i64 0] 24); rintro e w3 ⟨rfl, b3⟩; have kb := (b3.block _ sl).trans ol; replace run := onto ru b3; obtain ⟨q0, q1, q2, q3⟩ := mt_cells kb; have f0 := frozen_of_row w3 _ 0 _ _ kb; have f1 := frozen_of_row w3 _ 1 _ _ kb; have f2 := frozen_of_row w3 _ 2 _ _ kb; have f3 := frozen_of_row w3 _ 3 _ _ kb; rw [X3.out]))
    all_goals
      first
        | (have k5 := set4_at kb (.int .u64 (G : Int)) (.int .i64 (x1 : Int)) (.int .i64 (x2 : Int)) (.int .i64 (x3 : Int))
           have B5 := set4_below run lb (.int .u64 (G : Int)) (.int .i64 (x1 : Int)) (.int .i64 (x2 : Int)) (.int .i64 (x3 : Int))
           unfold set4 at k5 B5
           have K5 := Lib.hid k5
           have HB5 := Lib.hid B5
           clear k5 B5 kb run lb
           go_wp2_with fail
           go_meet
           exact ⟨_, rfl, K5.out, HB5.out⟩)
        | (have HR := Lib.hid run
           clear run
           go_wp2_with fail
           go_meet
           first | exact ⟨_, rfl, heap_alloc_new _ _, HR.out.alloc HR.out.size _⟩ | exact ⟨_, rfl, heap_alloc_new _ _, (HR.out.alloc HR.out.size _).drew⟩)
  case rest =>
    obtain ⟨bx, rfl, hbx, B2⟩ := hcut
    obtain ⟨w2, hw2⟩ : ∃ w2 : World, w2 = wc := ⟨_, rfl⟩
    subst hw2
    have hr2 := (B2.block _ hlt0).trans hk0.out
    have W2 := Lib.hid (onto HB0.out B2)
    obtain ⟨c0, c1, c2, c3⟩ := mt_cells hbx
    have lbx : bx < w2.heap.size := (Array.getElem?_eq_some_iff.1 hbx).1
    have lr : w.heap.size < w2.heap.size := (Array.getElem?_eq_some_iff.1 hr2).1
    have C := Lib.hid (may_any w2 (Mt.of l))
    have em : mv (Mt.of l) = .agg #[.int .u64 (G : Int), .int .i64 (x1 : Int), .int .i64 (x2 : Int), .int .i64 (x3 : Int)] := by rw [eo.out]; rfl
    have HBX := Lib.hid hbx
    have HR2 := Lib.hid hr2
    rw [em] at C
    clear B2 hbx hr2 D12 D16 D20 X1 X2 X3 v1 v2 v3 n12 n16 n20 n24 HB0 hk0 hlt0 HPT
    by_cases hM : Mt.May (Mt.of l)
    · rw [decide_eq_true hM] at C
      go_wp2_with fail
      refine C.out.mono ?_
      rintro e w3 ⟨rfl, B3⟩
      have k3 := (B3.block _ lr).trans HR2.out
      have bx3 := (B3.block _ lbx).trans HBX.out
      obtain ⟨q0, q1, q2, q3⟩ := mt_cells k3
      have f0 := frozen_of_row w3 w.heap.size 0 _ _ k3
      have f1 := frozen_of_row w3 w.heap.size 1 _ _ k3
      have f2 := frozen_of_row w3 w.heap.size 2 _ _ k3
      have f3 := frozen_of_row w3 w.heap.size 3 _ _ k3
      have HE := Lib.hid (onto W2.out B3)
      clear c0 c1 c2 c3
      obtain ⟨c0, c1, c2, c3⟩ := mt_cells bx3
      go_wp2
      have k4 := set4_at k3 (.int .u64 (G : Int)) (.int .i64 (x1 : Int)) (.int .i64 (x2 : Int)) (.int .i64 (x3 : Int))
      have B4 := set4_below HE.out (Nat.le_refl _) (.int .u64 (G : Int)) (.int .i64 (x1 : Int)) (.int .i64 (x2 : Int)) (.int .i64 (x3 : Int))
      unfold set4 at k4 B4
      obtain ⟨p0, p1, p2, p3⟩ := mt_cells k4
      refine bodyPost_ret (v := .tuple #[mv (Mt.of l), .int .i64 0]) (by rw [em]; simp [results, Try.results14, go_sem, p0, p1, p2, p3]) rfl ⟨by rw [em], B4⟩
    · rw [decide_eq_false hM] at C
      go_wp2_with fail
      refine C.out.mono ?_
      rintro e w3 ⟨rfl, B3⟩
      have k3 := (B3.block _ lr).trans HR2.out
      obtain ⟨q0, q1, q2, q3⟩ := mt_cells k3
      have f0 := frozen_of_row w3 w.heap.size 0 _ _ k3
      have f1 := frozen_of_row w3 w.heap.size 1 _ _ k3
      have f2 := frozen_of_row w3 w.heap.size 2 _ _ k3
      have f3 := frozen_of_row w3 w.heap.size 3 _ _ k3
      have HE := Lib.hid (onto W2.out B3)
      clear c0 c1 c2 c3
      go_wp2
      have k4 := set4_at k3 (.int .u64 0) (.int .i64 0) (.int .i64 0) (.int .i64 0)
      have B4 := set4_below HE.out (Nat.le_refl _) (.int .u64 0) (.int .i64 0) (.int .i64 0) (.int .i64 0)
      unfold set4 at k4 B4
      obtain ⟨p0, p1, p2, p3⟩ := mt_cells k4
      refine bodyPost_ret (v := .tuple #[mv m0, .int .i64 5]) (by simp [results, Try.results14, go_sem, mv, m0, p0, p1, p2, p3]) rfl ⟨rfl, B4⟩

end Go.Proofs.Ytcpgmglpgffhdaa
