/-
  The program's metas: Newest.
-/
import Derived.Test.YtcpgmglpgffhdaaMtTold
namespace Go.Proofs.Ytcpgmglpgffhdaa
open Go.RowKit
set_option linter.unusedVariables false

set_option maxRecDepth 100000 in
set_option maxHeartbeats 1000000 in
theorem takeGreater_any (w : World) (b : Nat) (a m : Mt.M) (h : Mb w b a) :
    Calls Try.prog 49 #[mv m, .pointer (some ⟨b, 0, none⟩)] w fun e w' => e = .returned (.tuple #[]) ∧ Mb w' b (Mt.top a (some m)) ∧ Below b w w' := by
  have M := Mb.new w m
  obtain ⟨c0, c1, c2, c3⟩ := M.cells
  have hb := h.lt
  have HA := Lib.hid h
  obtain ⟨d0, d1, d2, d3⟩ := h.cells
  have B0 : Hid (Below b w (w.alloc (.cells #[.int .u64 (m.gen : Int), .int .i64 m.high, .int .i64 m.root, .int .i64 m.free] 24))) := (Below.refl b w).alloc (Nat.le_of_lt hb) _
  have f0 := h.free 0
  have f1 := h.free 1
  have f2 := h.free 2
  have f3 := h.free 3
  clear h M
  unfold mv Mt.top
  simp only
  by_cases hg : a.gen < m.gen
  · have hg' : (a.gen : Int) < (m.gen : Int) := by omega
    rw [if_pos hg]
    clear hg
    go_enter Try.func49, Try.ntmps49
    go_wp2
    go_end0
    have M5 := (HA.out.set m).alloc (.cells #[.int .u64 (m.gen : Int), .int .i64 m.high, .int .i64 m.root, .int .i64 m.free] 24)
    have B4 := set4_below (Below.refl b w) (Nat.le_refl b) (.int .u64 (m.gen : Int)) (.int .i64 m.high) (.int .i64 m.root) (.int .i64 m.free)
    have B5 := B4.alloc (Nat.le_trans (Nat.le_of_lt hb) B4.size) (.cells #[.int .u64 (m.gen : Int), .int .i64 m.high, .int .i64 m.root, .int .i64 m.free] 24)
    unfold set4 at M5 B5
    exact ⟨rfl, M5, B5⟩
  · have hg' : ¬ (a.gen : Int) < (m.gen : Int) := by omega
    rw [if_neg hg]
    clear hg
    go_enter Try.func49, Try.ntmps49
    go_wp2
    go_end0
    exact ⟨rfl, HA.out.alloc _, B0.out⟩

def accTo (d : Dk.Pd) : Nat → Mt.M
  | 0 => Mt.zero
  | k + 1 => Mt.top (accTo d k) (Mt.tells d k)
theorem accTo_two (d : Dk.Pd) : accTo d 2 = Mt.newest d := rfl

set_option maxRecDepth 100000 in
set_option maxHeartbeats 4000000 in
theorem newest_any (HF : FromC 14) (w : World) (H : Hd) (d : Dk.Pd) (h : Dsk w H d) :
    Calls Try.prog 28 #[.pointer (some ⟨H.p, 0, none⟩)] w fun e w' => e = .returned (.tuple #[mv (Mt.newest d), .int .i64 (Mt.newestCode d)]) ∧ Below w.heap.size w w' := by
  have hmf : ∀ (fn : Fn) (first cap : Array Value) (w : World), (Instr.makeFunc fn first cap).run Try.prog w = .ok (.func fn first cap) w := fun _ _ _ _ => rfl
  have B0 : Below w.heap.size w (w.alloc (.cells #[.int .u64 0, .int .i64 0, .int .i64 0, .int .i64 0] 24)) := (Below.refl _ _).alloc (Nat.le_refl _) _
  have K0 := Lib.hid (heap_alloc_new w (.cells #[.int .u64 0, .int .i64 0, .int .i64 0, .int .i64 0] 24))
  have S0 : (w.alloc (.cells #[.int .u64 0, .int .i64 0, .int .i64 0, .int .i64 0] 24)).heap.size = w.heap.size + 1 := by simp
  have M0 : Hid (Mb ((w.alloc (.cells #[.int .u64 0, .int .i64 0, .int .i64 0, .int .i64 0] 24)).alloc (.cells #[.int .u64 0, .int .i64 0, .int .i64 0, .int .i64 0] 24)) (w.alloc (.cells #[.int .u64 0, .int .i64 0, .int .i64 0, .int .i64 0] 24)).heap.size Mt.zero) := heap_alloc_new (w.alloc (.cells #[.int .u64 0, .int .i64 0, .int .i64 0, .int .i64 0] 24)) _
  have B1 : Hid (Below w.heap.size w ((w.alloc (.cells #[.int .u64 0, .int .i64 0, .int .i64 0, .int .i64 0] 24)).alloc (.cells #[.int .u64 0, .int .i64 0, .int .i64 0, .int .i64 0] 24))) := B0.alloc B0.size _
  have K1 : Hid (((w.alloc (.cells #[.int .u64 0, .int .i64 0, .int .i64 0, .int .i64 0] 24)).alloc (.cells #[.int .u64 0, .int .i64 0, .int .i64 0, .int .i64 0] 24)).heap[w.heap.size]? = some (.cells #[.int .u64 0, .int .i64 0, .int .i64 0, .int .i64 0] 24 (0, 0))) := (Below.heap_alloc _ _ _ (by simp)).trans K0.out
  rw [S0] at M0
  have HD := Lib.hid h
  have hz := Lib.hid (@Mt.newest_zero d)
  have hle := Mt.newest_le d
  have hcd : Hid (Mt.newestCode d = if (Mt.newest d).gen = 0 then 7 else 0) := rfl
  have hac := Lib.hid (accTo_two d)
  generalize Mt.newest d = m at *
  generalize Mt.newestCode d = cd at *
  obtain ⟨bb, hbb⟩ : ∃ bb, bb = w.heap.size + 1 := ⟨_, rfl⟩
  rw [← hbb] at M0
  clear B0 K0 S0 h
  go_enter Try.func28, Try.ntmps28
  go_wp2_with fail
  rw [← hbb]
  have hbl : w.heap.size < bb := by omega
  clear hbb
  generalize (w.alloc (.cells #[.int .u64 0, .int .i64 0, .int .i64 0, .int .i64 0] 24)).alloc (.cells #[.int .u64 0, .int .i64 0, .int .i64 0, .int .i64 0] 24) = w1 at *
  go_loopw [6, 7, 8, 10] (fun _ _ _ v wr => ∃ k : Nat, k ≤ 2 ∧ v = .int .i64 (k : Int) ∧ Mb wr bb (accTo d k) ∧ Below bb w1 wr) (fun _ _ _ v _ => 2 - (intOf v).toNat)
  case atStart => exact ⟨0, by omega, rfl, M0.out, Below.refl _ _⟩
  case round =>
    obtain ⟨k, hk, rfl, M, B⟩ := hrel
    have BW := Lib.hid (B1.out.trans (B.mono (Nat.le_of_lt hbl)))
    by_cases hlt : k < 2
    · have C := Lib.hid (told_any HF wr H d k hlt (HD.out.on BW.out))
      have HM := Lib.hid M
      have HB := Lib.hid B
      have AC : Hid (accTo d (k + 1) = Mt.top (accTo d k) (Mt.tells d k)) := rfl
      clear M B BW
      generalize hp : H.p = p at *
      generalize accTo d k = a at *
      cases hT : Mt.tells d k with
      | none =>
        rw [hT] at C AC
        rw [Option.getD_none] at C
        unfold mv m0 at C
        go_wp2_with fail
        refine C.out.mono ?_
        rintro e w2 ⟨rfl, b2⟩
        have M2 := Lib.hid ((HM.out.on b2).alloc (.cells #[.int .u64 0, .int .i64 0, .int .i64 0, .int .i64 0] 24))
        have B2 := Lib.hid ((HB.out.trans (b2.mono (Nat.le_of_lt HM.out.lt))).alloc (Nat.le_trans (Nat.le_of_lt HM.out.lt) b2.size) (.cells #[.int .u64 0, .int .i64 0, .int .i64 0, .int .i64 0] 24))
        clear C b2
        go_wp2
        go_roundw
        case rel => exact ⟨k + 1, by omega, by go_num, by rw [AC.out]; exact M2.out, B2.out⟩
        case measure => simp [intOf]; omega
      | some x =>
        rw [hT] at C AC
        rw [Option.getD_some] at C
        unfold mv at C
        go_wp2_with fail
        refine C.out.mono ?_
        rintro e w2 ⟨rfl, b2⟩
        have M2 := Lib.hid ((HM.out.on b2).alloc (.cells #[.int .u64 (x.gen : Int), .int .i64 x.high, .int .i64 x.root, .int .i64 x.free] 24))
        have B2 := Lib.hid ((HB.out.trans (b2.mono (Nat.le_of_lt HM.out.lt))).alloc (Nat.le_trans (Nat.le_of_lt HM.out.lt) b2.size) (.cells #[.int .u64 (x.gen : Int), .int .i64 x.high, .int .i64 x.root, .int .i64 x.free] 24))
        have N2 := Mb.new w2 x
        obtain ⟨c0, c1, c2, c3⟩ := N2.cells
        have C4 := Lib.hid (takeGreater_any _ bb a x M2.out)
        unfold mv at C4
        clear C b2 N2
        go_wp2_with fail
        refine C4.out.mono ?_
        rintro e w4 ⟨rfl, M4, B4⟩
        have HM4 := Lib.hid M4
        have HB4 := Lib.hid (B2.out.trans B4)
        clear M4 B4 C4 c0 c1 c2 c3
        go_wp2
        go_roundw
        case rel => exact ⟨k + 1, by omega, by go_num, by rw [AC.out]; exact HM4.out, HB4.out⟩
        case measure => simp [intOf]; omega
    · have hk2 : k = 2 := by omega
      have HM : Hid (Mb wr bb m) := by rw [hk2, hac.out] at M; exact M
      have K2 := Lib.hid ((B.block _ hbl).trans K1.out)
      clear M B
      obtain ⟨c0, c1, c2, c3⟩ := HM.out.cells
      obtain ⟨q0, q1, q2, q3⟩ := mt_cells K2.out
      have f0 := frozen_of_row _ w.heap.size 0 _ _ K2.out
      have f1 := frozen_of_row _ w.heap.size 1 _ _ K2.out
      have f2 := frozen_of_row _ w.heap.size 2 _ _ K2.out
      have f3 := frozen_of_row _ w.heap.size 3 _ _ K2.out
      by_cases h0 : m.gen = 0
      · have e := hz.out h0
        have e2 : cd = 7 := by rw [hcd.out, if_pos h0]
        subst e e2
        clear hz hle hcd hac
        unfold Mt.zero at c0
        simp only at c0
        go_wp2
        have k5 := set4_at K2.out (.int .u64 0) (.int .i64 0) (.int .i64 0) (.int .i64 0)
        have B5 := set4_below BW.out (Nat.le_refl _) (.int .u64 0) (.int .i64 0) (.int .i64 0) (.int .i64 0)
        unfold set4 at k5 B5
        obtain ⟨p0, p1, p2, p3⟩ := mt_cells k5
        refine bodyPost_ret (v := .tuple #[mv m0, .int .i64 7]) (by simp [results, Try.results28, go_sem, mv, m0, p0, p1, p2, p3]) rfl ⟨rfl, B5⟩
      · have h0' : ((m.gen : Int) == 0) = false := by rw [beq_eq_false_iff_ne]; omega
        have e2 : cd = 0 := by rw [hcd.out, if_neg h0]
        subst e2
        clear hz hcd hac
        go_wp2
        have k5 := set4_at K2.out (.int .u64 (m.gen : Int)) (.int .i64 m.high) (.int .i64 m.root) (.int .i64 m.free)
        have B5 := set4_below BW.out (Nat.le_refl _) (.int .u64 (m.gen : Int)) (.int .i64 m.high) (.int .i64 m.root) (.int .i64 m.free)
        unfold set4 at k5 B5
        obtain ⟨p0, p1, p2, p3⟩ := mt_cells k5
        refine bodyPost_ret (v := .tuple #[mv m, .int .i64 0]) (by simp [results, Try.results28, go_sem, mv, p0, p1, p2, p3]) rfl ⟨rfl, B5⟩

end Go.Proofs.Ytcpgmglpgffhdaa
