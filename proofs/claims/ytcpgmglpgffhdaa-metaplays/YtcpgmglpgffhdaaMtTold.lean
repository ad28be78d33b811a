/-
  The program's metas: told, the closure of Newest.
-/
import Derived.Test.YtcpgmglpgffhdaaMtMay
import Derived.Test.YtcpgmglpgffhdaaGrPlain
import Derived.Test.YtcpgmglpgffhdaaPgOpen
import Derived.Test.YtcpgmglpgffhdaaGrDisk
namespace Go.Proofs.Ytcpgmglpgffhdaa
open Go.RowKit
set_option linter.unusedVariables false

theorem zero_m0 : Mt.zero = m0 := rfl
/-- What FromPay answers. -/
def fromV (l : List Nat) : Value := if Mt.Says l then .tuple #[mv (Mt.of l), .int .i64 0] else .tuple #[mv m0, .int .i64 5]
def FromC (f : Nat) : Prop := ∀ (w : World) (A : Option Addr) (n c : Nat) (l : List Nat), Bs w A n c l → Calls Try.prog f #[.slice A n c] w fun e w' => e = .returned (fromV l) ∧ Below w.heap.size w w'
/-- A result's block, written over with zeros, is told as it is. -/
theorem Dsk.read2 {w : World} {H : Hd} {d : Dk.Pd} (h : Dsk w H d) (no : Nat) : Calls Try.prog 64 #[.pointer (some ⟨H.p, 0, none⟩), .int .i64 (no : Int)] w fun e w' =>
    (no < d.pages.length → ∃ g, e = .returned (.tuple #[.slice (some ⟨g, 0, none⟩) 1024 1024, .int .i64 0]) ∧ Bs w' (some ⟨g, 0, none⟩) 1024 1024 (Dk.seen d no)) ∧
    (¬ no < d.pages.length → e = .returned (.tuple #[.slice none 0 0, .int .i64 1])) ∧ Below w.heap.size w w' := by
  by_cases hn : no < d.pages.length
  · refine (read_any w H d no h hn).mono ?_
    rintro e w' ⟨g, rfl, _, hl, ht, R, B⟩
    exact ⟨fun _ => ⟨g, rfl, R.bs' ht hl (by omega)⟩, fun h => absurd hn h, B⟩
  · refine (read_no w H d (no : Int) h (by unfold Dk.has; omega)).mono ?_
    rintro e w' ⟨rfl, rfl⟩
    exact ⟨fun h => absurd h hn, fun _ => rfl, Below.refl _ _⟩

set_option maxRecDepth 100000 in
set_option maxHeartbeats 4000000 in
theorem told_any (HF : FromC 14) (w : World) (H : Hd) (d : Dk.Pd) (no : Nat) (hno : no < 2) (h : Dsk w H d) :
    Calls Try.prog 50 #[.pointer (some ⟨H.p, 0, none⟩), .int .i64 (no : Int)] w fun e w' => e = .returned (.tuple #[mv ((Mt.tells d no).getD m0), .bool (Mt.tells d no).isSome]) ∧ Below w.heap.size w w' := by
  have B0 : Below w.heap.size w (w.alloc (.cells #[.int .u64 0, .int .i64 0, .int .i64 0, .int .i64 0] 24)) := (Below.refl _ _).alloc (Nat.le_refl _) _
  have K0 := heap_alloc_new w (.cells #[.int .u64 0, .int .i64 0, .int .i64 0, .int .i64 0] 24)
  have C1 := Lib.hid ((h.on B0).read2 no)
  generalize hT : Mt.tells d no = T
  go_enter Try.func50, Try.ntmps50
  go_wp2_with fail
  refine C1.out.mono ?_
  rintro e w1 ⟨y1, n1, b1⟩
  replace K0 := (b1.block _ (alloc_lt w _)).trans K0
  replace B0 := onto B0 b1
  clear C1 b1
  generalize hp : H.p = p at *
  by_cases hn : no < d.pages.length
  · obtain ⟨g, rfl, s1⟩ := y1 hn
    clear y1 n1
    have hT' : T = Mt.toldBy no (Dk.seen d no) := by rw [← hT]; unfold Mt.tells; rw [if_pos hn]
    clear hT hn
    generalize Dk.seen d no = l at *
    have S1 := Lib.hid s1
    by_cases ho : Pg.Opens (no : Int) l
    · have C2 := Lib.hid (open_yes w1 (no : Int) _ _ _ l s1 ho)
      have tl : (l.take 1016).length = 1016 := by rw [List.length_take, s1.1]; rfl
      have tt : ∀ x ∈ l.take 1016, x < 256 := fun x hx => s1.2.2.2.1 x (List.mem_of_mem_take hx)
      have TL := Lib.hid tl
      have TT := Lib.hid tt
      clear s1 tl tt
      go_wp2_with fail
      refine C2.out.mono ?_
      rintro e w2 ⟨g2, _, rfl, R2, b2⟩
      have C3 := Lib.hid (HF w2 _ _ _ _ (R2.bs' TT.out TL.out (by omega)))
      replace K0 := (b2.block _ (Array.getElem?_eq_some_iff.1 K0).1).trans K0
      replace B0 := onto B0 b2
      clear C2 R2 b2
      unfold fromV at C3
      by_cases hs : Mt.Says (l.take 1016)
      · rw [if_pos hs] at C3
        have HM : Hid (Mt.May (Mt.of (l.take 1016))) := hs.2.1
        by_cases hg : (Mt.of (l.take 1016)).gen % 2 = no
        · obtain ⟨m, hm⟩ : ∃ m, m = Mt.of (l.take 1016) := ⟨_, rfl⟩
          have hT2 : T = some m := by rw [hT', hm]; exact if_pos ⟨ho, hs, hg⟩
          rw [← hm] at C3 HM hg
          clear hT' hm
          subst hT2
          have hg' := HM.out.1.2
          unfold mv at C3
          go_wp2_with fail
          refine C3.out.mono ?_
          rintro e w3 ⟨rfl, b3⟩
          replace K0 := (b3.block _ (Array.getElem?_eq_some_iff.1 K0).1).trans K0
          replace B0 := onto B0 b3
          clear C3 b3
          have C4 := Lib.hid (placeOf_any (w3.alloc (.cells #[.int .u64 (m.gen : Int), .int .i64 m.high, .int .i64 m.root, .int .i64 m.free] 24)) m (by omega))
          have M3 := Mb.new w3 m
          obtain ⟨c0, c1, c2, c3⟩ := M3.cells
          unfold mv at C4
          rw [hg] at C4
          have KL := (Array.getElem?_eq_some_iff.1 K0).1
          replace K0 := ((((Below.refl w3.heap.size w3).alloc (Nat.le_refl _) (.cells #[.int .u64 (m.gen : Int), .int .i64 m.high, .int .i64 m.root, .int .i64 m.free] 24))).block _ KL).trans K0
          replace B0 := B0.alloc B0.size (.cells #[.int .u64 (m.gen : Int), .int .i64 m.high, .int .i64 m.root, .int .i64 m.free] 24)
          have HK := Lib.hid K0
          have HB := Lib.hid B0
          have HM3 := Lib.hid M3
          clear K0 B0 M3 ho hs
          go_wp2_with fail
          refine C4.out.mono ?_
          rintro e w4 ⟨rfl, b4⟩
          have K0 := (b4.block _ (Array.getElem?_eq_some_iff.1 HK.out).1).trans HK.out
          have B0 := onto HB.out b4
          have M4 := HM3.out.on b4
          clear c0 c1 c2 c3
          obtain ⟨c0, c1, c2, c3⟩ := M4.cells
          obtain ⟨q0, q1, q2, q3⟩ := mt_cells K0
          have f0 := frozen_of_row w4 w.heap.size 0 _ _ K0
          have f1 := frozen_of_row w4 w.heap.size 1 _ _ K0
          have f2 := frozen_of_row w4 w.heap.size 2 _ _ K0
          have f3 := frozen_of_row w4 w.heap.size 3 _ _ K0
          have HK4 := Lib.hid K0
          have HB4 := Lib.hid B0
          clear HK HB HM3 K0 B0 M4 b4 C4
          go_wp2
          have k5 := set4_at HK4.out (.int .u64 (m.gen : Int)) (.int .i64 m.high) (.int .i64 m.root) (.int .i64 m.free)
          have B5 := set4_below HB4.out (Nat.le_refl _) (.int .u64 (m.gen : Int)) (.int .i64 m.high) (.int .i64 m.root) (.int .i64 m.free)
          unfold set4 at k5 B5
          obtain ⟨p0, p1, p2, p3⟩ := mt_cells k5
          refine bodyPost_ret (v := .tuple #[mv m, .bool true]) (by simp [results, Try.results50, go_sem, mv, p0, p1, p2, p3]) rfl ⟨rfl, B5⟩
        · have hT2 : T = none := by rw [hT']; exact if_neg fun h => hg h.2.2
          clear hT'
          subst hT2
          generalize Mt.of (l.take 1016) = m at *
          have hg' := HM.out.1.2
          unfold mv at C3
          go_wp2_with fail
          refine C3.out.mono ?_
          rintro e w3 ⟨rfl, b3⟩
          replace K0 := (b3.block _ (Array.getElem?_eq_some_iff.1 K0).1).trans K0
          replace B0 := onto B0 b3
          clear C3 b3
          have C4 := Lib.hid (placeOf_any (w3.alloc (.cells #[.int .u64 (m.gen : Int), .int .i64 m.high, .int .i64 m.root, .int .i64 m.free] 24)) m (by omega))
          have M3 := Mb.new w3 m
          obtain ⟨c0, c1, c2, c3⟩ := M3.cells
          unfold mv at C4
          obtain ⟨r, hr⟩ : ∃ r, m.gen % 2 = r := ⟨_, rfl⟩
          rw [hr] at C4 hg
          have ne1 : ((r : Int) != (no : Int)) = true := by rw [bne_iff_ne]; omega
          have KL := (Array.getElem?_eq_some_iff.1 K0).1
          replace K0 := ((((Below.refl w3.heap.size w3).alloc (Nat.le_refl _) (.cells #[.int .u64 (m.gen : Int), .int .i64 m.high, .int .i64 m.root, .int .i64 m.free] 24))).block _ KL).trans K0
          replace B0 := B0.alloc B0.size (.cells #[.int .u64 (m.gen : Int), .int .i64 m.high, .int .i64 m.root, .int .i64 m.free] 24)
          have HK := Lib.hid K0
          have HB := Lib.hid B0
          clear K0 B0 M3 ho hs hr
          go_wp2_with fail
          refine C4.out.mono ?_
          rintro e w4 ⟨rfl, b4⟩
          have K0 := (b4.block _ (Array.getElem?_eq_some_iff.1 HK.out).1).trans HK.out
          have B0 := onto HB.out b4
          clear c0 c1 c2 c3
          obtain ⟨q0, q1, q2, q3⟩ := mt_cells K0
          have f0 := frozen_of_row w4 w.heap.size 0 _ _ K0
          have f1 := frozen_of_row w4 w.heap.size 1 _ _ K0
          have f2 := frozen_of_row w4 w.heap.size 2 _ _ K0
          have f3 := frozen_of_row w4 w.heap.size 3 _ _ K0
          have HK4 := Lib.hid K0
          have HB4 := Lib.hid B0
          clear HK HB K0 B0 b4 C4
          go_wp2
          have k5 := set4_at HK4.out (.int .u64 0) (.int .i64 0) (.int .i64 0) (.int .i64 0)
          have B5 := set4_below HB4.out (Nat.le_refl _) (.int .u64 0) (.int .i64 0) (.int .i64 0) (.int .i64 0)
          unfold set4 at k5 B5
          obtain ⟨p0, p1, p2, p3⟩ := mt_cells k5
          refine bodyPost_ret (v := .tuple #[mv m0, .bool false]) (by simp [results, Try.results50, go_sem, mv, m0, p0, p1, p2, p3]) rfl ⟨rfl, B5⟩
      · rw [if_neg hs] at C3
        have hT2 : T = none := by rw [hT']; exact if_neg fun h => hs h.2.1
        clear hT'
        subst hT2
        unfold mv m0 at C3
        go_wp2_with fail
        refine C3.out.mono ?_
        rintro e w3 ⟨rfl, b3⟩
        replace K0 := (b3.block _ (Array.getElem?_eq_some_iff.1 K0).1).trans K0
        replace B0 := onto B0 b3
        clear C3 b3
        have KL := (Array.getElem?_eq_some_iff.1 K0).1
        have HK := Lib.hid K0
        have HB := Lib.hid B0
        obtain ⟨q0, q1, q2, q3⟩ := mt_cells K0
        have f0 := frozen_of_row _ w.heap.size 0 _ _ K0
        have f1 := frozen_of_row _ w.heap.size 1 _ _ K0
        have f2 := frozen_of_row _ w.heap.size 2 _ _ K0
        have f3 := frozen_of_row _ w.heap.size 3 _ _ K0
        clear K0 B0
        go_wp2
        have k4 := set4_at HK.out (.int .u64 0) (.int .i64 0) (.int .i64 0) (.int .i64 0)
        have B4 := set4_below HB.out (Nat.le_refl _) (.int .u64 0) (.int .i64 0) (.int .i64 0) (.int .i64 0)
        have k5 := (((Below.refl _ _).alloc (Nat.le_refl _) (.cells #[.int .u64 0, .int .i64 0, .int .i64 0, .int .i64 0] 24)).block _ (Array.getElem?_eq_some_iff.1 k4).1).trans k4
        have B5 := B4.alloc B4.size (.cells #[.int .u64 0, .int .i64 0, .int .i64 0, .int .i64 0] 24)
        unfold set4 at k5 B5
        obtain ⟨p0, p1, p2, p3⟩ := mt_cells k5
        refine bodyPost_ret (v := .tuple #[mv m0, .bool false]) (by simp only [results, Try.results50]; simp [go_sem, mv, m0, p0, p1, p2, p3]) rfl ⟨rfl, B5⟩
    · have C2 := Lib.hid (open_no w1 (no : Int) _ _ _ l s1 ho)
      have hT2 : T = none := by rw [hT']; exact if_neg fun h => ho h.1
      clear hT' s1
      subst hT2
      go_wp2_with fail
      refine C2.out.mono ?_
      rintro e w2 ⟨rfl, b2⟩
      replace K0 := (b2.block _ (Array.getElem?_eq_some_iff.1 K0).1).trans K0
      replace B0 := onto B0 b2
      obtain ⟨q0, q1, q2, q3⟩ := mt_cells K0
      have f0 := frozen_of_row w2 w.heap.size 0 _ _ K0
      have f1 := frozen_of_row w2 w.heap.size 1 _ _ K0
      have f2 := frozen_of_row w2 w.heap.size 2 _ _ K0
      have f3 := frozen_of_row w2 w.heap.size 3 _ _ K0
      have HK4 := Lib.hid K0
      have HB4 := Lib.hid B0
      clear K0 B0 b2 C2
      go_wp2
      have k5 := set4_at HK4.out (.int .u64 0) (.int .i64 0) (.int .i64 0) (.int .i64 0)
      have B5 := set4_below HB4.out (Nat.le_refl _) (.int .u64 0) (.int .i64 0) (.int .i64 0) (.int .i64 0)
      unfold set4 at k5 B5
      obtain ⟨p0, p1, p2, p3⟩ := mt_cells k5
      refine bodyPost_ret (v := .tuple #[mv m0, .bool false]) (by simp [results, Try.results50, go_sem, mv, m0, p0, p1, p2, p3]) rfl ⟨rfl, B5⟩
  · obtain rfl := n1 hn
    clear y1 n1
    have hT2 : T = none := by rw [← hT]; exact if_neg hn
    clear hT
    subst hT2
    obtain ⟨q0, q1, q2, q3⟩ := mt_cells K0
    have f0 := frozen_of_row w1 w.heap.size 0 _ _ K0
    have f1 := frozen_of_row w1 w.heap.size 1 _ _ K0
    have f2 := frozen_of_row w1 w.heap.size 2 _ _ K0
    have f3 := frozen_of_row w1 w.heap.size 3 _ _ K0
    have HK4 := Lib.hid K0
    have HB4 := Lib.hid B0
    clear K0 B0
    go_wp2
    have k5 := set4_at HK4.out (.int .u64 0) (.int .i64 0) (.int .i64 0) (.int .i64 0)
    have B5 := set4_below HB4.out (Nat.le_refl _) (.int .u64 0) (.int .i64 0) (.int .i64 0) (.int .i64 0)
    unfold set4 at k5 B5
    obtain ⟨p0, p1, p2, p3⟩ := mt_cells k5
    refine bodyPost_ret (v := .tuple #[mv m0, .bool false]) (by simp [results, Try.results50, go_sem, mv, m0, p0, p1, p2, p3]) rfl ⟨rfl, B5⟩

end Go.Proofs.Ytcpgmglpgffhdaa
