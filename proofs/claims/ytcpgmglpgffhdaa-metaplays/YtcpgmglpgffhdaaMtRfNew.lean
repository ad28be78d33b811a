/-
  The document's metas: Newest.
-/
import Derived.Test.YtcpgmglpgffhdaaMtNewP
import Derived.Test.YtcpgmglpgffhdaaPgRefOpen
import Derived.Test.YtcpgmglpgffhdaaGrRef
namespace Go.Proofs.Ytcpgmglpgffhdaa
open Go.RowKit
set_option linter.unusedVariables false

theorem Rfd.read2 {w : World} {G : Gd} {d : Dk.Pd} (h : Rfd w G d) (no : Nat) (hm : d.waits.length < 1000) : Calls Try.prog 51 #[.pointer (some ⟨G.q, 0, none⟩), .int .i64 (no : Int)] w fun e w' =>
    (no < d.pages.length → ∃ A c, e = .returned (.tuple #[.slice A 1024 c, .int .i64 0]) ∧ Bs w' A 1024 c (Dk.seen d no)) ∧
    (¬ no < d.pages.length → e = .returned (.tuple #[.slice none 0 0, .int .i64 1])) ∧ Below w.heap.size w w' := by
  by_cases hn : no < d.pages.length
  · refine (rread_any w G d no h hn hm).mono ?_
    rintro e w' ⟨A, c, rfl, hl, B⟩
    exact ⟨fun _ => ⟨A, c, rfl, hl⟩, fun h => absurd hn h, B⟩
  · refine (rread_no w G d (no : Int) h (by unfold Dk.has; omega)).mono ?_
    rintro e w' ⟨rfl, rfl⟩
    exact ⟨fun h => absurd h hn, fun _ => rfl, Below.refl _ _⟩

set_option maxRecDepth 100000 in
set_option maxHeartbeats 4000000 in
theorem rnewest_any (HF : FromC 15) (w : World) (G : Gd) (d : Dk.Pd) (h : Rfd w G d) (hw : d.waits.length < 1000) :
    Calls Try.prog 29 #[.pointer (some ⟨G.q, 0, none⟩)] w fun e w' => e = .returned (.tuple #[mv (Mt.newest d), .int .i64 (Mt.newestCode d)]) ∧ Below w.heap.size w w' := by
  have B0 : Below w.heap.size w (w.alloc (.cells #[.int .u64 0, .int .i64 0, .int .i64 0, .int .i64 0] 24)) := (Below.refl _ _).alloc (Nat.le_refl _) _
  have K0 := Lib.hid (heap_alloc_new w (.cells #[.int .u64 0, .int .i64 0, .int .i64 0, .int .i64 0] 24))
  have S0 : (w.alloc (.cells #[.int .u64 0, .int .i64 0, .int .i64 0, .int .i64 0] 24)).heap.size = w.heap.size + 1 := by simp
  have M0 : Hid (Mb ((w.alloc (.cells #[.int .u64 0, .int .i64 0, .int .i64 0, .int .i64 0] 24)).alloc (.cells #[.int .u64 0, .int .i64 0, .int .i64 0, .int .i64 0] 24)) (w.alloc (.cells #[.int .u64 0, .int .i64 0, .int .i64 0, .int .i64 0] 24)).heap.size Mt.zero) := heap_alloc_new (w.alloc (.cells #[.int .u64 0, .int .i64 0, .int .i64 0, .int .i64 0] 24)) _
  have B1 : Hid (Below w.heap.size w ((w.alloc (.cells #[.int .u64 0, .int .i64 0, .int .i64 0, .int .i64 0] 24)).alloc (.cells #[.int .u64 0, .int .i64 0, .int .i64 0, .int .i64 0] 24))) := B0.alloc B0.size _
  have K1 : Hid (((w.alloc (.cells #[.int .u64 0, .int .i64 0, .int .i64 0, .int .i64 0] 24)).alloc (.cells #[.int .u64 0, .int .i64 0, .int .i64 0, .int .i64 0] 24)).heap[w.heap.size]? = some (.cells #[.int .u64 0, .int .i64 0, .int .i64 0, .int .i64 0] 24 (0, 0))) := (Below.heap_alloc _ _ _ (by simp)).trans K0.out
  rw [S0] at M0
  have HD := Lib.hid h
  have hz := Lib.hid (@Mt.newest_zero d)
  have hle := Mt.newest_le d
  have hcd : Hid (Mt.newestCode d = if (Mt.newest d).gen = 0 then 7 else 0) := rfl
  have hac := Lib.hid (accTo_two d)
  generalize Mt.newest d = m at *
  generalize Mt.newestCode d = cd at *
  obtain ⟨bb, hbb⟩ : ∃ bb, bb = w.heap.size + 1 := ⟨_, rfl⟩
  rw [← hbb] at M0
  clear B0 K0 S0 h
  go_enter Try.func29, Try.ntmps29
  go_wp2_with fail
  rw [← hbb]
  have hbl : w.heap.size < bb := by omega
  clear hbb
  generalize (w.alloc (.cells #[.int .u64 0, .int .i64 0, .int .i64 0, .int .i64 0] 24)).alloc (.cells #[.int .u64 0, .int .i64 0, .int .i64 0, .int .i64 0] 24) = w1 at *
  go_loopw [5, 6, 7, 8, 9, 10, 11] (fun v _ _ _ _ _ _ wr => ∃ k : Nat, k ≤ 2 ∧ v = .int .i64 (k : Int) ∧ Mb wr bb (accTo d k) ∧ Below bb w1 wr) (fun v _ _ _ _ _ _ _ => 2 - (intOf v).toNat)
  case atStart => exact ⟨0, by omega, rfl, M0.out, Below.refl _ _⟩
  case round =>
    obtain ⟨k, hk, rfl, M, B⟩ := hrel
    have BW := Lib.hid (B1.out.trans (B.mono (Nat.le_of_lt hbl)))
    by_cases hlt : k < 2
    · have C := Lib.hid ((HD.out.on BW.out).read2 k hw)
      have HM := Lib.hid M
      have HB := Lib.hid B
      have AC : Hid (accTo d (k + 1) = Mt.top (accTo d k) (Mt.tells d k)) := rfl
      clear M B BW
      generalize hp : G.q = p at *
      generalize accTo d k = a at *
      generalize hT : Mt.tells d k = T at *
      go_wp2_with fail
      refine C.out.mono ?_
      rintro e w2 ⟨y1, n1, b2⟩
      have M2 := Lib.hid (HM.out.on b2)
      have B2 := Lib.hid (HB.out.trans (b2.mono (Nat.le_of_lt HM.out.lt)))
      clear C b2 HM HB
      by_cases hn : k < d.pages.length
      · obtain ⟨A2, k2, rfl, s2⟩ := y1 hn
        have hT' : T = Mt.toldBy k (Dk.seen d k) := by rw [← hT]; unfold Mt.tells; rw [if_pos hn]
        clear y1 n1 hT hn
        generalize Dk.seen d k = l at *
        have C2 := Lib.hid (refOpen_any w2 (k : Int) A2 1024 k2 l s2)
        clear s2
        go_wp2_with fail
        refine C2.out.mono ?_
        rintro e w3 ⟨y3, n3, b3⟩
        have M3 := Lib.hid (M2.out.on b3)
        have B3 := Lib.hid (B2.out.trans (b3.mono (Nat.le_of_lt M2.out.lt)))
        clear C2 b3 M2 B2
        by_cases ho : Pg.Opens (k : Int) l
        · obtain ⟨A3, k3, rfl, s3⟩ := y3 ho
          clear y3 n3
          have C4 := Lib.hid (HF w3 _ _ _ _ s3)
          clear s3
          unfold fromV at C4
          by_cases hs : Mt.Says (l.take 1016)
          · rw [if_pos hs] at C4
            obtain ⟨x, hx⟩ : ∃ x, x = Mt.of (l.take 1016) := ⟨_, rfl⟩
            have hT2 : T = if x.gen % 2 = k then some x else none := by
              rw [hT', hx]
              unfold Mt.toldBy
              by_cases hg : (Mt.of (l.take 1016)).gen % 2 = k
              · rw [if_pos hg, if_pos ⟨ho, hs, hg⟩]
              · rw [if_neg hg, if_neg (fun h => hg h.2.2)]
            have hxm : Mt.May x := by rw [hx]; exact hs.2.1
            rw [← hx] at C4
            clear hT' hs ho hx
            have hxg := hxm.1.2
            unfold mv at C4
            go_wp2_with fail
            refine C4.out.mono ?_
            rintro e w4 ⟨rfl, b4⟩
            have M4 := Lib.hid (M3.out.on b4)
            have B4 := Lib.hid (B3.out.trans (b4.mono (Nat.le_of_lt M3.out.lt)))
            clear C4 b4 M3 B3
            have N4 := Mb.new w4 x
            obtain ⟨c0, c1, c2, c3⟩ := N4.cells
            obtain ⟨d0, d1, d2, d3⟩ := M4.out.cells
            have f0 := M4.out.free 0
            have f1 := M4.out.free 1
            have f2 := M4.out.free 2
            have f3 := M4.out.free 3
            have hb4 := M4.out.lt
            have M5 := Lib.hid (M4.out.alloc (.cells #[.int .u64 (x.gen : Int), .int .i64 x.high, .int .i64 x.root, .int .i64 x.free] 24))
            have B5 := Lib.hid (B4.out.alloc (Nat.le_of_lt hb4 |> fun h => h) (.cells #[.int .u64 (x.gen : Int), .int .i64 x.high, .int .i64 x.root, .int .i64 x.free] 24))
            obtain ⟨r, hr, hr2⟩ : ∃ r, x.gen % 2 = r ∧ r < 2 := ⟨_, rfl, Nat.mod_lt _ (by omega)⟩
            rw [hr] at hT2
            have k1 : (x.gen : Int).tmod 2 = (r : Int) := by
              have : (x.gen : Int).tmod 2 = (x.gen : Int) % 2 := Int.tmod_eq_emod_of_nonneg (by omega)
              rw [this]; omega
            have k2 : IntKind.i64.wrap (r : Int) = (r : Int) := IntWalk.i64_in _ ⟨by omega, by omega⟩
            clear N4 hr hxm
            by_cases hg : r = k
            · subst hg
              rw [if_pos rfl] at hT2
              subst hT2
              unfold Mt.top at AC
              simp only at AC
              by_cases hgg : a.gen < x.gen
              · rw [if_pos hgg] at AC
                have hgg' : (a.gen : Int) < (x.gen : Int) := by omega
                clear hgg
                go_wp2
                go_roundw
                case rel =>
                  refine ⟨r + 1, by omega, by go_num, ?_, ?_⟩
                  · rw [AC.out]
                    have := (M4.out.set x).alloc (.cells #[.int .u64 (x.gen : Int), .int .i64 x.high, .int .i64 x.root, .int .i64 x.free] 24)
                    unfold set4 at this
                    exact this
                  · have b5 := set4_below B4.out (Nat.le_refl bb) (.int .u64 (x.gen : Int)) (.int .i64 x.high) (.int .i64 x.root) (.int .i64 x.free)
                    have b6 := b5.alloc (Nat.le_of_lt (M4.out.set x).lt) (.cells #[.int .u64 (x.gen : Int), .int .i64 x.high, .int .i64 x.root, .int .i64 x.free] 24)
                    unfold set4 at b6
                    exact b6
                case measure => simp [intOf]; omega
              · rw [if_neg hgg] at AC
                have hgg' : ¬ (a.gen : Int) < (x.gen : Int) := by omega
                clear hgg
                go_wp2
                go_roundw
                case rel => exact ⟨r + 1, by omega, by go_num, by rw [AC.out]; exact M5.out, B5.out⟩
                case measure => simp [intOf]; omega
            · rw [if_neg hg] at hT2
              subst hT2
              have ne1 : ((r : Int) == (k : Int)) = false := by rw [beq_eq_false_iff_ne]; omega
              have AC' : Hid (accTo d (k + 1) = a) := AC.out
              clear hg AC
              go_wp2
              go_roundw
              case rel => exact ⟨k + 1, by omega, by go_num, by rw [AC'.out]; exact M5.out, B5.out⟩
              case measure => simp [intOf]; omega
          · rw [if_neg hs] at C4
            have hT2 : T = none := by rw [hT']; exact if_neg fun h => hs h.2.1
            subst hT2
            have AC' : Hid (accTo d (k + 1) = a) := AC.out
            clear hT' hs ho AC
            unfold mv m0 at C4
            go_wp2_with fail
            refine C4.out.mono ?_
            rintro e w4 ⟨rfl, b4⟩
            have M4 := Lib.hid ((M3.out.on b4).alloc (.cells #[.int .u64 0, .int .i64 0, .int .i64 0, .int .i64 0] 24))
            have B4 := Lib.hid ((B3.out.trans (b4.mono (Nat.le_of_lt M3.out.lt))).alloc (Nat.le_of_lt (M3.out.on b4).lt) (.cells #[.int .u64 0, .int .i64 0, .int .i64 0, .int .i64 0] 24))
            clear C4 b4 M3 B3
            go_wp2
            go_roundw
            case rel => exact ⟨k + 1, by omega, by go_num, by rw [AC'.out]; exact M4.out, B4.out⟩
            case measure => simp [intOf]; omega
        · obtain rfl := n3 ho
          have hT2 : T = none := by rw [hT']; exact if_neg fun h => ho h.1
          subst hT2
          have AC' : Hid (accTo d (k + 1) = a) := AC.out
          clear y3 n3 hT' AC ho
          go_wp2
          go_roundw
          case rel => exact ⟨k + 1, by omega, by go_num, by rw [AC'.out]; exact M3.out, B3.out⟩
          case measure => simp [intOf]; omega
      · obtain rfl := n1 hn
        have hT2 : T = none := by rw [← hT]; exact if_neg hn
        subst hT2
        have AC' : Hid (accTo d (k + 1) = a) := AC.out
        clear y1 n1 hT AC hn
        go_wp2
        go_roundw
        case rel => exact ⟨k + 1, by omega, by go_num, by rw [AC'.out]; exact M2.out, B2.out⟩
        case measure => simp [intOf]; omega
    · have hk2 : k = 2 := by omega
      have HM : Hid (Mb wr bb m) := by rw [hk2, hac.out] at M; exact M
      have K2 := Lib.hid ((B.block _ hbl).trans K1.out)
      clear M B
      obtain ⟨c0, c1, c2, c3⟩ := HM.out.cells
      obtain ⟨q0, q1, q2, q3⟩ := mt_cells K2.out
      have f0 := frozen_of_row _ w.heap.size 0 _ _ K2.out
      have f1 := frozen_of_row _ w.heap.size 1 _ _ K2.out
      have f2 := frozen_of_row _ w.heap.size 2 _ _ K2.out
      have f3 := frozen_of_row _ w.heap.size 3 _ _ K2.out
      have k5 := set4_at K2.out (.int .u64 (m.gen : Int)) (.int .i64 m.high) (.int .i64 m.root) (.int .i64 m.free)
      have B5 := set4_below BW.out (Nat.le_refl _) (.int .u64 (m.gen : Int)) (.int .i64 m.high) (.int .i64 m.root) (.int .i64 m.free)
      unfold set4 at k5 B5
      have K5 := Lib.hid k5
      have HB5 := Lib.hid B5
      clear k5 B5
      by_cases h0 : m.gen = 0
      · have e2 : cd = 7 := by rw [hcd.out, if_pos h0]
        subst e2
        clear hz hle hcd hac
        have h0' : ((m.gen : Int) == 0) = true := by rw [beq_iff_eq]; omega
        clear h0
        go_wp2
        obtain ⟨p0, p1, p2, p3⟩ := mt_cells K5.out
        refine bodyPost_ret (v := .tuple #[mv m, .int .i64 7]) (by simp [results, Try.results29, go_sem, mv, p0, p1, p2, p3]) rfl ⟨rfl, HB5.out⟩
      · have h0' : ((m.gen : Int) == 0) = false := by rw [beq_eq_false_iff_ne]; omega
        have e2 : cd = 0 := by rw [hcd.out, if_neg h0]
        subst e2
        clear hz hcd hac
        go_wp2
        obtain ⟨p0, p1, p2, p3⟩ := mt_cells K5.out
        refine bodyPost_ret (v := .tuple #[mv m, .int .i64 0]) (by simp [results, Try.results29, go_sem, mv, p0, p1, p2, p3]) rfl ⟨rfl, HB5.out⟩

end Go.Proofs.Ytcpgmglpgffhdaa
