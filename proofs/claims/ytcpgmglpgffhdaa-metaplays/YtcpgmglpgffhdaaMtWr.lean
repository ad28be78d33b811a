/-
  The program's metas: Write.
-/
import Derived.Test.YtcpgmglpgffhdaaMtPayP
import Derived.Test.YtcpgmglpgffhdaaGrPlain
import Derived.Test.YtcpgmglpgffhdaaPgFrame
import Derived.Test.YtcpgmglpgffhdaaGrDisk
namespace Go.Proofs.Ytcpgmglpgffhdaa
open Go.RowKit
set_option linter.unusedVariables false

theorem Step.before {w w1 w2 : World} {H H' : Hd} (hb : Below w.heap.size w w1) (h : Step w1 H w2 H') : Step w H w2 H' :=
  ⟨(Off.of_below hb).trans h.off, h.same, fun k hk => by
    rcases h.own k hk with a | a
    · exact .inl a
    · exact .inr (Nat.le_trans hb.size a)⟩
theorem Step.quiet {w w1 : World} (H : Hd) (hb : Below w.heap.size w w1) : Step w H w1 H := Step.before hb (Step.refl w1 H)

set_option maxRecDepth 100000 in
set_option maxHeartbeats 2000000 in
theorem mwrite_any (w : World) (H : Hd) (d : Dk.Pd) (m : Mt.M) (h : Dsk w H d) (hm : d.waits.length < 1000) :
    Calls Try.prog 18 #[.pointer (some ⟨H.p, 0, none⟩), mv m] w fun e w' => ∃ H', e = .returned (.int .i64 (Mt.writeCode d m)) ∧ Dsk w' H' (Mt.write d m) ∧ Step w H w' H' := by
  have B0 : Below w.heap.size w (w.alloc (.cells #[.int .u64 (m.gen : Int), .int .i64 m.high, .int .i64 m.root, .int .i64 m.free] 24)) := (Below.refl _ _).alloc (Nat.le_refl _) _
  have M0 := Mb.new w m
  have C1 := Lib.hid (may_any (w.alloc (.cells #[.int .u64 (m.gen : Int), .int .i64 m.high, .int .i64 m.root, .int .i64 m.free] 24)) m)
  obtain ⟨c0, c1, c2, c3⟩ := M0.cells
  have HD := Lib.hid h
  have HM0 := Lib.hid M0
  have HB0 := Lib.hid B0
  clear h B0 M0
  unfold Mt.write Mt.writeCode
  by_cases hM : Mt.May m
  · rw [if_pos hM, if_pos hM]
    rw [decide_eq_true hM] at C1
    have hg := hM.1.2
    have C2 := Lib.hid (fun W => placeOf_any W m (by omega))
    have C3 := Lib.hid (fun W => pay_yes W m hM)
    have PL := Lib.hid (Mt.pageOf_len m)
    have PT := Lib.hid (Mt.pageOf_lt m)
    have QL := Lib.hid (Mt.pay_len m)
    have QT := Lib.hid (Mt.pay_lt m)
    have hpg : Hid (Pg.page (m.gen % 2) (Mt.pay m) = Mt.pageOf m) := rfl
    generalize Mt.pageOf m = pg at *
    obtain ⟨r, hr, hr2⟩ : ∃ r, m.gen % 2 = r ∧ r < 2 := ⟨_, rfl, Nat.mod_lt _ (by omega)⟩
    rw [hr] at C2 hpg
    rw [hr]
    clear hM hr
    unfold mv at *
    go_enter Try.func18, Try.ntmps18
    go_wp2_with fail
    refine C1.out.mono ?_
    rintro e w1 ⟨rfl, b1⟩
    have B1 := Lib.hid (onto HB0.out b1)
    have M1 := Lib.hid (HM0.out.on b1)
    clear c0 c1 c2 c3 C1 b1 HM0 HB0
    obtain ⟨c0, c1, c2, c3⟩ := M1.out.cells
    go_wp2_with fail
    refine (C2.out w1).mono ?_
    rintro e w2 ⟨rfl, b2⟩
    have B2 := Lib.hid (onto B1.out b2)
    have M2 := Lib.hid (M1.out.on b2)
    clear c0 c1 c2 c3 C2 b2 M1 B1
    obtain ⟨c0, c1, c2, c3⟩ := M2.out.cells
    go_wp2_with fail
    refine (C3.out w2).mono ?_
    rintro e w3 ⟨A3, k3, rfl, O3, b3⟩
    have S3 := own_bs O3 QL.out QT.out
    have B3 := Lib.hid (onto B2.out b3)
    have C4 := Lib.hid (frame_any w3 r A3 24 k3 _ S3 (by omega) (by omega))
    rw [hpg.out] at C4
    clear c0 c1 c2 c3 C3 b3 M2 B2 O3 S3 hpg
    go_wp2_with fail
    refine C4.out.mono ?_
    rintro e w4 ⟨rfl, R4, b4⟩
    have B4 := onto B3.out b4
    have C5 := Lib.hid (write_any w4 H d (r : Int) 1024 1024 (some ⟨w3.heap.size, 0, none⟩) pg (HD.out.on B4) (R4.bs' PT.out PL.out (by omega)) hm)
    have HB4 := Lib.hid B4
    clear B4 B3 C4 R4 b4
    generalize hp : H.p = p at *
    go_wp2_with fail
    refine C5.out.mono ?_
    rintro e w5 ⟨H', rfl, hD, t⟩
    have HD5 := Lib.hid hD
    have HT5 := Lib.hid (Step.before HB4.out t)
    clear hD t C5
    go_wp2
    go_ret
    exact ⟨H', rfl, HD5.out, HT5.out⟩
  · rw [if_neg hM, if_neg hM]
    rw [decide_eq_false hM] at C1
    unfold mv at *
    generalize hp : H.p = p at *
    go_enter Try.func18, Try.ntmps18
    go_wp2_with fail
    refine C1.out.mono ?_
    rintro e w1 ⟨rfl, b1⟩
    have B1 := Lib.hid (onto HB0.out b1)
    clear b1 c0 c1 c2 c3
    go_wp2
    go_ret
    exact ⟨H, rfl, HD.out.on B1.out, Step.quiet H B1.out⟩

section
variable {S : Nat → Prop} {wb : World} (w : World) (p : Nat) (d : Dk.Pd) (h : Has S wb w p d)
include h
theorem hmwrite (m : Mt.M) (hm : d.waits.length < 1000) :
    Calls Try.prog 18 #[.pointer (some ⟨p, 0, none⟩), mv m] w fun e w' => e = .returned (.int .i64 (Mt.writeCode d m)) ∧ Has S wb w' p (Mt.write d m) := by
  obtain ⟨H, rfl, hD, ho, hO⟩ := h
  refine (mwrite_any w H d m hD hm).mono ?_
  rintro e w' ⟨H', rfl, h', t'⟩
  exact ⟨rfl, Has.step rfl ho hO h' t'⟩
end

end Go.Proofs.Ytcpgmglpgffhdaa
