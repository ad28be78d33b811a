/-
  The document's metas: Write.
-/
import Derived.Test.YtcpgmglpgffhdaaMtCell
import Derived.Test.YtcpgmglpgffhdaaGrPlain
import Derived.Test.YtcpgmglpgffhdaaPgRef
import Derived.Test.YtcpgmglpgffhdaaGrRef
import Derived.Deep.RegionHeld3
namespace Go.Proofs.Ytcpgmglpgffhdaa
open Go.RowKit
set_option linter.unusedVariables false

theorem Rtep.before {w w1 w2 : World} {G G' : Gd} (hb : Below w.heap.size w w1) (h : Rtep w1 G w2 G') : Rtep w G w2 G' :=
  ⟨(Off.of_below hb).trans h.off, h.same, fun k hk => by
    rcases h.own k hk with a | a
    · exact .inl a
    · exact .inr (Nat.le_trans hb.size a)⟩
theorem Rtep.quiet {w w1 : World} (G : Gd) (hb : Below w.heap.size w w1) : Rtep w G w1 G := Rtep.before hb (Rtep.refl w1 G)

set_option maxRecDepth 100000 in
set_option maxHeartbeats 2000000 in
theorem rmwrite_any (w : World) (G : Gd) (d : Dk.Pd) (m : Mt.M) (h : Rfd w G d) (hm : d.waits.length < 1000) :
    Calls Try.prog 19 #[.pointer (some ⟨G.q, 0, none⟩), mv m] w fun e w' => ∃ G', e = .returned (.int .i64 (Mt.writeCode d m)) ∧ Rfd w' G' (Mt.write d m) ∧ Rtep w G w' G' := by
  have B0 : Below w.heap.size w (w.alloc (.cells #[.int .u64 (m.gen : Int), .int .i64 m.high, .int .i64 m.root, .int .i64 m.free] 24)) := (Below.refl _ _).alloc (Nat.le_refl _) _
  have M0 := Mb.new w m
  have C1 := Lib.hid (refMay_any (w.alloc (.cells #[.int .u64 (m.gen : Int), .int .i64 m.high, .int .i64 m.root, .int .i64 m.free] 24)) m)
  obtain ⟨c0, c1, c2, c3⟩ := M0.cells
  have HD := Lib.hid h
  have HM0 := Lib.hid M0
  have HB0 := Lib.hid B0
  clear h B0 M0
  unfold Mt.write Mt.writeCode
  by_cases hM : Mt.May m
  · rw [if_pos hM, if_pos hM]
    rw [decide_eq_true hM] at C1
    have hg := hM.1.2
    have C3 := Lib.hid (fun W => refPay_yes W m hM)
    have PL := Lib.hid (Mt.pageOf_len m)
    have PT := Lib.hid (Mt.pageOf_lt m)
    have QL := Lib.hid (Mt.pay_len m)
    have QT := Lib.hid (Mt.pay_lt m)
    have hpg : Hid (Pg.page (m.gen % 2) (Mt.pay m) = Mt.pageOf m) := rfl
    generalize Mt.pageOf m = pg at *
    obtain ⟨r, hr, hr2⟩ : ∃ r, m.gen % 2 = r ∧ r < 2 := ⟨_, rfl, Nat.mod_lt _ (by omega)⟩
    rw [hr] at hpg
    rw [hr]
    have k1 : (m.gen : Int).tmod 2 = (r : Int) := by
      have : (m.gen : Int).tmod 2 = (m.gen : Int) % 2 := Int.tmod_eq_emod_of_nonneg (by omega)
      rw [this]; omega
    have k2 : IntKind.i64.wrap (r : Int) = (r : Int) := IntWalk.i64_in _ ⟨by omega, by omega⟩
    clear hM hr
    unfold mv at *
    go_enter Try.func19, Try.ntmps19
    go_wp2_with fail
    refine C1.out.mono ?_
    rintro e w1 ⟨rfl, b1⟩
    have B1 := Lib.hid (onto HB0.out b1)
    have M1 := Lib.hid (HM0.out.on b1)
    clear c0 c1 c2 c3 C1 b1 HM0 HB0
    obtain ⟨c0, c1, c2, c3⟩ := M1.out.cells
    have KS : Hid (∀ W, Below w1.heap.size w1 W → W.cell? ⟨w.heap.size, 0, none⟩ = some (.int .u64 (m.gen : Int)) ∧ W.cell? ⟨w.heap.size, 1, none⟩ = some (.int .i64 m.high) ∧ W.cell? ⟨w.heap.size, 2, none⟩ = some (.int .i64 m.root) ∧ W.cell? ⟨w.heap.size, 3, none⟩ = some (.int .i64 m.free)) := fun W hb => (M1.out.on hb).cells
    go_wp2_with fail
    have run : Below w1.heap.size w1 w1 := Below.refl _ _
    go_region_held3 (fun w' => w'.cell? ⟨w.heap.size, 0, none⟩ = some (.int .u64 (m.gen : Int)) ∧ w'.cell? ⟨w.heap.size, 1, none⟩ = some (.int .i64 m.high) ∧ w'.cell? ⟨w.heap.size, 2, none⟩ = some (.int .i64 m.root) ∧ w'.cell? ⟨w.heap.size, 3, none⟩ = some (.int .i64 m.free)) (first | assumption | exact ⟨c0, c1, c2, c3⟩ | exact KS.out _ run | go_keep) (first
      | (go_at_call 13; refine (C3.out _).mono ?_; rintro e w3 ⟨A3, k3, rfl, O3, b3⟩; replace run : Below w1.heap.size w1 w3 := onto (below_drewN (Below.refl _ _) 1) b3; have s3 := own_bs O3 QL.out QT.out)
      | (go_at_call 41; refine (refFrame_any w3 r A3 24 k3 _ s3 (by omega) (by omega)).mono ?_; rintro e w4 ⟨A4, k4, rfl, s4, b4⟩; replace run := onto run b4))
    all_goals
      rw [hpg.out] at s4
      have C5 := Lib.hid (rwrite_any w4 G d (r : Int) 1024 k4 A4 pg (HD.out.on (onto B1.out run)) s4 hm)
      have HB4 := Lib.hid (onto B1.out run)
      obtain ⟨x0, x1, x2, x3⟩ := KS.out _ run
      clear run s4 s3 O3
      generalize hp : G.q = p at *
      go_wp2_with fail
      refine C5.out.mono ?_
      rintro e w5 ⟨G', rfl, hD, t⟩
      have HD5 := Lib.hid hD
      have HT5 := Lib.hid (Rtep.before HB4.out t)
      clear hD t C5
      go_wp2
      go_ret
      exact ⟨G', rfl, HD5.out, HT5.out⟩
  · rw [if_neg hM, if_neg hM]
    rw [decide_eq_false hM] at C1
    unfold mv at *
    generalize hp : G.q = p at *
    go_enter Try.func19, Try.ntmps19
    go_wp2_with fail
    refine C1.out.mono ?_
    rintro e w1 ⟨rfl, b1⟩
    have B1 := Lib.hid (onto HB0.out b1)
    clear b1 c0 c1 c2 c3
    go_wp2
    go_ret
    exact ⟨G, rfl, HD.out.on B1.out, Rtep.quiet G B1.out⟩

end Go.Proofs.Ytcpgmglpgffhdaa
