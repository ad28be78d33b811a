/-
  NumOrder: of any two numbers the lesser one's bytes in order come first; they are what the document says, and are read again; other lengths aren't numbers.
-/
import Derived.Test.YthibflmmpkijkaaAwake
import Derived.Test.YthibflmmpkijkaaSame
import Derived.Test.YthibflmmpkijkaaRefOrder
import Derived.Deep.RegionHeld3
import Derived.Deep.DeepCutAuto
namespace Go.Proofs.Ythibflmmpkijkaa
open Go.RowKit
set_option linter.unusedVariables false

theorem p8 : (256 : Nat) ^ 8 = 18446744073709551616 := by decide
theorem lex_keys {x y : Nat} (hx : L64 x) (hy : L64 y) : Nm.lexLess (Nm.be 8 x) (Nm.be 8 y) = decide (x < y) := Nm.lexLess_be 8 x y (by rw [p8]; exact hx) (by rw [p8]; exact hy)
theorem lex_ints {x y : Int} (hx : I64 x) (hy : I64 y) : Nm.lexLess (Nm.be 8 (lift x)) (Nm.be 8 (lift y)) = decide (x < y) := by
  rw [lex_keys (lift_lt hx) (lift_lt hy), Bool.eq_iff_iff]
  unfold I64 at hx hy
  unfold lift
  simp only [decide_eq_true_eq]; omega
theorem less_keys {b : Bool} {x y : Nat} (hx : L64 x) (hy : L64 y) (hb : decide (x < y) = b) (w : World) (A A' : Option Addr) (n c n' c' : Nat) (ha : Bs w A n c (Nm.be 8 x)) (ha' : Bs w A' n' c' (Nm.be 8 y)) :
    Calls Try.prog 20 #[.slice A n c, .slice A' n' c'] w fun e w' => e = .returned (.bool b) ∧ ∃ m, w' = w.drewN m := by
  have := less_any w A A' n c n' c' _ _ ha ha'
  rwa [lex_keys hx hy, hb] at this
theorem less_ints {b : Bool} {x y : Int} (hx : I64 x) (hy : I64 y) (hb : decide (x < y) = b) (w : World) (A A' : Option Addr) (n c n' c' : Nat) (ha : Bs w A n c (Nm.be 8 (lift x))) (ha' : Bs w A' n' c' (Nm.be 8 (lift y))) :
    Calls Try.prog 20 #[.slice A n c, .slice A' n' c'] w fun e w' => e = .returned (.bool b) ∧ ∃ m, w' = w.drewN m := by
  have := less_any w A A' n c n' c' _ _ ha ha'
  rwa [lex_ints hx hy, hb] at this

/-- The four numbers that were handed in, in their two boxes. -/
theorem boxes {B g : Nat} {w w' : World} {x0 x1 y0 y1 : Value} (h : Below B w w') (hg : g + 1 < B)
    (c : w.cell? ⟨g, 0, none⟩ = some x0 ∧ w.cell? ⟨g, 1, none⟩ = some x1 ∧ w.cell? ⟨g + 1, 0, none⟩ = some y0 ∧ w.cell? ⟨g + 1, 1, none⟩ = some y1) :
    w'.cell? ⟨g, 0, none⟩ = some x0 ∧ w'.cell? ⟨g, 1, none⟩ = some x1 ∧ w'.cell? ⟨g + 1, 0, none⟩ = some y0 ∧ w'.cell? ⟨g + 1, 1, none⟩ = some y1 :=
  ⟨(h.cell (p := ⟨g, 0, none⟩) (by show g < B; omega)).trans c.1, (h.cell (p := ⟨g, 1, none⟩) (by show g < B; omega)).trans c.2.1,
   (h.cell (p := ⟨g + 1, 0, none⟩) (by show g + 1 < B; omega)).trans c.2.2.1, (h.cell (p := ⟨g + 1, 1, none⟩) (by show g + 1 < B; omega)).trans c.2.2.2⟩

set_option maxRecDepth 100000 in
set_option maxHeartbeats 1000000 in
theorem numOrder_walk (w : World) (x0 x1 : Nat) (y0 y1 : Int) (A : Option Addr) (n c : Nat) (l : List Nat) (hx0 : L64 x0) (hx1 : L64 x1) (hy0 : I64 y0) (hy1 : I64 y1) (hb : Bs w A n c l) :
    Calls Try.prog 5 #[.agg #[.int .u64 (x0 : Int), .int .u64 (x1 : Int)], .agg #[.int .i64 y0, .int .i64 y1], .slice A n c] w fun e w' => e = .returned (.bool true) ∧ Below w.heap.size w w' := by
  obtain ⟨bx, hbx⟩ : ∃ b, decide (x0 < x1) = b := ⟨_, rfl⟩
  obtain ⟨by_, hby⟩ : ∃ b, decide (y0 < y1) = b := ⟨_, rfl⟩
  go_enter Try.func5, Try.ntmps5
  go_wp2_with fail
  refine (awake_any _).mono ?_
  rintro e w1 ⟨rfl, b1⟩
  have B1 : Below w.heap.size w w1 := onto (onto ((Below.refl w.heap.size w).alloc (Nat.le_refl _) _) ((Below.refl _ _).alloc (Nat.le_refl _) _)) b1
  have hsz : w.heap.size + 1 < w1.heap.size := by have := b1.size; simp at this; omega
  have C1 := boxes (g := w.heap.size) (x0 := .int .u64 (x0 : Int)) (x1 := .int .u64 (x1 : Int)) (y0 := .int .i64 y0) (y1 := .int .i64 y1) b1 (by simp) (by simp)
  have s1 := hb.on B1
  clear b1
  go_upto_region 3 with fail
  go_cut [46] (fun s wx => s = .bool false ∧ Below w1.heap.size w1 wx)
  case first =>
    have run : Below w1.heap.size w1 w1.drew := (Below.refl _ _).drew
    have C := C1
    obtain ⟨c0, c1, d0, d1⟩ := C1
    go_region_held3 (fun w' => w'.cell? ⟨w.heap.size, 0, none⟩ = some (.int .u64 (x0 : Int)) ∧ w'.cell? ⟨w.heap.size, 1, none⟩ = some (.int .u64 (x1 : Int)) ∧ w'.cell? ⟨w.heap.size + 1, 0, none⟩ = some (.int .i64 y0) ∧ w'.cell? ⟨w.heap.size + 1, 1, none⟩ = some (.int .i64 y1)) (first | assumption | go_keep)
      (first
        | (go_at_call_of 21 (x0); refine (key_any _ x0 hx0).mono ?_; rintro e wa ⟨Aa, ca, rfl, ka, ba⟩; (try (have kb := kb.on ba)); have run := run.trans (ba.mono run.size); have CS := boxes run hsz C; clear ba)
        | (go_at_call_of 21 (x1); refine (key_any _ x1 hx1).mono ?_; rintro e wb ⟨Ab, cb, rfl, kb, bb⟩; (try (have ka := ka.on bb)); have run := run.trans (bb.mono run.size); have CS := boxes run hsz C; clear bb)
        | (go_at_call_of 22 (y0); refine (keyInt_any _ y0 hy0).mono ?_; rintro e wa ⟨Ac, cc, rfl, kc, ba⟩; (try (have kd := kd.on ba)); have run := run.trans (ba.mono run.size); have CS := boxes run hsz C; clear ba)
        | (go_at_call_of 22 (y1); refine (keyInt_any _ y1 hy1).mono ?_; rintro e wb ⟨Ad, cd, rfl, kd, bb⟩; (try (have kc := kc.on bb)); have run := run.trans (bb.mono run.size); have CS := boxes run hsz C; clear bb)
        | (go_at_call_of 20 (Aa); refine (less_keys hx0 hx1 hbx _ _ _ _ _ _ _ ka kb).mono ?_; rintro e wl ⟨rfl, ml, rfl⟩; have run := below_drewN run ml)
        | (go_at_call_of 20 (Ac); refine (less_ints hy0 hy1 hby _ _ _ _ _ _ _ kc kd).mono ?_; rintro e wl ⟨rfl, ml, rfl⟩; have run := below_drewN run ml))
    all_goals (go_wp2_with fail; go_meet; exact ⟨rfl, run⟩)
  case rest =>
    obtain ⟨rfl, r2⟩ := hcut
    have C := boxes r2 hsz C1
    have s2 := s1.on r2
    have hsz2 : w.heap.size + 1 < wc.heap.size := Nat.lt_of_lt_of_le hsz r2.size
    have B2 := onto B1 r2
    clear C1 s1 hsz r2 B1
    go_upto_region 5 with fail
    go_cut [64] (fun s wx => s = .bool false ∧ Below wc.heap.size wc wx)
    case first =>
      have run : Below wc.heap.size wc wc.drew := (Below.refl _ _).drew
      obtain ⟨c0, c1, d0, d1⟩ := id C
      go_region_held3 (fun w' => w'.cell? ⟨w.heap.size, 0, none⟩ = some (.int .u64 (x0 : Int)) ∧ w'.cell? ⟨w.heap.size, 1, none⟩ = some (.int .u64 (x1 : Int)) ∧ w'.cell? ⟨w.heap.size + 1, 0, none⟩ = some (.int .i64 y0) ∧ w'.cell? ⟨w.heap.size + 1, 1, none⟩ = some (.int .i64 y1)) (first | assumption | go_keep)
        (first
          | (go_at_call_of 21 (x0); refine (key_any _ x0 hx0).mono ?_; rintro e wa ⟨Aa, ca, rfl, ka, ba⟩; (try (have kb := kb.on ba)); have run := run.trans (ba.mono run.size); have CS := boxes run hsz2 C; clear ba)
          | (go_at_call_of 23 (x0); refine (refKey_any _ x0 hx0).mono ?_; rintro e wb ⟨Ab, cb, rfl, kb, bb⟩; (try (have ka := ka.on bb)); have run := run.trans (bb.mono run.size); have CS := boxes run hsz2 C; clear bb)
          | (go_at_call_of 22 (y0); refine (keyInt_any _ y0 hy0).mono ?_; rintro e wa ⟨Ac, cc, rfl, kc, ba⟩; (try (have kd := kd.on ba)); have run := run.trans (ba.mono run.size); have CS := boxes run hsz2 C; clear ba)
          | (go_at_call_of 24 (y0); refine (refKeyInt_any _ y0 hy0).mono ?_; rintro e wb ⟨Ad, cd, rfl, kd, bb⟩; (try (have kc := kc.on bb)); have run := run.trans (bb.mono run.size); have CS := boxes run hsz2 C; clear bb)
          | (go_at_call_of 13 (Aa); refine (same_eq _ _ _ _ _ _ _ _ ka kb).mono ?_; rintro e wl ⟨rfl, ml, rfl⟩; have run := below_drewN run ml)
          | (go_at_call_of 13 (Ac); refine (same_eq _ _ _ _ _ _ _ _ kc kd).mono ?_; rintro e wl ⟨rfl, ml, rfl⟩; have run := below_drewN run ml))
      all_goals (go_wp2_with fail; go_meet; exact ⟨rfl, run⟩)
    case rest =>
      obtain ⟨rfl, r3⟩ := hcut
      have C3 := boxes r3 hsz2 C
      have s3 := s2.on r3
      have hsz3 : w.heap.size + 1 < wc.heap.size := Nat.lt_of_lt_of_le hsz2 r3.size
      have B3 := onto B2 r3
      clear C s2 hsz2 r3 B2
      obtain ⟨c0, c1, d0, d1⟩ := id C3
      go_wp2_with fail
      refine (key_any _ x0 hx0).mono ?_
      rintro e w4 ⟨A4, c4, rfl, k4, b4⟩
      have C4 := boxes b4 hsz3 C3
      have s4 := s3.on b4
      have B4 := onto B3 b4
      have hsz4 : w.heap.size + 1 < w4.heap.size := Nat.lt_of_lt_of_le hsz3 b4.size
      clear C3 s3 B3 b4 hsz3 c0 c1 d0 d1
      go_wp2_with fail
      refine (unkey_yes _ _ _ _ k4).mono ?_
      rintro e w4' ⟨rfl, rfl⟩
      rw [Nm.fromBe_be 8 x0 (by rw [p8]; exact hx0)]
      clear k4
      obtain ⟨c0, c1, d0, d1⟩ := id C4
      go_wp2_with fail
      refine (keyInt_any _ y0 hy0).mono ?_
      rintro e w5 ⟨A5, c5, rfl, k5, b5⟩
      have C5 := boxes b5 hsz4 C4
      have s5 := s4.on b5
      have B5 := onto B4 b5
      clear C4 s4 B4 b5 hsz4 c0 c1 d0 d1
      go_wp2_with fail
      refine (unkeyInt_yes _ _ _ _ k5).mono ?_
      rintro e w5' ⟨rfl, rfl⟩
      rw [Nm.fromBe_be 8 (lift y0) (by rw [p8]; exact lift_lt hy0), sink_xor (lift_lt hy0), show (lift y0 : Int) - 9223372036854775808 = y0 from by unfold I64 at hy0; unfold lift; omega]
      clear k5
      obtain ⟨c0, c1, d0, d1⟩ := id C5
      clear C5
      by_cases hn : n = 8
      · subst hn
        go_wp2_with fail
        refine (unkey_yes _ _ _ _ s5).mono ?_
        rintro e w6 ⟨rfl, rfl⟩
        go_wp2_with fail
        refine (refUnkey_yes _ _ _ _ s5).mono ?_
        rintro e w6 ⟨rfl, rfl⟩
        go_wp2_with fail
        refine (unkeyInt_yes _ _ _ _ s5).mono ?_
        rintro e w6 ⟨rfl, rfl⟩
        go_wp2
        go_ret
        exact ⟨rfl, B5⟩
      · have hd : ((n : Int) == 8) = false := by rw [beq_eq_false_iff_ne]; omega
        go_wp2_with fail
        refine (unkey_no _ _ _ _ hn).mono ?_
        rintro e w6 ⟨rfl, rfl⟩
        go_wp2_with fail
        refine (refUnkey_no _ _ _ _ hn).mono ?_
        rintro e w6 ⟨rfl, rfl⟩
        go_wp2_with fail
        refine (unkeyInt_no _ _ _ _ hn).mono ?_
        rintro e w6 ⟨rfl, rfl⟩
        go_wp2
        go_ret
        exact ⟨rfl, B5⟩

end Go.Proofs.Ythibflmmpkijkaa
