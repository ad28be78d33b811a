/-
  PageTurned: a page of which some bytes within four that stand together were turned isn't opened, unless none was.
-/
import Derived.Test.YtggdhknalpjdlaaPgAwake
import Derived.Test.YtggdhknalpjdlaaPgRefOpen
import Derived.Test.YtggdhknalpjdlaaCrFour
namespace Go.Proofs.Ytggdhknalpjdlaa
open Go.RowKit
set_option linter.unusedVariables false

theorem xor_same {x e : Nat} (h : x ^^^ e = x) : e = 0 := Cr.xor_left (a := x) (by rw [h, Nat.xor_zero])
theorem row4_drop (p q : List Nat) (x e : Nat → Nat) (k : Nat) (h : p.length + 4 ≤ 1020) : (row4 p q x e k).drop 1020 = q.drop (1020 - (p.length + 4)) := by
  unfold row4
  rw [List.drop_append, List.drop_eq_nil_of_le (by simp [four_len]; omega), List.length_append, four_len]; rfl
theorem row4_take (p q : List Nat) (x e : Nat → Nat) (k : Nat) (h : p.length + 4 ≤ 1020) : (row4 p q x e k).take 1020 = row4 p (q.take (1020 - (p.length + 4))) x e k := by
  unfold row4
  rw [List.take_append, List.take_of_length_le (by simp [four_len]; omega), List.length_append, four_len]
/-- A page in which four bytes that stand together are turned: it is opened where nothing was turned, and only there. -/
theorem turned_opens {no : Int} {p q : List Nat} {x e : Nat → Nat} (hp : ∀ y ∈ p, y < 256) (hq : ∀ y ∈ q, y < 256) (hx : ∀ j, j < 4 → x j < 256) (he : ∀ j, j < 4 → e j < 256)
    (h : Pg.Opens no (row4 p q x e 0)) : Pg.Opens no (row4 p q x e 4) ↔ (e 0 = 0 ∧ e 1 = 0 ∧ e 2 = 0 ∧ e 3 = 0) := by
  constructor
  · intro h2
    by_cases hl : p.length + 4 ≤ 1020
    · have s0 := h.2.2.1
      have s4 := h2.2.2.1
      rw [row4_drop p q x e 0 hl, row4_take p q x e 0 hl] at s0
      rw [row4_drop p q x e 4 hl, row4_take p q x e 4 hl] at s4
      exact (sums_same hp (fun y hy => hq y (List.mem_of_mem_take hy)) hx he).1 (s4.symm.trans s0)
    · have e1 : row4 p q x e 4 = row4 p q x e 0 := by
        refine Pg.opens_same (row4_lt hp hq hx he 4) (row4_lt hp hq hx he 0) h2 h ?_
        unfold row4
        rw [List.append_assoc, List.append_assoc, List.take_append_of_le_length (by omega), List.take_append_of_le_length (by omega)]
      unfold row4 at e1
      have e2 := List.append_cancel_left (List.append_cancel_right e1)
      rw [four_all, four_zero_] at e2
      injection e2 with a0 e2
      injection e2 with a1 e2
      injection e2 with a2 e2
      injection e2 with a3 _
      exact ⟨xor_same a0, xor_same a1, xor_same a2, xor_same a3⟩
  · rintro ⟨h0, h1, h2, h3⟩
    have : row4 p q x e 4 = row4 p q x e 0 := by
      unfold row4
      rw [four_all, four_zero_, h0, h1, h2, h3]
      simp only [Nat.xor_zero]
    rw [this]; exact h
/-- The box of where bytes are turned, and by what. -/
def Box5 (w : World) (g a : Nat) (e : Nat → Nat) : Prop :=
  w.cell? ⟨g, 0, none⟩ = some (.int .u16 (a : Int)) ∧ w.cell? ⟨g, 1, none⟩ = some (.int .u8 (e 0 : Int)) ∧ w.cell? ⟨g, 2, none⟩ = some (.int .u8 (e 1 : Int)) ∧ w.cell? ⟨g, 3, none⟩ = some (.int .u8 (e 2 : Int)) ∧ w.cell? ⟨g, 4, none⟩ = some (.int .u8 (e 3 : Int))
theorem Box5.below {w w' : World} {g B a : Nat} {e : Nat → Nat} (h : Box5 w g a e) (hb : Below B w w') (hg : g < B) : Box5 w' g a e :=
  ⟨(hb.cell (p := ⟨g, 0, none⟩) (by exact hg)).trans h.1, (hb.cell (p := ⟨g, 1, none⟩) (by exact hg)).trans h.2.1, (hb.cell (p := ⟨g, 2, none⟩) (by exact hg)).trans h.2.2.1, (hb.cell (p := ⟨g, 3, none⟩) (by exact hg)).trans h.2.2.2.1, (hb.cell (p := ⟨g, 4, none⟩) (by exact hg)).trans h.2.2.2.2⟩
theorem Box5.at_ {w : World} {g a : Nat} {e : Nat → Nat} (h : Box5 w g a e) {k : Nat} (hk : k < 4) : w.cell? ⟨g, 1 + k, none⟩ = some (.int .u8 (e k : Int)) := by
  match k, hk with
  | 0, _ => exact h.2.1
  | 1, _ => exact h.2.2.1
  | 2, _ => exact h.2.2.2.1
  | 3, _ => exact h.2.2.2.2
theorem four_true (W : World) {e0 e1 e2 e3 : Nat} (h : e0 = 0 ∧ e1 = 0 ∧ e2 = 0 ∧ e3 = 0) : (Op.equalIn 10000 31 (.agg #[.int .u8 (e0 : Int), .int .u8 (e1 : Int), .int .u8 (e2 : Int), .int .u8 (e3 : Int)]) (.agg #[.int .u8 0, .int .u8 0, .int .u8 0, .int .u8 0])).run Try.prog W = .ok true W := by
  rw [four_eq]
  obtain ⟨rfl, rfl, rfl, rfl⟩ := h
  rfl
theorem four_false (W : World) {e0 e1 e2 e3 : Nat} (h : ¬ (e0 = 0 ∧ e1 = 0 ∧ e2 = 0 ∧ e3 = 0)) : (Op.equalIn 10000 31 (.agg #[.int .u8 (e0 : Int), .int .u8 (e1 : Int), .int .u8 (e2 : Int), .int .u8 (e3 : Int)]) (.agg #[.int .u8 0, .int .u8 0, .int .u8 0, .int .u8 0])).run Try.prog W = .ok false W := by
  rw [four_eq]
  have : ((e0 : Int) == 0 && (e1 : Int) == 0 && (e2 : Int) == 0 && (e3 : Int) == 0) = false := by
    rw [Bool.eq_false_iff]
    intro h'
    simp only [Bool.and_eq_true, beq_iff_eq] at h'
    exact h (by omega)
  rw [this]

set_option maxRecDepth 100000 in
set_option maxHeartbeats 2000000 in
theorem pageTurned_walk (w : World) (no : Nat) (A : Option Addr) (n c : Nat) (l : List Nat) (a : Nat) (e : Nat → Nat) (hb : Bs w A n c l) (hno : no < 65536) (ha : a < 65536) (he : ∀ j, j < 4 → e j < 256) :
    Calls Try.prog 4 #[.int .u16 (no : Int), .slice A n c, .agg #[.int .u16 (a : Int), .int .u8 (e 0 : Int), .int .u8 (e 1 : Int), .int .u8 (e 2 : Int), .int .u8 (e 3 : Int)]] w fun r w' => r = .returned (.bool true) ∧ Below w.heap.size w w' := by
  have hcm := hb.2.2.1
  have hnc := hb.2.1
  unfold maxLen at hcm
  have HE := Lib.hid he
  clear he
  go_enter Try.func4, Try.ntmps4
  go_wp2_with fail
  refine (awake_any _).mono ?_
  rintro r w1 ⟨rfl, b1⟩
  have B1 : Below w.heap.size w w1 := onto ((Below.refl w.heap.size w).alloc (Nat.le_refl _) _) b1
  have hg1 : w.heap.size < w1.heap.size := by have := b1.size; simp at this; omega
  have X1 : Hid (Box5 w1 w.heap.size a e) := Box5.below (w := w.alloc (.cells #[.int .u16 (a : Int), .int .u8 (e 0 : Int), .int .u8 (e 1 : Int), .int .u8 (e 2 : Int), .int .u8 (e 3 : Int)] 33)) ⟨by simp, by simp, by simp, by simp, by simp⟩ b1 (by simp)
  have s1 := hb.on B1
  clear b1
  by_cases hM : n ≤ 1016
  · go_wp2_with fail
    refine (frame_any _ no _ _ _ _ s1 (by omega) hM).mono ?_
    rintro r w2 ⟨rfl, R2, b2⟩
    have hlt := hb.2.2.2.1
    have hln : l.length ≤ 1016 := by rw [hb.1]; exact hM
    have HPL := Pg.page_lt no hlt
    have HPN := Pg.page_len no hln
    have HPO := (Pg.page_opens hln (by omega : no ≤ 2147483647) (no : Int)).2 rfl
    generalize Pg.page no l = pg at *
    clear hb s1 hlt hln
    have X2 : Hid (Box5 w2 w.heap.size a e) := X1.out.below b2 hg1
    have B2 := onto B1 b2
    have hg2 : w.heap.size < w2.heap.size := Nat.lt_of_lt_of_le hg1 b2.size
    have hrm : Int.tmod (a : Int) 1021 = ((a % 1021 : Nat) : Int) := rfl
    have hmi : a % 1021 + 4 ≤ 1024 := by omega
    generalize hia : a % 1021 = i at hmi hrm
    obtain ⟨P, Q, x, hpl, R0, hp, hq, hx⟩ := split4 pg i (by omega) HPL e
    have TO := Lib.hid (turned_opens (no := (no : Int)) (e := e) hp hq hx HE.out (by rw [← R0]; exact HPO))
    have RL : Hid (∀ k, (row4 P Q x e k).length = 1024) := fun k => by rw [← HPN, R0, row4_len, row4_len]
    have HX := Lib.hid hx
    have RB := Lib.hid (fun k => row4_lt (e := e) hp hq hx HE.out k)
    have RA := Lib.hid (fun k hk => row4_at P Q x e k hk)
    have RN := Lib.hid (fun k hk => row4_next P Q x e k hk)
    rw [hpl] at RA RN
    rw [R0] at R2
    have O2 := R2.own (base := w1.heap.size) (n := 1024) (Nat.le_refl _) (RL.out 0) (by unfold maxLen; omega)
    have c0 := X2.out.1
    have HE' := HE
    have hgs : w1.heap.size ≤ w2.heap.size := b2.size
    clear R0 hp hq hx hpl HPL HPN HPO R2 X1 B1 HE
    have m1 : IntKind.i64.wrap (a : Int) = (a : Int) := by rw [IntKind.wrap_i64]; omega
    go_wp2_with fail
    generalize hgr : w1.heap.size = gr at *
    go_loopw [10] (fun kk wr => ∃ k : Nat, k ≤ 4 ∧ kk = .int .i64 k ∧ wr.ownsRow gr 5 1 (.slice (some ⟨gr, 0, none⟩) 1024 1024) 1024 (bv (row4 P Q x e k)) ∧ Below gr w2 wr) (fun kk _ => 4 - (intOf kk).toNat)
    case atStart => exact ⟨0, Nat.zero_le _, rfl, O2, Below.refl _ _⟩
    case round =>
      clear O2
      obtain ⟨k, hk, rfl, hown, hbel⟩ := hrel
      by_cases hlt : k < 4
      · have hxk := HX.out k hlt
        have hek := HE'.out k hlt
        have xe := xor_u8 hxk hek
        have hu : (bv (row4 P Q x e k))[i + k]? = some (.int .u8 (x k : Int)) := by simp [bv, RA.out k hlt]
        have hc := (hown.cellAt (i + k) (by omega)).trans hu
        have hf := hown.frozenAt (i + k)
        have hS := hown.stored (i + k) (.int .u8 ((x k ^^^ e k : Nat) : Int))
        rw [RN.out k hlt] at hS
        have hbel' := hbel.grown hS.2 (Nat.le_trans hgs hbel.size) (fun j hj => by injection hj with hj; omega)
        have hce := (X2.out.below hbel hg1).at_ hlt
        have HS := Lib.hid hS.1
        have HB := Lib.hid hbel'
        have z1 : (0 : Int) ≤ (i : Int) + (k : Int) := by omega
        have z2 : (i : Int) + (k : Int) < 1024 := by omega
        have z3 : (k : Int) < 4 := by omega
        clear hS hbel' hown hu
        generalize x k ^^^ e k = y at *
        go_wp2
        go_region
        all_goals
          go_wp2
          go_roundw
          case rel => exact ⟨k + 1, by omega, by go_num, HS.out, HB.out.drew⟩
          case measure => simp [intOf]; omega
      · have hk4 : k = 4 := by omega
        rw [hk4] at hown
        have q2 := own_bs hown (RL.out 4) (RB.out 4)
        have hX := X2.out.below hbel hg1
        have BX : Below w.heap.size w wr := B2.trans (hbel.mono (Nat.le_of_lt hg1))
        have hwr : w.heap.size < wr.heap.size := Nat.lt_of_lt_of_le hg2 hbel.size
        clear hown hk4 X2 hbel RA RN HX
        have TL := Lib.hid (show ((row4 P Q x e 4).take 1016).length = 1016 by rw [List.length_take, RL.out 4]; omega)
        have TB := Lib.hid (fun y (hy : y ∈ (row4 P Q x e 4).take 1016) => RB.out 4 y (List.mem_of_mem_take hy))
        have hgt : Try.prog.eqGuardType Try.prog.depth 31 = false := by kernel_rfl
        clear RL RB
        generalize row4 P Q x e 4 = rw4 at *
        by_cases hO : Pg.Opens (no : Int) rw4
        · have FE := fun W => four_true W (TO.out.1 hO)
          have HO := Lib.hid hO
          clear hO TO
          go_wp2_with fail
          refine (open_yes _ (no : Int) _ _ _ _ q2 HO.out).mono ?_
          rintro r w3 ⟨g3, hg3, rfl, R3, b3⟩
          have q3 := q2.on b3
          have X3 := hX.below b3 hwr
          have B3 := onto BX b3
          have u3 := R3.bs' TB.out TL.out (by omega)
          have hw3 := Nat.lt_of_lt_of_le hwr b3.size
          clear q2 hX BX b3 R3 hg3
          go_wp2_with fail
          refine (refOpen_any _ (no : Int) _ _ _ _ q3).mono ?_
          rintro r w4 ⟨hy, _, b4⟩
          obtain ⟨A4, c4, rfl, v4⟩ := hy HO.out
          have X4 := X3.below b4 hw3
          have B4 := onto B3 b4
          have u4 := u3.on b4
          clear q3 X3 B3 u3 b4 hy
          go_wp2_with fail
          refine (same_eq _ _ _ _ _ _ _ _ u4 v4).mono ?_
          rintro r w5 ⟨rfl, m, rfl⟩
          have B5 := below_drewN B4 m
          have X5 : Box5 (w4.drewN m) w.heap.size a e := X4
          clear u4 v4 X4 B4 HO
          generalize w4.drewN m = w5 at *
          unfold Box5 at X5
          obtain ⟨_, x0, x1, x2, x3⟩ := X5
          generalize e 0 = e0 at *
          generalize e 1 = e1 at *
          generalize e 2 = e2 at *
          generalize e 3 = e3 at *
          go_wp2
          go_ret
          exact ⟨rfl, B5⟩
        · have FE := fun W => four_false W (fun h => hO (TO.out.2 h))
          have HO := Lib.hid hO
          clear hO TO
          go_wp2_with fail
          refine (open_no _ (no : Int) _ _ _ _ q2 HO.out).mono ?_
          rintro r w3 ⟨rfl, b3⟩
          have q3 := q2.on b3
          have X3 := hX.below b3 hwr
          have B3 := onto BX b3
          have hw3 := Nat.lt_of_lt_of_le hwr b3.size
          clear q2 hX BX b3
          go_wp2_with fail
          refine (refOpen_any _ (no : Int) _ _ _ _ q3).mono ?_
          rintro r w4 ⟨_, hy, b4⟩
          obtain rfl := hy HO.out
          have X4 := X3.below b4 hw3
          have B4 := onto B3 b4
          clear q3 X3 B3 b4 hy
          go_wp2_with fail
          refine (same_eq _ none none 0 0 0 0 [] (Bs.nil_ _ _ _ (Nat.zero_le _)) (Bs.nil_ _ _ _ (Nat.zero_le _))).mono ?_
          rintro r w5 ⟨rfl, m, rfl⟩
          have B5 := below_drewN B4 m
          have X5 : Box5 (w4.drewN m) w.heap.size a e := X4
          clear X4 B4 HO
          generalize w4.drewN m = w5 at *
          unfold Box5 at X5
          obtain ⟨_, x0, x1, x2, x3⟩ := X5
          generalize e 0 = e0 at *
          generalize e 1 = e1 at *
          generalize e 2 = e2 at *
          generalize e 3 = e3 at *
          go_wp2
          go_ret
          exact ⟨rfl, B5⟩
  · go_wp2
    go_ret
    exact ⟨rfl, B1⟩

end Go.Proofs.Ytggdhknalpjdlaa
