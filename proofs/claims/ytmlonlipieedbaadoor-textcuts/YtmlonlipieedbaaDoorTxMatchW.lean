/-
  Match: whether a pattern stands for a text.
-/
import Derived.Test.YtmlonlipieedbaaDoorTxMatchC
namespace Go.Proofs.YtmlonlipieedbaaDoor
open Go.RowKit Go.Lib
set_option linter.unusedVariables false

def mtB (p s : List UInt8) : Bool := Tx.M (Tx.sg (Tx.rns p)) (Tx.rns s)
/-- How many rounds may come. -/
def mu (P N row b a : Nat) : Nat := (P + 1 - row) * ((N + 1) * (N + 1)) + (N - b) * (N + 1) + (N - a)
theorem mu_star {P N m row b a : Nat} (hm : m < P) (hr : row ≤ m) (ha : a ≤ N) (hb : b ≤ a) : mu P N (m + 1) a a < mu P N row b a := by
  unfold mu
  have h1 : (P + 1 - (m + 1)) + 1 ≤ P + 1 - row := by omega
  have h2 := Nat.mul_le_mul_right ((N + 1) * (N + 1)) h1
  rw [Nat.add_mul, Nat.one_mul] at h2
  have h3 : (N - a) * (N + 1) ≤ N * (N + 1) := Nat.mul_le_mul_right _ (by omega)
  have h4 : (N + 1) * (N + 1) = N * (N + 1) + (N + 1) := by rw [Nat.add_mul, Nat.one_mul]
  omega
theorem mu_fits {P N row b a : Nat} (ha : a < N) : mu P N row b (a + 1) < mu P N row b a := by unfold mu; omega
theorem mu_back {P N row b a : Nat} (ha : a ≤ N) (hb : b ≤ a) (hN : a < N) : mu P N row (b + 1) (b + 1) < mu P N row b a := by
  unfold mu
  have h1 : (N - (b + 1)) + 1 = N - b := by omega
  have h2 : (N - b) * (N + 1) = (N - (b + 1)) * (N + 1) + (N + 1) := by rw [← h1, Nat.add_mul, Nat.one_mul]
  omega

theorem Mst.cast {H : Nat} {W : World} {m a r b m' a' r' b' : Int} (h : Mst H W m a r b) (h1 : m = m') (h2 : a = a') (h3 : r = r') (h4 : b = b') : Mst H W m' a' r' b' := by subst h1 h2 h3 h4; exact h

set_option maxRecDepth 100000 in
set_option maxHeartbeats 2000000 in
theorem match_any (p s : ByteArray) (w : World) (hp : p.size ≤ 1000000) (hs : s.size ≤ 1000000) :
    Calls Tryd.prog 21 #[.string p, .string s] w fun e w' => e = .returned (.bool (mtB p.data.toList s.data.toList)) ∧ Below w.heap.size w w' := by
  have hmf : ∀ (fn : Fn) (first cap : Array Value) (w : World), (Instr.makeFunc fn first cap).run Tryd.prog w = .ok (.func fn first cap) w := fun _ _ _ _ => rfl
  have hlo := Lib.hid (Tx.sg_lo (Tx.rns p.data.toList) (Tx.rns_le _))
  have hPl : (Tx.sg (Tx.rns p.data.toList)).length ≤ 1000000 := by
    have h1 := Tx.sg_len (Tx.rns p.data.toList)
    have h2 := Tx.P_len p.data.toList
    rw [Tx.rns_len] at h1; rw [← size_eq] at h2; omega
  have hNl : (Tx.P s.data.toList).length ≤ 1000000 := by have h2 := Tx.P_len s.data.toList; rw [← size_eq] at h2; omega
  have C1 := Lib.hid (fun W => marksOf_any p W hp)
  have C2 := Lib.hid (fun W => runesOf_any s W hs)
  have HB : Hid (mtB p.data.toList s.data.toList = Tx.M (Tx.sg (Tx.rns p.data.toList)) (Tx.rns s.data.toList)) := rfl
  have HN := Lib.hid (Tx.rns_len s.data.toList)
  generalize mtB p.data.toList s.data.toList = B at HB ⊢
  generalize Tx.sg (Tx.rns p.data.toList) = q at hlo hPl C1 HB
  generalize (Tx.P s.data.toList).length = N at hNl C2 HN
  generalize Tx.rns s.data.toList = t at C2 HB HN
  obtain ⟨P, hP⟩ : ∃ P, q.length = P := ⟨_, rfl⟩
  rw [hP] at C1 hPl
  have HP := Lib.hid hP
  clear hP
  go_enter Tryd.func21, Tryd.ntmps21
  go_wp2_with (first
    | (go_at_call 33; refine (C1.out _).mono ?_; rintro e w1 ⟨A1, c1, rfl, V1, hb1⟩)
    | (go_at_call 34; refine (C2.out _).mono ?_; rintro e w2 ⟨A2, c2, rfl, V2, hb2⟩; have V1' := V1.on hb2; have hb : Below w.heap.size w w2 := onto hb1 hb2; clear V1 hb1 hb2))
  clear C1 C2 hmf
  go_loopg [] (mu P N 0 0 0) (fun gk wr => ∃ (m a row b : Nat), gk = mu P N row b a ∧ Hid (Tx.Inv q t m a row b) ∧ Hid (Mst w2.heap.size wr (m : Int) (a : Int) ((row : Int) - 1) (b : Int)) ∧ Below w2.heap.size w2 wr)
  case atStart =>
    refine ⟨0, 0, 0, 0, rfl, Tx.Inv.start q t, ?_, ?_⟩
    · refine Mst.cast (m := 0) (a := 0) (r := -1) (b := 0) ⟨?_, ?_, ?_, ?_⟩ rfl rfl rfl rfl
      · exact (((Var.fresh w2 _ _ rfl).alloc _).alloc _).alloc _
      · exact ((Var.fresh (w2.alloc (.cells #[.int .i64 0] 3)) _ _ (by simp)).alloc _).alloc _
      · exact (Var.fresh ((w2.alloc (.cells #[.int .i64 0] 3)).alloc (.cells #[.int .i64 0] 3)) _ _ (by simp)).alloc _
      · exact Var.fresh (((w2.alloc (.cells #[.int .i64 0] 3)).alloc (.cells #[.int .i64 0] 3)).alloc (.cells #[.int .i64 (-1)] 3)) _ _ (by simp)
    · exact ((((Below.refl _ w2).alloc (Nat.le_refl _) _).alloc (by simp) _).alloc (by simp; omega) _).alloc (by simp; omega) _
  case round =>
    obtain ⟨m, a, row, b, rfl, HI, HM, hbw⟩ := hrel
    obtain ⟨i1, i2, i3, i4, _, _⟩ := HI.out
    have hN : t.length = N := HN.out
    have hP : q.length = P := HP.out
    rw [hP] at i1
    rw [hN] at i2
    have cm := HM.out.1.cell
    have ca := HM.out.2.1.cell
    have cr := HM.out.2.2.1.cell
    have cb := HM.out.2.2.2.cell
    have fm := HM.out.1.free
    have fa := HM.out.2.1.free
    have fr := HM.out.2.2.1.free
    have fb := HM.out.2.2.2.free
    clear hN hP
    by_cases ha : a < N
    · obtain ⟨b2, off2, c, rfl, hc, cc⟩ := rv_at (V2.on hbw) ha
      have HC := Lib.hid hc
      clear hc
      by_cases hm : m < P
      · obtain ⟨b1, off1, x, rfl, hb1, hx, ckd, crn⟩ := (V1'.on hbw).at_ hm
        have HX := Lib.hid hx
        clear hx
        by_cases hst : x = -1
        · subst hst
          have HI2 := Lib.hid (HI.out.star HX.out)
          have hmu := Lib.hid (mu_star (N := N) hm i3 i2 i4)
          rw [kd_star] at ckd
          have e1 : ∀ v, (wr.setCell ⟨w2.heap.size + 1 + 1, 0, none⟩ (.int .i64 v)).cell? ⟨w2.heap.size + 1 + 1 + 1, 0, none⟩ = some (.int .i64 (b : Int)) := fun v => (HM.out.setR v).2.2.2.cell
          have e2 : ∀ v, (wr.setCell ⟨w2.heap.size + 1 + 1 + 1, 0, none⟩ (.int .i64 v)).cell? ⟨w2.heap.size + 1 + 1, 0, none⟩ = some (.int .i64 ((row : Int) - 1)) := fun v => (HM.out.setB v).2.2.1.cell
          go_wp2
          go_region
          have hM2 : Mst w2.heap.size ((wr.setCell ⟨w2.heap.size + 1 + 1, 0, none⟩ (.int .i64 (m : Int))).setCell ⟨w2.heap.size + 1 + 1 + 1, 0, none⟩ (.int .i64 (a : Int))).drew (m : Int) (a : Int) (m : Int) (a : Int) := ((HM.out.setR _).setB _).drew
          have hbw2 : Below w2.heap.size w2 ((wr.setCell ⟨w2.heap.size + 1 + 1, 0, none⟩ (.int .i64 (m : Int))).setCell ⟨w2.heap.size + 1 + 1 + 1, 0, none⟩ (.int .i64 (a : Int))).drew := ((hbw.setCell (p := ⟨w2.heap.size + 1 + 1, 0, none⟩) (by show w2.heap.size ≤ w2.heap.size + 1 + 1; omega) _).setCell (p := ⟨w2.heap.size + 1 + 1 + 1, 0, none⟩) (by show w2.heap.size ≤ w2.heap.size + 1 + 1 + 1; omega) _).drew
          generalize ((wr.setCell ⟨w2.heap.size + 1 + 1, 0, none⟩ (.int .i64 (m : Int))).setCell ⟨w2.heap.size + 1 + 1 + 1, 0, none⟩ (.int .i64 (a : Int))).drew = W3 at hM2 hbw2 ⊢
          clear cm ca cr cb fm fa fr fb e1 e2 ckd crn cc HM hbw
          have cm := hM2.1.cell
          have fm := hM2.1.free
          have HM3 := Lib.hid (hM2.setM ((m : Int) + 1))
          have hbw3 := hbw2.setCell (p := ⟨w2.heap.size, 0, none⟩) (Nat.le_refl _) (.int .i64 ((m : Int) + 1))
          clear hM2 hbw2
          go_wp2
          go_roundg (mu P N (m + 1) a a)
          case measure => exact hmu.out
          case rel => exact ⟨m + 1, a, m + 1, a, rfl, HI2, Mst.cast HM3.out rfl rfl (by omega) rfl, hbw3⟩
        · have hxx : x = -2 ∨ 0 ≤ x := by
            have := hlo.out x (List.mem_of_getElem? HX.out)
            omega
          have hk2 : (kd x == 2) = false := by rw [kd_two, decide_eq_false hst]
          have lH := HM.out.lt
          have l1 : b2 < wr.heap.size := World.block_lt_of_cell? wr _ cc
          cases ho : Tx.one x c with
          | true =>
            have HI2 := Lib.hid (HI.out.fits HX.out hst HC.out ho)
            have hmu := Lib.hid (mu_fits (P := P) (row := row) (b := b) ha)
            have C := Lib.hid (fun W => standsFor_any x c W hxx)
            rw [ho] at C
            have h0m : (0 : Int) ≤ (m : Int) := by omega
            have h0a : (0 : Int) ≤ (a : Int) := by omega
            have hmP : (m : Int) < (P : Int) := by omega
            have haN : (a : Int) < (N : Int) := by omega
            clear hst ho hxx HI
            go_wp2
            go_region_held3 (fun w' => w'.cell? ⟨w2.heap.size, 0, none⟩ = some (.int .i64 (m : Int)) ∧ w'.cell? ⟨w2.heap.size + 1, 0, none⟩ = some (.int .i64 (a : Int)) ∧ w'.cell? ⟨b1, off1 + m * 2, none⟩ = some (.int .i64 (kd x)) ∧ w'.cell? ⟨b1, off1 + m * 2 + 1, none⟩ = some (.int .i32 (rn x)) ∧ w'.cell? ⟨b2, off2 + a, none⟩ = some (.int .i32 (c : Int)))
              (first | assumption | go_keep | exact ⟨(hb3.cell (p := ⟨w2.heap.size, 0, none⟩) (by show w2.heap.size < _; simp; omega)).trans cm, (hb3.cell (p := ⟨w2.heap.size + 1, 0, none⟩) (by show w2.heap.size + 1 < _; simp; omega)).trans ca, (hb3.cell (p := ⟨b1, off1 + m * 2, none⟩) hb1).trans ckd, (hb3.cell (p := ⟨b1, off1 + m * 2 + 1, none⟩) hb1).trans crn, (hb3.cell (p := ⟨b2, off2 + a, none⟩) l1).trans cc⟩)
              ((go_at_call 36; refine (C.out _).mono ?_; rintro e w3 ⟨rfl, hb3⟩))
            have hM3 := HM.out.drew.on hb3
            have hbw3 : Below w2.heap.size w2 w3 := hbw.drew.trans (hb3.mono hbw.size)
            clear cm ca cr cb fm fa fr fb ckd crn cc HM hbw hb3
            have cm := hM3.1.cell
            have fm := hM3.1.free
            have ca := (hM3.setM ((m : Int) + 1)).2.1.cell
            have fa := (hM3.setM ((m : Int) + 1)).2.1.free
            have HM4 := Lib.hid ((hM3.setM ((m : Int) + 1)).setA ((a : Int) + 1))
            have hbw4 := (hbw3.setCell (p := ⟨w2.heap.size, 0, none⟩) (Nat.le_refl _) (.int .i64 ((m : Int) + 1))).setCell (p := ⟨w2.heap.size + 1, 0, none⟩) (by show w2.heap.size ≤ w2.heap.size + 1; omega) (.int .i64 ((a : Int) + 1))
            clear hM3 hbw3
            go_wp2
            go_roundg (mu P N row b (a + 1))
            case measure => exact hmu.out
            case rel => exact ⟨m + 1, a + 1, row, b, rfl, HI2, Mst.cast HM4.out rfl rfl rfl rfl, hbw4⟩
          | false =>
            have HS : Hid (Tx.Stuck q t m a) := ⟨by rw [HN.out]; exact ha, .inr ⟨x, c, HX.out, hst, HC.out, ho⟩⟩
            have C := Lib.hid (fun W => standsFor_any x c W hxx)
            rw [ho] at C
            have h0m : (0 : Int) ≤ (m : Int) := by omega
            have h0a : (0 : Int) ≤ (a : Int) := by omega
            have hmP : (m : Int) < (P : Int) := by omega
            have haN : (a : Int) < (N : Int) := by omega
            clear hst ho hxx
            go_wp2
            go_region_held3 (fun w' => w'.cell? ⟨w2.heap.size, 0, none⟩ = some (.int .i64 (m : Int)) ∧ w'.cell? ⟨w2.heap.size + 1, 0, none⟩ = some (.int .i64 (a : Int)) ∧ w'.cell? ⟨b1, off1 + m * 2, none⟩ = some (.int .i64 (kd x)) ∧ w'.cell? ⟨b1, off1 + m * 2 + 1, none⟩ = some (.int .i32 (rn x)) ∧ w'.cell? ⟨b2, off2 + a, none⟩ = some (.int .i32 (c : Int)))
              (first | assumption | go_keep | exact ⟨(hb3.cell (p := ⟨w2.heap.size, 0, none⟩) (by show w2.heap.size < _; simp; omega)).trans cm, (hb3.cell (p := ⟨w2.heap.size + 1, 0, none⟩) (by show w2.heap.size + 1 < _; simp; omega)).trans ca, (hb3.cell (p := ⟨b1, off1 + m * 2, none⟩) hb1).trans ckd, (hb3.cell (p := ⟨b1, off1 + m * 2 + 1, none⟩) hb1).trans crn, (hb3.cell (p := ⟨b2, off2 + a, none⟩) l1).trans cc⟩)
              ((go_at_call 36; refine (C.out _).mono ?_; rintro e w3 ⟨rfl, hb3⟩))
            have hM3 := HM.out.drew.on hb3
            have hbw3 : Below w2.heap.size w2 w3 := hbw.drew.trans (hb3.mono hbw.size)
            clear cm ca cr cb fm fa fr fb ckd crn cc HM hbw hb3
            rcases Nat.eq_zero_or_pos row with hr0 | hr0
            · subst hr0
              have HF : Hid (B = false) := HB.out.trans (HI.out.fails HS.out)
              have C3 := Lib.hid (goBack_no w2.heap.size w3 _ _ _ (Mst.cast hM3 rfl rfl (by omega) rfl))
              clear hM3 HI
              go_wp2_with (go_at_call 35; refine C3.out.mono ?_; rintro e w4 ⟨rfl, rfl⟩)
              go_ret
              exact ⟨by rw [HF.out]; rfl, onto hb hbw3⟩
            · obtain ⟨r, rfl⟩ : ∃ r, row = r + 1 := ⟨row - 1, by omega⟩
              have HI2 := Lib.hid (HI.out.back HS.out hr0)
              have hmu := Lib.hid (mu_back (P := P) (row := r + 1) i2 i4 ha)
              have C3 := Lib.hid (goBack_yes w2.heap.size w3 _ _ r b (by omega) (by omega) (Mst.cast hM3 rfl rfl (by omega) rfl))
              clear hM3 HI
              go_wp2_with (go_at_call 35; refine C3.out.mono ?_; rintro e w4 ⟨rfl, hM4, hb4⟩)
              have HM4 := Lib.hid hM4
              have hbw4 := hbw3.trans hb4
              clear hM4 hb4 hbw3
              go_roundg (mu P N (r + 1) (b + 1) (b + 1))
              case measure => exact hmu.out
              case rel => exact ⟨r + 1, b + 1, r + 1, b + 1, rfl, HI2, Mst.cast HM4.out rfl rfl (by omega) rfl, hbw4⟩
      · have HS : Hid (Tx.Stuck q t m a) := ⟨by rw [HN.out]; exact ha, .inl (by rw [HP.out]; omega)⟩
        have hmP : ¬ (m : Int) < (P : Int) := by omega
        have hmd : decide ((m : Int) < (P : Int)) = false := by simpa using hmP
        have hmd2 : decide (m < P) = false := by simpa using hm
        go_wp2
        go_quiet (fail)
        have hM3 := HM.out.drewN nq
        have hbw3 : Below w2.heap.size w2 (wr.drewN nq) := below_drewN hbw nq
        clear cm ca cr cb fm fa fr fb cc HM hbw
        generalize wr.drewN nq = w3 at hM3 hbw3 ⊢
        rcases Nat.eq_zero_or_pos row with hr0 | hr0
        · subst hr0
          have HF : Hid (B = false) := HB.out.trans (HI.out.fails HS.out)
          have C3 := Lib.hid (goBack_no w2.heap.size w3 _ _ _ (Mst.cast hM3 rfl rfl (by omega) rfl))
          clear hM3 HI
          go_wp2_with (go_at_call 35; refine C3.out.mono ?_; rintro e w4 ⟨rfl, rfl⟩)
          go_ret
          exact ⟨by rw [HF.out]; rfl, onto hb hbw3⟩
        · obtain ⟨r, rfl⟩ : ∃ r, row = r + 1 := ⟨row - 1, by omega⟩
          have HI2 := Lib.hid (HI.out.back HS.out hr0)
          have hmu := Lib.hid (mu_back (P := P) (row := r + 1) i2 i4 ha)
          have C3 := Lib.hid (goBack_yes w2.heap.size w3 _ _ r b (by omega) (by omega) (Mst.cast hM3 rfl rfl (by omega) rfl))
          clear hM3 HI
          go_wp2_with (go_at_call 35; refine C3.out.mono ?_; rintro e w4 ⟨rfl, hM4, hb4⟩)
          have HM4 := Lib.hid hM4
          have hbw4 := hbw3.trans hb4
          clear hM4 hb4 hbw3
          go_roundg (mu P N (r + 1) (b + 1) (b + 1))
          case measure => exact hmu.out
          case rel => exact ⟨r + 1, b + 1, r + 1, b + 1, rfl, HI2, Mst.cast HM4.out rfl rfl (by omega) rfl, hbw4⟩
    · have haN : ¬ (a : Int) < (N : Int) := by omega
      have HE : Hid (B = (q.drop m).all (· == -1)) := HB.out.trans (HI.out.ends (by rw [HN.out]; omega))
      have hV := V1'.on hbw
      obtain ⟨v1, v2, v3, v4⟩ := hV
      unfold maxLen at v3
      by_cases hm : m < P
      · obtain ⟨b1, off1, rfl, hb1, hcells⟩ := v4 (by omega)
        have M2 : Ms wr (some ⟨b1, off1 + m * 2, none⟩) (P - m) (c1 - m) (q.drop m) := by
          refine ⟨by rw [List.length_drop, v1], by omega, by unfold maxLen; omega, fun _ => ⟨b1, off1 + m * 2, rfl, hb1, fun j y hy => ?_⟩⟩
          rw [List.getElem?_drop] at hy
          have := hcells (m + j) y hy
          have e : off1 + (m + j) * 2 = off1 + m * 2 + j * 2 := by omega
          rw [e] at this; exact this
        have C4 := Lib.hid (onlyRows_any wr _ _ _ _ M2 (by omega))
        have hne : ¬ c1 = m := by omega
        have hmc : (m : Int) ≤ (P : Int) := by omega
        clear hcells v4 M2 HM HI HP v1
        go_wp2_with (go_at_call 37; refine C4.out.mono ?_; rintro e w4 ⟨rfl, hb4⟩)
        go_ret
        exact ⟨by rw [HE.out]; rfl, onto (onto hb hbw) hb4⟩
      · obtain rfl : m = P := by omega
        have hq : q.drop m = [] := List.drop_eq_nil_of_le (by rw [v1]; exact Nat.le_refl _)
        have HQ := Lib.hid hq
        have M2 : Hid (∀ (A : Option Addr) (c : Nat), c ≤ maxLen → Calls Tryd.prog 37 #[.slice A 0 c] wr fun e w' => e = .returned (.bool true) ∧ Below wr.heap.size wr w') := fun A c hc => by
          have := onlyRows_any wr A 0 c [] ⟨rfl, Nat.zero_le _, hc, fun h => absurd h (by omega)⟩ (by omega)
          exact this
        have HT : Hid (B = true) := by show _ = _; rw [HE.out, HQ.out]; rfl
        have z1 : (m : Int) ≤ (m : Int) := by omega
        have z2 : m - m = 0 := by omega
        clear v4 HM HI HP v1 hq HE HQ V1'
        by_cases hcm : c1 = m
        · subst hcm
          cases A1 with
          | none =>
            go_wp2_with (go_at_call 37; refine (M2.out _ _ (by unfold maxLen; omega)).mono ?_; rintro e w4 ⟨rfl, hb4⟩)
            go_ret
            exact ⟨by rw [HT.out]; rfl, onto (onto hb hbw) hb4⟩
          | some ad =>
            go_wp2_with (go_at_call 37; refine (M2.out _ _ (by unfold maxLen; omega)).mono ?_; rintro e w4 ⟨rfl, hb4⟩)
            go_ret
            exact ⟨by rw [HT.out]; rfl, onto (onto hb hbw) hb4⟩
        · cases A1 with
          | none =>
            go_wp2_with (go_at_call 37; refine (M2.out _ _ (by unfold maxLen; omega)).mono ?_; rintro e w4 ⟨rfl, hb4⟩)
            go_ret
            exact ⟨by rw [HT.out]; rfl, onto (onto hb hbw) hb4⟩
          | some ad =>
            go_wp2_with (go_at_call 37; refine (M2.out _ _ (by unfold maxLen; omega)).mono ?_; rintro e w4 ⟨rfl, hb4⟩)
            go_ret
            exact ⟨by rw [HT.out]; rfl, onto (onto hb hbw) hb4⟩

end Go.Proofs.YtmlonlipieedbaaDoor
