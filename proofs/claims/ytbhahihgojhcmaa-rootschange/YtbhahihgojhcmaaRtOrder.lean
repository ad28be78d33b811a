/-
  RootsOrder, walked.
-/
import Derived.Test.YtbhahihgojhcmaaRtAwake
import Derived.Test.YtbhahihgojhcmaaRtRfWith
namespace Go.Proofs.Ytbhahihgojhcmaa.Rt
open Go.RowKit
set_option linter.unusedVariables false

theorem code_zero {L : List Rm.R} {r : Rm.R} (h : withCode L r = 0) : Rm.One r ∧ (Rm.without L r.name).length < 12 := by
  unfold withCode at h
  by_cases h1 : Rm.One r
  · rw [if_pos h1] at h
    by_cases h2 : 12 ≤ (Rm.without L r.name).length
    · rw [if_pos h2] at h; omega
    · exact ⟨h1, by omega⟩
  · rw [if_neg h1] at h; omega
theorem withL_zero {L : List Rm.R} {r : Rm.R} (h : withCode L r = 0) : withL L r = Rm.ins (Rm.without L r.name) r := if_pos h
/-- Each of the roots has the name of one among those from a to b. -/
def From (M l : List Rm.R) (a b : Nat) : Prop := ∀ x ∈ M, ∃ j y, a ≤ j ∧ j < b ∧ l[j]? = some y ∧ y.name = x.name
theorem From.with_ {M l : List Rm.R} {k : Nat} {x : Rm.R} (h : From M l 0 k) (hx : l[k]? = some x) : From (Rm.ins (Rm.without M x.name) x) l 0 (k + 1) := by
  intro y hy
  rcases Rm.ins_mem.1 hy with rfl | hy
  · exact ⟨k, y, Nat.zero_le _, by omega, hx, rfl⟩
  · obtain ⟨j, z, h1, h2, h3, h4⟩ := h y (Rm.without_mem.1 hy).1
    exact ⟨j, z, h1, by omega, h3, h4⟩
theorem From.more {M l : List Rm.R} {k : Nat} (h : From M l 0 k) : From M l 0 (k + 1) := fun y hy => by
  obtain ⟨j, z, h1, h2, h3, h4⟩ := h y hy
  exact ⟨j, z, h1, by omega, h3, h4⟩
theorem From.without_ {M l : List Rm.R} {k n : Nat} {x : Rm.R} (h : From M l k n) (hx : l[k]? = some x) : From (Rm.without M x.name) l (k + 1) n := by
  intro y hy
  obtain ⟨hy1, hy2⟩ := Rm.without_mem.1 hy
  obtain ⟨j, z, h1, h2, h3, h4⟩ := h y hy1
  refine ⟨j, z, ?_, h2, h3, h4⟩
  rcases Nat.lt_or_ge k j with hl | hl
  · exact hl
  · have e : j = k := by omega
    subst e
    rw [hx] at h3
    injection h3 with h3
    subst h3
    exact absurd h4.symm hy2
theorem From.end_ {M l : List Rm.R} {k n : Nat} (h : From M l k n) (hk : n ≤ k) : M = [] := by
  cases M with
  | nil => rfl
  | cons x t =>
    obtain ⟨j, _, h1, h2, _⟩ := h x (by simp)
    omega

set_option maxRecDepth 100000 in
set_option maxHeartbeats 2000000 in
theorem rootsOrder_walk (w : World) (A : Option Addr) (n c : Nat) (l : List Rm.R) (h : Rs w A n c l) :
    Calls Try.prog 5 #[.slice A n c] w fun e w' => e = .returned (.bool true) ∧ Below w.heap.size w w' := by
  have C0 := Lib.hid awake_any
  have H := Lib.hid h
  have hl := h.1
  have hcm := h.2.2.1
  have hnc := h.2.1
  unfold maxLen at hcm
  clear h
  go_enter Try.func5, Try.ntmps5
  go_wp2_with fail
  refine (C0.out _).mono ?_
  rintro e w1 ⟨rfl, b1⟩
  have HB1 := Lib.hid b1
  clear C0 b1
  by_cases h40 : (40 : Int) < (n : Int)
  · go_wp2
    go_ret
    exact ⟨rfl, HB1.out⟩
  · go_wp2_with fail
    go_loopw [3, 4, 5] (fun a b i wr => ∃ (k : Nat) (M : List Rm.R) (A1 A2 : Option Addr) (m c1 c2 : Nat), k ≤ n ∧ i = .int .i64 (k : Int) ∧ a = .slice A1 m c1 ∧ b = .slice A2 m c2 ∧ Hid (Rs wr A1 m c1 M) ∧ Hid (Rs wr A2 m c2 M) ∧ Hid (Rm.may M = true) ∧ Hid (From M l 0 k) ∧ Hid (Below w.heap.size w wr)) (fun _ _ i _ => n - (intOf i).toNat)
    case atStart => exact ⟨0, [], none, none, 0, 0, 0, Nat.zero_le _, rfl, rfl, rfl, Rs.nil_ _ _ _ (Nat.zero_le _), Rs.nil_ _ _ _ (Nat.zero_le _), Rm.may_nil, by show From _ _ _ _; intro x hx; simp at hx, HB1.out⟩
    case round =>
      obtain ⟨k, M, A1, A2, m, c1, c2, hk, rfl, rfl, rfl, HA, HBb, HM, HF, HBL⟩ := hrel
      have hmm : m ≤ 12 := by rw [← HA.out.1]; exact Rm.may_len HM.out
      by_cases hlt : k < n
      · obtain ⟨bb, off, x, rfl, hbb, hx, hin, d0, d1, d2⟩ := (H.out.on HBL.out).get hlt
        have HX := Lib.hid hx
        have HIN := Lib.hid hin
        have hbl := HBL.out.size
        by_cases hbig : 100 < (txt x.name).size
        · have hb1 : (100 : Int) < ((txt x.name).size : Int) := by omega
          clear hx hin
          go_wp2
          go_ret
          exact ⟨rfl, HBL.out⟩
        · have hb1 : ¬ (100 : Int) < ((txt x.name).size : Int) := by omega
          have C5 := Lib.hid (with_any wr A1 m c1 M x HA.out hin (by omega))
          unfold WithSays rv at C5
          have KX := Lib.hid (fun (W : World) (hW : Below wr.heap.size wr W) => (⟨(hW.cell (p := ⟨bb, off + k * 3, none⟩) hbb).trans d0, (hW.cell (p := ⟨bb, off + k * 3 + 1, none⟩) hbb).trans d1, (hW.cell (p := ⟨bb, off + k * 3 + 2, none⟩) hbb).trans d2⟩ : W.cell? ⟨bb, off + k * 3, none⟩ = some (.string (txt x.name)) ∧ W.cell? ⟨bb, off + k * 3 + 1, none⟩ = some (.int .i64 x.page) ∧ W.cell? ⟨bb, off + k * 3 + 2, none⟩ = some (.int .i64 x.count)))
          clear hx hin
          go_wp2_with fail
          refine C5.out.mono ?_
          rintro e w5 ⟨A5, m5, c5, rfl, R5, b5⟩
          obtain ⟨q0, q1, q2⟩ := KX.out w5 b5
          have HA5 := Lib.hid (HA.out.on b5)
          have HB5 := Lib.hid (HBb.out.on b5)
          have HX5 := Lib.hid R5
          have HBL5 := Lib.hid (onto HBL.out b5)
          have C6 := Lib.hid (rfWith_any w5 A2 m c2 M x HB5.out HIN.out (by omega))
          unfold WithSays rv at C6
          clear d0 d1 d2 C5 R5 b5 HA HBb HBL KX
          go_wp2_with fail
          refine C6.out.mono ?_
          rintro e w6 ⟨A6, m6, c6, rfl, R6, b6⟩
          have HA6 := Lib.hid (HA5.out.on b6)
          have HB6 := Lib.hid (HB5.out.on b6)
          have HX6 := Lib.hid (HX5.out.on b6)
          have hm6 : m6 = m5 := R6.1.symm.trans HX5.out.1
          subst hm6
          have HY6 := Lib.hid R6
          have HBL6 := Lib.hid (onto HBL5.out b6)
          clear q0 q1 q2 C6 R6 b6 HA5 HB5 HX5 HBL5
          obtain ⟨z, hz⟩ : ∃ z, withCode M x = z := ⟨_, rfl⟩
          rw [hz]
          have hzz : ((z : Int) != (z : Int)) = false := by simp
          by_cases hz0 : z = 0
          · subst hz0
            have h0 := code_zero hz
            have HW := withL_zero hz
            have HM6 : Hid (Rm.may (withL M x) = true) := by
              show _ = _
              rw [HW]; exact Rm.may_with HM.out h0.1 h0.2
            have HF6 : Hid (From (withL M x) l 0 (k + 1)) := by
              show From _ _ _ _
              rw [HW]; exact HF.out.with_ HX.out
            clear hz h0 HW
            go_wp2_with fail
            go_roundw
            case rel => exact ⟨k + 1, _, _, _, _, _, _, by omega, by go_num, rfl, rfl, HX6, HY6, HM6, HF6, HBL6⟩
            case measure => simp [intOf]; omega
          · have hzb : ((z : Int) == 0) = false := by simp; omega
            have HF6 := Lib.hid HF.out.more
            clear hz
            go_wp2_with fail
            go_roundw
            case rel => exact ⟨k + 1, _, _, _, _, _, _, by omega, by go_num, rfl, rfl, HA6, HB6, HM, HF6, HBL6⟩
            case measure => simp [intOf]; omega
      · have hkn : k = n := by omega
        have HF2 : Hid (From M l 0 n) := by rw [← hkn]; exact HF
        have C7 := Lib.hid (same_any wr A1 A2 m c1 m c2 M HA.out HBb.out)
        have C8 := Lib.hid (fun q => may_any (wr.drewN q) A1 m c1 M (HA.out.drewN q))
        rw [HM.out] at C8
        have HA7 := HA
        clear HF hkn
        go_wp2_with fail
        refine C7.out.mono ?_
        rintro e w7 ⟨rfl, m7, rfl⟩
        go_wp2_with fail
        refine (C8.out m7).mono ?_
        rintro e w8 ⟨rfl, b8⟩
        have HA8 := Lib.hid ((HA.out.drewN m7).on b8)
        have HBL8 := Lib.hid (onto (below_drewN HBL.out m7) b8)
        clear C7 C8 b8 HA HBb HBL HA7
        go_wp2_with fail
        go_loopw [3, 10] (fun a i wr => ∃ (k : Nat) (M : List Rm.R) (A1 : Option Addr) (m c1 : Nat), k ≤ n ∧ i = .int .i64 (k : Int) ∧ a = .slice A1 m c1 ∧ m ≤ 12 ∧ Hid (Rs wr A1 m c1 M) ∧ Hid (From M l k n) ∧ Hid (Below w.heap.size w wr)) (fun _ i _ => n - (intOf i).toNat)
        case atStart => exact ⟨0, M, A1, m, c1, Nat.zero_le _, rfl, rfl, hmm, HA8, HF2, HBL8⟩
        case round =>
          obtain ⟨k, M, A1, m, c1, hk, rfl, rfl, hmm, HA, HF, HBL⟩ := hrel
          by_cases hlt : k < n
          · obtain ⟨bb, off, x, rfl, hbb, hx, hin, d0, d1, d2⟩ := (H.out.on HBL.out).get hlt
            have HX := Lib.hid hx
            have C5 := Lib.hid (without_any _ A1 m c1 M x.name HA.out hin.nm (by omega))
            have hwl := Rm.without_len M x.name
            have HML := Lib.hid HA.out.1
            clear hx hin
            go_wp2_with fail
            refine C5.out.mono ?_
            rintro e w5 ⟨v5, rfl, O5⟩
            obtain ⟨A5, c5, rfl, R5⟩ := rs_own O5.own O5.all
            have HR5 := Lib.hid R5
            have HB5 := Lib.hid (onto HBL.out O5.bel)
            have HF5 := Lib.hid (HF.out.without_ HX.out)
            have hm5 : (Rm.without M x.name).length ≤ 12 := by rw [HML.out] at hwl; omega
            clear C5 O5 R5 d0 d1 d2
            go_wp2_with fail
            go_roundw
            case rel => exact ⟨k + 1, _, _, _, _, by omega, by go_num, rfl, hm5, HR5, HF5, HB5⟩
            case measure => simp [intOf]; omega
          · have hM := HF.out.end_ (by omega)
            have hm0 : m = 0 := by rw [← HA.out.1, hM]; rfl
            subst hm0
            go_wp2_with fail
            go_ret
            exact ⟨rfl, HBL.out⟩

end Go.Proofs.Ytbhahihgojhcmaa.Rt
