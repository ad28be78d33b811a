/-
  PoolPieces: the walk.
-/
import Derived.Test.YtbfofhgnamheeaaPoFromP
import Derived.Test.YtbfofhgnamheeaaPoAwake
import Derived.Test.YtbfofhgnamheeaaPoSame
import Derived.Test.YtbfofhgnamheeaaPoOpen
namespace Go.Proofs.Ytbfofhgnamheeaa.Pq
open Go.RowKit
set_option linter.unusedVariables false

theorem run_zeros (w : World) (base : Nat) (ty : TypeId) (v : Value) (n : Nat) (xs : List Nat) (hown : w.ownsRow base 5 1 v n (bv xs)) (m : Nat) (hsum : n + m ≤ 1000000) (hbase : base ≤ w.heap.size) :
    ∃ v' w', (Builtin.append_ #[48, 3] ty #[v, .int .i64 (m : Int)]).run Try.prog w = .ok v' w' ∧ w'.ownsRow base 5 1 v' (n + m) (bv (xs ++ List.replicate m 0)) ∧ w.grownBy w' v.ownBlock := by
  obtain ⟨i0, hi, hz0, hz1, hz2⟩ := info_parts Try.info5
  obtain ⟨v', w', h1, h2, h3⟩ := run_append_zeros (P := Try.prog) w base 48 3 ty 5 i0 .i64 .i64 Try.underlying48 Try.underlying3 hi hz0 hz1 hz2 v n (bv xs) hown m hsum hbase
  exact ⟨v', w', h1, by rw [← bv_app]; exact h2, h3⟩
theorem own_emptyB (w : World) : (w.alloc (.cells #[] 5)).ownsRow w.heap.size 5 1 (.slice (some ⟨w.heap.size, 0, none⟩) 0 0) 0 (bv []) :=
  World.ownsRow_made (base := w.heap.size) (e := 5) (size := 1) w #[] 0 (Nat.le_refl _) (Nat.zero_le _) rfl
/-- One piece. -/
def pieceOf (l : List Pl.F) (k : Nat) : List Pl.F := (l.drop (84 * k)).take 84
theorem piece_step (l : List Pl.F) (k : Nat) : l.take (84 * k) ++ pieceOf l k = l.take (84 * (k + 1)) := by
  unfold pieceOf
  rw [show 84 * (k + 1) = 84 * k + 84 by omega, List.take_add]

set_option maxRecDepth 100000 in
set_option maxHeartbeats 2000000 in
theorem poolPieces_walk (w : World) (A : Option Addr) (n c : Nat) (l : List Pl.F) (h : Fs w A n c l) :
    Calls Try.prog 8 #[.slice A n c] w fun e w' => e = .returned (.bool true) ∧ Below w.heap.size w w' := by
  have H := Lib.hid h
  have hl := h.1
  have hnc := h.2.1
  have hcm := h.2.2.1
  unfold maxLen at hcm
  have HL := Lib.hid hl
  clear h hl
  go_enter Try.func8, Try.ntmps8
  go_wp2_with fail
  refine (awake_any _).mono ?_
  rintro e v1 ⟨rfl, B1⟩
  have HB1 := Lib.hid B1
  clear B1
  by_cases hn : n ≤ 300
  · have z0 : ¬ ((300 : Int) < (n : Int)) := by omega
    have CP := Lib.hid (pieces_any v1 (n : Int) (by unfold I64; omega))
    obtain ⟨np, hnp⟩ : ∃ np : Nat, Pl.pieces (n : Int) = (np : Int) := ⟨(Pl.pieces (n : Int)).toNat, by unfold Pl.pieces; split <;> omega⟩
    have hnb : (n = 0 ∧ np = 1) ∨ (0 < n ∧ 84 * (np - 1) < n ∧ n ≤ 84 * np ∧ 0 < np) := by
      unfold Pl.pieces at hnp
      split at hnp
      · exact .inl (by omega)
      · exact .inr (by omega)
    rw [hnp] at CP
    have HNB := Lib.hid hnb
    clear hnb hnp
    go_wp2_with fail
    refine CP.out.mono ?_
    rintro e v1' ⟨rfl, rfl⟩
    clear CP
    have hnp5 : np ≤ 5 := by have := HNB.out; omega
    go_wp2_with fail
    go_loopw [4, 5] (fun o i wr => ∃ (k : Nat) (ov : Value), ov = o ∧ k ≤ np ∧ i = .int .i64 (k : Int) ∧ wr.ownsRow w.heap.size 57 2 ov (l.take (84 * k)).length (fc (l.take (84 * k))) ∧ Below w.heap.size w wr) (fun _ i _ => np - (intOf i).toNat)
    case atStart => exact ⟨0, _, rfl, Nat.zero_le _, rfl, World.ownsRow_nil _ _ _ _, HB1.out⟩
    case round =>
      obtain ⟨k, ov, rfl, hk, rfl, hO, hb⟩ := hrel
      by_cases hlt : k < np
      · have z1 : (k : Int) < (np : Int) := by omega
        obtain ⟨F, hF⟩ : ∃ F, F = 84 * k := ⟨_, rfl⟩
        obtain ⟨T, hT⟩ : ∃ T, T = min (F + 84) n := ⟨_, rfl⟩
        have hFn : F ≤ n := by have := HNB.out; omega
        have hFT : F ≤ T := by omega
        have hTn : T ≤ n := by omega
        have m1 : IntKind.i64.wrap (84 * (k : Int)) = ((F : Nat) : Int) := by rw [IntWalk.i64_in _ ⟨by omega, by omega⟩]; omega
        have m2 : min (F : Int) (n : Int) = (F : Int) := by omega
        have m3 : IntKind.i64.wrap ((F : Int) + 84) = (F : Int) + 84 := IntWalk.i64_in _ ⟨by omega, by omega⟩
        have m4 : min ((F : Int) + 84) (n : Int) = (T : Int) := by omega
        have m5 : IntKind.i64.wrap ((k : Int) + 1) = (((k + 1 : Nat)) : Int) := by rw [IntWalk.i64_in _ ⟨by omega, by omega⟩]; omega
        have hpc : Fs wr A n c l := H.out.on hb
        have hpl0 : (pieceOf l k).length = T - F := by unfold pieceOf; rw [List.length_take, List.length_drop, HL.out]; omega
        have HPL := Lib.hid hpl0
        have HIn : Hid (∀ f ∈ pieceOf l k, In f) := fun f hf => hpc.2.2.2.1 f (List.mem_of_mem_drop (List.mem_of_mem_take hf))
        have hpe : pieceOf l k = (l.drop F).take (T - F) := by
          unfold pieceOf
          rw [← hF]
          rcases Nat.le_total (F + 84) n with h1 | h1
          · rw [show T - F = 84 by omega]
          · rw [List.take_of_length_le (by rw [List.length_drop, HL.out]; omega), List.take_of_length_le (by rw [List.length_drop, HL.out]; omega)]
        have HH := Lib.hid (And.intro hO hb)
        have HF := Lib.hid (And.intro hF hT)
        have hTF : T - F ≤ 84 := by omega
        by_cases hpos : 0 < n
        · obtain ⟨b, off, rfl, hbl, _⟩ := hpc.2.2.2.2 hpos
          have hTp : 0 < T - F := by have := HNB.out; omega
          have hcF : ¬ c = F := by have := HNB.out; omega
          have FSX : Hid (Fs wr (some ⟨b, off + F * 2, none⟩) (T - F) (c - F) (pieceOf l k)) := by show Fs _ _ _ _ _; rw [hpe]; exact (hpc.far F hFn).first (T - F) (by omega)
          have HPE := Lib.hid hpe
          clear hO hb hF hT hpc hpl0 hpe hbl
          have CPay := Lib.hid (pay_any wr (some ⟨b, off + F * 2, none⟩) (T - F) (c - F) (pieceOf l k) ((k : Int) + 1) FSX.out (by unfold I64; omega))
          go_wp2_with fail
          refine CPay.out.mono ?_
          rintro e w2 ⟨v, rfl, O2, B2⟩
          clear CPay
          by_cases ht : Tellable (pieceOf l k)
          · have hmay : Pl.May (pieceOf l k) ((k : Int) + 1) := ⟨by rw [HPL.out]; omega, ⟨by omega, by omega⟩, ht⟩
            rw [payOf_yes hmay] at O2
            have hpl := Pl.pay_len (pieceOf l k) ((k : Int) + 1)
            rw [HPL.out] at hpl
            have hplt := Pl.pay_lt (pieceOf l k) ((k : Int) + 1)
            have hfull : Pl.full (pieceOf l k) ((k : Int) + 1) = Pl.pay (pieceOf l k) ((k : Int) + 1) ++ List.replicate (1016 - (6 + 12 * (T - F))) 0 := by unfold Pl.full; rw [hpl]
            have hgens : Pl.Gens (pieceOf l k) := fun f hf => (HIn.out f hf).2
            have hof := Pl.of_full hmay hgens
            have hsay := Pl.says_full hmay hgens
            have hflt := Pl.full_lt (pieceOf l k) ((k : Int) + 1)
            have hfle := Pl.full_len (l := pieceOf l k) (next := (k : Int) + 1) (by rw [HPL.out]; omega)
            generalize Pl.pay (pieceOf l k) ((k : Int) + 1) = P at *
            generalize Pl.full (pieceOf l k) ((k : Int) + 1) = U at *
            obtain ⟨pl, hpl2⟩ : ∃ pl, pl = 6 + 12 * (T - F) := ⟨_, rfl⟩
            rw [← hpl2] at hpl hfull
            rw [hpl] at O2
            obtain ⟨pA, pc, rfl, S2⟩ : ∃ A c, v = .slice A pl c ∧ Bs w2 A pl c P := by
              obtain ⟨A, c, hv, hS⟩ := Bs.of_own (l := P) (by rw [hpl]; exact O2) hplt
              rw [hpl] at hv hS
              exact ⟨A, c, hv, hS⟩
            have hp0 : ((pl : Int) == 0) = false := by rw [beq_eq_false_iff_ne]; omega
            have hb2 := onto HH.out.2 B2
            have OE := own_emptyB w2
            have AP1 := Lib.hid (fun ty => run_append_by _ w2.heap.size ty _ 0 [] OE pA pl pc P (S2.alloc _) (by omega) (by simp))
            have r1 : IntKind.i64.wrap (1016 - (pl : Int)) = ((1016 - pl : Nat) : Int) := by rw [IntWalk.i64_in _ ⟨by omega, by omega⟩]; omega
            have hpl3 : pl ≤ 1014 := by omega
            have r1' : (1016 : Int) - (pl : Int) = ((1016 - pl : Nat) : Int) := by omega
            have HOE := Lib.hid OE
            have HU := Lib.hid (And.intro hfull (And.intro hof (And.intro hsay (And.intro hflt hfle))))
            have HB2 := Lib.hid hb2
            have HO2 := Lib.hid (own_on2 HH.out.1 B2)
            clear hmay hpl hplt hfull hgens hof hsay hflt hfle hpl2 S2 B2 O2 hb2 OE ht
            obtain ⟨zz, hzz⟩ : ∃ zz, zz = 1016 - pl := ⟨_, rfl⟩
            have HZZ := Lib.hid hzz
            rw [← hzz] at r1 r1'
            clear hzz
            go_wp2_with (first
              | (at_builtin; refine wpList_append_ran _ rfl _ _ 48 48 rfl (.slice (some ⟨w2.heap.size, 0, none⟩) 0 0) (.slice pA pl pc) rfl rfl _ (AP1.out _) ?_; rintro v3 w3 ⟨O3, g3⟩; have B3 := below_own ((Below.refl _ w2).alloc (Nat.le_refl _) (.cells #[] 5)) HOE.out g3 (by simp) (Nat.le_refl _); have HO3 := Lib.hid O3; have HB3 := Lib.hid B3; clear O3 g3 B3)
              | (at_builtin; refine wpList_append_ran _ rfl _ _ 48 3 rfl v3 (.int .i64 (zz : Int)) rfl rfl _ (run_zeros _ w2.heap.size _ _ (0 + pl) _ HO3.out zz (by have := HZZ.out; omega) HB3.out.size) ?_; rintro v4 w4 ⟨O4, g4⟩; have B4 := below_own HB3.out HO3.out g4 HB3.out.size (Nat.le_refl _); rw [show 0 + pl + zz = 1016 by have := HZZ.out; omega, List.nil_append, HZZ.out, ← HU.out.1] at O4; obtain ⟨fA, fcp, rfl, _, _⟩ := own_form O4; have HO4 := Lib.hid O4; have HB4 := Lib.hid B4; clear O4 g4 B4))
            obtain ⟨_, hof, hsay, hflt, hfle⟩ := HU.out
            have S4 := own_bs HO4.out hfle hflt
            have hb4 := onto HB2.out HB4.out
            refine (fromPay_any w4 fA 1016 fcp U S4).mono ?_
            rintro e w5 ⟨v5, hyes, _, B5⟩
            obtain ⟨rfl, O5⟩ := hyes hsay
            rw [hof.2.1]
            rw [hof.2.2] at O5
            have hb5 := onto hb4 B5
            have O6 := own_on2 HO2.out (onto HB4.out B5)
            obtain ⟨xA, xc, rfl, F5⟩ := fs_own O5 HIn.out
            rw [HPL.out] at F5 ⊢
            have AP2 := Lib.hid (fun ty => run_append_fs w5 w.heap.size ty ov _ O6 xA (T - F) xc (pieceOf l k) F5 (by rw [List.length_take, HL.out]; omega) hb5.size)
            have HB5 := Lib.hid hb5
            have HO6 := Lib.hid O6
            have e1 : ((k : Int) + 1 != (k : Int) + 1) = false := by simp
            clear hof hsay hflt hfle S4 hb4 O5 hb5 O6 F5 B5 HO4 HB4 HOE AP1 HU HO3 HB3 HZZ
            have e2 : (((T - F : Nat) : Int) == 0) = false := by rw [beq_eq_false_iff_ne]; omega
            go_wp2_with (first
              | (at_builtin; refine wpList_append_ran _ rfl _ _ 22 22 rfl ov (.slice xA (T - F) xc) rfl rfl _ (AP2.out _) ?_; rintro v7 w7 ⟨O7, g7⟩))
            have b7 := below_own HB5.out HO6.out g7 HB5.out.size (Nat.le_refl _)
            rw [piece_step] at O7
            go_roundw
            case rel => exact ⟨k + 1, _, rfl, by omega, by go_num, O7, b7⟩
            case measure => simp [intOf]; omega
          · rw [payOf_no (fun hm => ht hm.2.2)] at O2
            obtain ⟨pA, pc, rfl, _, _⟩ := own_form O2
            have HB2 := Lib.hid (onto HH.out.2 B2)
            have HF2 := Lib.hid (H.out.on HB2.out)
            have HNT : Hid (¬ ∀ i f, F ≤ i → i < T → l[i]? = some f → Pl.Page f.1) := fun hall => ht fun f hf => by
              rw [HPE.out] at hf
              obtain ⟨i, hi⟩ := List.getElem?_of_mem hf
              rw [List.getElem?_take] at hi
              split at hi
              · rw [List.getElem?_drop] at hi
                exact hall (F + i) f (by omega) (by omega) hi
              · cases hi
            clear O2 B2 ht hcF m1 m2 m3 m4 m5
            simp only [List.length_nil]
            go_wp2_with fail
            go_loopw [9] (fun x wx => ∃ j : Nat, F ≤ j ∧ j ≤ T ∧ x = .int .i64 (j : Int) ∧ (∀ i f, F ≤ i → i < j → l[i]? = some f → Pl.Page f.1) ∧ wx = w2) (fun x _ => T - (intOf x).toNat)
            case atStart => exact ⟨F, Nat.le_refl _, hFT, rfl, fun i f h1 h2 => by omega, rfl⟩
            case round =>
              obtain ⟨j, hj1, hj2, rfl, hall, rfl⟩ := hrel
              by_cases hjt : j < T
              · have y1 : (j : Int) < (T : Int) := by omega
                have y2 : (j : Int) < (n : Int) := by omega
                obtain ⟨b', off', f, hA, hbl', hf, hin, q0, q1⟩ := HF2.out.get (k := j) (by omega)
                injection hA with hA
                injection hA with hA1 hA2
                subst hA1 hA2
                by_cases hpg : Pl.Page f.1
                · have hst : Hid (∀ i f', F ≤ i → i < j + 1 → l[i]? = some f' → Pl.Page f'.1) := fun i f' h1 h2 h3 => by
                    rcases Nat.lt_or_ge i j with h4 | h4
                    · exact hall i f' h1 h4 h3
                    · have : i = j := by omega
                      subst this
                      rw [hf] at h3; injection h3 with h3; subst h3; exact hpg
                  have y3 : ¬ f.1 < 0 := by have := hpg.1; omega
                  have y4 : ¬ (2147483647 : Int) < f.1 := by have := hpg.2; omega
                  clear hf hin hpg hall q1 hbl'
                  go_wp2
                  go_roundw
                  case rel => exact ⟨j + 1, by omega, by omega, by go_num, hst.out, by trivial⟩
                  case measure => simp [intOf]; omega
                · by_cases y3 : f.1 < 0
                  · clear hf hin hpg hall q1 hbl'
                    go_wp2
                    go_ret
                    exact ⟨rfl, HB2.out⟩
                  · have y4 : (2147483647 : Int) < f.1 := Int.not_le.1 fun h => hpg ⟨by omega, h⟩
                    clear hf hin hpg hall q1 hbl'
                    go_wp2
                    go_ret
                    exact ⟨rfl, HB2.out⟩
              · exact absurd (fun i f h1 h2 h3 => hall i f h1 (by omega) h3) HNT.out
        · have hn0 : n = 0 := by omega
          have hk0 : k = 0 := by have := HNB.out; omega
          have hF0 : F = 0 := by omega
          have hT0 : T = 0 := by omega
          have hpn : pieceOf l k = [] := List.eq_nil_of_length_eq_zero (by omega)
          have ht : Tellable (pieceOf l k) := by rw [hpn]; intro f hf; cases hf
          by_cases hcF : c = F
          · subst hcF
            have FSX : Hid (Fs wr A (T - c) 0 (pieceOf l k)) := by show Fs _ _ _ _ _; rw [hpn, show T - c = 0 by omega]; exact Fs.nil_ _ _ _ (Nat.zero_le _)
            have HZ := Lib.hid (And.intro hn0 (And.intro hF0 hT0))
            clear hO hb hF hT hpc hpl0 hpe hpn hk0 hF0 hT0 hn0 hpos
            have CPay := Lib.hid (pay_any wr A (T - c) 0 (pieceOf l k) ((k : Int) + 1) FSX.out (by unfold I64; omega))
            go_wp2_with fail
            refine CPay.out.mono ?_
            rintro e w2 ⟨v, rfl, O2, B2⟩
            clear CPay
            have hmay : Pl.May (pieceOf l k) ((k : Int) + 1) := ⟨by rw [HPL.out]; omega, ⟨by omega, by omega⟩, ht⟩
            rw [payOf_yes hmay] at O2
            have hpl := Pl.pay_len (pieceOf l k) ((k : Int) + 1)
            rw [HPL.out] at hpl
            have hplt := Pl.pay_lt (pieceOf l k) ((k : Int) + 1)
            have hfull : Pl.full (pieceOf l k) ((k : Int) + 1) = Pl.pay (pieceOf l k) ((k : Int) + 1) ++ List.replicate (1016 - (6 + 12 * (T - c))) 0 := by unfold Pl.full; rw [hpl]
            have hgens : Pl.Gens (pieceOf l k) := fun f hf => (HIn.out f hf).2
            have hof := Pl.of_full hmay hgens
            have hsay := Pl.says_full hmay hgens
            have hflt := Pl.full_lt (pieceOf l k) ((k : Int) + 1)
            have hfle := Pl.full_len (l := pieceOf l k) (next := (k : Int) + 1) (by rw [HPL.out]; omega)
            generalize Pl.pay (pieceOf l k) ((k : Int) + 1) = P at *
            generalize Pl.full (pieceOf l k) ((k : Int) + 1) = U at *
            obtain ⟨pl, hpl2⟩ : ∃ pl, pl = 6 + 12 * (T - c) := ⟨_, rfl⟩
            rw [← hpl2] at hpl hfull
            rw [hpl] at O2
            obtain ⟨pA, pc, rfl, S2⟩ : ∃ A c, v = .slice A pl c ∧ Bs w2 A pl c P := by
              obtain ⟨A, c, hv, hS⟩ := Bs.of_own (l := P) (by rw [hpl]; exact O2) hplt
              rw [hpl] at hv hS
              exact ⟨A, c, hv, hS⟩
            have hp0 : ((pl : Int) == 0) = false := by rw [beq_eq_false_iff_ne]; omega
            have hb2 := onto HH.out.2 B2
            have OE := own_emptyB w2
            have AP1 := Lib.hid (fun ty => run_append_by _ w2.heap.size ty _ 0 [] OE pA pl pc P (S2.alloc _) (by omega) (by simp))
            have r1 : IntKind.i64.wrap (1016 - (pl : Int)) = ((1016 - pl : Nat) : Int) := by rw [IntWalk.i64_in _ ⟨by omega, by omega⟩]; omega
            have hpl3 : pl ≤ 1014 := by omega
            have r1' : (1016 : Int) - (pl : Int) = ((1016 - pl : Nat) : Int) := by omega
            have HOE := Lib.hid OE
            have HU := Lib.hid (And.intro hfull (And.intro hof (And.intro hsay (And.intro hflt hfle))))
            have HB2 := Lib.hid hb2
            have HO2 := Lib.hid (own_on2 HH.out.1 B2)
            clear hmay hpl hplt hfull hgens hof hsay hflt hfle hpl2 S2 B2 O2 hb2 OE ht
            obtain ⟨zz, hzz⟩ : ∃ zz, zz = 1016 - pl := ⟨_, rfl⟩
            have HZZ := Lib.hid hzz
            rw [← hzz] at r1 r1'
            clear hzz
            go_wp2_with (first
              | (at_builtin; refine wpList_append_ran _ rfl _ _ 48 48 rfl (.slice (some ⟨w2.heap.size, 0, none⟩) 0 0) (.slice pA pl pc) rfl rfl _ (AP1.out _) ?_; rintro v3 w3 ⟨O3, g3⟩; have B3 := below_own ((Below.refl _ w2).alloc (Nat.le_refl _) (.cells #[] 5)) HOE.out g3 (by simp) (Nat.le_refl _); have HO3 := Lib.hid O3; have HB3 := Lib.hid B3; clear O3 g3 B3)
              | (at_builtin; refine wpList_append_ran _ rfl _ _ 48 3 rfl v3 (.int .i64 (zz : Int)) rfl rfl _ (run_zeros _ w2.heap.size _ _ (0 + pl) _ HO3.out zz (by have := HZZ.out; omega) HB3.out.size) ?_; rintro v4 w4 ⟨O4, g4⟩; have B4 := below_own HB3.out HO3.out g4 HB3.out.size (Nat.le_refl _); rw [show 0 + pl + zz = 1016 by have := HZZ.out; omega, List.nil_append, HZZ.out, ← HU.out.1] at O4; obtain ⟨fA, fcp, rfl, _, _⟩ := own_form O4; have HO4 := Lib.hid O4; have HB4 := Lib.hid B4; clear O4 g4 B4))
            obtain ⟨_, hof, hsay, hflt, hfle⟩ := HU.out
            have S4 := own_bs HO4.out hfle hflt
            have hb4 := onto HB2.out HB4.out
            refine (fromPay_any w4 fA 1016 fcp U S4).mono ?_
            rintro e w5 ⟨v5, hyes, _, B5⟩
            obtain ⟨rfl, O5⟩ := hyes hsay
            rw [hof.2.1]
            rw [hof.2.2] at O5
            have hb5 := onto hb4 B5
            have O6 := own_on2 HO2.out (onto HB4.out B5)
            obtain ⟨xA, xc, rfl, F5⟩ := fs_own O5 HIn.out
            rw [HPL.out] at F5 ⊢
            have AP2 := Lib.hid (fun ty => run_append_fs w5 w.heap.size ty ov _ O6 xA (T - c) xc (pieceOf l k) F5 (by rw [List.length_take, HL.out]; omega) hb5.size)
            have HB5 := Lib.hid hb5
            have HO6 := Lib.hid O6
            have e1 : ((k : Int) + 1 != (k : Int) + 1) = false := by simp
            clear hof hsay hflt hfle S4 hb4 O5 hb5 O6 F5 B5 HO4 HB4 HOE AP1 HU HO3 HB3 HZZ
            have e2 : (((T - c : Nat) : Int) == 0) = true := by have := HZ.out; simp; omega
            have e3 : ¬ ((0 : Int) < (n : Int)) := by have := HZ.out; omega
            have e3' : decide ((0 : Int) < (n : Int)) = false := by have := HZ.out; simp; omega
            have e3'' : ¬ (0 < n) := by have := HZ.out; omega
            go_wp2_with (first
              | (at_builtin; refine wpList_append_ran _ rfl _ _ 22 22 rfl ov (.slice xA (T - c) xc) rfl rfl _ (AP2.out _) ?_; rintro v7 w7 ⟨O7, g7⟩))
            have b7 := below_own HB5.out HO6.out g7 HB5.out.size (Nat.le_refl _)
            rw [piece_step] at O7
            go_roundw
            case rel => exact ⟨k + 1, _, rfl, by omega, by go_num, O7, b7⟩
            case measure => simp [intOf]; omega
          · have FSX : Hid (Fs wr (Option.map (fun x => x.add (F * 2)) A) (T - F) (c - F) (pieceOf l k)) := by show Fs _ _ _ _ _; rw [hpn, show T - F = 0 by omega]; exact Fs.nil_ _ _ _ (by unfold maxLen; omega)
            have HZ := Lib.hid (And.intro hn0 (And.intro hF0 hT0))
            clear hO hb hF hT hpc hpl0 hpe hpn hk0 hF0 hT0 hn0 hpos
            have CPay := Lib.hid (pay_any wr (Option.map (fun x => x.add (F * 2)) A) (T - F) (c - F) (pieceOf l k) ((k : Int) + 1) FSX.out (by unfold I64; omega))
            go_wp2_with fail
            refine CPay.out.mono ?_
            rintro e w2 ⟨v, rfl, O2, B2⟩
            clear CPay
            have hmay : Pl.May (pieceOf l k) ((k : Int) + 1) := ⟨by rw [HPL.out]; omega, ⟨by omega, by omega⟩, ht⟩
            rw [payOf_yes hmay] at O2
            have hpl := Pl.pay_len (pieceOf l k) ((k : Int) + 1)
            rw [HPL.out] at hpl
            have hplt := Pl.pay_lt (pieceOf l k) ((k : Int) + 1)
            have hfull : Pl.full (pieceOf l k) ((k : Int) + 1) = Pl.pay (pieceOf l k) ((k : Int) + 1) ++ List.replicate (1016 - (6 + 12 * (T - F))) 0 := by unfold Pl.full; rw [hpl]
            have hgens : Pl.Gens (pieceOf l k) := fun f hf => (HIn.out f hf).2
            have hof := Pl.of_full hmay hgens
            have hsay := Pl.says_full hmay hgens
            have hflt := Pl.full_lt (pieceOf l k) ((k : Int) + 1)
            have hfle := Pl.full_len (l := pieceOf l k) (next := (k : Int) + 1) (by rw [HPL.out]; omega)
            generalize Pl.pay (pieceOf l k) ((k : Int) + 1) = P at *
            generalize Pl.full (pieceOf l k) ((k : Int) + 1) = U at *
            obtain ⟨pl, hpl2⟩ : ∃ pl, pl = 6 + 12 * (T - F) := ⟨_, rfl⟩
            rw [← hpl2] at hpl hfull
            rw [hpl] at O2
            obtain ⟨pA, pc, rfl, S2⟩ : ∃ A c, v = .slice A pl c ∧ Bs w2 A pl c P := by
              obtain ⟨A, c, hv, hS⟩ := Bs.of_own (l := P) (by rw [hpl]; exact O2) hplt
              rw [hpl] at hv hS
              exact ⟨A, c, hv, hS⟩
            have hp0 : ((pl : Int) == 0) = false := by rw [beq_eq_false_iff_ne]; omega
            have hb2 := onto HH.out.2 B2
            have OE := own_emptyB w2
            have AP1 := Lib.hid (fun ty => run_append_by _ w2.heap.size ty _ 0 [] OE pA pl pc P (S2.alloc _) (by omega) (by simp))
            have r1 : IntKind.i64.wrap (1016 - (pl : Int)) = ((1016 - pl : Nat) : Int) := by rw [IntWalk.i64_in _ ⟨by omega, by omega⟩]; omega
            have hpl3 : pl ≤ 1014 := by omega
            have r1' : (1016 : Int) - (pl : Int) = ((1016 - pl : Nat) : Int) := by omega
            have HOE := Lib.hid OE
            have HU := Lib.hid (And.intro hfull (And.intro hof (And.intro hsay (And.intro hflt hfle))))
            have HB2 := Lib.hid hb2
            have HO2 := Lib.hid (own_on2 HH.out.1 B2)
            clear hmay hpl hplt hfull hgens hof hsay hflt hfle hpl2 S2 B2 O2 hb2 OE ht
            obtain ⟨zz, hzz⟩ : ∃ zz, zz = 1016 - pl := ⟨_, rfl⟩
            have HZZ := Lib.hid hzz
            rw [← hzz] at r1 r1'
            clear hzz
            go_wp2_with (first
              | (at_builtin; refine wpList_append_ran _ rfl _ _ 48 48 rfl (.slice (some ⟨w2.heap.size, 0, none⟩) 0 0) (.slice pA pl pc) rfl rfl _ (AP1.out _) ?_; rintro v3 w3 ⟨O3, g3⟩; have B3 := below_own ((Below.refl _ w2).alloc (Nat.le_refl _) (.cells #[] 5)) HOE.out g3 (by simp) (Nat.le_refl _); have HO3 := Lib.hid O3; have HB3 := Lib.hid B3; clear O3 g3 B3)
              | (at_builtin; refine wpList_append_ran _ rfl _ _ 48 3 rfl v3 (.int .i64 (zz : Int)) rfl rfl _ (run_zeros _ w2.heap.size _ _ (0 + pl) _ HO3.out zz (by have := HZZ.out; omega) HB3.out.size) ?_; rintro v4 w4 ⟨O4, g4⟩; have B4 := below_own HB3.out HO3.out g4 HB3.out.size (Nat.le_refl _); rw [show 0 + pl + zz = 1016 by have := HZZ.out; omega, List.nil_append, HZZ.out, ← HU.out.1] at O4; obtain ⟨fA, fcp, rfl, _, _⟩ := own_form O4; have HO4 := Lib.hid O4; have HB4 := Lib.hid B4; clear O4 g4 B4))
            obtain ⟨_, hof, hsay, hflt, hfle⟩ := HU.out
            have S4 := own_bs HO4.out hfle hflt
            have hb4 := onto HB2.out HB4.out
            refine (fromPay_any w4 fA 1016 fcp U S4).mono ?_
            rintro e w5 ⟨v5, hyes, _, B5⟩
            obtain ⟨rfl, O5⟩ := hyes hsay
            rw [hof.2.1]
            rw [hof.2.2] at O5
            have hb5 := onto hb4 B5
            have O6 := own_on2 HO2.out (onto HB4.out B5)
            obtain ⟨xA, xc, rfl, F5⟩ := fs_own O5 HIn.out
            rw [HPL.out] at F5 ⊢
            have AP2 := Lib.hid (fun ty => run_append_fs w5 w.heap.size ty ov _ O6 xA (T - F) xc (pieceOf l k) F5 (by rw [List.length_take, HL.out]; omega) hb5.size)
            have HB5 := Lib.hid hb5
            have HO6 := Lib.hid O6
            have e1 : ((k : Int) + 1 != (k : Int) + 1) = false := by simp
            clear hof hsay hflt hfle S4 hb4 O5 hb5 O6 F5 B5 HO4 HB4 HOE AP1 HU HO3 HB3 HZZ
            have e2 : (((T - F : Nat) : Int) == 0) = true := by have := HZ.out; simp; omega
            have e3 : ¬ ((0 : Int) < (n : Int)) := by have := HZ.out; omega
            have e3' : decide ((0 : Int) < (n : Int)) = false := by have := HZ.out; simp; omega
            have e3'' : ¬ (0 < n) := by have := HZ.out; omega
            go_wp2_with (first
              | (at_builtin; refine wpList_append_ran _ rfl _ _ 22 22 rfl ov (.slice xA (T - F) xc) rfl rfl _ (AP2.out _) ?_; rintro v7 w7 ⟨O7, g7⟩))
            have b7 := below_own HB5.out HO6.out g7 HB5.out.size (Nat.le_refl _)
            rw [piece_step] at O7
            go_roundw
            case rel => exact ⟨k + 1, _, rfl, by omega, by go_num, O7, b7⟩
            case measure => simp [intOf]; omega
      · have hkn : k = np := by omega
        have z1 : ¬ ((k : Int) < (np : Int)) := by omega
        have hta : l.take (84 * k) = l := List.take_of_length_le (by rw [HL.out]; have := HNB.out; omega)
        rw [hta] at hO
        have hFl := H.out.on hb
        obtain ⟨oA, oc, rfl, Fo⟩ := fs_own hO hFl.2.2.2.1
        have CS := Lib.hid (sameF_any wr oA A l.length oc n c l l Fo hFl)
        rw [show decide (l = l) = true from by simp] at CS
        have HB := Lib.hid hb
        clear hO hb hFl Fo hta
        go_wp2_with fail
        refine CS.out.mono ?_
        rintro e w2 ⟨rfl, m2, rfl⟩
        go_wp2
        go_ret
        exact ⟨rfl, below_drewN HB.out _⟩
  · have z0 : (300 : Int) < (n : Int) := by omega
    go_wp2
    go_ret
    exact ⟨rfl, HB1.out⟩

end Go.Proofs.Ytbfofhgnamheeaa.Pq
