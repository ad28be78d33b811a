/-
  TextItself: its walk.
-/
import Derived.Test.YtmlonlipieedbaaDoorTxAwake
namespace Go.Proofs.YtmlonlipieedbaaDoor
open Go.RowKit Go.Lib
set_option linter.unusedVariables false

theorem mt_esc (l m : List UInt8) (vl : validD l = true) (vm : validD m = true) : mtB (Tx.esc (Tx.P l) l) m = decide (l = m) := by
  rw [Tx.valid_P] at vl vm
  unfold mtB
  rw [Tx.rns_esc l vl, Tx.sg_esc, Tx.M_lit]
  by_cases h : l = m
  · subst h; simp
  · rw [decide_eq_false h, decide_eq_false]
    intro e; exact h (Tx.rns_inj l m vl vm e)
theorem eq_lists (a b : List UInt8) : (a == b) = decide (a = b) := by rw [Bool.eq_iff_iff, beq_iff_eq, decide_eq_true_eq]
theorem mt_self (l : List UInt8) (vl : validD l = true) : mtB (Tx.esc (Tx.P l) l) l = true := by rw [mt_esc l l vl vl]; simp
theorem take_all {ps : List (Nat × Nat)} {k : Nat} (h : ps.length ≤ k) : ps.take k = ps := List.take_of_length_le h
theorem wid_succ {ps : List (Nat × Nat)} {k : Nat} {d : Nat × Nat} (h : ps[k]? = some d) : Tx.wid (ps.take (k + 1)) = Tx.wid (ps.take k) + d.2 := by
  rw [List.take_add_one, h]; exact Tx.wid_snoc _ _
/-- One piece more. -/
theorem esc_step (s o : ByteArray) (k : Nat) (h : k < (Tx.P s.data.toList).length) (ho : o.data.toList = Tx.esc ((Tx.P s.data.toList).take k) s.data.toList) :
    (o ++ ⟨#[92]⟩ ++ s.extract (Tx.cutW s.data.toList k) (Tx.cutW s.data.toList (k + 1)) : ByteArray).data.toList = Tx.esc ((Tx.P s.data.toList).take (k + 1)) s.data.toList := by
  obtain ⟨d, hd⟩ : ∃ d, (Tx.P s.data.toList)[k]? = some d := ⟨_, List.getElem?_eq_getElem h⟩
  have hw := wid_succ hd
  rw [app_data, app_data, ho, extract_data, List.take_add_one, hd]
  show _ = Tx.esc (_ ++ [d]) _
  rw [Tx.esc_snoc]
  have e : Tx.cutW s.data.toList (k + 1) - Tx.cutW s.data.toList k = d.2 := by unfold Tx.cutW; omega
  rw [e]
  simp [Tx.cutW]
theorem cutW_mono (l : List UInt8) (n m : Nat) (h : n ≤ m) : Tx.cutW l n ≤ Tx.cutW l m := Tx.wid_take_le _ _ _ h

set_option maxRecDepth 100000 in
set_option maxHeartbeats 2000000 in
theorem textItself_walk (s o : ByteArray) (w : World) (hs : s.size ≤ maxLen) (ho : o.size ≤ maxLen) (hT : Tabs w) :
    Calls Tryd.prog 6 #[.string s, .string o] w fun e w' => e = .returned (.bool true) ∧ Below w.heap.size w w' := by
  unfold maxLen at hs ho
  have HT := Lib.hid hT
  clear hT
  by_cases h1 : 300 < s.size
  · have h1' : 300 < (s.size : Int) := by omega
    go_enter Tryd.func6, Tryd.ntmps6
    go_wp2_with fail
    refine (awake_any _ HT.out).mono ?_
    rintro e w1 ⟨rfl, b1⟩
    go_wp2
    go_ret
    exact ⟨rfl, b1⟩
  · have h1' : ¬ 300 < (s.size : Int) := by omega
    by_cases h2 : 300 < o.size
    · have h2' : 300 < (o.size : Int) := by omega
      go_enter Tryd.func6, Tryd.ntmps6
      go_wp2_with fail
      refine (awake_any _ HT.out).mono ?_
      rintro e w1 ⟨rfl, b1⟩
      go_wp2
      go_ret
      exact ⟨rfl, b1⟩
    · have h2' : ¬ 300 < (o.size : Int) := by omega
      have CU := Lib.hid (fun W => refUtf_any s W (by omega))
      have CV := Lib.hid (fun W => refUtf_any o W (by omega))
      cases hv : validD s.data.toList with
      | false =>
        rw [hv] at CU
        clear hv
        go_enter Tryd.func6, Tryd.ntmps6
        go_wp2_with fail
        refine (awake_any _ HT.out).mono ?_
        rintro e w1 ⟨rfl, b1⟩
        go_wp2_with fail
        refine (CU.out _).mono ?_
        rintro e w2 ⟨rfl, rfl⟩
        go_wp2
        go_ret
        exact ⟨rfl, b1⟩
      | true =>
        cases hu : validD o.data.toList with
        | false =>
          rw [hv] at CU
          rw [hu] at CV
          clear hv hu
          go_enter Tryd.func6, Tryd.ntmps6
          go_wp2_with fail
          refine (awake_any _ HT.out).mono ?_
          rintro e w1 ⟨rfl, b1⟩
          go_wp2_with fail
          refine (CU.out _).mono ?_
          rintro e w2 ⟨rfl, rfl⟩
          go_wp2_with fail
          refine (CV.out _).mono ?_
          rintro e w2 ⟨rfl, rfl⟩
          go_wp2
          go_ret
          exact ⟨rfl, b1⟩
        | true =>
          have M1 := Lib.hid (mt_self s.data.toList hv)
          have M2 := Lib.hid (mt_esc s.data.toList o.data.toList hv hu)
          have CR := Lib.hid (fun W => refRunes_any s W (by omega))
          have hPl := Tx.P_len s.data.toList
          rw [← size_eq] at hPl
          obtain ⟨N, hN⟩ : ∃ N, (Tx.P s.data.toList).length = N := ⟨_, rfl⟩
          rw [hN] at CR hPl
          have HN := Lib.hid hN
          rw [hv] at CU
          rw [hu] at CV
          clear hv hu hN h1 h2
          go_enter Tryd.func6, Tryd.ntmps6
          go_wp2_with fail
          refine (awake_any _ HT.out).mono ?_
          rintro e w1 ⟨rfl, b1⟩
          go_wp2_with fail
          refine (CU.out _).mono ?_
          rintro e w2 ⟨rfl, rfl⟩
          go_wp2_with fail
          refine (CV.out _).mono ?_
          rintro e w2 ⟨rfl, rfl⟩
          go_wp2_with fail
          refine (CR.out _).mono ?_
          rintro e w2 ⟨A1, c1, A2, c2, rfl, V1, V2, b2⟩
          have B2 := onto b1 b2
          have HV := Lib.hid V2
          clear b1 b2 CU CV CR V1 V2 HT
          go_wp2_with fail
          go_loop [7, 8] (fun p i => ∃ (k : Nat) (q : ByteArray), i = .int .i64 (k : Int) ∧ k ≤ N ∧ p = .string q ∧ q.size ≤ k + 300 ∧ Hid (q.data.toList = Tx.esc ((Tx.P s.data.toList).take k) s.data.toList)) (fun _ i => N - (RowKit.intOf i).toNat)
          case atStart => exact ⟨0, ⟨#[]⟩, rfl, Nat.zero_le _, rfl, Nat.zero_le _, rfl⟩
          case round =>
            obtain ⟨k, q, rfl, hk, rfl, hq, H⟩ := hrel
            by_cases hlt : k < N
            · obtain ⟨b, off, x, rfl, hx, cx⟩ := nv_at HV.out hlt
              have hxe : x = Tx.cutW s.data.toList k := by
                rw [Tx.ats_at _ _ _ (by rw [HN.out]; exact hlt), Nat.zero_add] at hx
                injection hx with hx; exact hx.symm
              subst hxe
              have hst := esc_step s q k (by rw [HN.out]; exact hlt) H.out
              have hm := cutW_mono s.data.toList k (k + 1) (by omega)
              have hle := Tx.cutW_le s.data.toList (k + 1)
              rw [← size_eq] at hle
              have hlen := Tx.esc_len ((Tx.P s.data.toList).take (k + 1)) s.data.toList
              rw [← hst, ← size_eq, ← size_eq, List.length_take] at hlen
              have hext : (s.extract (Tx.cutW s.data.toList k) (Tx.cutW s.data.toList (k + 1))).size ≤ 300 := by
                rw [size_eq, extract_data, List.length_take, List.length_drop, ← size_eq]; omega
              have HY : Hid (k + 1 < N → ∃ y : Nat, w2.cell? ⟨b, off + (k + 1), none⟩ = some (.int .i64 (y : Int)) ∧ y = Tx.cutW s.data.toList (k + 1)) := fun hn => by
                obtain ⟨b', off', y, hA, hy, cy⟩ := nv_at HV.out hn
                injection hA with hA
                injection hA with hA1 hA2
                subst hA1 hA2
                refine ⟨y, cy, ?_⟩
                rw [Tx.ats_at _ _ _ (by rw [HN.out]; exact hn), Nat.zero_add] at hy
                injection hy with hy; exact hy.symm
              have HZ : Hid (¬ k + 1 < N → s.size = Tx.cutW s.data.toList (k + 1)) := fun hn => by
                show _ = _
                rw [Tx.cutW_full _ _ (by rw [HN.out]; omega), size_eq]
              generalize Tx.cutW s.data.toList (k + 1) = y1 at hst hm hle hext HY HZ hlen
              generalize Tx.cutW s.data.toList k = y0 at cx hst hm hext hlen
              have H2 := Lib.hid hst
              have hq2 : (q ++ ⟨#[92]⟩ ++ s.extract y0 y1 : ByteArray).size ≤ k + 1 + 300 := by omega
              have z1 : (y0 : Int) ≤ (y1 : Int) := by omega
              have z2 : (y1 : Int) ≤ (s.size : Int) := by omega
              clear hx hst hlen H
              by_cases hn : k + 1 < N
              · obtain ⟨y, cy, rfl⟩ := HY.out hn
                have z3 : (k : Int) + 1 < (N : Int) := by omega
                clear HY HZ
                go_wp2
                go_round
                case rel => exact ⟨k + 1, _, by go_num, by omega, rfl, hq2, H2⟩
                case measure => simp [RowKit.intOf]; omega
              · obtain rfl : y1 = s.size := (HZ.out hn).symm
                have z3 : ¬ (k : Int) + 1 < (N : Int) := by omega
                clear HY HZ
                go_wp2
                go_round
                case rel => exact ⟨k + 1, _, by go_num, by omega, rfl, hq2, H2⟩
                case measure => simp [RowKit.intOf]; omega
            · obtain rfl : k = N := by omega
              have hE := H.out
              rw [take_all (by rw [HN.out]; exact Nat.le_refl _)] at hE
              have K1 := Lib.hid (fun W => match_any q s W (by omega) (by omega))
              have K2 := Lib.hid (fun W => match_any q o W (by omega) (by omega))
              rw [hE, M1.out] at K1
              rw [hE, M2.out] at K2
              have hso : (s.toList == o.toList) = decide (s.data.toList = o.data.toList) := by
                rw [ByteArray.toList_eq, ByteArray.toList_eq]; exact eq_lists _ _
              generalize decide (s.data.toList = o.data.toList) = D at K2 hso
              have hDD : (D == D) = true := by simp
              have HSO := Lib.hid hso
              clear hE H M1 M2 hso
              go_wp2_with fail
              refine (K1.out _).mono ?_
              rintro e w3 ⟨rfl, b3⟩
              go_wp2_with fail
              refine (K2.out _).mono ?_
              rintro e w4 ⟨rfl, b4⟩
              have hso := HSO.out
              go_wp2
              go_ret
              exact ⟨rfl, onto (onto B2 b3) b4⟩

end Go.Proofs.YtmlonlipieedbaaDoor
