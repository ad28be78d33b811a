/-
  The document's Match: by a table.
-/
import Derived.Test.YtmlonlipieedbaaDoorTxSigns
import Derived.Test.YtmlonlipieedbaaDoorTxMatchW
import Derived.Deep.OwnRows
import Derived.BigRegion
namespace Go.Proofs.YtmlonlipieedbaaDoor
open Go.RowKit Go.Lib
set_option linter.unusedVariables false

theorem Tryd.info4 : (Tryd.prog.info? 4).map (fun i => (i.zero, i.size, i.bytes)) = some (some (.bool false), 1, 1) := by kernel_rfl
/-- The table's row, as far as it is filled. -/
def filled (q : List Int) (t : List Nat) (i k j : Nat) : Value := if j < k then .bool (Tx.R q t i j) else .bool false
theorem row_below {w w' : World} {b : Nat} {t : TypeId} {n : Nat} {f : Nat → Value} (h : w.rowIs b t n f) (hb : Below w.heap.size w w') : w'.rowIs b t n f := h.of_block (hb.block b h.lt)

theorem first_row (w : World) (q : List Int) (t : List Nat) (N : Nat) (hN : N ≤ t.length) :
    (w.alloc (.cells ((madeCells #[Value.bool false] (N + 1)).setIfInBounds 0 (.bool true)) 4)).rowIs w.heap.size 4 (N + 1) (fun j => .bool (Tx.R q t 0 j)) := by
  refine ⟨_, heap_alloc_new w _, by simp [size_madeCells], fun i hi => ?_⟩
  rw [Array.getElem?_setIfInBounds]
  by_cases h0 : 0 = i
  · subst h0
    rw [if_pos rfl, if_pos (by rw [size_madeCells]; omega)]
    show _ = some (Value.bool (Tx.R q t 0 0))
    rw [Tx.R_00]
  · rw [if_neg h0]
    show _ = some (Value.bool (Tx.R q t 0 i))
    rw [Tx.R_0 q t i (by omega) (by omega)]
    simp [madeCells, hi, Nat.mod_one]

set_option maxRecDepth 100000 in
set_option maxHeartbeats 4000000 in
theorem refMatch_any (p s : ByteArray) (w : World) (hp : p.size ≤ 100000) (hs : s.size ≤ 100000) :
    Calls Tryd.prog 22 #[.string p, .string s] w fun e w' => e = .returned (.bool (mtB p.data.toList s.data.toList)) ∧ Below w.heap.size w w' := by
  have hPl : (Tx.sg (Tx.rns p.data.toList)).length ≤ 100000 := by
    have h1 := Tx.sg_len (Tx.rns p.data.toList)
    have h2 := Tx.P_len p.data.toList
    rw [Tx.rns_len] at h1; rw [← size_eq] at h2; omega
  have hNl : (Tx.P s.data.toList).length ≤ 100000 := by have h2 := Tx.P_len s.data.toList; rw [← size_eq] at h2; omega
  have C1 := Lib.hid (fun W => refSigns_any p W (by omega))
  have C2 := Lib.hid (fun W => refRunes_any s W (by omega))
  have HB : Hid (mtB p.data.toList s.data.toList = Tx.M (Tx.sg (Tx.rns p.data.toList)) (Tx.rns s.data.toList)) := rfl
  have HN := Lib.hid (Tx.rns_len s.data.toList)
  generalize mtB p.data.toList s.data.toList = B at HB ⊢
  generalize Tx.sg (Tx.rns p.data.toList) = q at hPl C1 HB
  generalize Tx.ats 0 (Tx.P s.data.toList) = at0 at C2
  generalize (Tx.P s.data.toList).length = N at hNl C2 HN
  generalize Tx.rns s.data.toList = t at C2 HB HN
  obtain ⟨P, hP⟩ : ∃ P, q.length = P := ⟨_, rfl⟩
  rw [hP] at C1 hPl
  have HP := Lib.hid hP
  clear hP
  have hmk : ∀ W : World, (Instr.makeSlice 52 (.int .i64 ((N : Int) + 1)) (.int .i64 ((N : Int) + 1))).run Tryd.prog W = .ok (.slice (some ⟨W.heap.size, 0, none⟩) (N + 1) (N + 1)) (W.alloc (.cells (madeCells #[.bool false] (N + 1)) 4)) := fun W =>
    run_make_row' 52 4 (.bool false) 1 Tryd.underlying52 Tryd.info4 rfl .i64 .i64 (N + 1) (by omega) (by omega) W
  have hm0 : (madeCells #[Value.bool false] (N + 1))[0]? = some (.bool false) := by simp [madeCells, Nat.mod_one]
  have hms : (madeCells #[Value.bool false] (N + 1)).size = N + 1 := size_madeCells _ _
  go_enter Tryd.func22, Tryd.ntmps22
  go_wp2_with (first
    | (go_at_call 38; refine (C1.out _).mono ?_; rintro e w1 ⟨A1, c1, rfl, V1, hb1⟩)
    | (go_at_call 10; refine (C2.out _).mono ?_; rintro e w2 ⟨A2, c2, A3, c3, rfl, V2, V3, hb2⟩; have V1' := V1.on hb2; have hb : Below w.heap.size w w2 := onto hb1 hb2; clear V1 V3 hb1 hb2))
  clear C1 C2
  go_loopw [8, 9] (fun row i wr => ∃ (k g : Nat), i = .int .i64 (k : Int) ∧ k ≤ P ∧ row = .slice (some ⟨g, 0, none⟩) (N + 1) (N + 1) ∧ w2.heap.size ≤ g ∧ Hid (wr.rowIs g 4 (N + 1) (fun j => .bool (Tx.R q t k j))) ∧ Below w2.heap.size w2 wr) (fun _ i _ => P - (RowKit.intOf i).toNat)
  case atStart =>
    refine ⟨0, w2.heap.size, rfl, Nat.zero_le _, rfl, Nat.le_refl _, ?_, (Below.refl _ _).alloc (Nat.le_refl _) _⟩
    exact first_row w2 q t N (by rw [HN.out]; exact Nat.le_refl _)
  case round =>
    obtain ⟨k, g, rfl, hk, rfl, hg, HR, hbel⟩ := hrel
    obtain ⟨wo, rfl⟩ : ∃ wo, wo = wr := ⟨_, rfl⟩
    have hsz := hbel.size
    have hgl := HR.out.lt
    by_cases hlt : k < P
    · obtain ⟨b1, off1, x, rfl, hx, cx2⟩ := zv_at V1' hlt
      have HX := Lib.hid hx
      have hbl1 : b1 < w2.heap.size := World.block_lt_of_cell? w2 _ cx2
      have CX := Lib.hid cx2
      clear hx hm0 hms cx2
      go_wp2
      clear hmk
      go_loopw [11] (fun kk wi => ∃ (j : Nat), kk = .int .i64 (j : Int) ∧ j ≤ N + 1 ∧ Hid (wi.rowIs wo.heap.size 4 (N + 1) (filled q t (k + 1) j)) ∧ Hid (wi.rowIs g 4 (N + 1) (fun j => .bool (Tx.R q t k j))) ∧ Below w2.heap.size w2 wi) (fun kk _ => N + 1 - (RowKit.intOf kk).toNat)
      case atStart => exact ⟨0, rfl, Nat.zero_le _, (World.rowIs_made wo (.bool false) (N + 1) 4).congr (fun i _ => by unfold filled; rw [if_neg (by omega)]), HR.out.alloc _, hbel.alloc hsz _⟩
      case round =>
        obtain ⟨j, rfl, hj, HF, HR1, hbi⟩ := hrel
        have cx : wr.cell? ⟨b1, off1 + k, none⟩ = some (.int .i64 x) := (hbi.cell (p := ⟨b1, off1 + k, none⟩) hbl1).trans CX.out
        by_cases hjN : j ≤ N
        · have hj1 : (j : Int) ≤ (N : Int) := by omega
          have hj2 : (j : Int) < (N : Int) + 1 := by omega
          have hj3 : j < N + 1 := by omega
          have ff := HF.out.frozen j
          have cf := HF.out.cell hj3
          have cR := HR1.out.cell hj3
          have hgne : g ≠ wo.heap.size := by omega
          have hpush : ∀ (v : Bool), v = Tx.R q t (k + 1) j → Hid ((wr.setCell ⟨wo.heap.size, j, none⟩ (.bool v)).rowIs wo.heap.size 4 (N + 1) (filled q t (k + 1) (j + 1)) ∧ (wr.setCell ⟨wo.heap.size, j, none⟩ (.bool v)).rowIs g 4 (N + 1) (fun j => .bool (Tx.R q t k j)) ∧ Below w2.heap.size w2 (wr.setCell ⟨wo.heap.size, j, none⟩ (.bool v))) := by
            intro v hv
            refine ⟨(HF.out.set j (.bool v)).congr (fun i _ => ?_), HR1.out.setOther (a := ⟨wo.heap.size, j, none⟩) hgne _, hbi.setCell (p := ⟨wo.heap.size, j, none⟩) hsz _⟩
            show (if i = j then Value.bool v else filled q t (k + 1) j i) = filled q t (k + 1) (j + 1) i
            unfold filled
            by_cases e : i = j
            · subst e; rw [if_pos rfl, if_pos (by omega), hv]
            · rw [if_neg e]
              by_cases e2 : i < j
              · rw [if_pos e2, if_pos (by omega)]
              · rw [if_neg e2, if_neg (by omega)]
          have HPU := Lib.hid hpush
          clear hpush
          by_cases hst : x = -1
          · subst hst
            have hRs := Tx.R_star q t k j HX.out (by rw [HN.out]; exact hjN)
            cases hv : Tx.R q t k j with
            | true =>
              rw [hv, Bool.true_or] at hRs
              rw [hv] at cR
              have E := HPU.out true hRs.symm
              clear HPU hRs hv
              go_wp2
              go_roundw
              case rel => exact ⟨j + 1, by go_num, by omega, E.out.1, E.out.2.1, E.out.2.2⟩
              case measure => simp [RowKit.intOf]; omega
            | false =>
              rw [hv, Bool.false_or] at hRs
              rw [hv] at cR
              rcases Nat.eq_zero_or_pos j with hj0 | hj0
              · subst hj0
                have E := HPU.out false (by rw [hRs]; rfl)
                clear HPU hRs hv
                go_wp2
                go_roundw
                case rel => exact ⟨0 + 1, by go_num, by omega, E.out.1, E.out.2.1, E.out.2.2⟩
                case measure => simp [RowKit.intOf]
              · obtain ⟨i, rfl⟩ : ∃ i, j = i + 1 := ⟨j - 1, by omega⟩
                rw [decide_eq_true hj0, Bool.true_and, Nat.add_sub_cancel] at hRs
                have ci := HF.out.cell (i := i) (by omega)
                have E := HPU.out _ hRs.symm
                have ci' : wr.cell? ⟨wo.heap.size, i, none⟩ = some (.bool (Tx.R q t (k + 1) i)) := by rw [ci]; unfold filled; rw [if_pos (by omega)]
                generalize Tx.R q t (k + 1) i = V at E ci'
                clear HPU hRs hv ci
                have z1 : ((i : Int) + 1 - 1) = (i : Int) := by omega
                go_wp2
                go_roundw
                case rel => exact ⟨i + 1 + 1, by go_num, by omega, E.out.1, E.out.2.1, E.out.2.2⟩
                case measure => simp [RowKit.intOf]; omega
          · have b0 : (x == -1) = false := by simp [hst]
            rcases Nat.eq_zero_or_pos j with hj0 | hj0
            · subst hj0
              have E := HPU.out false (Tx.R_one_zero q t k x HX.out hst).symm
              clear HPU hst
              go_wp2
              go_region
              all_goals
                go_wp2
                go_roundw
                case rel => exact ⟨0 + 1, by go_num, by omega, E.out.1.drew, E.out.2.1.drew, E.out.2.2.drew⟩
                case measure => simp [RowKit.intOf]
            · obtain ⟨i, rfl⟩ : ∃ i, j = i + 1 := ⟨j - 1, by omega⟩
              obtain ⟨b2, off2, c, rfl, hc, cc2⟩ := nv_at V2 (show i < N by omega)
              have hbl2 : b2 < w2.heap.size := World.block_lt_of_cell? w2 _ cc2
              have cc : wr.cell? ⟨b2, off2 + i, none⟩ = some (.int .i64 (c : Int)) := (hbi.cell (p := ⟨b2, off2 + i, none⟩) hbl2).trans cc2
              have hRo := Tx.R_one q t k i x c HX.out hst hc
              have cRi := HR1.out.cell (i := i) (by omega)
              have z1 : ((i : Int) + 1 - 1) = (i : Int) := by omega
              have z2 : (0 : Int) ≤ (i : Int) := by omega
              have z3 : (i : Int) < (N : Int) := by omega
              have z4 : (i : Int) < (N : Int) + 1 := by omega
              have z5 : (k : Int) < (P : Int) := by omega
              have z6 : (0 : Int) ≤ (k : Int) := by omega
              have z7 : (0 : Int) < (i : Int) + 1 := by omega
              clear cR hc cc2
              cases hv : Tx.R q t k i with
              | false =>
                rw [hv, Bool.false_and] at hRo
                rw [hv] at cRi
                have E := HPU.out false hRo.symm
                clear HPU hRo hv hst
                go_wp2
                go_region
                all_goals
                  go_wp2
                  go_roundw
                  case rel => exact ⟨i + 1 + 1, by go_num, by omega, E.out.1.drew, E.out.2.1.drew, E.out.2.2.drew⟩
                  case measure => simp [RowKit.intOf]; omega
              | true =>
                rw [hv, Bool.true_and] at hRo
                rw [hv] at cRi
                by_cases h2 : x = -2
                · subst h2
                  have E := HPU.out true (by rw [hRo]; simp [Tx.one])
                  clear HPU hRo hv hst b0
                  go_wp2
                  go_region
                  all_goals
                    go_wp2
                    go_roundw
                    case rel => exact ⟨i + 1 + 1, by go_num, by omega, E.out.1.drew, E.out.2.1.drew, E.out.2.2.drew⟩
                    case measure => simp [RowKit.intOf]; omega
                · have b1 : (x == -2) = false := by simp [h2]
                  have hoe : Tx.one x c = (x == (c : Int)) := by unfold Tx.one; rw [b1, Bool.false_or]
                  have E := HPU.out (x == (c : Int)) (by rw [hRo, hoe])
                  clear HPU hRo hv hst h2 hoe
                  go_wp2
                  go_region
                  all_goals
                    go_wp2
                    go_roundw
                    case rel => exact ⟨i + 1 + 1, by go_num, by omega, E.out.1.drew, E.out.2.1.drew, E.out.2.2.drew⟩
                    case measure => simp [RowKit.intOf]; omega
        · have hj1 : ¬ (j : Int) ≤ (N : Int) := by omega
          obtain rfl : j = N + 1 := by omega
          have HF2 : Hid (wr.rowIs wo.heap.size 4 (N + 1) (fun i => .bool (Tx.R q t (k + 1) i))) := HF.out.congr (fun i hi => by unfold filled; rw [if_pos hi])
          go_wp2
          go_roundw
          case rel => exact ⟨k + 1, wo.heap.size, by go_num, by omega, rfl, hsz, HF2, hbi⟩
          case measure => simp [RowKit.intOf]; omega
    · obtain rfl : k = P := by omega
      have cl := HR.out.cell (i := N) (by omega)
      have e : Tx.R q t k N = B := by
        have := Tx.R_all q t
        rw [HP.out, HN.out] at this
        rw [this, HB.out]
      rw [e] at cl
      clear e
      go_wp2
      go_ret
      exact ⟨rfl, onto hb hbel⟩

end Go.Proofs.YtmlonlipieedbaaDoor
