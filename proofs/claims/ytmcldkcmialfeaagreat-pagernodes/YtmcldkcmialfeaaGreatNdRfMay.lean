/-
  The document's May.
-/
import Derived.Test.YtmcldkcmialfeaaGreatNdRfLen
import Derived.Test.YtmcldkcmialfeaaGreatNdCells
import Derived.Deep.CutBlock
namespace Go.Proofs.YtmcldkcmialfeaaGreat.Nn
open Go.RowKit
set_option linter.unusedVariables false

set_option maxRecDepth 100000 in
set_option maxHeartbeats 2000000 in
theorem refMay_branch (w : World) (x : Nv) (ks : List (List Nat)) (ps : List Int) (hk : Ks w x.kA x.kn x.kc ks) (hp : Is w x.pA x.pn x.pc ps) (hb : x.br = true) (hf : Nd.branchLen ks ≤ 1000000000) (hp9 : ps.length ≤ 100000) :
    Calls Tryz.prog 35 #[x.val] w fun e w' => e = .returned (.bool (decide (Nd.BranchMay ks ps))) ∧ Below w.heap.size w w' := by
  have CL := Lib.hid (fun (W : World) (hW : Below w.heap.size w W) => refLen_branch W x ks (hk.on hW) hb hf)
  obtain ⟨br, cA, cn, cc_, kA, kn, kc, pA, pn, pc⟩ := x
  simp only at hb hk hp
  subst hb
  have hn := hk.len
  have hpn := hp.len
  have B1 : Below w.heap.size w (w.alloc (.cells #[.bool true, .slice cA cn cc_, .slice kA kn kc, .slice pA pn pc] 65)) := (Below.refl _ _).alloc (Nat.le_refl _) _
  have Z1 := heap_alloc_new w (.cells #[.bool true, .slice cA cn cc_, .slice kA kn kc, .slice pA pn pc] 65)
  have s1 : w.heap.size < (w.alloc (.cells #[.bool true, .slice cA cn cc_, .slice kA kn kc, .slice pA pn pc] 65)).heap.size := by simp
  obtain ⟨b0, b1, b2, b3⟩ := four_cells Z1
  have HK := Lib.hid hk
  have HP := Lib.hid hp
  have HB1 := Lib.hid B1
  have HZ1 := Lib.hid Z1
  have C1 := Lib.hid (CL.out _ B1)
  clear hk hp B1 Z1 CL
  unfold Nv.val at *
  simp only at *
  go_enter Tryz.func35, Tryz.ntmps35
  go_wp2_with fail
  generalize w.alloc (.cells #[.bool true, .slice cA cn cc_, .slice kA kn kc, .slice pA pn pc] 65) = w0 at *
  refine C1.out.mono ?_
  rintro e w1 ⟨rfl, b1'⟩
  have B1 := HB1.out.trans (b1'.mono (by omega))
  have Z1 := (b1'.block _ s1).trans HZ1.out
  clear C1 HB1 HZ1 b1' b0 b1 b2 b3
  obtain ⟨q0, q1, q2, q3⟩ := four_cells Z1
  by_cases h16 : Nd.branchLen ks ≤ 1016
  · have d : decide ((Nd.branchLen ks : Int) > 1016) = false := by simp; omega
    have hkn9 : kn ≤ 1016 := by have := kcount_le ks; unfold Nd.branchLen at h16; omega
    have HKs := Lib.hid (HK.out.on B1)
    have HPs := Lib.hid (HP.out.on B1)
    have H16 := Lib.hid h16
    clear h16
    go_wp2
    go_loop [3] (fun i => ∃ k : Nat, k ≤ pn ∧ i = .int .i64 (k : Int) ∧ Hid (∀ p ∈ ps.take k, Nd.Page p)) (fun i => pn - (intOf i).toNat)
    case atStart => exact ⟨0, Nat.zero_le _, rfl, by intro p hp; simp at hp⟩
    case round =>
      obtain ⟨k, hk, rfl, HPg⟩ := hrel
      by_cases hlt : k < pn
      · obtain ⟨b, off, z, rfl, hbl, hz, _, cz⟩ := HPs.out.get hlt
        have CN := Lib.hid (fun W => refPage_any W z)
        have hj1 : (k : Int) < (pn : Int) := by omega
        have HZ := Lib.hid hz
        clear hz
        go_wp2_with fail
        refine (CN.out _).mono ?_
        rintro e w2 ⟨rfl, rfl⟩
        by_cases hz : Nd.Page z
        · rw [decide_eq_true hz]
          have HP2 : Hid (∀ p ∈ ps.take (k + 1), Nd.Page p) := by
            intro p hp
            rw [List.take_add_one, HZ.out] at hp
            rcases List.mem_append.1 hp with h | h
            · exact HPg.out p h
            · simp at h; subst h; exact hz
          clear hz
          go_wp2
          go_round
          case rel => exact ⟨k + 1, by omega, by go_num, HP2⟩
          case measure => simp [intOf]; omega
        · rw [decide_eq_false hz]
          have HN : Hid (decide (Nd.BranchMay ks ps) = false) := decide_eq_false fun hm => hz (hm.2.1 z (List.mem_of_getElem? HZ.out))
          clear hz
          go_wp2
          go_ret
          exact ⟨by rw [HN.out]; rfl, B1⟩
      · obtain rfl : k = pn := by omega
        rw [List.take_of_length_le (by omega)] at HPg
        have CK := Lib.hid (refKeys_any w1 kA kn kc ks HKs.out (by omega))
        have hw1 : IntKind.i64.wrap ((kn : Int) + 1) = (kn : Int) + 1 := IntWalk.i64_in _ ⟨by omega, by omega⟩
        go_wp2_with fail
        refine CK.out.mono ?_
        rintro e w2 ⟨rfl, m2, rfl⟩
        by_cases hK : Nd.Keys ks
        · rw [decide_eq_true hK]
          have HE : Hid (decide (Nd.BranchMay ks ps) = ((k : Int) == (kn : Int) + 1)) := by
            show _ = _
            rw [Bool.eq_iff_iff, decide_eq_true_eq, beq_iff_eq]
            exact ⟨fun hm => by have := hm.2.2.2; omega, fun h' => ⟨H16.out, HPg.out, hK, by omega⟩⟩
          clear hK CK
          go_wp2
          go_ret
          exact ⟨by rw [HE.out]; rfl, below_drewN B1 _⟩
        · rw [decide_eq_false hK]
          have HN : Hid (decide (Nd.BranchMay ks ps) = false) := decide_eq_false fun hm => hK hm.2.2.1
          clear hK CK
          go_wp2
          go_ret
          exact ⟨by rw [HN.out]; rfl, below_drewN B1 _⟩
  · have d : decide ((Nd.branchLen ks : Int) > 1016) = true := by simp; omega
    have HN : Hid (decide (Nd.BranchMay ks ps) = false) := decide_eq_false fun hm => h16 hm.1
    clear h16
    go_wp2
    go_ret
    exact ⟨by rw [HN.out]; rfl, B1⟩

set_option maxRecDepth 100000 in
set_option maxHeartbeats 4000000 in
theorem refMay_leaf (w : World) (x : Nv) (cs : List Nd.Cell) (hc : Cs w x.cA x.cn x.cc cs) (hb : x.br = false) (hf : Nd.leafLen cs ≤ 1000000000) :
    Calls Tryz.prog 35 #[x.val] w fun e w' => e = .returned (.bool (decide (Nd.LeafMay cs))) ∧ Below w.heap.size w w' := by
  obtain ⟨i2, hi2, hz02, hz12, hz22⟩ := info_three infoS
  have CL := Lib.hid (fun (W : World) (hW : Below w.heap.size w W) => refLen_leaf W x cs (hc.on hW) hb hf)
  obtain ⟨br, cA, cn, cc_, kA, kn, kc, pA, pn, pc⟩ := x
  simp only at hb hc
  subst hb
  have hn := hc.len
  have B1 : Below w.heap.size w (w.alloc (.cells #[.bool false, .slice cA cn cc_, .slice kA kn kc, .slice pA pn pc] 65)) := (Below.refl _ _).alloc (Nat.le_refl _) _
  have Z1 := heap_alloc_new w (.cells #[.bool false, .slice cA cn cc_, .slice kA kn kc, .slice pA pn pc] 65)
  have s1 : w.heap.size < (w.alloc (.cells #[.bool false, .slice cA cn cc_, .slice kA kn kc, .slice pA pn pc] 65)).heap.size := by simp
  obtain ⟨b0, b1, b2, b3⟩ := four_cells Z1
  have HK := Lib.hid hc
  have HB1 := Lib.hid B1
  have HZ1 := Lib.hid Z1
  have C1 := Lib.hid (CL.out _ B1)
  clear hc B1 Z1 CL
  unfold Nv.val at *
  simp only at *
  go_enter Tryz.func35, Tryz.ntmps35
  go_wp2_with fail
  generalize w.alloc (.cells #[.bool false, .slice cA cn cc_, .slice kA kn kc, .slice pA pn pc] 65) = w0 at *
  refine C1.out.mono ?_
  rintro e w1 ⟨rfl, b1'⟩
  have B1 := HB1.out.trans (b1'.mono (by omega))
  have Z1 := (b1'.block _ s1).trans HZ1.out
  have hs1 := b1'.size
  clear C1 HB1 HZ1 b1' b0 b1 b2 b3
  obtain ⟨q0, q1, q2, q3⟩ := four_cells Z1
  by_cases h16 : Nd.leafLen cs ≤ 1016
  · have d : decide ((Nd.leafLen cs : Int) > 1016) = false := by simp; omega
    have hcn9 : cn ≤ 1016 := by have := count_le cs; unfold Nd.leafLen at h16; omega
    have HCs := Lib.hid (HK.out.on B1)
    have H16 := Lib.hid h16
    clear h16
    go_wp2
    go_loopw [4, 5] (fun v i wr => ∃ (k : Nat) (xs : List Value), k ≤ cn ∧ i = .int .i64 (k : Int) ∧ wr.ownsRow w1.heap.size 43 1 v k xs ∧ Along (SlV w1) xs ((cs.map Nd.Cell.key).take k) ∧ Hid (∀ c ∈ cs.take k, c.Ok) ∧ Below w1.heap.size w1 wr) (fun _ i _ => cn - (intOf i).toNat)
    case atStart => exact ⟨0, [], Nat.zero_le _, rfl, World.ownsRow_nil _ _ _ _, Along.nil_, by intro c hc; simp at hc, Below.refl _ _⟩
    case round =>
      obtain ⟨k, xs, hk, rfl, hown, hal, HOk, hbel⟩ := hrel
      have p1 := (hbel.cell (p := ⟨w.heap.size, 1, none⟩) (by show w.heap.size < _; omega)).trans q1
      have hsz := hbel.size
      by_cases hlt : k < cn
      · obtain ⟨b, off, x, y, rfl, hbl, hy, hcr, c0, c1, c2, c3⟩ := HCs.out.get hlt
        obtain ⟨hsk, ⟨A2, n2, k2, e2, r2, _⟩, e3, e4, _, _⟩ := hcr
        have HSK := Lib.hid hsk
        obtain ⟨A1, n1, k1, e1, r1, _⟩ := hsk
        have f0 := (hbel.cell (p := ⟨b, off + k * 4, none⟩) hbl).trans c0
        have f1 := (hbel.cell (p := ⟨b, off + k * 4 + 1, none⟩) hbl).trans c1
        have f2 := (hbel.cell (p := ⟨b, off + k * 4 + 2, none⟩) hbl).trans c2
        have f3 := (hbel.cell (p := ⟨b, off + k * 4 + 3, none⟩) hbl).trans c3
        rw [e1] at f0 HSK
        rw [e2] at f1
        rw [e3] at f2
        rw [e4] at f3
        have hj1 : (k : Int) < (cn : Int) := by omega
        have HKT : Hid ((cs.map Nd.Cell.key).take (k + 1) = (cs.map Nd.Cell.key).take k ++ [y.key]) := by show _ = _; rw [List.take_add_one, key_at hy]; rfl
        have HCT : Hid (cs.take (k + 1) = cs.take k ++ [y]) := by show _ = _; rw [List.take_add_one, hy]; rfl
        have HMY := Lib.hid (List.mem_of_getElem? hy)
        have HL2 := Lib.hid r2.1
        have CN := Lib.hid (fun W => refPage_any W y.head)
        have bA : Below wr.heap.size wr (wr.alloc (.cells #[.slice A1 n1 k1, .slice A2 n2 k2, .int .i64 y.size, .int .i64 y.head] 125)) := (Below.refl _ _).alloc (Nat.le_refl _) _
        have zc := heap_alloc_new wr (.cells #[.slice A1 n1 k1, .slice A2 n2 k2, .int .i64 y.size, .int .i64 y.head] 125)
        have ownA := hown.alloc (.cells #[.slice A1 n1 k1, .slice A2 n2 k2, .int .i64 y.size, .int .i64 y.head] 125)
        have belA := Lib.hid (hbel.trans (bA.mono hsz))
        have szA := bA.size
        have hxl : xs.length = k := by have := hown.1; omega
        have HAL := Lib.hid hal
        clear c0 c1 c2 c3 r1 r2 hy e1 e2 e3 e4 hown hal hbel
        go_upto_region 15 with fail
        generalize hgc : wr.heap.size = gc at *
        generalize wr.alloc (.cells #[.slice A1 n1 k1, .slice A2 n2 k2, .int .i64 y.size, .int .i64 y.head] 125) = wA at *
        obtain ⟨z0, z1, z2, z3⟩ := four_cells zc
        have NA := Lib.hid (news_lit wA #[.slice A1 n1 k1] 43)
        have OA := ownA.alloc (.cells #[.slice A1 n1 k1] 43)
        have BA2 : Below wA.heap.size wA (wA.alloc (.cells #[.slice A1 n1 k1] 43)) := (Below.refl _ _).alloc (Nat.le_refl _) _
        have HZC := Lib.hid zc
        clear bA f0 f1 f2 f3
        go_upto_region 16 with (at_builtin; refine wpList_append_lies _ rfl _ _ 63 rfl w1.heap.size 43 i2 _ 1 24 Tryz.underlying63 hi2 hz02 hz12 hz22 rfl (by decide) _ k xs rfl OA ⟨wA.heap.size, 0, none⟩ 1 1 [.slice A1 n1 k1] rfl rfl NA.out (by simp; rfl) (by decide) (by unfold maxLen; omega) (by omega) (by simp; omega) _ rfl ?_; intro gn cap wC OC gC lC hC)
        have zC : wC.heap[gc]? = some (.cells #[.slice A1 n1 k1, .slice A2 n2 k2, .int .i64 y.size, .int .i64 y.head] 125 (0, 0)) := by
          have hl := (Array.getElem?_eq_some_iff.1 HZC.out).1
          refine (gC.block gc (by simp; omega) fun e => ?_).trans ((BA2.block gc hl).trans HZC.out)
          obtain ⟨cs', hcs⟩ := own_type ownA e.symm
          rw [HZC.out] at hcs
          injection hcs with hcs
          injection hcs with _ hcs
          cases hcs
        have BC : Below w1.heap.size w1 wC := (below_own (belA.out.trans (BA2.mono (by omega))) OA gC (by simp; omega) (Nat.le_refl _))
        have HBC := Lib.hid BC
        have HOC := Lib.hid OC
        clear gC lC hC OA ownA zc HZC BA2 NA OC z0 z1 z2 z3 belA BC
        obtain ⟨z0, z1, z2, z3⟩ := four_cells zC
        go_cut [7] from 58 to 71 (fun v wx => v = .bool (decide y.Plain) ∧ wx = wC)
        case first =>
          have HPl : Hid (y.Plain ↔ y.size = 0 ∧ y.head = 0 ∧ n2 ≤ 200) := by show _ ↔ _; unfold Nd.Cell.Plain; rw [HL2.out]
          by_cases g1 : y.size = 0
          · have d1 : (y.size == 0) = true := by simp [g1]
            by_cases g2 : y.head = 0
            · have d2 : (y.head == 0) = true := by simp [g2]
              have HE : Hid (decide y.Plain = decide ((n2 : Int) ≤ 200)) := by show _ = _; rw [decide_eq_decide, HPl.out]; omega
              clear g1 g2
              go_wp2_with fail
              go_meet
              exact ⟨by first | (rw [HE.out]; done) | (rw [HE.out]; rfl), rfl⟩
            · have d2 : (y.head == 0) = false := by simp [g2]
              have HE : Hid (decide y.Plain = false) := by show _ = _; rw [decide_eq_false_iff_not, HPl.out]; omega
              clear g1 g2
              go_wp2_with fail
              go_meet
              exact ⟨by first | (rw [HE.out]; done) | (rw [HE.out]; rfl), rfl⟩
          · have d1 : (y.size == 0) = false := by simp [g1]
            have HE : Hid (decide y.Plain = false) := by show _ = _; rw [decide_eq_false_iff_not, HPl.out]; omega
            clear g1
            go_wp2_with fail
            go_meet
            exact ⟨by first | (rw [HE.out]; done) | (rw [HE.out]; rfl), rfl⟩
        case rest =>
          obtain ⟨rfl, rfl⟩ := hcut
          go_upto_region 17 with fail
          go_cut [8] from 72 to 90 (fun v wx => v = .bool (decide y.Chain) ∧ wx = wc)
          case first =>
            have HCh : Hid (y.Chain ↔ (200 < y.size ∧ y.size ≤ 16384) ∧ Nd.Page y.head ∧ n2 = 0) := by show _ ↔ _; unfold Nd.Cell.Chain; rw [HL2.out]
            by_cases g1 : 200 < y.size
            · have d1 : decide (y.size > 200) = true := by simpa using g1
              by_cases g2 : y.size ≤ 16384
              · have d2 : decide (y.size ≤ 16384) = true := by simpa using g2
                go_wp2_with fail
                refine (CN.out _).mono ?_
                rintro e w5 ⟨rfl, rfl⟩
                by_cases g3 : Nd.Page y.head
                · rw [decide_eq_true g3]
                  have HE : Hid (decide y.Chain = ((n2 : Int) == 0)) := by
                    show _ = _
                    rw [Bool.eq_iff_iff, decide_eq_true_eq, HCh.out, beq_iff_eq]
                    exact ⟨fun h => by have := h.2.2; omega, fun h => ⟨⟨g1, g2⟩, g3, by omega⟩⟩
                  clear g1 g2 g3
                  go_wp2_with fail
                  go_meet
                  exact ⟨by first | (rw [HE.out]; done) | (rw [HE.out]; rfl), rfl⟩
                · rw [decide_eq_false g3]
                  have HE : Hid (decide y.Chain = false) := by show _ = _; rw [decide_eq_false_iff_not, HCh.out]; exact fun h => g3 h.2.1
                  clear g1 g2 g3
                  go_wp2_with fail
                  go_meet
                  exact ⟨by first | (rw [HE.out]; done) | (rw [HE.out]; rfl), rfl⟩
              · have d2 : decide (y.size ≤ 16384) = false := by simpa using g2
                have HE : Hid (decide y.Chain = false) := by show _ = _; rw [decide_eq_false_iff_not, HCh.out]; omega
                clear g1 g2
                go_wp2_with fail
                go_meet
                exact ⟨by first | (rw [HE.out]; done) | (rw [HE.out]; rfl), rfl⟩
            · have d1 : decide (y.size > 200) = false := by simpa using g1
              have HE : Hid (decide y.Chain = false) := by show _ = _; rw [decide_eq_false_iff_not, HCh.out]; omega
              clear g1
              go_wp2_with fail
              go_meet
              exact ⟨by first | (rw [HE.out]; done) | (rw [HE.out]; rfl), rfl⟩
          case rest =>
            obtain ⟨rfl, rfl⟩ := hcut
            by_cases hOk : y.Ok
            · have HO2 : Hid (∀ c ∈ cs.take (k + 1), c.Ok) := by
                intro c hc
                rw [HCT.out] at hc
                rcases List.mem_append.1 hc with h | h
                · exact HOk.out c h
                · simp at h; subst h; exact hOk
              have HAL2 : Hid (Along (SlV w1) (xs ++ [.slice A1 n1 k1]) ((cs.map Nd.Cell.key).take (k + 1))) := by
                show Along _ _ _
                rw [HKT.out]
                exact HAL.out.snoc HSK.out
              have hor : (decide y.Plain = true) ∨ (decide y.Plain = false ∧ decide y.Chain = true) := by
                rcases hOk with h | h
                · exact .inl (decide_eq_true h)
                · by_cases hp : y.Plain
                  · exact .inl (decide_eq_true hp)
                  · exact .inr ⟨decide_eq_false hp, decide_eq_true h⟩
              clear hOk
              rcases hor with e1 | ⟨e1, e2⟩
              · rw [e1]
                go_wp2
                go_roundw
                case rel => exact ⟨k + 1, _, by omega, by go_num, HOC.out, HAL2.out, HO2, HBC.out⟩
                case measure => simp [intOf]; omega
              · rw [e1, e2]
                go_wp2
                go_roundw
                case rel => exact ⟨k + 1, _, by omega, by go_num, HOC.out, HAL2.out, HO2, HBC.out⟩
                case measure => simp [intOf]; omega
            · have e1 : decide y.Plain = false := decide_eq_false fun h => hOk (.inl h)
              have e2 : decide y.Chain = false := decide_eq_false fun h => hOk (.inr h)
              have HN : Hid (decide (Nd.LeafMay cs) = false) := decide_eq_false fun hm => hOk (hm.2.1 y HMY.out)
              rw [e1, e2]
              clear hOk e1 e2
              go_wp2
              go_ret
              exact ⟨by rw [HN.out]; rfl, B1.trans (HBC.out.mono (by have := B1.size; omega))⟩
      · obtain rfl : k = cn := by omega
        rw [List.take_of_length_le (by rw [List.length_map]; omega)] at hal
        rw [List.take_of_length_le (by omega)] at HOk
        have hks : Ks wr (by exact none) 0 0 [] := ⟨[], Rw.nil_ _ _ _ _ (Nat.zero_le _), Along.nil_⟩
        obtain ⟨A9, c9, rfl, hrw⟩ := Rw.of_own (by omega) hown
        have K9 : Ks wr A9 k c9 (cs.map Nd.Cell.key) := ⟨xs, hrw, hal.mono fun x y h => h.on hbel⟩
        have CK := Lib.hid (refKeys_any wr A9 k c9 _ K9 (by omega))
        have BF := B1.trans (hbel.mono (by have := B1.size; omega))
        clear hks hown hal hrw K9 hbel
        have HE : Hid (decide (Nd.LeafMay cs) = decide (Nd.Keys (cs.map Nd.Cell.key))) := by
          show _ = _
          rw [decide_eq_decide]
          exact ⟨fun h => h.2.2, fun h => ⟨H16.out, HOk.out, h⟩⟩
        go_wp2_with fail
        refine CK.out.mono ?_
        rintro e w9 ⟨rfl, m9, rfl⟩
        go_wp2
        go_ret
        exact ⟨by rw [HE.out]; rfl, below_drewN BF _⟩
  · have d : decide ((Nd.leafLen cs : Int) > 1016) = true := by simp; omega
    have HN : Hid (decide (Nd.LeafMay cs) = false) := decide_eq_false fun hm => h16 hm.1
    clear h16
    go_wp2
    go_ret
    exact ⟨by rw [HN.out]; rfl, B1⟩
end Go.Proofs.YtmcldkcmialfeaaGreat.Nn
