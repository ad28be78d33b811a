/-
  The document's FromPay, of a page with a leaf's mark.
-/
import Derived.Test.YtachclcpldnofaaGrRf
import Derived.Test.YtachclcpldnofaaNdRfFl
import Derived.Test.YtachclcpldnofaaNdRfPay
namespace Go.Proofs.Ytachclcpldnofaa.Nn
open Go.RowKit
set_option linter.unusedVariables false

set_option maxRecDepth 100000 in
set_option maxHeartbeats 4000000 in
theorem refFromPay_leaf (w : World) (A : Option Addr) (c : Nat) (b : List Nat) (h : Bs w A 1016 c b) (h1 : b[0]? = some 1) :
    Calls Try.prog 9 #[.slice A 1016 c] w fun e w' => ((∃ x cs, e = .returned (.tuple #[Nv.val x, .bool true]) ∧ x.br = false ∧ Cs w' x.cA x.cn x.cc cs ∧ IsLeaf b cs) ∨ (e = .returned (.tuple #[(nv0 false).val, .bool false]) ∧ NoNode b)) ∧ Below w.heap.size w w' := by
  obtain ⟨i0, hi, hz0, hz1, hz2⟩ := info_parts Try.info5
  obtain ⟨i4, hi4, hz04, hz14, hz24⟩ := info_three infoRC
  have hb := h.1
  have hlt := h.2.2.2.1
  have hcc := h.2.1
  have hcm := h.2.2.1
  unfold maxLen at hcm
  obtain ⟨bb, off, rfl, hbl, hcell⟩ := h.2.2.2.2 (by omega)
  have c0 := hcell 0 1 h1
  rw [Nat.add_zero] at c0
  obtain ⟨x1, hx1⟩ : ∃ x, b[1]? = some x := ⟨_, List.getElem?_eq_getElem (by omega)⟩
  obtain ⟨x2, hx2⟩ : ∃ x, b[2]? = some x := ⟨_, List.getElem?_eq_getElem (by omega)⟩
  have LI0 := LInv.start (b := b)
  rw [two_at hx1 hx2] at LI0
  have hx1' := hlt x1 (List.mem_of_getElem? hx1)
  have hx2' := hlt x2 (List.mem_of_getElem? hx2)
  have HS := Lib.hid h
  have HC := Lib.hid (fun (W : World) (hW : Below w.heap.size w W) (j x : Nat) (hx : b[j]? = some x) => (hW.cell (p := ⟨bb, off + j, none⟩) hbl).trans (hcell j x hx))
  have HLT := Lib.hid hlt
  have H1 := Lib.hid h1
  have B1 : Below w.heap.size w (w.alloc (.cells #[.bool false, .slice none 0 0, .slice none 0 0, .slice none 0 0] 33)) := (Below.refl _ _).alloc (Nat.le_refl _) _
  have s1 : (w.alloc (.cells #[.bool false, .slice none 0 0, .slice none 0 0, .slice none 0 0] 33)).heap.size = w.heap.size + 1 := by simp
  have c1 := (B1.cell (p := ⟨bb, off, none⟩) hbl).trans c0
  have B2 := B1.alloc (by omega) (.cells #[.bool false, .slice none 0 0, .slice none 0 0, .slice none 0 0] 33)
  have F0 : Fl w ((w.alloc (.cells #[.bool false, .slice none 0 0, .slice none 0 0, .slice none 0 0] 33)).alloc (.cells #[.bool false, .slice none 0 0, .slice none 0 0, .slice none 0 0] 33)) (.slice none 0 0) [] [] :=
    ⟨(((Below.refl _ _).alloc (Nat.le_refl _) _).block w.heap.size (by omega)).trans (heap_alloc_new w _), by rw [← s1]; exact heap_alloc_new _ _, World.ownsRow_nil _ _ _ _, Along.nil_, B2⟩
  have HF0 := Lib.hid F0
  have CS := Lib.hid (fun (W : World) (hW : Below w.heap.size w W) (j x y : Nat) (hx : b[j]? = some x) (hy : b[j + 1]? = some y) => short_any W _ 1016 c b (h.on hW) j x y hx hy)
  have CS1 := Lib.hid (CS.out _ B2 1 x1 x2 hx1 hx2)
  have niln : ∀ (W : World), (binOp .eql 22 (.slice none 0 0) (.slice none 0 0)).run Try.prog W = .ok (.bool true) W := fun _ => rfl
  clear h hcell c0 hlt B2 F0 h1 hx1 hx2
  go_enter Try.func9, Try.ntmps9
  go_wp2_with fail
  refine CS1.out.mono ?_
  rintro e w1 ⟨rfl, m1, rfl⟩
  have F1 := HF0.out.on (below_drewN (Below.refl _ _) m1)
  clear CS1 HF0
  generalize ((w.alloc (.cells #[.bool false, .slice none 0 0, .slice none 0 0, .slice none 0 0] 33)).alloc (.cells #[.bool false, .slice none 0 0, .slice none 0 0, .slice none 0 0] 33)).drewN m1 = w1 at *
  generalize hn : 256 * x1 + x2 = n at *
  obtain ⟨f0, f1, f2, f3⟩ := four_cells F1.at_
  have HF1 := Lib.hid F1
  have HLI := Lib.hid LI0
  clear F1 LI0 B1 c1 s1 hn
  go_wp2
  go_loopw [6, 7] (fun p i wr => ∃ (k pn : Nat) (vc : Value) (xs : List CV) (acc : List Nd.Cell), p = .int .i64 (pn : Int) ∧ i = .int .i64 (k : Int) ∧ k ≤ n ∧ pn = 3 + Nd.lens acc ∧ pn ≤ 1016 ∧ acc.length = k ∧ Fl w wr vc xs acc ∧ Hid (LInv b n k acc)) (fun _ i _ => n - (intOf i).toNat)
  case atStart => exact ⟨0, 3, _, _, _, rfl, rfl, Nat.zero_le _, rfl, by omega, rfl, HF1.out, HLI.out⟩
  case round =>
    clear f0 f1 f2 f3 HF1 HLI
    obtain ⟨k, pn, vc, xs, acc, rfl, rfl, hk, hpn, hp9, hal, F, LI⟩ := hrel
    subst hal
    have BW := Lib.hid F.below
    obtain ⟨f0, f1, f2, f3⟩ := four_cells F.at_
    have HF := Lib.hid F
    have HPN := Lib.hid hpn
    have hsF := F.size
    clear hpn
    by_cases hkn : acc.length < n
    · have hj : (acc.length : Int) < (n : Int) := by omega
      by_cases hend : 1016 ≤ pn
      · have NN := Lib.hid (noNode_leaf H1.out (LI.out.no hkn (by rw [← HPN.out]; exact rc_end hb hend)))
        have d : decide ((pn : Int) ≥ 1016) = true := by simp; omega
        obtain ⟨r0, r1, r2, r3⟩ := four_cells F.r
        have fr := fun i => frozen_of_row _ w.heap.size i _ _ F.r
        have Z := Lib.hid F.fail
        clear F
        go_wp2
        have p := four_cells Z.out.1
        unfold set4 at p
        obtain ⟨p0, p1, p2, p3⟩ := p
        refine bodyPost_ret (v := .tuple #[(nv0 false).val, .bool false]) (by simp [results, Try.results9, go_sem, nv0, Nv.val, p0, p1, p2, p3]) rfl ⟨.inr ⟨rfl, NN.out⟩, Z.out.2⟩
      · have d : decide ((pn : Int) ≥ 1016) = false := by simp; omega
        obtain ⟨x, hx⟩ : ∃ x, b[pn]? = some x := ⟨_, List.getElem?_eq_getElem (by omega)⟩
        have hx' := HLT.out x (List.mem_of_getElem? hx)
        have cx := HC.out wr BW.out pn x hx
        have jx : (pn : Int) < 1016 := by omega
        obtain ⟨p1, hp1⟩ : ∃ p1 : Nat, p1 = pn + 1 := ⟨_, rfl⟩
        obtain ⟨q, hq⟩ : ∃ q : Nat, q = p1 + x := ⟨_, rfl⟩
        obtain ⟨q2, hq2⟩ : ∃ q2 : Nat, q2 = q + 2 := ⟨_, rfl⟩
        have e1 : (pn : Int) + 1 = (p1 : Int) := by omega
        have e2 : (p1 : Int) + (x : Int) = (q : Int) := by omega
        have e3 : (q : Int) + 2 = (q2 : Int) := by omega
        have w1 : IntKind.i64.wrap ((pn : Int) + 1) = (p1 : Int) := by rw [IntWalk.i64_in _ ⟨by omega, by omega⟩]; exact e1
        have w2 : IntKind.i64.wrap ((p1 : Int) + (x : Int)) = (q : Int) := by rw [IntWalk.i64_in _ ⟨by omega, by omega⟩]; exact e2
        have w3 : IntKind.i64.wrap ((q : Int) + 2) = (q2 : Int) := by rw [IntWalk.i64_in _ ⟨by omega, by omega⟩]; exact e3
        have nilq : ∀ (g cap : Nat) (W : World), (binOp .eql 22 (.slice (some ⟨g, 0, none⟩) x cap) (.slice none 0 0)).run Try.prog W = .ok (.bool false) W := fun _ _ _ => rfl
        have HX := Lib.hid hx
        have HQ := Lib.hid (And.intro hp1 (And.intro hq hq2))
        by_cases hq9 : q ≤ 1016
        · have CP1 := Lib.hid (part_yes wr _ 1016 c b (HS.out.on BW.out) (by omega) (by omega) p1 x (by omega))
          clear hx hp1 hq hq2 F
          go_wp2_with fail
          refine CP1.out.mono ?_
          rintro e v2 ⟨⟨g, cap, rfl, rk, hg, hgt⟩, b2⟩
          have F2 := HF.out.on b2
          have B2 := Lib.hid F2.below
          have U2 := Lib.hid (inU_mk (n := x) (cap := cap) (show w.heap.size + 2 ≤ g by omega) hgt)
          have K2 := Lib.hid (⟨_, x, cap, rfl, rk, by omega⟩ : SlV v2 (.slice (some ⟨g, 0, none⟩) x cap) ((b.drop p1).take x))
          have cx2 := HC.out v2 B2.out pn x HX.out
          obtain ⟨f0', f1', f2', f3'⟩ := four_cells F2.at_
          have HF2 := Lib.hid F2
          clear f0 f1 f2 f3 cx CP1 b2 rk hg hgt hsF
          by_cases hs2 : 1016 < q2
          · have NN := Lib.hid (noNode_leaf H1.out (LI.out.no hkn (by rw [← HPN.out]; exact rc_short hb HX.out (by have := HQ.out; omega))))
            have d2 : decide ((q2 : Int) > 1016) = true := by simp; omega
            obtain ⟨r0, r1, r2, r3⟩ := four_cells F2.r
            have fr := fun i => frozen_of_row _ w.heap.size i _ _ F2.r
            have Z := Lib.hid F2.fail
            clear F2
            go_wp2
            have p := four_cells Z.out.1
            unfold set4 at p
            obtain ⟨p0, p1, p2, p3⟩ := p
            refine bodyPost_ret (v := .tuple #[(nv0 false).val, .bool false]) (by simp [results, Try.results9, go_sem, nv0, Nv.val, p0, p1, p2, p3]) rfl ⟨.inr ⟨rfl, NN.out⟩, Z.out.2⟩
          · have d2 : decide ((q2 : Int) > 1016) = false := by simp; omega
            obtain ⟨y, hy⟩ : ∃ y, b[q]? = some y := ⟨_, List.getElem?_eq_getElem (by have := HQ.out; omega)⟩
            obtain ⟨z, hz⟩ : ∃ z, b[q + 1]? = some z := ⟨_, List.getElem?_eq_getElem (by have := HQ.out; omega)⟩
            have hy' := HLT.out y (List.mem_of_getElem? hy)
            have hz' := HLT.out z (List.mem_of_getElem? hz)
            have CS2 := Lib.hid (CS.out v2 B2.out q y z hy hz)
            have HYZ := Lib.hid (And.intro hy hz)
            clear hy hz F2
            go_wp2_with fail
            refine CS2.out.mono ?_
            rintro e v3 ⟨rfl, m3, rfl⟩
            generalize hs : 256 * y + z = s at *
            have hs9 : s < 65536 := by omega
            have F3 := HF2.out.on (below_drewN (Below.refl _ _) m3)
            have U3 : InU w (v2.drewN m3) (.slice (some ⟨g, 0, none⟩) x cap) := U2.out
            have K3 := SlV.on K2.out (below_drewN (Below.refl _ _) m3)
            generalize v2.drewN m3 = v3 at *
            have B3 := Lib.hid F3.below
            have HF3 := Lib.hid F3
            have U3' := Lib.hid U3
            have K3' := Lib.hid K3
            have HSE := Lib.hid hs
            obtain ⟨f0, f1, f2, f3⟩ := four_cells F3.at_
            clear CS2 hs f0' f1' f2' f3' cx2 HF2 U2 K2 F3 U3 K3 B2
            by_cases hsz : s ≤ 200
            · have d3 : decide ((s : Int) ≤ 200) = true := by simp; omega
              have RC := Lib.hid (rc_plain hb HX.out (by have := HQ.out; rw [← this.1, ← this.2.1]; exact HYZ.out.1) (by have := HQ.out; rw [← this.1, ← this.2.1]; exact HYZ.out.2) (by rw [HSE.out]; exact hsz))
              obtain ⟨q3, hq3⟩ : ∃ q3 : Nat, q3 = q2 + s := ⟨_, rfl⟩
              have e4 : (q2 : Int) + (s : Int) = (q3 : Int) := by omega
              have w4 : IntKind.i64.wrap ((q2 : Int) + (s : Int)) = (q3 : Int) := by rw [IntWalk.i64_in _ ⟨by omega, by omega⟩]; exact e4
              have HQ3 := Lib.hid hq3
              by_cases hq39 : q3 ≤ 1016
              · have CP2 := Lib.hid (part_yes v3 _ 1016 c b (HS.out.on B3.out) (by omega) (by omega) q2 s (by omega))
                have hsF := HF3.out.size
                have nils : ∀ (g cap : Nat) (W : World), (binOp .eql 22 (.slice (some ⟨g, 0, none⟩) s cap) (.slice none 0 0)).run Try.prog W = .ok (.bool false) W := fun _ _ _ => rfl
                clear hq3
                go_wp2_with fail
                refine CP2.out.mono ?_
                rintro e v4 ⟨⟨g4, cap4, rfl, rk, hg, hgt⟩, b4⟩
                have F4 := HF3.out.on b4
                have U4 := Lib.hid (inU_mk (n := s) (cap := cap4) (show w.heap.size + 2 ≤ g4 by omega) hgt)
                have K4 := Lib.hid (⟨_, s, cap4, rfl, rk, by omega⟩ : SlV v4 (.slice (some ⟨g4, 0, none⟩) s cap4) ((b.drop q2).take s))
                have UK4 := Lib.hid (And.intro (U3'.out.off (Off.of_below b4 (S := fun _ => False)) (fun _ _ h => h)) (SlV.on K3'.out b4))
                obtain ⟨f0', f1', f2', f3'⟩ := four_cells F4.at_
                have HF4 := Lib.hid F4
                have NA := Lib.hid (news_lit v4 #[.slice (some ⟨g, 0, none⟩) x cap, .slice (some ⟨g4, 0, none⟩) s cap4, .int .i64 0, .int .i64 0] 51)
                have OA := Lib.hid (F4.own.alloc (.cells #[.slice (some ⟨g, 0, none⟩) x cap, .slice (some ⟨g4, 0, none⟩) s cap4, .int .i64 0, .int .i64 0] 51))
                have hs4 := F4.size
                have hlA : acc.length ≤ 1016 := by have h1 := count_le acc; have h2 := HPN.out; omega
                clear f0 f1 f2 f3 CP2 rk hg hgt hsF U3' K3' HF3 F4 b4
                go_wp2_with (at_builtin; refine wpList_append_lies _ rfl _ _ 29 rfl (w.heap.size + 2) 51 i4 _ 4 64 Try.underlying29 hi4 hz04 hz14 hz24 rfl (by decide) vc acc.length (cc xs) rfl OA.out ⟨v4.heap.size, 0, none⟩ 1 1 [.slice (some ⟨g, 0, none⟩) x cap, .slice (some ⟨g4, 0, none⟩) s cap4, .int .i64 0, .int .i64 0] rfl rfl NA.out (by simp [Value.oneCell']) (by decide) (by unfold maxLen; omega) (by omega) (by simp; omega) _ rfl ?_; intro gn cap5 wC OC gC lC hC; have zC := Lib.hid (HF4.out.kept gC); have cC := (four_cells zC.out).2.1; have fC := frozen_of_row wC (w.heap.size + 1) 1 _ _ zC.out)
                have LEN : Hid (q3 = 3 + Nd.lens (acc ++ [⟨(b.drop p1).take x, (b.drop q2).take s, 0, 0⟩])) := by
                  show _ = _
                  have h1 := HQ.out; have h2 := HPN.out; have h3 := HQ3.out
                  rw [Nd.lens_snoc]
                  unfold Nd.Cell.len
                  simp only [if_true]
                  rw [List.length_take, List.length_drop, List.length_take, List.length_drop, hb]
                  omega
                have LIN : Hid (LInv b n (acc.length + 1) (acc ++ [⟨(b.drop p1).take x, (b.drop q2).take s, 0, 0⟩])) := by
                  show LInv _ _ _ _
                  have r := RC.out
                  have h3 := HQ3.out
                  rw [HSE.out] at r
                  obtain ⟨h1, h2, h4⟩ := HQ.out
                  rw [if_neg (by omega)] at r
                  refine LI.out.more (r := b.drop (pn + 1 + x + 2 + s)) hkn ?_
                  rw [← HPN.out, r, h4, h2, h1]
                have ST := Lib.hid (HF4.out.more (x := ⟨.slice (some ⟨g, 0, none⟩) x cap, .slice (some ⟨g4, 0, none⟩) s cap4, 0, 0⟩) (c := ⟨(b.drop p1).take x, (b.drop q2).take s, 0, 0⟩) ⟨UK4.out.2, K4.out, rfl, rfl, by unfold I64; simp, by unfold I64; simp⟩ UK4.out.1 U4.out OC gC)
                clear OC gC lC hC zC cC fC NA OA HF4 U4 K4 UK4 f0' f1' f2' f3'
                go_roundw
                case rel => exact ⟨acc.length + 1, q3, _, _, _, rfl, by go_num, by omega, LEN.out, by omega, by simp, ST.out, LIN.out⟩
                case measure => simp [intOf]; omega
              · have NN := Lib.hid (noNode_leaf H1.out (LI.out.no hkn (by rw [← HPN.out, RC.out, if_pos (by have := HQ.out; have := HSE.out; omega)])))
                have CP2 := Lib.hid (part_no v3 (some ⟨bb, off, none⟩) 1016 c (by omega) q2 s (by omega) (by omega) (by omega))
                clear hq3
                go_wp2_with fail
                refine CP2.out.mono ?_
                rintro e v4 ⟨rfl, rfl⟩
                obtain ⟨r0, r1, r2, r3⟩ := four_cells HF3.out.r
                have fr := fun i => frozen_of_row _ w.heap.size i _ _ HF3.out.r
                have Z := Lib.hid HF3.out.fail
                go_wp2
                have p := four_cells Z.out.1
                unfold set4 at p
                obtain ⟨p0, p1, p2, p3⟩ := p
                refine bodyPost_ret (v := .tuple #[(nv0 false).val, .bool false]) (by simp [results, Try.results9, go_sem, nv0, Nv.val, p0, p1, p2, p3]) rfl ⟨.inr ⟨rfl, NN.out⟩, Z.out.2⟩
            · have d3 : decide ((s : Int) ≤ 200) = false := by simp; omega
              have RC := Lib.hid (rc_chain hb HX.out (by have := HQ.out; rw [← this.1, ← this.2.1]; exact HYZ.out.1) (by have := HQ.out; rw [← this.1, ← this.2.1]; exact HYZ.out.2) (by rw [HSE.out]; exact hsz))
              obtain ⟨q8, hq8⟩ : ∃ q8 : Nat, q8 = q + 8 := ⟨_, rfl⟩
              have e4 : (q : Int) + 8 = (q8 : Int) := by omega
              have w4 : IntKind.i64.wrap ((q : Int) + 8) = (q8 : Int) := by rw [IntWalk.i64_in _ ⟨by omega, by omega⟩]; exact e4
              have HQ8 := Lib.hid hq8
              by_cases hq89 : 1016 < q8
              · have NN := Lib.hid (noNode_leaf H1.out (LI.out.no hkn (by rw [← HPN.out, RC.out, if_pos (by have := HQ.out; omega)])))
                have d4 : decide ((q8 : Int) > 1016) = true := by simp; omega
                clear hq8
                obtain ⟨r0, r1, r2, r3⟩ := four_cells HF3.out.r
                have fr := fun i => frozen_of_row _ w.heap.size i _ _ HF3.out.r
                have Z := Lib.hid HF3.out.fail
                go_wp2
                have p := four_cells Z.out.1
                unfold set4 at p
                obtain ⟨p0, p1, p2, p3⟩ := p
                refine bodyPost_ret (v := .tuple #[(nv0 false).val, .bool false]) (by simp [results, Try.results9, go_sem, nv0, Nv.val, p0, p1, p2, p3]) rfl ⟨.inr ⟨rfl, NN.out⟩, Z.out.2⟩
              · have d4 : decide ((q8 : Int) > 1016) = false := by simp; omega
                have hq29 : q2 < 1016 := by have := HQ.out; omega
                have CG := Lib.hid (fun (W : World) (hW : Below v3.heap.size v3 W) => Calls.mono (R' := fun e w' => e = .returned (.int .u32 ((Nm.fromBe ((b.drop q2).take 4) : Nat) : Int)) ∧ Below v3.heap.size v3 w') (refGet32_any W _ (1016 - q2) (c - q2) (b.drop q2) (((HS.out.on B3.out).on hW).cut_far q2 hq29)) (by rintro e w' ⟨rfl, rfl⟩; rw [pad4_whole (by rw [List.length_drop]; omega)]; exact ⟨rfl, hW⟩))
                have hhl : Nm.fromBe ((b.drop q2).take 4) < 4294967296 := by
                  have h1 := Nm.fromBe_lt ((b.drop q2).take 4) fun x hx => HLT.out x (List.mem_of_mem_drop (List.mem_of_mem_take hx))
                  have h2 : 256 ^ ((b.drop q2).take 4).length = 4294967296 := by rw [List.length_take, List.length_drop, hb, show min 4 (1016 - q2) = 4 by have := HQ.out; omega]
                  omega
                generalize hhd : Nm.fromBe ((b.drop q2).take 4) = hd at *
                have HHD := Lib.hid hhd
                have whd : IntKind.i64.wrap (hd : Int) = (hd : Int) := IntWalk.i64_in _ ⟨by omega, by omega⟩
                have hcq : ¬ c = q2 := by omega
                have jq : (q2 : Int) ≤ 1016 := by omega
                have wq2 : IntKind.i64.wrap (q2 : Int) = (q2 : Int) := IntWalk.i64_in _ ⟨by omega, by omega⟩
                have jq0 : (0 : Int) ≤ (q2 : Int) := by omega
                have hlA : acc.length ≤ 1016 := by have h1 := count_le acc; have h2 := HPN.out; omega
                have LEN : Hid (q8 = 3 + Nd.lens (acc ++ [⟨(b.drop p1).take x, [], (s : Int), (hd : Int)⟩])) := by
                  show _ = _
                  have h1 := HQ.out; have h2 := HPN.out
                  rw [Nd.lens_snoc]
                  unfold Nd.Cell.len
                  simp only
                  rw [if_neg (by omega), List.length_take, List.length_drop, hb]
                  omega
                have LIN : Hid (LInv b n (acc.length + 1) (acc ++ [⟨(b.drop p1).take x, [], (s : Int), (hd : Int)⟩])) := by
                  show LInv _ _ _ _
                  have r := RC.out
                  rw [HSE.out] at r
                  obtain ⟨h1, h2, h4⟩ := HQ.out
                  rw [if_neg (by omega)] at r
                  refine LI.out.more (r := b.drop (pn + 1 + x + 8)) hkn ?_
                  rw [← HPN.out, r, ← HHD.out, h4, h2, h1]
                clear hq8 hhd
                go_wp2_with fail
                go_region_law (first
                  | (go_simp; go_at_call 25; refine (CG.out _ (by first | exact below_drewN (Below.refl _ _) _ | exact Below.refl _ _)).mono ?_; rintro e vA ⟨rfl, bA⟩; have FA := Lib.hid (HF3.out.on bA); have UKA := Lib.hid (And.intro (U3'.out.off (Off.of_below bA (S := fun _ => False)) (fun _ _ h => h)) (SlV.on K3'.out bA)); have cA := (four_cells FA.out.at_).2.1; have hsA := FA.out.size; have NA := Lib.hid (news_lit vA #[.slice (some ⟨g, 0, none⟩) x cap, .slice none 0 0, .int .i64 (s : Int), .int .i64 (hd : Int)] 51); have cB := ((Below.refl vA.heap.size vA).alloc (Nat.le_refl _) (.cells #[.slice (some ⟨g, 0, none⟩) x cap, .slice none 0 0, .int .i64 (s : Int), .int .i64 (hd : Int)] 51)).cell (p := ⟨w.heap.size + 1, 1, none⟩) (cell_lt cA); rw [cA] at cB; have OA := Lib.hid (FA.out.own.alloc (.cells #[.slice (some ⟨g, 0, none⟩) x cap, .slice none 0 0, .int .i64 (s : Int), .int .i64 (hd : Int)] 51)); clear bA)
                  | (refine step_append_lies _ rfl (.tmp 146) (.tmp 156) 29 rfl (w.heap.size + 2) 51 i4 _ 4 64 Try.underlying29 hi4 hz04 hz14 hz24 rfl (by decide) vc acc.length (cc xs) (by simp [Act.eval]) OA.out ⟨vA.heap.size, 0, none⟩ 1 1 [.slice (some ⟨g, 0, none⟩) x cap, .slice none 0 0, .int .i64 (s : Int), .int .i64 (hd : Int)] (by simp [Act.eval]) rfl NA.out (by simp [Value.oneCell']) (by decide) (by unfold maxLen; omega) (by omega) (by simp; omega) _ rfl ?_; intro gn cap5 wC OC gC lC hC; have zC := Lib.hid (FA.out.kept gC); have cC := (four_cells zC.out).2.1; have fC := frozen_of_row wC (w.heap.size + 1) 1 _ _ zC.out))
                all_goals
                  have ST := Lib.hid (FA.out.more (x := ⟨.slice (some ⟨g, 0, none⟩) x cap, .slice none 0 0, (s : Int), (hd : Int)⟩) (c := ⟨(b.drop p1).take x, [], (s : Int), (hd : Int)⟩) ⟨UKA.out.2, SlV.nil_ _, rfl, rfl, by unfold I64; simp only; omega, by unfold I64; simp only; omega⟩ UKA.out.1 (InU.nil_ _ _) OC gC)
                  clear OC gC lC hC zC cC fC FA UKA OA NA cA cB
                  go_wp2
                  go_roundw
                  case rel => exact ⟨acc.length + 1, q8, _, _, _, rfl, by go_num, by omega, LEN.out, by omega, by simp, ST.out, LIN.out⟩
                  case measure => simp [intOf]; omega
        · have NN := Lib.hid (noNode_leaf H1.out (LI.out.no hkn (by rw [← HPN.out]; exact rc_short hb hx (by omega))))
          have CP1 := Lib.hid (part_no wr (some ⟨bb, off, none⟩) 1016 c (by omega) p1 x (by omega) (by omega) (by omega))
          clear hx hp1 hq hq2 F
          go_wp2_with fail
          refine CP1.out.mono ?_
          rintro e v2 ⟨rfl, rfl⟩
          obtain ⟨r0, r1, r2, r3⟩ := four_cells HF.out.r
          have fr := fun i => frozen_of_row _ w.heap.size i _ _ HF.out.r
          have Z := Lib.hid HF.out.fail
          go_wp2
          have p := four_cells Z.out.1
          unfold set4 at p
          obtain ⟨p0, p1, p2, p3⟩ := p
          refine bodyPost_ret (v := .tuple #[(nv0 false).val, .bool false]) (by simp [results, Try.results9, go_sem, nv0, Nv.val, p0, p1, p2, p3]) rfl ⟨.inr ⟨rfl, NN.out⟩, Z.out.2⟩
    · obtain rfl : n = acc.length := by omega
      have LA := Lib.hid LI.out.all
      obtain ⟨A, cp, rfl, hcs⟩ := F.now
      have hlen : Nd.leafLen acc ≤ 1016 := by unfold Nd.leafLen; have := HPN.out; omega
      have CP := Lib.hid (refPay_leaf wr ⟨false, A, acc.length, cp, none, 0, 0, none, 0, 0⟩ acc hcs rfl (by omega))
      unfold Nv.val at CP
      simp only at CP
      clear F hcs
      go_wp2_with fail
      refine CP.out.mono ?_
      rintro e w2 ⟨⟨A2, n2, c2, rfl, r2, O2⟩, b2⟩
      have HF2 := Lib.hid (HF.out.on b2)
      have HB2 := Lib.hid b2
      have hs2 := b2.size
      have hc2 := r2.2.1
      clear CP b2
      by_cases hm : Nd.LeafMay acc
      · have hpay : payL acc = Nd.leafPay acc := if_pos hm
        rw [hpay] at r2 O2
        have hll := Nd.leafPay_len acc
        have hn2 := r2.1
        have h16 : (Nd.leafPay acc).length ≤ 1016 := by rw [hll]; exact hm.1
        have h3 : 3 ≤ n2 := by rw [← hn2, hll]; unfold Nd.leafLen; omega
        have d6 : ((n2 : Int) == 0) = false := by simp; omega
        have O2' : w2.ownsRow wr.heap.size 5 1 (.slice A2 n2 c2) n2 (bv (fillTo (Nd.leafPay acc) n2)) := by
          rw [show fillTo (Nd.leafPay acc) n2 = Nd.leafPay acc from by rw [← hn2, fillTo_self]]; exact O2
        have HPL := Lib.hid r2.2.2.2.1
        have HM := Lib.hid hm
        have HN2 := Lib.hid hn2
        have h216 : n2 ≤ 1016 := by omega
        obtain ⟨wo, rfl⟩ : ∃ wo, wo = wr := ⟨_, rfl⟩
        clear r2 O2 hm hn2 hll hpay f0 f1 f2 f3
        go_wp2_with fail
        go_loopw [11] (fun v wr => ∃ (k : Nat) (A : Option Addr) (c' : Nat), v = .slice A k c' ∧ n2 ≤ k ∧ k ≤ 1016 ∧ k ≤ c' ∧ wr.ownsRow wo.heap.size 5 1 (.slice A k c') k (bv (fillTo (Nd.leafPay acc) k)) ∧ Below wo.heap.size w2 wr) (fun v _ => 1016 - lenV v)
        case atStart => exact ⟨n2, A2, c2, rfl, Nat.le_refl _, by omega, hc2, O2', Below.refl _ _⟩
        case round =>
          clear O2' hc2
          obtain ⟨k, A7, c7, rfl, hk1, hk2, hkc, hown, hbel⟩ := hrel
          have hsw := hbel.size
          have hs56 : wo.heap.size ≤ wr.heap.size := Nat.le_trans hs2 hsw
          by_cases hlt' : k < 1016
          · have S1 := bs_lit wr
            have O7 := hown.alloc (.cells #[Value.int .u8 0] 5)
            have B7 := hbel.alloc hs56 (.cells #[Value.int .u8 0] 5)
            have k1 : (k : Int) < 1016 := by omega
            clear hown
            go_wp2_with (at_builtin; refine wpList_append_bs _ rfl _ _ 22 rfl wo.heap.size 5 i0 (.int .u8 0) Try.underlying22 hi hz0 hz1 hz2 rfl _ _ _ rfl O7 _ _ _ _ rfl S1 (by omega) (by simp; omega) ?_; intro v8 w8 O8 g8)
            have B8 := below_own B7 O7 g8 (by simp; omega) (Nat.le_refl _)
            rw [bv_app, fillTo_succ (by rw [HN2.out]; omega)] at O8
            obtain ⟨A8, c8, rfl, hc8, _⟩ := own_form O8
            clear O7 B7 S1 g8 hbel
            go_roundw
            case rel => exact ⟨k + 1, A8, c8, rfl, by omega, by omega, hc8, O8, B8⟩
            case measure => simp [lenV]; omega
          · obtain rfl : k = 1016 := by omega
            have e : fillTo (Nd.leafPay acc) 1016 = Nd.fill (Nd.leafPay acc) := rfl
            rw [e] at hown
            have hfl := Nd.fill_len h16
            have r7 := own_bs hown hfl (Nd.fill_lt HPL.out)
            have F7 := HF.out.on (HB2.out.trans hbel)
            have HF7 := Lib.hid F7
            have C9 := Lib.hid (same_any wr _ _ _ _ _ _ _ _ r7 (HS.out.on F7.below))
            clear hown r7 hbel F7
            go_wp2_with fail
            refine C9.out.mono ?_
            rintro e w9 ⟨rfl, m9, rfl⟩
            have F9 := Lib.hid (HF7.out.on (below_drewN (Below.refl _ _) m9))
            generalize wr.drewN m9 = w9 at *
            clear C9 HF7
            by_cases hf : Nd.fill (Nd.leafPay acc) = b
            · rw [decide_eq_true hf]
              have IL : Hid (IsLeaf b acc) := ⟨HM.out, hf.symm⟩
              obtain ⟨A', c', hv, z1, z2, z3⟩ := F9.out.full
              injection hv with hA _ hc
              subst hA hc
              obtain ⟨r0, r1, r2, r3⟩ := four_cells F9.out.r
              have fr := fun i => frozen_of_row _ w.heap.size i _ _ F9.out.r
              obtain ⟨f0, f1, f2, f3⟩ := four_cells F9.out.at_
              have Z := Lib.hid (And.intro z1 (And.intro z2 z3))
              clear z1 z2 z3 hf
              go_wp2
              have p := four_cells Z.out.1
              unfold set4 at p
              obtain ⟨p0, p1, p2, p3⟩ := p
              refine bodyPost_ret (v := .tuple #[Nv.val ⟨false, A, acc.length, cp, none, 0, 0, none, 0, 0⟩, .bool true]) (by simp [results, Try.results9, go_sem, Nv.val, p0, p1, p2, p3]) rfl ⟨.inl ⟨⟨false, A, acc.length, cp, none, 0, 0, none, 0, 0⟩, acc, rfl, rfl, Z.out.2.1, IL.out⟩, Z.out.2.2⟩
            · rw [decide_eq_false hf]
              have NN := Lib.hid (noNode_leaf H1.out (fun cs hc => hf (by rw [LA.out cs hc] at hc; exact hc.2.symm)))
              clear hf
              obtain ⟨r0, r1, r2, r3⟩ := four_cells F9.out.r
              have fr := fun i => frozen_of_row _ w.heap.size i _ _ F9.out.r
              have Z := Lib.hid F9.out.fail
              go_wp2
              have p := four_cells Z.out.1
              unfold set4 at p
              obtain ⟨p0, p1, p2, p3⟩ := p
              refine bodyPost_ret (v := .tuple #[(nv0 false).val, .bool false]) (by simp [results, Try.results9, go_sem, nv0, Nv.val, p0, p1, p2, p3]) rfl ⟨.inr ⟨rfl, NN.out⟩, Z.out.2⟩
      · have hpay : payL acc = [] := if_neg hm
        rw [hpay] at r2
        obtain rfl : n2 = 0 := r2.1.symm
        have NN := Lib.hid (noNode_leaf H1.out (fun cs hc => hm (by rw [LA.out cs hc] at hc; exact hc.1)))
        clear r2 O2 hm hpay f0 f1 f2 f3 hc2
        obtain ⟨r0, r1, r2, r3⟩ := four_cells HF2.out.r
        have fr := fun i => frozen_of_row _ w.heap.size i _ _ HF2.out.r
        have Z := Lib.hid HF2.out.fail
        go_wp2
        have p := four_cells Z.out.1
        unfold set4 at p
        obtain ⟨p0, p1, p2, p3⟩ := p
        refine bodyPost_ret (v := .tuple #[(nv0 false).val, .bool false]) (by simp [results, Try.results9, go_sem, nv0, Nv.val, p0, p1, p2, p3]) rfl ⟨.inr ⟨rfl, NN.out⟩, Z.out.2⟩
end Go.Proofs.Ytachclcpldnofaa.Nn
