/-
  The document's FromPay, of a page with a branch's mark.
-/
import Derived.Test.YtachclcpldnofaaGrRf
import Derived.Test.YtachclcpldnofaaNdRfFl
import Derived.Test.YtachclcpldnofaaNdRfPayB
import Derived.Deep.CutBlock
namespace Go.Proofs.Ytachclcpldnofaa.Nn
open Go.RowKit
set_option linter.unusedVariables false

set_option maxRecDepth 100000 in
set_option maxHeartbeats 4000000 in
theorem refFromPay_branch (w : World) (A : Option Addr) (c : Nat) (b : List Nat) (h : Bs w A 1016 c b) (h1 : b[0]? = some 2) :
    Calls Try.prog 9 #[.slice A 1016 c] w fun e w' => ((∃ x ks p ps, e = .returned (.tuple #[Nv.val x, .bool true]) ∧ x.br = true ∧ Ks w' x.kA x.kn x.kc ks ∧ Is w' x.pA x.pn x.pc (p :: ps) ∧ IsBranch b ks p ps) ∨ (e = .returned (.tuple #[(nv0 false).val, .bool false]) ∧ NoNode b)) ∧ Below w.heap.size w w' := by
  obtain ⟨i0, hi, hz0, hz1, hz2⟩ := info_parts Try.info5
  obtain ⟨i3, hi3, hz03, hz13, hz23⟩ := info_three infoI
  obtain ⟨i2, hi2, hz02, hz12, hz22⟩ := info_three infoS
  have hb := h.1
  have hlt := h.2.2.2.1
  have hcc := h.2.1
  have hcm := h.2.2.1
  unfold maxLen at hcm
  obtain ⟨bb, off, rfl, hbl, hcell⟩ := h.2.2.2.2 (by omega)
  have c0 := hcell 0 2 h1
  rw [Nat.add_zero] at c0
  obtain ⟨x1, hx1⟩ : ∃ x, b[1]? = some x := ⟨_, List.getElem?_eq_getElem (by omega)⟩
  obtain ⟨x2, hx2⟩ : ∃ x, b[2]? = some x := ⟨_, List.getElem?_eq_getElem (by omega)⟩
  have LI0 := BInv.start (b := b)
  rw [two_at hx1 hx2] at LI0
  have hx1' := hlt x1 (List.mem_of_getElem? hx1)
  have hx2' := hlt x2 (List.mem_of_getElem? hx2)
  have HS := Lib.hid h
  have HC := Lib.hid (fun (W : World) (hW : Below w.heap.size w W) (j x : Nat) (hx : b[j]? = some x) => (hW.cell (p := ⟨bb, off + j, none⟩) hbl).trans (hcell j x hx))
  have HLT := Lib.hid hlt
  have H1 := Lib.hid h1
  have B1 : Below w.heap.size w (w.alloc (.cells #[.bool false, .slice none 0 0, .slice none 0 0, .slice none 0 0] 33)) := (Below.refl _ _).alloc (Nat.le_refl _) _
  have s1 : (w.alloc (.cells #[.bool false, .slice none 0 0, .slice none 0 0, .slice none 0 0] 33)).heap.size = w.heap.size + 1 := by simp
  have c1 := (B1.cell (p := ⟨bb, off, none⟩) hbl).trans c0
  have B2 := B1.alloc (by omega) (.cells #[.bool true, .slice none 0 0, .slice none 0 0, .slice none 0 0] 33)
  have F0 : Fb w ((w.alloc (.cells #[.bool false, .slice none 0 0, .slice none 0 0, .slice none 0 0] 33)).alloc (.cells #[.bool true, .slice none 0 0, .slice none 0 0, .slice none 0 0] 33)) (.slice none 0 0) (.slice none 0 0) [] [] [] :=
    ⟨(((Below.refl _ _).alloc (Nat.le_refl _) _).block w.heap.size (by omega)).trans (heap_alloc_new w _), by rw [← s1]; exact heap_alloc_new _ _, World.ownsRow_nil _ _ _ _, Along.nil_, World.ownsRow_nil _ _ _ _, (by intro z hz; cases hz), B2⟩
  have HF0 := Lib.hid F0
  have CS1 := Lib.hid (short_any _ _ 1016 c b (h.on B2) 1 x1 x2 hx1 hx2)
  have niln : ∀ (W : World), (binOp .eql 22 (.slice none 0 0) (.slice none 0 0)).run Try.prog W = .ok (.bool true) W := fun _ => rfl
  have G32 := Lib.hid (fun (q : Nat) (hq : q + 4 ≤ 1016) (V : World) (hV : Below w.heap.size w V) (W : World) (hW : Below V.heap.size V W) => Calls.mono (R' := fun e w' => e = .returned (.int .u32 ((Nm.fromBe ((b.drop q).take 4) : Nat) : Int)) ∧ Below V.heap.size V w') (refGet32_any W _ (1016 - q) (c - q) (b.drop q) (((HS.out.on hV).on hW).cut_far q (by omega))) (by rintro e w' ⟨rfl, rfl⟩; rw [pad4_whole (by rw [List.length_drop]; omega)]; exact ⟨rfl, hW⟩))
  have G32L := Lib.hid (fun (q : Nat) (hq : q + 4 ≤ 1016) => (by
    have h1 := Nm.fromBe_lt ((b.drop q).take 4) fun x hx => hlt x (List.mem_of_mem_drop (List.mem_of_mem_take hx))
    have h2 : 256 ^ ((b.drop q).take 4).length = 4294967296 := by rw [List.length_take, List.length_drop, hb, show min 4 (1016 - q) = 4 by omega]
    omega : Nm.fromBe ((b.drop q).take 4) < 4294967296))
  clear h hcell c0 hlt B2 F0 h1 hx1 hx2
  go_enter Try.func9, Try.ntmps9
  go_wp2_with fail
  refine CS1.out.mono ?_
  rintro e w1 ⟨rfl, m1, rfl⟩
  have F1 := HF0.out.on (below_drewN (Below.refl _ _) m1)
  clear CS1 HF0
  generalize ((w.alloc (.cells #[.bool false, .slice none 0 0, .slice none 0 0, .slice none 0 0] 33)).alloc (.cells #[.bool true, .slice none 0 0, .slice none 0 0, .slice none 0 0] 33)).drewN m1 = w1 at *
  generalize hn : 256 * x1 + x2 = n at *
  have hn9 : n < 65536 := by omega
  obtain ⟨f0, f1, f2, f3⟩ := four_cells F1.at_
  have CG := Lib.hid (G32.out 3 (by omega) w1 F1.below)
  have hhl := G32L.out 3 (by omega)
  generalize hhd : Nm.fromBe ((b.drop 3).take 4) = kid at *
  have whd : IntKind.i64.wrap (kid : Int) = (kid : Int) := IntWalk.i64_in _ ⟨by omega, by omega⟩
  have hc3 : ¬ c = 3 := by omega
  obtain ⟨vp, hvp⟩ : ∃ vp : Value, vp = .slice none 0 0 := ⟨_, rfl⟩
  obtain ⟨ps0, hps0⟩ : ∃ ps0 : List Int, ps0 = [] := ⟨_, rfl⟩
  have HF1 : Hid (Fb w w1 (.slice none 0 0) vp [] [] ps0) := by show Fb _ _ _ _ _ _ _; rw [hvp, hps0]; exact F1
  have hpl0 : ps0.length ≤ 1016 := by rw [hps0]; simp
  rw [← hvp] at f3
  have HLI := Lib.hid LI0
  have HPS0 := Lib.hid hps0
  clear F1 LI0 B1 c1 s1 hn hvp hps0 hhd
  go_wp2_with fail
  go_cut [] from 37 to 46 (fun wx => ∃ vp', Fb w wx (.slice none 0 0) vp' [] [] (ps0 ++ [(kid : Int)]))
  case first =>
    go_region_law (first
      | (go_simp; go_at_call 25; refine (CG.out _ (by first | exact below_drewN (Below.refl _ _) _ | exact Below.refl _ _)).mono ?_; rintro e vA ⟨rfl, bA⟩; have FA := Lib.hid (HF1.out.on bA); have cA := (four_cells FA.out.at_).2.2.2; have hsA := FA.out.size; have NA := Lib.hid (news_lit vA #[.int .i64 (kid : Int)] 3); have cB := ((Below.refl vA.heap.size vA).alloc (Nat.le_refl _) (.cells #[.int .i64 (kid : Int)] 3)).cell (p := ⟨w.heap.size + 1, 3, none⟩) (cell_lt cA); rw [cA] at cB; have OA := Lib.hid (FA.out.pown.alloc (.cells #[.int .i64 (kid : Int)] 3)); clear bA)
      | (refine step_append_lies _ rfl (.tmp 38) (.tmp 43) 31 rfl (w.heap.size + 2) 3 i3 _ 1 8 Try.underlying31 hi3 hz03 hz13 hz23 rfl (by decide) vp ps0.length (iv ps0) (by simp [Act.eval]) OA.out ⟨vA.heap.size, 0, none⟩ 1 1 [.int .i64 (kid : Int)] (by simp [Act.eval]) rfl NA.out (by simp [Value.oneCell']) (by decide) (by unfold maxLen; omega) (by omega) (by simp; omega) _ rfl ?_; intro gm cap6 wC OC gC lC hC; have zC := Lib.hid (FA.out.keptP gC); have cC := (four_cells zC.out).2.2.2; have fC := frozen_of_row wC (w.heap.size + 1) 3 _ _ zC.out))
    all_goals
      have ST := Lib.hid (FA.out.kid (i64_u32 hhl) OC gC)
      clear OC gC lC hC zC cC fC FA OA NA cA cB
      go_wp2_with fail
      go_meet
      exact ⟨_, ST.out⟩
  case rest =>
    obtain ⟨vp1, F1⟩ := hcut
    rw [HPS0.out, List.nil_append] at F1
    clear HF1 CG HPS0 hpl0 f0 f1 f2 f3
    obtain ⟨f0, f1, f2, f3⟩ := four_cells F1.at_
    have HF1 := Lib.hid F1
    clear F1
    go_wp2
    go_loopw [6, 7] (fun p i wr => ∃ (k pn : Nat) (vk vp : Value) (xs : List Value) (ka : List (List Nat)) (qa : List Int), p = .int .i64 (pn : Int) ∧ i = .int .i64 (k : Int) ∧ k ≤ n ∧ pn = 7 + Nd.klens ka ∧ pn ≤ 1016 ∧ ka.length = k ∧ qa.length = k ∧ Fb w wr vk vp xs ka ((kid : Int) :: qa) ∧ Hid (BInv b n k (kid : Int) ka qa)) (fun _ i _ => n - (intOf i).toNat)
    case atStart => exact ⟨0, 7, _, _, _, _, _, rfl, rfl, Nat.zero_le _, rfl, by omega, rfl, rfl, HF1.out, HLI.out⟩
    case round =>
      clear f0 f1 f2 f3 HF1 HLI
      obtain ⟨k, pn, vk, vp, xs, ka, qa, rfl, rfl, hk, hpn, hp9, hal, hqal, F, LI⟩ := hrel
      subst hal
      obtain ⟨ps, hps⟩ : ∃ ps, ps = (kid : Int) :: qa := ⟨_, rfl⟩
      rw [← hps] at F
      have hpsl : ps.length ≤ 1017 := by have := kcount_le ka; rw [hps, List.length_cons, hqal]; omega
      have HPS := Lib.hid hps
      have HQA := Lib.hid hqal
      have BW := Lib.hid F.below
      obtain ⟨f0, f1, f2, f3⟩ := four_cells F.at_
      have HF := Lib.hid F
      have HPN := Lib.hid hpn
      have hsF := F.size
      have hkl : ka.length ≤ 1016 := by have := kcount_le ka; omega
      clear hpn hps hqal
      by_cases hkn : ka.length < n
      · have hj : (ka.length : Int) < (n : Int) := by omega
        by_cases hend : 1016 ≤ pn
        · have NN := Lib.hid (noNode_branch H1.out (LI.out.no hkn (by rw [← HPN.out]; exact rk_end hb hend)))
          have d : decide ((pn : Int) ≥ 1016) = true := by simp; omega
          obtain ⟨r0, r1, r2, r3⟩ := four_cells F.r
          have fr := fun i => frozen_of_row _ w.heap.size i _ _ F.r
          have Z := Lib.hid F.fail
          go_wp2
          have p := four_cells Z.out.1
          unfold set4 at p
          obtain ⟨p0, p1, p2, p3⟩ := p
          refine bodyPost_ret (v := .tuple #[(nv0 false).val, .bool false]) (by simp [results, Try.results9, go_sem, nv0, Nv.val, p0, p1, p2, p3]) rfl ⟨.inr ⟨rfl, NN.out⟩, Z.out.2⟩
        · have d : decide ((pn : Int) ≥ 1016) = false := by simp; omega
          obtain ⟨x, hx⟩ : ∃ x, b[pn]? = some x := ⟨_, List.getElem?_eq_getElem (by omega)⟩
          have hx' := HLT.out x (List.mem_of_getElem? hx)
          have cx := HC.out wr BW.out pn x hx
          have jx : (pn : Int) < 1016 := by omega
          obtain ⟨p1, hp1⟩ : ∃ p1 : Nat, p1 = pn + 1 := ⟨_, rfl⟩
          obtain ⟨q, hq⟩ : ∃ q : Nat, q = p1 + x := ⟨_, rfl⟩
          obtain ⟨q2, hq2⟩ : ∃ q2 : Nat, q2 = q + 2 := ⟨_, rfl⟩
          obtain ⟨q4, hq4⟩ : ∃ q4 : Nat, q4 = q + 4 := ⟨_, rfl⟩
          have e1 : (pn : Int) + 1 = (p1 : Int) := by omega
          have e2 : (p1 : Int) + (x : Int) = (q : Int) := by omega
          have e3 : (q : Int) + 2 = (q2 : Int) := by omega
          have e4 : (q : Int) + 4 = (q4 : Int) := by omega
          have w1' : IntKind.i64.wrap ((pn : Int) + 1) = (p1 : Int) := by rw [IntWalk.i64_in _ ⟨by omega, by omega⟩]; exact e1
          have w2' : IntKind.i64.wrap ((p1 : Int) + (x : Int)) = (q : Int) := by rw [IntWalk.i64_in _ ⟨by omega, by omega⟩]; exact e2
          have w3' : IntKind.i64.wrap ((q : Int) + 2) = (q2 : Int) := by rw [IntWalk.i64_in _ ⟨by omega, by omega⟩]; exact e3
          have w4' : IntKind.i64.wrap ((q : Int) + 4) = (q4 : Int) := by rw [IntWalk.i64_in _ ⟨by omega, by omega⟩]; exact e4
          have nilq : ∀ (g cap : Nat) (W : World), (binOp .eql 22 (.slice (some ⟨g, 0, none⟩) x cap) (.slice none 0 0)).run Try.prog W = .ok (.bool false) W := fun _ _ _ => rfl
          have HX := Lib.hid hx
          have HQ := Lib.hid (And.intro hp1 (And.intro hq (And.intro hq2 hq4)))
          by_cases hq9 : q ≤ 1016
          · have CP1 := Lib.hid (part_yes wr _ 1016 c b (HS.out.on BW.out) (by omega) (by omega) p1 x (by omega))
            clear hx hp1 hq hq2 hq4 F
            go_wp2_with fail
            refine CP1.out.mono ?_
            rintro e v2 ⟨⟨g, cap, rfl, rk, hg, hgt⟩, b2⟩
            have F2 := HF.out.on b2
            have B2 := Lib.hid F2.below
            have U2 := Lib.hid (inU_mk (n := x) (cap := cap) (show w.heap.size + 2 ≤ g by omega) hgt)
            have K2 := Lib.hid (⟨_, x, cap, rfl, rk, by omega⟩ : SlV v2 (.slice (some ⟨g, 0, none⟩) x cap) ((b.drop p1).take x))
            have cx2 := HC.out v2 B2.out pn x HX.out
            obtain ⟨f0', f1', f2', f3'⟩ := four_cells F2.at_
            have HF2 := Lib.hid F2
            clear f0 f1 f2 f3 cx CP1 b2 rk hg hgt hsF
            by_cases hs2 : 1016 < q4
            · have NN := Lib.hid (noNode_branch H1.out (LI.out.no hkn (by rw [← HPN.out]; exact rk_short hb HX.out (by have := HQ.out; omega))))
              have d2 : decide ((q4 : Int) > 1016) = true := by simp; omega
              obtain ⟨r0, r1, r2, r3⟩ := four_cells F2.r
              have fr := fun i => frozen_of_row _ w.heap.size i _ _ F2.r
              have Z := Lib.hid F2.fail
              go_wp2
              have p := four_cells Z.out.1
              unfold set4 at p
              obtain ⟨p0, p1, p2, p3⟩ := p
              refine bodyPost_ret (v := .tuple #[(nv0 false).val, .bool false]) (by simp [results, Try.results9, go_sem, nv0, Nv.val, p0, p1, p2, p3]) rfl ⟨.inr ⟨rfl, NN.out⟩, Z.out.2⟩
            · have d2 : decide ((q4 : Int) > 1016) = false := by simp; omega
              have d3 : decide ((q2 : Int) > 1016) = false := by have := HQ.out; simp; omega
              have hq4' : q + 4 ≤ 1016 := by have := HQ.out; omega
              have hhl2 := G32L.out q hq4'
              have RK := Lib.hid (rk_yes hb HX.out (by have := HQ.out; omega))
              generalize hhd : Nm.fromBe ((b.drop q).take 4) = hd at *
              have HHD := Lib.hid hhd
              have whd2 : IntKind.i64.wrap (hd : Int) = (hd : Int) := IntWalk.i64_in _ ⟨by omega, by omega⟩
              have LEN : Hid (q4 = 7 + Nd.klens (ka ++ [(b.drop p1).take x])) := by
                show _ = _
                have h1 := HQ.out; have h2 := HPN.out
                rw [Nd.klens_snoc, List.length_take, List.length_drop, hb]
                omega
              have LIN : Hid (BInv b n (ka.length + 1) (kid : Int) (ka ++ [(b.drop p1).take x]) (qa ++ [(hd : Int)])) := by
                show BInv _ _ _ _ _ _
                have r := RK.out
                obtain ⟨h1, h2, h4, h5⟩ := HQ.out
                refine LI.out.more (c := ((b.drop p1).take x, (hd : Int))) (r := b.drop (pn + 1 + x + 4)) hkn ?_
                rw [← HPN.out, r, ← HHD.out, h2, h1]
              have CG2 := Lib.hid (fun (V : World) (hV : Below w.heap.size w V) => G32.out q hq4' V hV)
              have hcq : ¬ c = q := by omega
              have jq : (q : Int) ≤ 1016 := by omega
              have jq0 : (0 : Int) ≤ (q : Int) := by omega
              have NA := Lib.hid (news_lit v2 #[.slice (some ⟨g, 0, none⟩) x cap] 22)
              have OA := Lib.hid (F2.kown.alloc (.cells #[.slice (some ⟨g, 0, none⟩) x cap] 22))
              have hs4 := F2.size
              clear hhd F2
              go_wp2_with (at_builtin; refine wpList_append_lies _ rfl _ _ 30 rfl (w.heap.size + 2) 22 i2 _ 1 24 Try.underlying30 hi2 hz02 hz12 hz22 rfl (by decide) vk ka.length xs rfl OA.out ⟨v2.heap.size, 0, none⟩ 1 1 [.slice (some ⟨g, 0, none⟩) x cap] rfl rfl NA.out (by simp [Value.oneCell']) (by decide) (by unfold maxLen; omega) (by omega) (by simp; omega) _ rfl ?_; intro gn cap5 wC OC gC lC hC; have zC := Lib.hid (HF2.out.keptK gC); have cC := (four_cells zC.out).2.2.1; have fC := frozen_of_row wC (w.heap.size + 1) 2 _ _ zC.out)
              have F3 := HF2.out.key K2.out U2.out OC gC
              clear OC gC lC hC zC cC fC NA OA HF2 K2 U2 f0' f1' f2' f3' cx2
              generalize wC.setCell ⟨w.heap.size + 1, 2, none⟩ (.slice (some ⟨gn, 0, none⟩) (ka.length + 1) cap5) = v3 at *
              obtain ⟨f0, f1, f2, f3⟩ := four_cells F3.at_
              have CG := Lib.hid (CG2.out v3 F3.below)
              rw [HHD.out] at CG
              have HF3 := Lib.hid F3
              clear F3 CG2
              go_region_law (first
                | (go_simp; go_at_call 25; refine (CG.out _ (by first | exact below_drewN (Below.refl _ _) _ | exact Below.refl _ _)).mono ?_; rintro e vA ⟨rfl, bA⟩; have FA := Lib.hid (HF3.out.on bA); have cA := (four_cells FA.out.at_).2.2.2; have hsA := FA.out.size; have NA := Lib.hid (news_lit vA #[.int .i64 (hd : Int)] 3); have cB := ((Below.refl vA.heap.size vA).alloc (Nat.le_refl _) (.cells #[.int .i64 (hd : Int)] 3)).cell (p := ⟨w.heap.size + 1, 3, none⟩) (cell_lt cA); rw [cA] at cB; have OA := Lib.hid (FA.out.pown.alloc (.cells #[.int .i64 (hd : Int)] 3)); clear bA)
                | (refine step_append_lies _ rfl (.tmp 103) (.tmp 109) 31 rfl (w.heap.size + 2) 3 i3 _ 1 8 Try.underlying31 hi3 hz03 hz13 hz23 rfl (by decide) vp ps.length (iv ps) (by simp [Act.eval]) OA.out ⟨vA.heap.size, 0, none⟩ 1 1 [.int .i64 (hd : Int)] (by simp [Act.eval]) rfl NA.out (by simp [Value.oneCell']) (by decide) (by unfold maxLen; omega) (by omega) (by simp; omega) _ rfl ?_; intro gm cap6 wC OC gC lC hC; have zC := Lib.hid (FA.out.keptP gC); have cC := (four_cells zC.out).2.2.2; have fC := frozen_of_row wC (w.heap.size + 1) 3 _ _ zC.out))
              all_goals
                have ST := Lib.hid (FA.out.kid (i64_u32 hhl2) OC gC)
                clear OC gC lC hC zC cC fC FA OA NA cA cB
                go_wp2
                go_roundw
                case rel =>
                  refine ⟨ka.length + 1, q4, .slice (some ⟨gn, 0, none⟩) (ka.length + 1) cap5, .slice (some ⟨gm, 0, none⟩) (ps.length + 1) cap6, xs ++ [.slice (some ⟨g, 0, none⟩) x cap], ka ++ [(b.drop p1).take x], qa ++ [(hd : Int)], rfl, by go_num, by omega, LEN.out, by omega, by simp, by rw [List.length_append, HQA.out]; rfl, ?_, LIN.out⟩
                  have s := ST.out
                  rw [← List.cons_append, ← HPS.out]
                  exact s
                case measure => simp [intOf]; omega
          · have NN := Lib.hid (noNode_branch H1.out (LI.out.no hkn (by rw [← HPN.out]; exact rk_short hb hx (by omega))))
            have CP1 := Lib.hid (part_no wr (some ⟨bb, off, none⟩) 1016 c (by omega) p1 x (by omega) (by omega) (by omega))
            clear hx hp1 hq hq2 hq4 F
            go_wp2_with fail
            refine CP1.out.mono ?_
            rintro e v2 ⟨rfl, rfl⟩
            obtain ⟨r0, r1, r2, r3⟩ := four_cells HF.out.r
            have fr := fun i => frozen_of_row _ w.heap.size i _ _ HF.out.r
            have Z := Lib.hid HF.out.fail
            go_wp2
            have p := four_cells Z.out.1
            unfold set4 at p
            obtain ⟨p0, p1, p2, p3⟩ := p
            refine bodyPost_ret (v := .tuple #[(nv0 false).val, .bool false]) (by simp [results, Try.results9, go_sem, nv0, Nv.val, p0, p1, p2, p3]) rfl ⟨.inr ⟨rfl, NN.out⟩, Z.out.2⟩
      · obtain rfl : n = ka.length := by omega
        have LA := Lib.hid LI.out.all
        obtain ⟨A, cp, A', cp', rfl, rfl, hks, hps⟩ := F.now
        have hlen : Nd.branchLen ka ≤ 1016 := by unfold Nd.branchLen; have := HPN.out; omega
        have CP := Lib.hid (refPay_branch wr ⟨true, none, 0, 0, A, ka.length, cp, A', ps.length, cp'⟩ ka ps hks hps rfl (by omega) (by omega))
        unfold Nv.val at CP
        simp only at CP
        clear F hks hps
        go_wp2_with fail
        refine CP.out.mono ?_
        rintro e w2 ⟨⟨A2, n2, c2, rfl, r2, O2⟩, b2⟩
        have HF2 := Lib.hid (HF.out.on b2)
        have HB2 := Lib.hid b2
        have hs2 := b2.size
        have hc2 := r2.2.1
        clear CP b2
        have hpb : payB ka ps = if Nd.BranchMay ka ((kid : Int) :: qa) then Nd.branchPay ka kid qa else [] := by rw [HPS.out]; rfl
        by_cases hm : Nd.BranchMay ka ((kid : Int) :: qa)
        · rw [hpb, if_pos hm] at r2 O2
          have hll := Nd.branchPay_len (ks := ka) (kid := (kid : Int)) (kids := qa) HQA.out.symm
          have hn2 := r2.1
          have h16 : (Nd.branchPay ka kid qa).length ≤ 1016 := by rw [hll]; exact hm.1
          have h3 : 3 ≤ n2 := by rw [← hn2, hll]; unfold Nd.branchLen; omega
          have d6 : ((n2 : Int) == 0) = false := by simp; omega
          have O2' : w2.ownsRow wr.heap.size 5 1 (.slice A2 n2 c2) n2 (bv (fillTo (Nd.branchPay ka kid qa) n2)) := by
            rw [show fillTo (Nd.branchPay ka kid qa) n2 = Nd.branchPay ka kid qa from by rw [← hn2, fillTo_self]]; exact O2
          have HPL := Lib.hid r2.2.2.2.1
          have HM := Lib.hid hm
          have HN2 := Lib.hid hn2
          have h216 : n2 ≤ 1016 := by omega
          generalize hsay : Nd.branchPay ka kid qa = say at *
          have HSAY := Lib.hid hsay
          obtain ⟨wo, rfl⟩ : ∃ wo, wo = wr := ⟨_, rfl⟩
          clear r2 O2 hm hn2 hll hpb f0 f1 f2 f3 hsay
          go_wp2_with fail
          go_loopw [11] (fun v wr => ∃ (k : Nat) (A : Option Addr) (c' : Nat), v = .slice A k c' ∧ n2 ≤ k ∧ k ≤ 1016 ∧ k ≤ c' ∧ wr.ownsRow wo.heap.size 5 1 (.slice A k c') k (bv (fillTo say k)) ∧ Below wo.heap.size w2 wr) (fun v _ => 1016 - lenV v)
          case atStart => exact ⟨n2, A2, c2, rfl, Nat.le_refl _, by omega, hc2, O2', Below.refl _ _⟩
          case round =>
            clear O2' hc2
            obtain ⟨k, A7, c7, rfl, hk1, hk2, hkc, hown, hbel⟩ := hrel
            have hsw := hbel.size
            have hs56 : wo.heap.size ≤ wr.heap.size := Nat.le_trans hs2 hsw
            by_cases hlt' : k < 1016
            · have S1 := bs_lit wr
              have O7 := hown.alloc (.cells #[Value.int .u8 0] 5)
              have B7 := hbel.alloc hs56 (.cells #[Value.int .u8 0] 5)
              have k1 : (k : Int) < 1016 := by omega
              clear hown
              go_wp2_with (at_builtin; refine wpList_append_bs _ rfl _ _ 22 rfl wo.heap.size 5 i0 (.int .u8 0) Try.underlying22 hi hz0 hz1 hz2 rfl _ _ _ rfl O7 _ _ _ _ rfl S1 (by omega) (by simp; omega) ?_; intro v8 w8 O8 g8)
              have B8 := below_own B7 O7 g8 (by simp; omega) (Nat.le_refl _)
              rw [bv_app, fillTo_succ (by rw [HN2.out]; omega)] at O8
              obtain ⟨A8, c8, rfl, hc8, _⟩ := own_form O8
              clear O7 B7 S1 g8 hbel
              go_roundw
              case rel => exact ⟨k + 1, A8, c8, rfl, by omega, by omega, hc8, O8, B8⟩
              case measure => simp [lenV]; omega
            · obtain rfl : k = 1016 := by omega
              have e : fillTo say 1016 = Nd.fill say := rfl
              rw [e] at hown
              have hfl := Nd.fill_len h16
              have r7 := own_bs hown hfl (Nd.fill_lt HPL.out)
              have F7 := HF.out.on (HB2.out.trans hbel)
              have HF7 := Lib.hid F7
              have C9 := Lib.hid (same_any wr _ _ _ _ _ _ _ _ r7 (HS.out.on F7.below))
              clear hown r7 hbel F7
              go_wp2_with fail
              refine C9.out.mono ?_
              rintro e w9 ⟨rfl, m9, rfl⟩
              have F9 := Lib.hid (HF7.out.on (below_drewN (Below.refl _ _) m9))
              generalize wr.drewN m9 = w9 at *
              clear C9 HF7
              by_cases hf : Nd.fill say = b
              · rw [decide_eq_true hf]
                have IL : Hid (IsBranch b ka kid qa) := ⟨HM.out, by rw [HSAY.out]; exact hf.symm⟩
                obtain ⟨D, d, D', d', hv, hv', z1, z2, z3, z4⟩ := F9.out.full
                injection hv with hA _ hc
                injection hv' with hA' _ hc'
                subst hA hc hA' hc'
                obtain ⟨r0, r1, r2, r3⟩ := four_cells F9.out.r
                have fr := fun i => frozen_of_row _ w.heap.size i _ _ F9.out.r
                obtain ⟨f0, f1, f2, f3⟩ := four_cells F9.out.at_
                have Z := Lib.hid (And.intro z1 (And.intro z2 (And.intro z3 z4)))
                clear z1 z2 z3 z4 hf
                go_wp2
                have p := four_cells Z.out.1
                unfold set4 at p
                obtain ⟨p0, p1, p2, p3⟩ := p
                refine bodyPost_ret (v := .tuple #[Nv.val ⟨true, none, 0, 0, A, ka.length, cp, A', ps.length, cp'⟩, .bool true]) (by simp [results, Try.results9, go_sem, Nv.val, p0, p1, p2, p3]) rfl ⟨.inl ⟨⟨true, none, 0, 0, A, ka.length, cp, A', ps.length, cp'⟩, ka, kid, qa, rfl, rfl, Z.out.2.1, by rw [← HPS.out]; exact Z.out.2.2.1, IL.out⟩, Z.out.2.2.2⟩
              · rw [decide_eq_false hf]
                have NN := Lib.hid (noNode_branch H1.out (fun ks p q hc => hf (by obtain ⟨e1, e2, e3⟩ := LA.out ks p q hc; rw [e1, e2, e3] at hc; rw [← HSAY.out]; exact hc.2.symm)))
                clear hf
                obtain ⟨r0, r1, r2, r3⟩ := four_cells F9.out.r
                have fr := fun i => frozen_of_row _ w.heap.size i _ _ F9.out.r
                have Z := Lib.hid F9.out.fail
                go_wp2
                have p := four_cells Z.out.1
                unfold set4 at p
                obtain ⟨p0, p1, p2, p3⟩ := p
                refine bodyPost_ret (v := .tuple #[(nv0 false).val, .bool false]) (by simp [results, Try.results9, go_sem, nv0, Nv.val, p0, p1, p2, p3]) rfl ⟨.inr ⟨rfl, NN.out⟩, Z.out.2⟩
        · rw [hpb, if_neg hm] at r2
          obtain rfl : n2 = 0 := r2.1.symm
          have NN := Lib.hid (noNode_branch H1.out (fun ks p q hc => hm (by obtain ⟨e1, e2, e3⟩ := LA.out ks p q hc; rw [e1, e2, e3] at hc; exact hc.1)))
          clear r2 O2 hm hpb f0 f1 f2 f3 hc2
          obtain ⟨r0, r1, r2, r3⟩ := four_cells HF2.out.r
          have fr := fun i => frozen_of_row _ w.heap.size i _ _ HF2.out.r
          have Z := Lib.hid HF2.out.fail
          go_wp2
          have p := four_cells Z.out.1
          unfold set4 at p
          obtain ⟨p0, p1, p2, p3⟩ := p
          refine bodyPost_ret (v := .tuple #[(nv0 false).val, .bool false]) (by simp [results, Try.results9, go_sem, nv0, Nv.val, p0, p1, p2, p3]) rfl ⟨.inr ⟨rfl, NN.out⟩, Z.out.2⟩
end Go.Proofs.Ytachclcpldnofaa.Nn
