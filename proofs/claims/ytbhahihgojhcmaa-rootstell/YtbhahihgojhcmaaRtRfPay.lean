/-
  The document's Pay. Laid by gen_rtrfpay.py SEAT.
-/
import Derived.Test.YtbhahihgojhcmaaRtRfMay
import Derived.Test.YtbhahihgojhcmaaRtPay
import Derived.Test.YtbhahihgojhcmaaNbKey
namespace Go.Proofs.Ytbhahihgojhcmaa.Rt
open Go.RowKit
set_option linter.unusedVariables false

theorem own_le {w : World} {base base' e size n : Nat} {v : Value} {xs : List Value} (h : w.ownsRow base' e size v n xs) (hb : base ≤ base') : w.ownsRow base e size v n xs := by
  refine ⟨h.1, ?_⟩
  rcases h.2 with h1 | ⟨g, cap, cur, hv, hg, r⟩
  · exact .inl h1
  · exact .inr ⟨g, cap, cur, hv, Nat.le_trans hb hg, r⟩
theorem be8_drop (v : Nat) : (Nm.be 8 v).drop 4 = Nm.be 4 v := by
  rw [be_cons, be_cons, be_cons, be_cons]; rfl
theorem tail4 {w : World} {b off c v : Nat} (h : Bs w (some ⟨b, off, none⟩) 8 c (Nm.be 8 v)) : Bs w (some ⟨b, off + 4, none⟩) 4 (c - 4) (Nm.be 4 v) := by
  have := h.cut_far 4 (by omega)
  rwa [be8_drop] at this

set_option maxRecDepth 100000 in
set_option maxHeartbeats 2000000 in
theorem rfPay_any (w : World) (A : Option Addr) (n c : Nat) (L : List Rm.R) (h : Rs w A n c L) :
    Calls Try.prog 14 #[.slice A n c] w fun e w' => ∃ A' c', e = .returned (.slice A' (payL L).length c') ∧ Bs w' A' (payL L).length c' (payL L) ∧ Below w.heap.size w w' ∧ (Rm.may L = true → w'.ownsRow w.heap.size 5 1 (.slice A' (payL L).length c') (payL L).length (bv (payL L))) := by
  have hM := Lib.hid (rfMay_any w A n c L h)
  have H := Lib.hid h
  have hl := h.1
  have hcm := h.2.2.1
  have hnc := h.2.1
  unfold maxLen at hcm
  clear h
  cases hmay : Rm.may L with
  | false =>
    rw [hmay] at hM
    have hp : payL L = [] := by unfold payL; rw [hmay]; rfl
    rw [hp]
    go_enter Try.func14, Try.ntmps14
    go_wp2_with fail
    refine hM.out.mono ?_
    rintro e w1 ⟨rfl, B1⟩
    go_wp2
    go_ret
    exact ⟨none, 0, rfl, Bs.nil_ _ _ _ (Nat.zero_le _), B1, fun h => by cases h⟩
  | true =>
    rw [hmay] at hM
    have hp : payL L = Rm.pay L := by unfold payL; rw [hmay]; rfl
    rw [hp]
    have h12 := Rm.may_len hmay
    have HOne := Lib.hid (Rm.may_one hmay)
    have HU := Lib.hid (fun k => upTo_len (k := k) (Rm.may_one hmay) h12)
    have kc := fun (w : World) (C : Array Value) (n c : Nat) => Lib.run_convert_bytes_const (P := Try.prog) w 23 5 C n c Try.underlying23 Try.underlying5
    have hw8 : (n : Int) % 256 = (n : Int) := by omega
    clear hp hmay
    go_enter Try.func14, Try.ntmps14
    go_wp2_with fail
    refine hM.out.mono ?_
    rintro e w1 ⟨rfl, B1⟩
    have HB1 := Lib.hid B1
    have S1 := Lib.hid (croo_bs w1 (4, 5))
    have b2 : Below w1.heap.size w1 (w1.alloc (.cells #[.int .u8 67, .int .u8 82, .int .u8 79, .int .u8 79] 5 (4, 5))) := (Below.refl _ _).alloc (Nat.le_refl _) _
    have hl1 := bs_lit1 (w1.alloc (.cells #[.int .u8 67, .int .u8 82, .int .u8 79, .int .u8 79] 5 (4, 5))) n (by omega)
    rw [show (w1.alloc (.cells #[.int .u8 67, .int .u8 82, .int .u8 79, .int .u8 79] 5 (4, 5))).heap.size = w1.heap.size + 1 by simp] at hl1
    have S2 := Lib.hid (S1.out.alloc (.cells #[.int .u8 (n : Int)] 5))
    have b3 := b2.alloc b2.size (.cells #[.int .u8 (n : Int)] 5)
    have AP := Lib.hid (fun ty => run_addN _ _ _ 4 _ S2.out _ _ 1 1 _ hl1 (by omega) (by omega) ty)
    have HB3 := Lib.hid b3
    clear b2 b3 hl1 B1
    go_wp2_with (at_builtin; refine wpList_append_ran _ rfl _ _ 23 23 rfl _ _ rfl rfl _ (AP.out _) ?_; rintro v4 w4 O4)
    generalize (w1.alloc (.cells #[.int .u8 67, .int .u8 82, .int .u8 79, .int .u8 79] 5 (4, 5))).alloc (.cells #[.int .u8 (n : Int)] 5) = wB at *
    have HBW : Hid (∀ W, Below wB.heap.size wB W → Below w.heap.size w W) := fun W hW => HB1.out.trans ((HB3.out.trans (hW.mono HB3.out.size)).mono HB1.out.size)
    have HWB : Hid (w.heap.size ≤ wB.heap.size) := Nat.le_trans HB1.out.size HB3.out.size
    rw [← hl, ← upTo_zero] at O4
    have HO4 := Lib.hid O4
    clear O4 AP S1 S2 HB3 HB1 hM
    go_loopw [3, 4] (fun out i wr => ∃ (k : Nat) (ov : Value), ov = out ∧ k ≤ n ∧ i = .int .i64 (k : Int) ∧ Hid (OwnB wB wr ov (upTo L k))) (fun _ i _ => n - (intOf i).toNat)
    case atStart => exact ⟨0, _, rfl, Nat.zero_le _, rfl, HO4.out⟩
    case round =>
      obtain ⟨k, ov, rfl, hk, rfl, HO⟩ := hrel
      by_cases hlt : k < n
      · obtain ⟨bb, off, x, rfl, hbb, hx, hin, c0, c1, c2⟩ := H.out.get hlt
        have hone := HOne.out x (List.mem_of_getElem? hx)
        have hnx := upTo_next hx
        obtain ⟨nm, pg, ct⟩ := x
        have hnl := hone.1.1.2
        obtain ⟨⟨p, rfl⟩, ⟨q, rfl⟩⟩ : (∃ p : Nat, pg = (p : Int)) ∧ ∃ q : Nat, ct = (q : Int) := by
          have h1 := hone.in32
          unfold Rm.In32 at h1
          simp only at h1
          exact ⟨⟨pg.toNat, by omega⟩, ⟨ct.toNat, by omega⟩⟩
        have hp4 : p < 4294967296 := by have h1 := hone.in32; unfold Rm.In32 at h1; simp only at h1; omega
        have hq4 : q < 4294967296 := by have h1 := hone.in32; unfold Rm.In32 at h1; simp only at h1; omega
        have hnm := hin.nm
        simp only [Int.toNat_natCast] at hnl hnx hnm c0 c1 c2
        have HNM := Lib.hid hnm
        have HN := Lib.hid hnx
        have HUK := HU.out k
        have hsz := txt_size nm
        have hw8 : ((txt nm).size : Int) % 256 = (nm.length : Int) := by rw [hsz]; omega
        have hw8b : IntKind.u8.wrap ((txt nm).size : Int) = (nm.length : Int) := by rw [IntKind.wrap_u8]; exact hw8
        have wp2 : IntKind.u64.wrap (p : Int) = (p : Int) := IntWalk.u64_in _ ⟨by omega, by omega⟩
        have wq2 : IntKind.u64.wrap (q : Int) = (q : Int) := IntWalk.u64_in _ ⟨by omega, by omega⟩
        have wp1 : (p : Int) % 18446744073709551616 = (p : Int) := by omega
        have wq1 : (q : Int) % 18446744073709551616 = (q : Int) := by omega
        have KS : Hid (∀ W : World, Below wB.heap.size wB W → W.cell? ⟨bb, off + k * 3, none⟩ = some (.string (txt nm)) ∧ W.cell? ⟨bb, off + k * 3 + 1, none⟩ = some (.int .i64 (p : Int)) ∧ W.cell? ⟨bb, off + k * 3 + 2, none⟩ = some (.int .i64 (q : Int))) := fun W hW => by
          have hb := HBW.out W hW
          exact ⟨(hb.cell (p := ⟨bb, off + k * 3, none⟩) hbb).trans c0, (hb.cell (p := ⟨bb, off + k * 3 + 1, none⟩) hbb).trans c1, (hb.cell (p := ⟨bb, off + k * 3 + 2, none⟩) hbb).trans c2⟩
        have SS := KS.out _ HO.out.bel
        clear hx hin hone hnx hnm hsz c0 c1 c2
        go_wp2_with fail
        have HOD : Hid (OwnB wB wr.drew ov (upTo L k)) := ⟨HO.out.own, HO.out.bel.drew, HO.out.lt⟩
        refine wp_region_noPanic ?_
        refine wp_region_held_drew (S := (fun w' : World => w'.cell? ⟨bb, off + k * 3, none⟩ = some (.string (txt nm)) ∧ w'.cell? ⟨bb, off + k * 3 + 1, none⟩ = some (.int .i64 (p : Int)) ∧ w'.cell? ⟨bb, off + k * 3 + 2, none⟩ = some (.int .i64 (q : Int)))) (by kernel_rfl) (by exact SS) (fun hHeld => ?_)
        generalize wr.drew = wd at *
        refine wpAnyH_take (i := 0) (oi := { dst := some 21, op := Go.Op.move (Go.Operand.tmp 3), type := 23, pos := "ref.go:42", after := #[], guard := none }) (v := ?_) rfl (by kernel_rfl) (by kernel_rfl) (by kernel_rfl) (fun _ _ _ h => h) (Or.inl ⟨by rfl, ?_⟩) (by assumption) ?_
        rotate_left
        · (intro w hSw; (try dsimp only at hSw); go_simp; try with_reducible rfl)
        try simp only [Act.put, List.setIfInBounds_toArray, List.set_cons_zero, List.set_cons_succ]
        refine wpAnyH_take (i := 1) (oi := { dst := some 22, op := Go.Op.move (Go.Operand.tmp 0), type := 22, pos := "ref.go:42", after := #[], guard := none }) (v := ?_) rfl (by kernel_rfl) (by kernel_rfl) (by kernel_rfl) (fun _ _ _ h => h) (Or.inl ⟨by rfl, ?_⟩) (by assumption) ?_
        rotate_left
        · (intro w hSw; (try dsimp only at hSw); go_simp; try with_reducible rfl)
        try simp only [Act.put, List.setIfInBounds_toArray, List.set_cons_zero, List.set_cons_succ]
        refine wpAnyH_take (i := 2) (oi := { dst := some 23, op := Go.Op.move (Go.Operand.tmp 4), type := 3, pos := "ref.go:42", after := #[], guard := none }) (v := ?_) rfl (by kernel_rfl) (by kernel_rfl) (by kernel_rfl) (fun _ _ _ h => h) (Or.inl ⟨by rfl, ?_⟩) (by assumption) ?_
        rotate_left
        · (intro w hSw; (try dsimp only at hSw); go_simp; try with_reducible rfl)
        try simp only [Act.put, List.setIfInBounds_toArray, List.set_cons_zero, List.set_cons_succ]
        refine wpAnyH_take (i := 3) (oi := { dst := some 24, op := Go.Op.indexAddr 22 (Go.Operand.tmp 22) (Go.Operand.tmp 23), type := 0, pos := "ref.go:42", after := #[{ on := 1, ground := Go.Ground.data }, { on := 2, ground := Go.Ground.data }], guard := none }) (v := ?_) rfl (by kernel_rfl) (by kernel_rfl) (by kernel_rfl) (fun _ _ _ h => h) (Or.inl ⟨by rfl, ?_⟩) (by assumption) ?_
        rotate_left
        · (intro w hSw; (try dsimp only at hSw); go_simp; try with_reducible rfl)
        try simp only [Act.put, List.setIfInBounds_toArray, List.set_cons_zero, List.set_cons_succ]
        refine wpAnyH_take (i := 4) (oi := { dst := some 25, op := Go.Op.fieldAddr 34 (Go.Operand.tmp 24) 0, type := 0, pos := "ref.go:42", after := #[{ on := 3, ground := Go.Ground.data }], guard := none }) (v := ?_) rfl (by kernel_rfl) (by kernel_rfl) (by kernel_rfl) (fun _ _ _ h => h) (Or.inl ⟨by rfl, ?_⟩) (by assumption) ?_
        rotate_left
        · (intro w hSw; (try dsimp only at hSw); go_simp; try with_reducible rfl)
        try simp only [Act.put, List.setIfInBounds_toArray, List.set_cons_zero, List.set_cons_succ]
        refine wpAnyH_take (i := 5) (oi := { dst := some 26, op := Go.Op.load 9 (Go.Operand.tmp 25), type := 9, pos := "ref.go:42", after := #[{ on := 4, ground := Go.Ground.data }], guard := none }) (v := ?_) rfl (by kernel_rfl) (by kernel_rfl) (by kernel_rfl) (fun _ _ _ h => h) (Or.inl ⟨by rfl, ?_⟩) (by assumption) ?_
        rotate_left
        · (intro w hSw; (try dsimp only at hSw); go_simp; try with_reducible rfl)
        try simp only [Act.put, List.setIfInBounds_toArray, List.set_cons_zero, List.set_cons_succ]
        refine wpAnyH_take (i := 6) (oi := { dst := some 27, op := Go.Op.call { callee := Go.Callee.builtin Go.Builtin.len, args := #[Go.Operand.tmp 26], argTypes := #[9] }, type := 3, pos := "ref.go:42", after := #[{ on := 5, ground := Go.Ground.data }], guard := none }) (v := ?_) rfl (by kernel_rfl) (by kernel_rfl) (by kernel_rfl) (fun _ _ _ h => h) (Or.inl ⟨by rfl, ?_⟩) (by assumption) ?_
        rotate_left
        · (intro w hSw; (try dsimp only at hSw); go_simp; try with_reducible rfl)
        try simp only [Act.put, List.setIfInBounds_toArray, List.set_cons_zero, List.set_cons_succ]
        refine wpAnyH_take (i := 7) (oi := { dst := some 28, op := Go.Op.convert 3 5 (Go.Operand.tmp 27), type := 5, pos := "ref.go:42", after := #[{ on := 6, ground := Go.Ground.data }], guard := none }) (v := ?_) rfl (by kernel_rfl) (by kernel_rfl) (by kernel_rfl) (fun _ _ _ h => h) (Or.inl ⟨by rfl, ?_⟩) (by assumption) ?_
        rotate_left
        · (intro w hSw; (try dsimp only at hSw); go_simp; try with_reducible rfl)
        try simp only [Act.put, List.setIfInBounds_toArray, List.set_cons_zero, List.set_cons_succ]
        refine wpAnyH_take (i := 10) (oi := { dst := some 31, op := Go.Op.move (Go.Operand.tmp 0), type := 22, pos := "ref.go:42", after := #[], guard := none }) (v := ?_) rfl (by kernel_rfl) (by kernel_rfl) (by kernel_rfl) (fun _ _ _ h => h) (Or.inl ⟨by rfl, ?_⟩) (by assumption) ?_
        rotate_left
        · (intro w hSw; (try dsimp only at hSw); go_simp; try with_reducible rfl)
        try simp only [Act.put, List.setIfInBounds_toArray, List.set_cons_zero, List.set_cons_succ]
        refine wpAnyH_take (i := 11) (oi := { dst := some 32, op := Go.Op.move (Go.Operand.tmp 4), type := 3, pos := "ref.go:42", after := #[], guard := none }) (v := ?_) rfl (by kernel_rfl) (by kernel_rfl) (by kernel_rfl) (fun _ _ _ h => h) (Or.inl ⟨by rfl, ?_⟩) (by assumption) ?_
        rotate_left
        · (intro w hSw; (try dsimp only at hSw); go_simp; try with_reducible rfl)
        try simp only [Act.put, List.setIfInBounds_toArray, List.set_cons_zero, List.set_cons_succ]
        refine wpAnyH_take (i := 12) (oi := { dst := some 33, op := Go.Op.indexAddr 22 (Go.Operand.tmp 31) (Go.Operand.tmp 32), type := 0, pos := "ref.go:42", after := #[{ on := 10, ground := Go.Ground.data }, { on := 11, ground := Go.Ground.data }], guard := none }) (v := ?_) rfl (by kernel_rfl) (by kernel_rfl) (by kernel_rfl) (fun _ _ _ h => h) (Or.inl ⟨by rfl, ?_⟩) (by assumption) ?_
        rotate_left
        · (intro w hSw; (try dsimp only at hSw); go_simp; try with_reducible rfl)
        try simp only [Act.put, List.setIfInBounds_toArray, List.set_cons_zero, List.set_cons_succ]
        refine wpAnyH_take (i := 13) (oi := { dst := some 34, op := Go.Op.fieldAddr 34 (Go.Operand.tmp 33) 0, type := 0, pos := "ref.go:42", after := #[{ on := 12, ground := Go.Ground.data }], guard := none }) (v := ?_) rfl (by kernel_rfl) (by kernel_rfl) (by kernel_rfl) (fun _ _ _ h => h) (Or.inl ⟨by rfl, ?_⟩) (by assumption) ?_
        rotate_left
        · (intro w hSw; (try dsimp only at hSw); go_simp; try with_reducible rfl)
        try simp only [Act.put, List.setIfInBounds_toArray, List.set_cons_zero, List.set_cons_succ]
        refine wpAnyH_take (i := 14) (oi := { dst := some 35, op := Go.Op.load 9 (Go.Operand.tmp 34), type := 9, pos := "ref.go:42", after := #[{ on := 13, ground := Go.Ground.data }], guard := none }) (v := ?_) rfl (by kernel_rfl) (by kernel_rfl) (by kernel_rfl) (fun _ _ _ h => h) (Or.inl ⟨by rfl, ?_⟩) (by assumption) ?_
        rotate_left
        · (intro w hSw; (try dsimp only at hSw); go_simp; try with_reducible rfl)
        try simp only [Act.put, List.setIfInBounds_toArray, List.set_cons_zero, List.set_cons_succ]
        refine wpAnyH_ready (rs := [8]) (by kernel_rfl) (by simp) ?_
        refine AllReadyH.cons (o := { dst := some 29, op := Go.Op.buildSlice 23 1 #[(0, Go.Operand.tmp 28)], type := 23, pos := "ref.go:42", after := #[{ on := 7, ground := Go.Ground.data }], guard := none }) rfl (fun K hK => ?_) AllReadyH.nil
        go_simp
        have bL := bs_lit1 wd nm.length (by omega)
        have OL := HOD.out.on ((Below.refl _ wd).alloc (Nat.le_refl _) (.cells #[.int .u8 (nm.length : Int)] 5))
        have SL := KS.out _ OL.bel
        generalize wd.alloc (.cells #[.int .u8 (nm.length : Int)] 5) = wL at *
        refine hK.out _ _ (by exact SL) (fun hHeld => ?_)
        clear hK K
        try simp only [Act.put, List.setIfInBounds_toArray, List.set_cons_zero, List.set_cons_succ]
        refine wpAnyH_ready (rs := [9]) (by kernel_rfl) (by simp) ?_
        refine AllReadyH.cons (o := { dst := some 30, op := Go.Op.call { callee := Go.Callee.builtin Go.Builtin.append, args := #[Go.Operand.tmp 21, Go.Operand.tmp 29], argTypes := #[23, 23] }, type := 23, pos := "ref.go:42", after := #[{ on := 0, ground := Go.Ground.data }, { on := 8, ground := Go.Ground.data }], guard := none }) rfl (fun K hK => ?_) AllReadyH.nil
        refine step_append_run rfl (.tmp 21) (.tmp 29) 23 23 rfl _ _ (by rfl) (by rfl) _ (run_addB wB wL _ _ OL _ 1 1 _ bL (by omega) _) ?_
        rintro v7 w7 ⟨O7, G7⟩
        have S7 := KS.out _ O7.bel
        refine hK.out _ _ (by exact S7) (fun hHeld => ?_)
        clear hK K
        try simp only [Act.put, List.setIfInBounds_toArray, List.set_cons_zero, List.set_cons_succ]
        refine wpAnyH_ready (rs := [15]) (by kernel_rfl) (by simp) ?_
        refine AllReadyH.cons (o := { dst := some 36, op := Go.Op.call { callee := Go.Callee.builtin Go.Builtin.append, args := #[Go.Operand.tmp 30, Go.Operand.tmp 35], argTypes := #[23, 9] }, type := 23, pos := "ref.go:42", after := #[{ on := 9, ground := Go.Ground.data }, { on := 14, ground := Go.Ground.data }, { on := 9, ground := Go.Ground.chain }], guard := none }) rfl (fun K hK => ?_) AllReadyH.nil
        refine step_append_run rfl (.tmp 30) (.tmp 35) 23 9 rfl _ _ (by rfl) (by rfl) _ (run_addS wB w7 v7 _ O7 nm HNM.out (by simp; omega) _) ?_
        rintro v8 w8 ⟨O8, G8⟩
        have S8 := KS.out _ O8.bel
        refine hK.out _ _ (by exact S8) (fun hHeld => ?_)
        clear hK K
        try simp only [Act.put, List.setIfInBounds_toArray, List.set_cons_zero, List.set_cons_succ]
        refine wpAnyH_take (i := 16) (oi := { dst := some 3, op := Go.Op.assign (Go.Operand.tmp 36), type := 23, pos := "ref.go:42", after := #[{ on := 15, ground := Go.Ground.data }, { on := 15, ground := Go.Ground.chain }, { on := 0, ground := Go.Ground.phase }, { on := 1, ground := Go.Ground.phase }, { on := 2, ground := Go.Ground.phase }, { on := 3, ground := Go.Ground.phase }, { on := 4, ground := Go.Ground.phase }, { on := 5, ground := Go.Ground.phase }, { on := 6, ground := Go.Ground.phase }, { on := 7, ground := Go.Ground.phase }, { on := 8, ground := Go.Ground.phase }, { on := 9, ground := Go.Ground.phase }, { on := 10, ground := Go.Ground.phase }, { on := 11, ground := Go.Ground.phase }, { on := 12, ground := Go.Ground.phase }, { on := 13, ground := Go.Ground.phase }, { on := 14, ground := Go.Ground.phase }, { on := 15, ground := Go.Ground.phase }], guard := none }) (v := ?_) rfl (by kernel_rfl) (by kernel_rfl) (by kernel_rfl) (fun _ _ _ h => h) (Or.inl ⟨by rfl, ?_⟩) (by assumption) ?_
        rotate_left
        · (intro w hSw; (try dsimp only at hSw); go_simp; try with_reducible rfl)
        try simp only [Act.put, List.setIfInBounds_toArray, List.set_cons_zero, List.set_cons_succ]
        refine wpAnyH_done (by kernel_rfl) ?_ _
        refine NoPanic.normal ?_
        clear bL OL SL O7 G7 S7 G8 S8 SS HOD
        have HO8 := Lib.hid O8
        have S8 := KS.out _ O8.bel
        clear O8
        go_wp2_with fail
        have HOE : Hid (OwnB wB w8.drew v8 _) := ⟨HO8.out.own, HO8.out.bel.drew, HO8.out.lt⟩
        refine wp_region_noPanic ?_
        refine wp_region_held_drew (S := (fun w' : World => w'.cell? ⟨bb, off + k * 3, none⟩ = some (.string (txt nm)) ∧ w'.cell? ⟨bb, off + k * 3 + 1, none⟩ = some (.int .i64 (p : Int)) ∧ w'.cell? ⟨bb, off + k * 3 + 2, none⟩ = some (.int .i64 (q : Int)))) (by kernel_rfl) (by exact S8) (fun hHeld => ?_)
        generalize w8.drew = we at *
        refine wpAnyH_take (i := 0) (oi := { dst := some 37, op := Go.Op.move (Go.Operand.tmp 3), type := 23, pos := "ref.go:43", after := #[], guard := none }) (v := ?_) rfl (by kernel_rfl) (by kernel_rfl) (by kernel_rfl) (fun _ _ _ h => h) (Or.inl ⟨by rfl, ?_⟩) (by assumption) ?_
        rotate_left
        · (intro w hSw; (try dsimp only at hSw); go_simp; try with_reducible rfl)
        try simp only [Act.put, List.setIfInBounds_toArray, List.set_cons_zero, List.set_cons_succ]
        refine wpAnyH_take (i := 1) (oi := { dst := some 38, op := Go.Op.move (Go.Operand.tmp 0), type := 22, pos := "ref.go:43", after := #[], guard := none }) (v := ?_) rfl (by kernel_rfl) (by kernel_rfl) (by kernel_rfl) (fun _ _ _ h => h) (Or.inl ⟨by rfl, ?_⟩) (by assumption) ?_
        rotate_left
        · (intro w hSw; (try dsimp only at hSw); go_simp; try with_reducible rfl)
        try simp only [Act.put, List.setIfInBounds_toArray, List.set_cons_zero, List.set_cons_succ]
        refine wpAnyH_take (i := 2) (oi := { dst := some 39, op := Go.Op.move (Go.Operand.tmp 4), type := 3, pos := "ref.go:43", after := #[], guard := none }) (v := ?_) rfl (by kernel_rfl) (by kernel_rfl) (by kernel_rfl) (fun _ _ _ h => h) (Or.inl ⟨by rfl, ?_⟩) (by assumption) ?_
        rotate_left
        · (intro w hSw; (try dsimp only at hSw); go_simp; try with_reducible rfl)
        try simp only [Act.put, List.setIfInBounds_toArray, List.set_cons_zero, List.set_cons_succ]
        refine wpAnyH_take (i := 3) (oi := { dst := some 40, op := Go.Op.indexAddr 22 (Go.Operand.tmp 38) (Go.Operand.tmp 39), type := 0, pos := "ref.go:43", after := #[{ on := 1, ground := Go.Ground.data }, { on := 2, ground := Go.Ground.data }], guard := none }) (v := ?_) rfl (by kernel_rfl) (by kernel_rfl) (by kernel_rfl) (fun _ _ _ h => h) (Or.inl ⟨by rfl, ?_⟩) (by assumption) ?_
        rotate_left
        · (intro w hSw; (try dsimp only at hSw); go_simp; try with_reducible rfl)
        try simp only [Act.put, List.setIfInBounds_toArray, List.set_cons_zero, List.set_cons_succ]
        refine wpAnyH_take (i := 4) (oi := { dst := some 41, op := Go.Op.fieldAddr 34 (Go.Operand.tmp 40) 1, type := 0, pos := "ref.go:43", after := #[{ on := 3, ground := Go.Ground.data }], guard := none }) (v := ?_) rfl (by kernel_rfl) (by kernel_rfl) (by kernel_rfl) (fun _ _ _ h => h) (Or.inl ⟨by rfl, ?_⟩) (by assumption) ?_
        rotate_left
        · (intro w hSw; (try dsimp only at hSw); go_simp; try with_reducible rfl)
        try simp only [Act.put, List.setIfInBounds_toArray, List.set_cons_zero, List.set_cons_succ]
        refine wpAnyH_take (i := 5) (oi := { dst := some 42, op := Go.Op.load 3 (Go.Operand.tmp 41), type := 3, pos := "ref.go:43", after := #[{ on := 4, ground := Go.Ground.data }], guard := none }) (v := ?_) rfl (by kernel_rfl) (by kernel_rfl) (by kernel_rfl) (fun _ _ _ h => h) (Or.inl ⟨by rfl, ?_⟩) (by assumption) ?_
        rotate_left
        · (intro w hSw; (try dsimp only at hSw); go_simp; try with_reducible rfl)
        try simp only [Act.put, List.setIfInBounds_toArray, List.set_cons_zero, List.set_cons_succ]
        refine wpAnyH_take (i := 6) (oi := { dst := some 43, op := Go.Op.convert 3 48 (Go.Operand.tmp 42), type := 48, pos := "ref.go:43", after := #[{ on := 5, ground := Go.Ground.data }], guard := none }) (v := ?_) rfl (by kernel_rfl) (by kernel_rfl) (by kernel_rfl) (fun _ _ _ h => h) (Or.inl ⟨by rfl, ?_⟩) (by assumption) ?_
        rotate_left
        · (intro w hSw; (try dsimp only at hSw); go_simp; try with_reducible rfl)
        try simp only [Act.put, List.setIfInBounds_toArray, List.set_cons_zero, List.set_cons_succ]
        refine wpAnyH_take (i := 10) (oi := { dst := some 47, op := Go.Op.move (Go.Operand.tmp 0), type := 22, pos := "ref.go:43", after := #[], guard := none }) (v := ?_) rfl (by kernel_rfl) (by kernel_rfl) (by kernel_rfl) (fun _ _ _ h => h) (Or.inl ⟨by rfl, ?_⟩) (by assumption) ?_
        rotate_left
        · (intro w hSw; (try dsimp only at hSw); go_simp; try with_reducible rfl)
        try simp only [Act.put, List.setIfInBounds_toArray, List.set_cons_zero, List.set_cons_succ]
        refine wpAnyH_take (i := 11) (oi := { dst := some 48, op := Go.Op.move (Go.Operand.tmp 4), type := 3, pos := "ref.go:43", after := #[], guard := none }) (v := ?_) rfl (by kernel_rfl) (by kernel_rfl) (by kernel_rfl) (fun _ _ _ h => h) (Or.inl ⟨by rfl, ?_⟩) (by assumption) ?_
        rotate_left
        · (intro w hSw; (try dsimp only at hSw); go_simp; try with_reducible rfl)
        try simp only [Act.put, List.setIfInBounds_toArray, List.set_cons_zero, List.set_cons_succ]
        refine wpAnyH_take (i := 12) (oi := { dst := some 49, op := Go.Op.indexAddr 22 (Go.Operand.tmp 47) (Go.Operand.tmp 48), type := 0, pos := "ref.go:43", after := #[{ on := 10, ground := Go.Ground.data }, { on := 11, ground := Go.Ground.data }], guard := none }) (v := ?_) rfl (by kernel_rfl) (by kernel_rfl) (by kernel_rfl) (fun _ _ _ h => h) (Or.inl ⟨by rfl, ?_⟩) (by assumption) ?_
        rotate_left
        · (intro w hSw; (try dsimp only at hSw); go_simp; try with_reducible rfl)
        try simp only [Act.put, List.setIfInBounds_toArray, List.set_cons_zero, List.set_cons_succ]
        refine wpAnyH_take (i := 13) (oi := { dst := some 50, op := Go.Op.fieldAddr 34 (Go.Operand.tmp 49) 2, type := 0, pos := "ref.go:43", after := #[{ on := 12, ground := Go.Ground.data }], guard := none }) (v := ?_) rfl (by kernel_rfl) (by kernel_rfl) (by kernel_rfl) (fun _ _ _ h => h) (Or.inl ⟨by rfl, ?_⟩) (by assumption) ?_
        rotate_left
        · (intro w hSw; (try dsimp only at hSw); go_simp; try with_reducible rfl)
        try simp only [Act.put, List.setIfInBounds_toArray, List.set_cons_zero, List.set_cons_succ]
        refine wpAnyH_take (i := 14) (oi := { dst := some 51, op := Go.Op.load 3 (Go.Operand.tmp 50), type := 3, pos := "ref.go:43", after := #[{ on := 13, ground := Go.Ground.data }], guard := none }) (v := ?_) rfl (by kernel_rfl) (by kernel_rfl) (by kernel_rfl) (fun _ _ _ h => h) (Or.inl ⟨by rfl, ?_⟩) (by assumption) ?_
        rotate_left
        · (intro w hSw; (try dsimp only at hSw); go_simp; try with_reducible rfl)
        try simp only [Act.put, List.setIfInBounds_toArray, List.set_cons_zero, List.set_cons_succ]
        refine wpAnyH_take (i := 15) (oi := { dst := some 52, op := Go.Op.convert 3 48 (Go.Operand.tmp 51), type := 48, pos := "ref.go:43", after := #[{ on := 14, ground := Go.Ground.data }], guard := none }) (v := ?_) rfl (by kernel_rfl) (by kernel_rfl) (by kernel_rfl) (fun _ _ _ h => h) (Or.inl ⟨by rfl, ?_⟩) (by assumption) ?_
        rotate_left
        · (intro w hSw; (try dsimp only at hSw); go_simp; try with_reducible rfl)
        try simp only [Act.put, List.setIfInBounds_toArray, List.set_cons_zero, List.set_cons_succ]
        refine wpAnyH_ready (rs := [7]) (by kernel_rfl) (by simp) ?_
        refine AllReadyH.cons (o := { dst := some 44, op := Go.Op.call { callee := Go.Callee.value (Go.Operand.func 29), args := #[Go.Operand.tmp 43], argTypes := #[48] }, type := 23, pos := "ref.go:43", after := #[{ on := 6, ground := Go.Ground.data }], guard := none }) rfl (fun K hK => ?_) AllReadyH.nil
        go_simp
        refine (refKey_any we p (by unfold L64; omega)).mono ?_
        rintro e wk ⟨A9, k9, rfl, s9, B9⟩
        obtain ⟨b9, o9, rfl⟩ := s9.some_ (by omega)
        have hk9 := s9.2.1
        have hk9' : ¬ (k9 = 4) := by omega
        have t9 := tail4 s9
        have OK1 := HOE.out.on B9
        have SK1 := KS.out _ OK1.bel
        clear s9 B9
        refine hK.out _ _ (by exact SK1) (fun hHeld => ?_)
        clear hK K
        try simp only [Act.put, List.setIfInBounds_toArray, List.set_cons_zero, List.set_cons_succ]
        refine wpAnyH_take (i := 8) (oi := { dst := some 45, op := Go.Op.slice 23 (Go.Operand.tmp 44) (some (Go.Operand.const (Go.Value.int Go.IntKind.i64 4))) none none, type := 23, pos := "ref.go:43", after := #[{ on := 7, ground := Go.Ground.data }], guard := none }) (v := ?_) rfl (by kernel_rfl) (by kernel_rfl) (by kernel_rfl) (fun _ _ _ h => h) (Or.inl ⟨by rfl, ?_⟩) (by assumption) ?_
        rotate_left
        · (intro w hSw; (try dsimp only at hSw); go_simp; try with_reducible rfl)
        try simp only [Act.put, List.setIfInBounds_toArray, List.set_cons_zero, List.set_cons_succ]
        refine wpAnyH_ready (rs := [9]) (by kernel_rfl) (by simp) ?_
        refine AllReadyH.cons (o := { dst := some 46, op := Go.Op.call { callee := Go.Callee.builtin Go.Builtin.append, args := #[Go.Operand.tmp 37, Go.Operand.tmp 45], argTypes := #[23, 23] }, type := 23, pos := "ref.go:43", after := #[{ on := 0, ground := Go.Ground.data }, { on := 8, ground := Go.Ground.data }, { on := 7, ground := Go.Ground.chain }], guard := none }) rfl (fun K hK => ?_) AllReadyH.nil
        refine step_append_run rfl (.tmp 37) (.tmp 45) 23 23 rfl _ _ (by rfl) (by rfl) _ (run_addB wB wk _ _ OK1 _ 4 _ _ t9 (by simp; omega) _) ?_
        rintro v10 w10 ⟨O10, G10⟩
        have S10 := KS.out _ O10.bel
        refine hK.out _ _ (by exact S10) (fun hHeld => ?_)
        clear hK K
        try simp only [Act.put, List.setIfInBounds_toArray, List.set_cons_zero, List.set_cons_succ]
        refine wpAnyH_ready (rs := [16]) (by kernel_rfl) (by simp) ?_
        refine AllReadyH.cons (o := { dst := some 53, op := Go.Op.call { callee := Go.Callee.value (Go.Operand.func 29), args := #[Go.Operand.tmp 52], argTypes := #[48] }, type := 23, pos := "ref.go:43", after := #[{ on := 15, ground := Go.Ground.data }, { on := 9, ground := Go.Ground.chain }], guard := none }) rfl (fun K hK => ?_) AllReadyH.nil
        go_simp
        refine (refKey_any w10 q (by unfold L64; omega)).mono ?_
        rintro e wm ⟨A6, k6, rfl, s6, B6⟩
        obtain ⟨b6, o6, rfl⟩ := s6.some_ (by omega)
        have hk6 := s6.2.1
        have hk6' : ¬ (k6 = 4) := by omega
        have t6 := tail4 s6
        have OK2 := O10.on B6
        have SK2 := KS.out _ OK2.bel
        clear s6 B6
        refine hK.out _ _ (by exact SK2) (fun hHeld => ?_)
        clear hK K
        try simp only [Act.put, List.setIfInBounds_toArray, List.set_cons_zero, List.set_cons_succ]
        refine wpAnyH_take (i := 17) (oi := { dst := some 54, op := Go.Op.slice 23 (Go.Operand.tmp 53) (some (Go.Operand.const (Go.Value.int Go.IntKind.i64 4))) none none, type := 23, pos := "ref.go:43", after := #[{ on := 16, ground := Go.Ground.data }], guard := none }) (v := ?_) rfl (by kernel_rfl) (by kernel_rfl) (by kernel_rfl) (fun _ _ _ h => h) (Or.inl ⟨by rfl, ?_⟩) (by assumption) ?_
        rotate_left
        · (intro w hSw; (try dsimp only at hSw); go_simp; try with_reducible rfl)
        try simp only [Act.put, List.setIfInBounds_toArray, List.set_cons_zero, List.set_cons_succ]
        refine wpAnyH_ready (rs := [18]) (by kernel_rfl) (by simp) ?_
        refine AllReadyH.cons (o := { dst := some 55, op := Go.Op.call { callee := Go.Callee.builtin Go.Builtin.append, args := #[Go.Operand.tmp 46, Go.Operand.tmp 54], argTypes := #[23, 23] }, type := 23, pos := "ref.go:43", after := #[{ on := 9, ground := Go.Ground.data }, { on := 17, ground := Go.Ground.data }, { on := 16, ground := Go.Ground.chain }], guard := none }) rfl (fun K hK => ?_) AllReadyH.nil
        refine step_append_run rfl (.tmp 46) (.tmp 54) 23 23 rfl _ _ (by rfl) (by rfl) _ (run_addB wB wm _ _ OK2 _ 4 _ _ t6 (by simp [Nm.be_len]; omega) _) ?_
        rintro v18 w18 ⟨O18, G18⟩
        have S18 := KS.out _ O18.bel
        refine hK.out _ _ (by exact S18) (fun hHeld => ?_)
        clear hK K
        try simp only [Act.put, List.setIfInBounds_toArray, List.set_cons_zero, List.set_cons_succ]
        refine wpAnyH_take (i := 19) (oi := { dst := some 3, op := Go.Op.assign (Go.Operand.tmp 55), type := 23, pos := "ref.go:43", after := #[{ on := 18, ground := Go.Ground.data }, { on := 18, ground := Go.Ground.chain }, { on := 0, ground := Go.Ground.phase }, { on := 1, ground := Go.Ground.phase }, { on := 2, ground := Go.Ground.phase }, { on := 3, ground := Go.Ground.phase }, { on := 4, ground := Go.Ground.phase }, { on := 5, ground := Go.Ground.phase }, { on := 6, ground := Go.Ground.phase }, { on := 7, ground := Go.Ground.phase }, { on := 8, ground := Go.Ground.phase }, { on := 9, ground := Go.Ground.phase }, { on := 10, ground := Go.Ground.phase }, { on := 11, ground := Go.Ground.phase }, { on := 12, ground := Go.Ground.phase }, { on := 13, ground := Go.Ground.phase }, { on := 14, ground := Go.Ground.phase }, { on := 15, ground := Go.Ground.phase }, { on := 16, ground := Go.Ground.phase }, { on := 17, ground := Go.Ground.phase }, { on := 18, ground := Go.Ground.phase }], guard := none }) (v := ?_) rfl (by kernel_rfl) (by kernel_rfl) (by kernel_rfl) (fun _ _ _ h => h) (Or.inl ⟨by rfl, ?_⟩) (by assumption) ?_
        rotate_left
        · (intro w hSw; (try dsimp only at hSw); go_simp; try with_reducible rfl)
        try simp only [Act.put, List.setIfInBounds_toArray, List.set_cons_zero, List.set_cons_succ]
        refine wpAnyH_done (by kernel_rfl) ?_ _
        refine NoPanic.normal ?_
        clear t9 t6 OK1 SK1 O10 G10 S10 OK2 SK2 G18 S18 S8 HOE
        rw [← HN.out] at O18
        have HO18 := Lib.hid O18
        clear O18
        go_wp2
        go_roundw
        case rel => exact ⟨k + 1, _, rfl, by omega, by go_num, HO18.out⟩
        case measure => simp [intOf]; omega
      · have hO := HO.out
        rw [upTo_all (by omega)] at hO
        obtain ⟨A5, c5, rfl, R5⟩ := hO.bs
        have HR5 := Lib.hid R5
        have HO5 := Lib.hid (own_le hO.own HWB.out)
        have HB5 := Lib.hid (HBW.out _ hO.bel)
        clear hO R5
        go_wp2_with fail
        go_ret
        exact ⟨A5, c5, rfl, HR5.out, HB5.out, fun _ => HO5.out⟩

end Go.Proofs.Ytbhahihgojhcmaa.Rt
