/-
  The document's With. Laid by gen_rtrfwith.py SEAT.
-/
import Derived.Test.YtbhahihgojhcmaaRtWith
import Derived.Test.YtbhahihgojhcmaaRtRfMay
namespace Go.Proofs.Ytbhahihgojhcmaa.Rt
open Go.RowKit
set_option linter.unusedVariables false

theorem insR_idx (r : Rm.R) : ∀ (M : List Rm.R), M.take (idx (fun x => !Nm.lexLess x.name r.name) M) ++ r :: M.drop (idx (fun x => !Nm.lexLess x.name r.name) M) = Rm.insR M r
  | [] => rfl
  | x :: t => by
    have ih := insR_idx r t
    cases h : Nm.lexLess x.name r.name with
    | false => rw [idx_yes (by simp [h])]; simp [Rm.insR, h]
    | true =>
      rw [idx_no (by simp [h])]
      unfold Rm.insR at *
      simp only [List.take_succ_cons, List.drop_succ_cons, List.cons_append, h, List.takeWhile_cons_of_pos, List.dropWhile_cons_of_pos, ih]
theorem Rs.grown {w w' : World} {A : Option Addr} {n c : Nat} {L : List Rm.R} {row : Option Nat} (h : Rs w A n c L) (hg : w.grownBy w' row) (hn : ∀ a, A = some a → row ≠ some a.block) : Rs w' A n c L :=
  h.off (S := fun k => row = some k) (Off.of_grown hg fun _ e => e) fun a ha => hn a ha
theorem Rb.three {w : World} {g : Nat} {r : Rm.R} (h : Rb w g r) : w.cell? ⟨g, 0, none⟩ = some (.string (txt r.name)) ∧ w.cell? ⟨g, 1, none⟩ = some (.int .i64 r.page) ∧ w.cell? ⟨g, 2, none⟩ = some (.int .i64 r.count) := ⟨h.at_.c0, h.at_.c1, h.at_.c2⟩
theorem own_empty (w : World) (base : Nat) (hb : base ≤ w.heap.size) : (w.alloc (.cells #[] 34)).ownsRow base 34 3 (.slice (some ⟨w.heap.size, 0, none⟩) 0 0) ([] : List Rm.R).length (rcs []) :=
  World.ownsRow_made (base := base) (e := 34) (size := 3) w #[] 0 hb (Nat.zero_le _) rfl

set_option maxRecDepth 100000 in
set_option maxHeartbeats 2000000 in
theorem rfWith_any (w : World) (A : Option Addr) (n c : Nat) (L : List Rm.R) (r : Rm.R) (h : Rs w A n c L) (hr : In r) (hm : n ≤ 1000) :
    Calls Try.prog 17 #[.slice A n c, rv r] w fun e w' => WithSays w L r e w' := by
  have B0 : Below w.heap.size w (w.alloc (.cells #[.string (txt r.name), .int .i64 r.page, .int .i64 r.count] 34)) := (Below.refl _ _).alloc (Nat.le_refl _) _
  have K0 := Rb.new w r
  have R0 := h.on B0
  have C0 := Lib.hid (one_any (w.alloc (.cells #[.string (txt r.name), .int .i64 r.page, .int .i64 r.count] 34)) r hr)
  obtain ⟨c0, c1, c2⟩ := K0.at_
  have HIN := Lib.hid hr
  have HB0 := Lib.hid B0
  have HK0 := Lib.hid K0
  have HR0 := Lib.hid R0
  have HLS := Lib.hid less_any
  clear h hr B0 K0 R0
  unfold rv at *
  go_enter Try.func17, Try.ntmps17
  go_wp2_with fail
  generalize w.alloc (.cells #[.string (txt r.name), .int .i64 r.page, .int .i64 r.count] 34) = w0 at *
  refine C0.out.mono ?_
  rintro e w1 ⟨rfl, b1⟩
  have HB1 := Lib.hid (onto HB0.out b1)
  have HK1 := Lib.hid (HK0.out.on b1)
  have HR1 := Lib.hid (HR0.out.on b1)
  have hs1 := b1.size
  clear c0 c1 c2 C0 HB0 HR0 HK0 b1
  by_cases hone : Rm.One r
  · rw [decide_eq_true hone]
    obtain ⟨c0, c1, c2⟩ := HK1.out.at_
    have C1 := Lib.hid (rfWithout_any w1 A n c L r.name HR1.out HIN.out.nm hm)
    have HC : Hid (withCode L r = if 12 ≤ (Rm.without L r.name).length then 6 else 0) := if_pos hone
    have hwl := Rm.without_len L r.name
    have hLn := HR1.out.1
    have hall : ∀ x ∈ Rm.without L r.name, x.name ≠ r.name := fun x hx => (Rm.without_mem.1 hx).2
    go_wp2_with fail
    refine C1.out.mono ?_
    rintro e w2 ⟨v2, rfl, O2⟩
    have b2 := O2.bel
    have HK2 := Lib.hid (HK1.out.on b2)
    have HB2 := Lib.hid (onto HB1.out b2)
    have hform : ∃ A2 m c2', v2 = .slice A2 m c2' ∧ Rs w2 A2 m c2' (Rm.without L r.name) ∧ m = (Rm.without L r.name).length ∧ ((A2 = none ∧ c2' = 0 ∧ m = 0) ∨ ∃ b off, A2 = some ⟨b, off, none⟩) := by
      obtain ⟨A2, c2', e2, R2⟩ := rs_own O2.own O2.all
      rcases O2.own.2 with ⟨ev, h0⟩ | ⟨g, cap, cur, ev, _⟩
      · rw [e2] at ev
        injection ev with e3 e4 e5
        exact ⟨A2, _, c2', e2, R2, rfl, .inl ⟨e3, e5, e4⟩⟩
      · rw [e2] at ev
        injection ev with e3 e4 e5
        exact ⟨A2, _, c2', e2, R2, rfl, .inr ⟨g, 0, e3⟩⟩
    obtain ⟨A2, m, c2', rfl, R2, hml, hform⟩ := hform
    have HR2 := Lib.hid R2
    have hcm := R2.2.2.1
    have hmc := R2.2.1
    unfold maxLen at hcm
    have HQ := Lib.hid (Rm.ins_insR (Rm.without L r.name) r hall)
    generalize hM : Rm.without L r.name = M at *
    have HM := Lib.hid hM
    have hs2 := b2.size
    have HML := Lib.hid hml
    have HFM := Lib.hid hform
    have hm2 : m ≤ 1000 := by omega
    clear c0 c1 c2 C1 O2 b2 HR1 hone hM R2 hall hml hform hwl
    by_cases h12 : (12 : Int) ≤ (m : Int)
    · have hc6 : withCode L r = 6 := by rw [HC.out, if_pos (by rw [← HML.out]; omega)]
      have HC6 := Lib.hid hc6
      clear hc6
      go_wp2_with fail
      go_ret2
      exact with_no (k := 6) HC6.out (by decide) HB2.out
    · have hc0 : withCode L r = 0 := by rw [HC.out, if_neg (by rw [← HML.out]; omega)]
      have HC0 := Lib.hid hc0
      have HII := Lib.hid (insR_idx r M)
      have HFIN : Hid (∀ (k base : Nat) (v : Value) (W : World), k = idx (fun x => !Nm.lexLess x.name r.name) M → W.ownsRow base 34 3 v (M.take k ++ [r] ++ M.drop k).length (rcs (M.take k ++ [r] ++ M.drop k)) → Below w2.heap.size w2 W → WithSays w L r (.returned (.tuple #[v, .int .i64 0])) W) := by
        intro k base v W hk hO hB
        obtain ⟨A5, c5, rfl, R5⟩ := rs_own hO (fun x hx => by
          simp only [List.append_assoc, List.mem_append, List.mem_singleton] at hx
          rcases hx with hx | rfl | hx
          · exact HR2.out.2.2.2.1 x (List.mem_of_mem_take hx)
          · exact HIN.out
          · exact HR2.out.2.2.2.1 x (List.mem_of_mem_drop hx))
        refine ⟨A5, _, c5, by rw [HC0.out]; rfl, ?_, HB2.out.trans (hB.mono HB2.out.size)⟩
        unfold withL
        rw [if_pos HC0.out, HM.out, ← HQ.out, ← HII.out, ← hk]
        simpa using R5
      clear hc0 HII HQ HM HC0 HC
      have KR := Lib.hid (fun (W : World) (hW : Below w2.heap.size w2 W) => (HK2.out.on hW).three)
      go_wp2_with fail
      go_loopw [7] (fun i wr => ∃ (k : Nat), k ≤ m ∧ i = .int .i64 (k : Int) ∧ Hid (idx (fun x => !Nm.lexLess x.name r.name) M = k + idx (fun x => !Nm.lexLess x.name r.name) (M.drop k)) ∧ Below w2.heap.size w2 wr) (fun i _ => m - (intOf i).toNat)
      case atStart => exact ⟨0, Nat.zero_le _, rfl, by show _ = _; simp, Below.refl _ _⟩
      case round =>
        obtain ⟨k, hk, rfl, HI, hbel⟩ := hrel
        have HBR := Lib.hid hbel
        have hgr := KR.out wr hbel
        by_cases hlt : k < m
        · obtain ⟨bb, off, x, rfl, hbb, hx, hin, hat⟩ := (HR2.out.on hbel).get hlt
          have d0 := hat.c0
          have hI := HI.out
          rw [drop_at hx] at hI
          have HINX := Lib.hid hin
          obtain ⟨B, hBB⟩ : ∃ B, Nm.lexLess x.name r.name = B := ⟨_, rfl⟩
          have HLS1 : Hid (∀ (W : World) (A A' : Option Addr) (c c' : Nat), Bs W A x.name.length c x.name → Bs W A' r.name.length c' r.name → Calls Try.prog 28 #[.slice A x.name.length c, .slice A' r.name.length c'] W fun e w' => e = .returned (.bool B) ∧ ∃ m, w' = W.drewN m) := fun W A A' c c' h1 h2 => by
            have := HLS.out W A A' _ c _ c' x.name r.name h1 h2
            rwa [hBB] at this
          have KX := Lib.hid (fun (W : World) (hW : Below wr.heap.size wr W) => (hW.cell (p := ⟨bb, off + k * 3, none⟩) hbb).trans d0)
          have SX := KX.out _ (Below.refl _ wr)
          have HYB : Hid (B = true → idx (fun x => !Nm.lexLess x.name r.name) M = (k + 1) + idx (fun x => !Nm.lexLess x.name r.name) (M.drop (k + 1))) := fun h => by
            rw [hI, idx_no (by rw [hBB, h]; rfl)]; omega
          have HNB : Hid (B = false → k = idx (fun x => !Nm.lexLess x.name r.name) M) := fun h => by
            rw [hI, idx_yes (by rw [hBB, h]; rfl)]; rfl
          clear hx hin hat hI hBB d0 HI
          go_wp2_with fail
          have hltb : decide (k < m) = true := by simp; omega
          have hltc : decide ((k : Int) < (m : Int)) = true := by simp; omega
          have SR := hgr.1
          refine wp_region_noPanic ?_
          refine wp_region_held_drew (S := (fun w' : World => w'.cell? ⟨w.heap.size, 0, none⟩ = some (.string (txt r.name)) ∧ w'.cell? ⟨bb, off + k * 3, none⟩ = some (.string (txt x.name)))) (by kernel_rfl) (by exact ⟨SR, SX⟩) (fun hHeld => ?_)
          refine wpAnyH_take (i := 0) (oi := { dst := some 18, op := Go.Op.move (Go.Operand.tmp 7), type := 3, pos := "ref.go:110", after := #[], guard := none }) (v := ?_) rfl (by kernel_rfl) (by kernel_rfl) (by kernel_rfl) (fun _ _ _ h => h) (Or.inl ⟨by rfl, ?_⟩) (by assumption) ?_
          rotate_left
          · (intro w hSw; (try dsimp only at hSw); go_simp; try with_reducible rfl)
          try simp only [Act.put, List.setIfInBounds_toArray, List.set_cons_zero, List.set_cons_succ]
          refine wpAnyH_take (i := 1) (oi := { dst := some 19, op := Go.Op.move (Go.Operand.tmp 6), type := 22, pos := "ref.go:110", after := #[], guard := none }) (v := ?_) rfl (by kernel_rfl) (by kernel_rfl) (by kernel_rfl) (fun _ _ _ h => h) (Or.inl ⟨by rfl, ?_⟩) (by assumption) ?_
          rotate_left
          · (intro w hSw; (try dsimp only at hSw); go_simp; try with_reducible rfl)
          try simp only [Act.put, List.setIfInBounds_toArray, List.set_cons_zero, List.set_cons_succ]
          refine wpAnyH_take (i := 2) (oi := { dst := some 20, op := Go.Op.call { callee := Go.Callee.builtin Go.Builtin.len, args := #[Go.Operand.tmp 19], argTypes := #[22] }, type := 3, pos := "ref.go:110", after := #[{ on := 1, ground := Go.Ground.data }], guard := none }) (v := ?_) rfl (by kernel_rfl) (by kernel_rfl) (by kernel_rfl) (fun _ _ _ h => h) (Or.inl ⟨by rfl, ?_⟩) (by assumption) ?_
          rotate_left
          · (intro w hSw; (try dsimp only at hSw); go_simp; try with_reducible rfl)
          try simp only [Act.put, List.setIfInBounds_toArray, List.set_cons_zero, List.set_cons_succ]
          refine wpAnyH_take (i := 3) (oi := { dst := some 21, op := Go.Op.binOp Go.BinOp.lss 3 (Go.Operand.tmp 18) (Go.Operand.tmp 20) 3, type := 4, pos := "ref.go:110", after := #[{ on := 0, ground := Go.Ground.data }, { on := 2, ground := Go.Ground.data }], guard := none }) (v := ?_) rfl (by kernel_rfl) (by kernel_rfl) (by kernel_rfl) (fun _ _ _ h => h) (Or.inl ⟨by rfl, ?_⟩) (by assumption) ?_
          rotate_left
          · (intro w hSw; (try dsimp only at hSw); go_simp; try with_reducible rfl)
          try simp only [Act.put, List.setIfInBounds_toArray, List.set_cons_zero, List.set_cons_succ]
          refine wpAnyH_take (i := 4) (oi := { dst := some 22, op := Go.Op.move (Go.Operand.tmp 21), type := 4, pos := "ref.go:110", after := #[{ on := 3, ground := Go.Ground.data }], guard := none }) (v := ?_) rfl (by kernel_rfl) (by kernel_rfl) (by kernel_rfl) (fun _ _ _ h => h) (Or.inl ⟨by rfl, ?_⟩) (by assumption) ?_
          rotate_left
          · (intro w hSw; (try dsimp only at hSw); go_simp; try with_reducible rfl)
          try simp only [Act.put, List.setIfInBounds_toArray, List.set_cons_zero, List.set_cons_succ]
          refine wpAnyH_take (i := 5) (oi := { dst := some 23, op := Go.Op.move (Go.Operand.tmp 6), type := 22, pos := "ref.go:110", after := #[{ on := 4, ground := Go.Ground.guard }], guard := some (4, true) }) (v := ?_) rfl (by kernel_rfl) (by kernel_rfl) (by kernel_rfl) (fun _ _ _ h => h) (Or.inl ⟨by rfl, ?_⟩) (by assumption) ?_
          rotate_left
          · (intro w hSw; (try dsimp only at hSw); go_simp; try with_reducible rfl)
          try simp only [Act.put, List.setIfInBounds_toArray, List.set_cons_zero, List.set_cons_succ]
          refine wpAnyH_take (i := 6) (oi := { dst := some 24, op := Go.Op.move (Go.Operand.tmp 7), type := 3, pos := "ref.go:110", after := #[{ on := 4, ground := Go.Ground.guard }], guard := some (4, true) }) (v := ?_) rfl (by kernel_rfl) (by kernel_rfl) (by kernel_rfl) (fun _ _ _ h => h) (Or.inl ⟨by rfl, ?_⟩) (by assumption) ?_
          rotate_left
          · (intro w hSw; (try dsimp only at hSw); go_simp; try with_reducible rfl)
          try simp only [Act.put, List.setIfInBounds_toArray, List.set_cons_zero, List.set_cons_succ]
          refine wpAnyH_take (i := 7) (oi := { dst := some 25, op := Go.Op.indexAddr 22 (Go.Operand.tmp 23) (Go.Operand.tmp 24), type := 0, pos := "ref.go:110", after := #[{ on := 5, ground := Go.Ground.data }, { on := 6, ground := Go.Ground.data }, { on := 4, ground := Go.Ground.guard }], guard := some (4, true) }) (v := ?_) rfl (by kernel_rfl) (by kernel_rfl) (by kernel_rfl) (fun _ _ _ h => h) (Or.inl ⟨by rfl, ?_⟩) (by assumption) ?_
          rotate_left
          · (intro w hSw; (try dsimp only at hSw); go_simp; try with_reducible rfl)
          try simp only [Act.put, List.setIfInBounds_toArray, List.set_cons_zero, List.set_cons_succ]
          refine wpAnyH_take (i := 8) (oi := { dst := some 26, op := Go.Op.fieldAddr 34 (Go.Operand.tmp 25) 0, type := 0, pos := "ref.go:110", after := #[{ on := 7, ground := Go.Ground.data }, { on := 4, ground := Go.Ground.guard }], guard := some (4, true) }) (v := ?_) rfl (by kernel_rfl) (by kernel_rfl) (by kernel_rfl) (fun _ _ _ h => h) (Or.inl ⟨by rfl, ?_⟩) (by assumption) ?_
          rotate_left
          · (intro w hSw; (try dsimp only at hSw); go_simp; try with_reducible rfl)
          try simp only [Act.put, List.setIfInBounds_toArray, List.set_cons_zero, List.set_cons_succ]
          refine wpAnyH_take (i := 9) (oi := { dst := some 27, op := Go.Op.load 9 (Go.Operand.tmp 26), type := 9, pos := "ref.go:110", after := #[{ on := 8, ground := Go.Ground.data }, { on := 4, ground := Go.Ground.guard }], guard := some (4, true) }) (v := ?_) rfl (by kernel_rfl) (by kernel_rfl) (by kernel_rfl) (fun _ _ _ h => h) (Or.inl ⟨by rfl, ?_⟩) (by assumption) ?_
          rotate_left
          · (intro w hSw; (try dsimp only at hSw); go_simp; try with_reducible rfl)
          try simp only [Act.put, List.setIfInBounds_toArray, List.set_cons_zero, List.set_cons_succ]
          refine wpAnyH_take (i := 11) (oi := { dst := some 29, op := Go.Op.fieldAddr 34 (Go.Operand.tmp 3) 0, type := 0, pos := "ref.go:110", after := #[{ on := 4, ground := Go.Ground.guard }], guard := some (4, true) }) (v := ?_) rfl (by kernel_rfl) (by kernel_rfl) (by kernel_rfl) (fun _ _ _ h => h) (Or.inl ⟨by rfl, ?_⟩) (by assumption) ?_
          rotate_left
          · (intro w hSw; (try dsimp only at hSw); go_simp; try with_reducible rfl)
          try simp only [Act.put, List.setIfInBounds_toArray, List.set_cons_zero, List.set_cons_succ]
          refine wpAnyH_take (i := 12) (oi := { dst := some 30, op := Go.Op.load 9 (Go.Operand.tmp 29), type := 9, pos := "ref.go:110", after := #[{ on := 11, ground := Go.Ground.data }, { on := 4, ground := Go.Ground.guard }], guard := some (4, true) }) (v := ?_) rfl (by kernel_rfl) (by kernel_rfl) (by kernel_rfl) (fun _ _ _ h => h) (Or.inl ⟨by rfl, ?_⟩) (by assumption) ?_
          rotate_left
          · (intro w hSw; (try dsimp only at hSw); go_simp; try with_reducible rfl)
          try simp only [Act.put, List.setIfInBounds_toArray, List.set_cons_zero, List.set_cons_succ]
          have BD := Lib.hid ((Below.refl wr.heap.size wr).drew)
          obtain ⟨cy, wA, hcy, ry, bA, _⟩ := conv_any wr.drew x.name HINX.out.nm HINX.out.len
          obtain ⟨cx, wB, hcx, rx, bB, _⟩ := conv_any wr.drew r.name HIN.out.nm HIN.out.len
          refine wpAnyH_ready (rs := [10, 13]) (by kernel_rfl) (by simp) ?_
          refine AllReadyH.cons (o := { dst := some 28, op := Go.Op.convert 9 23 (Go.Operand.tmp 27), type := 23, pos := "ref.go:110", after := #[{ on := 9, ground := Go.Ground.data }, { on := 4, ground := Go.Ground.guard }], guard := some (4, true) }) rfl (fun K hK => ?_) (AllReadyH.cons (o := { dst := some 31, op := Go.Op.convert 9 23 (Go.Operand.tmp 30), type := 23, pos := "ref.go:110", after := #[{ on := 12, ground := Go.Ground.data }, { on := 4, ground := Go.Ground.guard }], guard := some (4, true) }) rfl (fun K hK => ?_) AllReadyH.nil)
          · skip
            have BC := Lib.hid (onto BD.out bA)
            go_simp
            refine hK.out _ _ (by exact ⟨(KR.out _ (onto HBR.out BC.out)).1, KX.out _ BC.out⟩) (fun hHeld => ?_)
            clear hK K
            try simp only [Act.put, List.setIfInBounds_toArray, List.set_cons_zero, List.set_cons_succ]
            clear hcy hcx
            obtain ⟨cz, wD, hcz, rz, bD, _⟩ := conv_any wA r.name HIN.out.nm HIN.out.len
            have BE := Lib.hid (onto BC.out bD)
            refine wpAnyH_ready (rs := [13]) (by kernel_rfl) (by simp) ?_
            refine AllReadyH.cons (o := { dst := some 31, op := Go.Op.convert 9 23 (Go.Operand.tmp 30), type := 23, pos := "ref.go:110", after := #[{ on := 12, ground := Go.Ground.data }, { on := 4, ground := Go.Ground.guard }], guard := some (4, true) }) rfl (fun K hK => ?_) AllReadyH.nil
            go_simp
            refine hK.out _ _ (by exact ⟨(KR.out _ (onto HBR.out BE.out)).1, KX.out _ BE.out⟩) (fun hHeld => ?_)
            clear hK K
            try simp only [Act.put, List.setIfInBounds_toArray, List.set_cons_zero, List.set_cons_succ]
            refine wpAnyH_ready (rs := [14]) (by kernel_rfl) (by simp) ?_
            refine AllReadyH.cons (o := { dst := some 32, op := Go.Op.call { callee := Go.Callee.value (Go.Operand.func 28), args := #[Go.Operand.tmp 28, Go.Operand.tmp 31], argTypes := #[23, 23] }, type := 4, pos := "ref.go:110", after := #[{ on := 10, ground := Go.Ground.data }, { on := 13, ground := Go.Ground.data }, { on := 4, ground := Go.Ground.chain }, { on := 4, ground := Go.Ground.guard }], guard := some (4, true) }) rfl (fun K hK => ?_) AllReadyH.nil
            go_simp
            refine (HLS1.out _ _ _ _ _ (ry.on bD) rz).mono ?_
            rintro e w4 ⟨rfl, m4, rfl⟩
            have BF := Lib.hid (below_drewN BE.out m4)
            refine hK.out _ _ (by exact ⟨(KR.out _ (onto HBR.out BF.out)).1, KX.out _ BF.out⟩) (fun hHeld => ?_)
            clear hK K
            try simp only [Act.put, List.setIfInBounds_toArray, List.set_cons_zero, List.set_cons_succ]
            refine wpAnyH_take (i := 15) (oi := { dst := some 33, op := Go.Op.pick (Go.Operand.tmp 22) (Go.Operand.tmp 32) (Go.Operand.const (Go.Value.bool false)), type := 4, pos := "ref.go:110", after := #[{ on := 4, ground := Go.Ground.data }, { on := 14, ground := Go.Ground.data }], guard := none }) (v := ?_) rfl (by kernel_rfl) (by kernel_rfl) (by kernel_rfl) (fun _ _ _ h => h) (Or.inl ⟨by rfl, ?_⟩) (by assumption) ?_
            rotate_left
            · (intro w hSw; (try dsimp only at hSw); go_simp; try with_reducible rfl)
            try simp only [Act.put, List.setIfInBounds_toArray, List.set_cons_zero, List.set_cons_succ]
            refine wpAnyH_done (by kernel_rfl) ?_ _
            refine NoPanic.normal ?_
            have BZ := Lib.hid (onto HBR.out BF.out)
            clear SR hgr SX
            generalize wD.drewN m4 = wz at *
            cases B
            · have HKE := Lib.hid (HNB.out rfl)
              have hgz := KR.out wz BZ.out
              have hbz := BZ.out.size
              rcases Nat.lt_or_ge 0 1 with _ | h01
              rotate_left
              · omega
              · by_cases hci : c2' = k
                · skip
                  have hkm : k = m := by omega
                  subst hkm hci
                  have HT := Lib.hid (fun W (hW : Below w2.heap.size w2 W) => (HR2.out.on hW).first c2' (Nat.le_refl _))
                  have HD : Hid (∀ W : World, Below w2.heap.size w2 W → Rs W (some ⟨bb, off, none⟩) 0 0 (M.drop c2')) := fun W hW => by
                    rw [List.drop_eq_nil_of_le (by have := HML.out; omega)]; exact Rs.nil_ _ _ _ (Nat.zero_le _)
                  obtain ⟨g0, g1, g2⟩ := hgz
                  go_wp2_with fail
                  have BD := Lib.hid BZ.out.drew
                  refine wp_region_noPanic ?_
                  refine wp_region_held_drew (S := (fun w' : World => w'.cell? ⟨w.heap.size, 0, none⟩ = some (.string (txt r.name)) ∧ w'.cell? ⟨w.heap.size, 1, none⟩ = some (.int .i64 r.page) ∧ w'.cell? ⟨w.heap.size, 2, none⟩ = some (.int .i64 r.count))) (by kernel_rfl) (by exact ⟨g0, g1, g2⟩) (fun hHeld => ?_)
                  generalize wz.drew = wd at *
                  refine wpAnyH_take (i := 1) (oi := { dst := some 37, op := Go.Op.move (Go.Operand.tmp 6), type := 22, pos := "ref.go:113", after := #[], guard := none }) (v := ?_) rfl (by kernel_rfl) (by kernel_rfl) (by kernel_rfl) (fun _ _ _ h => h) (Or.inl ⟨by rfl, ?_⟩) (by assumption) ?_
                  rotate_left
                  · (intro w hSw; (try dsimp only at hSw); go_simp; try with_reducible rfl)
                  try simp only [Act.put, List.setIfInBounds_toArray, List.set_cons_zero, List.set_cons_succ]
                  refine wpAnyH_take (i := 2) (oi := { dst := some 38, op := Go.Op.move (Go.Operand.tmp 7), type := 3, pos := "ref.go:113", after := #[], guard := none }) (v := ?_) rfl (by kernel_rfl) (by kernel_rfl) (by kernel_rfl) (fun _ _ _ h => h) (Or.inl ⟨by rfl, ?_⟩) (by assumption) ?_
                  rotate_left
                  · (intro w hSw; (try dsimp only at hSw); go_simp; try with_reducible rfl)
                  try simp only [Act.put, List.setIfInBounds_toArray, List.set_cons_zero, List.set_cons_succ]
                  refine wpAnyH_take (i := 3) (oi := { dst := some 39, op := Go.Op.slice 22 (Go.Operand.tmp 37) none (some (Go.Operand.tmp 38)) none, type := 22, pos := "ref.go:113", after := #[{ on := 1, ground := Go.Ground.data }, { on := 2, ground := Go.Ground.data }], guard := none }) (v := ?_) rfl (by kernel_rfl) (by kernel_rfl) (by kernel_rfl) (fun _ _ _ h => h) (Or.inl ⟨by rfl, ?_⟩) (by assumption) ?_
                  rotate_left
                  · (intro w hSw; (try dsimp only at hSw); go_simp; try with_reducible rfl)
                  try simp only [Act.put, List.setIfInBounds_toArray, List.set_cons_zero, List.set_cons_succ]
                  refine wpAnyH_take (i := 5) (oi := { dst := some 41, op := Go.Op.load 34 (Go.Operand.tmp 3), type := 34, pos := "ref.go:113", after := #[], guard := none }) (v := ?_) rfl (by kernel_rfl) (by kernel_rfl) (by kernel_rfl) (fun _ _ _ h => h) (Or.inl ⟨by rfl, ?_⟩) (by assumption) ?_
                  rotate_left
                  · (intro w hSw; (try dsimp only at hSw); go_simp; try with_reducible rfl)
                  try simp only [Act.put, List.setIfInBounds_toArray, List.set_cons_zero, List.set_cons_succ]
                  refine wpAnyH_take (i := 8) (oi := { dst := some 44, op := Go.Op.move (Go.Operand.tmp 6), type := 22, pos := "ref.go:113", after := #[], guard := none }) (v := ?_) rfl (by kernel_rfl) (by kernel_rfl) (by kernel_rfl) (fun _ _ _ h => h) (Or.inl ⟨by rfl, ?_⟩) (by assumption) ?_
                  rotate_left
                  · (intro w hSw; (try dsimp only at hSw); go_simp; try with_reducible rfl)
                  try simp only [Act.put, List.setIfInBounds_toArray, List.set_cons_zero, List.set_cons_succ]
                  refine wpAnyH_take (i := 9) (oi := { dst := some 45, op := Go.Op.move (Go.Operand.tmp 7), type := 3, pos := "ref.go:113", after := #[], guard := none }) (v := ?_) rfl (by kernel_rfl) (by kernel_rfl) (by kernel_rfl) (fun _ _ _ h => h) (Or.inl ⟨by rfl, ?_⟩) (by assumption) ?_
                  rotate_left
                  · (intro w hSw; (try dsimp only at hSw); go_simp; try with_reducible rfl)
                  try simp only [Act.put, List.setIfInBounds_toArray, List.set_cons_zero, List.set_cons_succ]
                  refine wpAnyH_take (i := 10) (oi := { dst := some 46, op := Go.Op.slice 22 (Go.Operand.tmp 44) (some (Go.Operand.tmp 45)) none none, type := 22, pos := "ref.go:113", after := #[{ on := 8, ground := Go.Ground.data }, { on := 9, ground := Go.Ground.data }], guard := none }) (v := ?_) rfl (by kernel_rfl) (by kernel_rfl) (by kernel_rfl) (fun _ _ _ h => h) (Or.inl ⟨by rfl, ?_⟩) (by assumption) ?_
                  rotate_left
                  · (intro w hSw; (try dsimp only at hSw); go_simp; try with_reducible rfl)
                  try simp only [Act.put, List.setIfInBounds_toArray, List.set_cons_zero, List.set_cons_succ]
                  refine wpAnyH_ready (rs := [0, 6]) (by kernel_rfl) (by simp) ?_
                  refine AllReadyH.cons (o := { dst := some 36, op := Go.Op.buildSlice 22 0 #[], type := 22, pos := "ref.go:113", after := #[], guard := none }) rfl (fun K hK => ?_) (AllReadyH.cons (o := { dst := some 42, op := Go.Op.buildSlice 22 1 #[(0, Go.Operand.tmp 41)], type := 22, pos := "ref.go:113", after := #[{ on := 5, ground := Go.Ground.data }], guard := none }) rfl (fun K hK => ?_) AllReadyH.nil)
                  · skip
                    go_simp
                    have OA := own_empty wd w2.heap.size BD.out.size
                    have BA := Lib.hid (BD.out.alloc BD.out.size (.cells #[] 34))
                    have SA := KR.out _ BA.out
                    generalize wd.alloc (.cells #[] 34) = wA at *
                    refine hK.out _ _ (by exact SA) (fun hHeld => ?_)
                    clear hK K
                    try simp only [Act.put, List.setIfInBounds_toArray, List.set_cons_zero, List.set_cons_succ]
                    refine wpAnyH_ready (rs := [4, 6]) (by kernel_rfl) (by simp) ?_
                    refine AllReadyH.cons (o := { dst := some 40, op := Go.Op.call { callee := Go.Callee.builtin Go.Builtin.append, args := #[Go.Operand.tmp 36, Go.Operand.tmp 39], argTypes := #[22, 22] }, type := 22, pos := "ref.go:113", after := #[{ on := 0, ground := Go.Ground.data }, { on := 3, ground := Go.Ground.data }], guard := none }) rfl (fun K hK => ?_) (AllReadyH.cons (o := { dst := some 42, op := Go.Op.buildSlice 22 1 #[(0, Go.Operand.tmp 41)], type := 22, pos := "ref.go:113", after := #[{ on := 5, ground := Go.Ground.data }], guard := none }) rfl (fun K hK => ?_) AllReadyH.nil)
                    · skip
                      refine step_append_run rfl (.tmp 36) (.tmp 39) 22 22 rfl _ _ (by rfl) (by rfl) _ (run_append_rs wA w2.heap.size _ _ [] OA _ _ _ _ (HT.out _ BA.out) (by first | (simp; done) | (simp; omega)) BA.out.size) ?_
                      rintro v4 w4 ⟨O4, G4⟩
                      rw [List.nil_append] at O4
                      have B4 := Lib.hid (below_own BA.out OA G4 BA.out.size (Nat.le_refl _))
                      have S4 := KR.out _ B4.out
                      refine hK.out _ _ (by exact S4) (fun hHeld => ?_)
                      clear hK K
                      try simp only [Act.put, List.setIfInBounds_toArray, List.set_cons_zero, List.set_cons_succ]
                      have RL := rs_new w4 r HIN.out
                      have BL := Lib.hid (B4.out.alloc B4.out.size (.cells #[.string (txt r.name), .int .i64 r.page, .int .i64 r.count] 34))
                      have SL := KR.out _ BL.out
                      have OL := own_on3 O4 ((Below.refl _ w4).alloc (Nat.le_refl _) (.cells #[.string (txt r.name), .int .i64 r.page, .int .i64 r.count] 34))
                      refine wpAnyH_ready (rs := [6]) (by kernel_rfl) (by simp) ?_
                      refine AllReadyH.cons (o := { dst := some 42, op := Go.Op.buildSlice 22 1 #[(0, Go.Operand.tmp 41)], type := 22, pos := "ref.go:113", after := #[{ on := 5, ground := Go.Ground.data }], guard := none }) rfl (fun K hK => ?_) AllReadyH.nil
                      go_simp
                      generalize w4.alloc (.cells #[.string (txt r.name), .int .i64 r.page, .int .i64 r.count] 34) = wL at *
                      refine hK.out _ _ (by exact SL) (fun hHeld => ?_)
                      clear hK K
                      try simp only [Act.put, List.setIfInBounds_toArray, List.set_cons_zero, List.set_cons_succ]
                      refine wpAnyH_ready (rs := [7]) (by kernel_rfl) (by simp) ?_
                      refine AllReadyH.cons (o := { dst := some 43, op := Go.Op.call { callee := Go.Callee.builtin Go.Builtin.append, args := #[Go.Operand.tmp 40, Go.Operand.tmp 42], argTypes := #[22, 22] }, type := 22, pos := "ref.go:113", after := #[{ on := 4, ground := Go.Ground.data }, { on := 6, ground := Go.Ground.data }, { on := 4, ground := Go.Ground.chain }], guard := none }) rfl (fun K hK => ?_) AllReadyH.nil
                      refine step_append_run rfl (.tmp 40) (.tmp 42) 22 22 rfl _ _ (by rfl) (by rfl) _ (run_append_rs wL w2.heap.size _ v4 _ OL _ 1 1 [r] RL (by first | (simp; done) | (simp; omega)) BL.out.size) ?_
                      rintro v7 w7 ⟨O7, G7⟩
                      have B7 := Lib.hid (below_own BL.out OL G7 BL.out.size (Nat.le_refl _))
                      have S7 := KR.out _ B7.out
                      refine hK.out _ _ (by exact S7) (fun hHeld => ?_)
                      clear hK K
                      try simp only [Act.put, List.setIfInBounds_toArray, List.set_cons_zero, List.set_cons_succ]
                      refine wpAnyH_ready (rs := [11]) (by kernel_rfl) (by simp) ?_
                      refine AllReadyH.cons (o := { dst := some 47, op := Go.Op.call { callee := Go.Callee.builtin Go.Builtin.append, args := #[Go.Operand.tmp 43, Go.Operand.tmp 46], argTypes := #[22, 22] }, type := 22, pos := "ref.go:113", after := #[{ on := 7, ground := Go.Ground.data }, { on := 10, ground := Go.Ground.data }, { on := 7, ground := Go.Ground.chain }], guard := none }) rfl (fun K hK => ?_) AllReadyH.nil
                      refine step_append_run rfl (.tmp 43) (.tmp 46) 22 22 rfl _ _ (by rfl) (by rfl) _ (run_append_rs w7 w2.heap.size _ v7 _ O7 _ _ _ _ (HD.out _ B7.out) (by first | (simp; done) | (simp; omega)) B7.out.size) ?_
                      rintro v9 w9 ⟨O9, G9⟩
                      have B9 := Lib.hid (below_own B7.out O7 G9 B7.out.size (Nat.le_refl _))
                      have S9 := KR.out _ B9.out
                      refine hK.out _ _ (by exact S9) (fun hHeld => ?_)
                      clear hK K
                      try simp only [Act.put, List.setIfInBounds_toArray, List.set_cons_zero, List.set_cons_succ]
                      refine wpAnyH_take (i := 12) (oi := { dst := some 4, op := Go.Op.assign (Go.Operand.tmp 47), type := 22, pos := "ref.go:113", after := #[{ on := 11, ground := Go.Ground.data }, { on := 11, ground := Go.Ground.chain }, { on := 0, ground := Go.Ground.phase }, { on := 1, ground := Go.Ground.phase }, { on := 2, ground := Go.Ground.phase }, { on := 3, ground := Go.Ground.phase }, { on := 4, ground := Go.Ground.phase }, { on := 5, ground := Go.Ground.phase }, { on := 6, ground := Go.Ground.phase }, { on := 7, ground := Go.Ground.phase }, { on := 8, ground := Go.Ground.phase }, { on := 9, ground := Go.Ground.phase }, { on := 10, ground := Go.Ground.phase }, { on := 11, ground := Go.Ground.phase }], guard := none }) (v := ?_) rfl (by kernel_rfl) (by kernel_rfl) (by kernel_rfl) (fun _ _ _ h => h) (Or.inl ⟨by rfl, ?_⟩) (by assumption) ?_
                      rotate_left
                      · (intro w hSw; (try dsimp only at hSw); go_simp; try with_reducible rfl)
                      try simp only [Act.put, List.setIfInBounds_toArray, List.set_cons_zero, List.set_cons_succ]
                      refine wpAnyH_take (i := 13) (oi := { dst := some 5, op := Go.Op.assign (Go.Operand.const (Go.Value.int Go.IntKind.i64 0)), type := 26, pos := "ref.go:113", after := #[{ on := 12, ground := Go.Ground.chain }, { on := 0, ground := Go.Ground.phase }, { on := 1, ground := Go.Ground.phase }, { on := 2, ground := Go.Ground.phase }, { on := 3, ground := Go.Ground.phase }, { on := 4, ground := Go.Ground.phase }, { on := 5, ground := Go.Ground.phase }, { on := 6, ground := Go.Ground.phase }, { on := 7, ground := Go.Ground.phase }, { on := 8, ground := Go.Ground.phase }, { on := 9, ground := Go.Ground.phase }, { on := 10, ground := Go.Ground.phase }, { on := 11, ground := Go.Ground.phase }, { on := 12, ground := Go.Ground.phase }], guard := none }) (v := ?_) rfl (by kernel_rfl) (by kernel_rfl) (by kernel_rfl) (fun _ _ _ h => h) (Or.inl ⟨by rfl, ?_⟩) (by assumption) ?_
                      rotate_left
                      · (intro w hSw; (try dsimp only at hSw); go_simp; try with_reducible rfl)
                      try simp only [Act.put, List.setIfInBounds_toArray, List.set_cons_zero, List.set_cons_succ]
                      refine wpAnyH_done (by kernel_rfl) ?_ _
                      refine NoPanic.normal ?_
                      go_wp2
                      go_ret2
                      exact HFIN.out _ _ _ _ HKE.out O9 B9.out
                    · skip
                      go_simp
                      have RL := rs_new wA r HIN.out
                      have BL := Lib.hid (BA.out.alloc BA.out.size (.cells #[.string (txt r.name), .int .i64 r.page, .int .i64 r.count] 34))
                      have SL := KR.out _ BL.out
                      have OL := own_on3 OA ((Below.refl _ wA).alloc (Nat.le_refl _) (.cells #[.string (txt r.name), .int .i64 r.page, .int .i64 r.count] 34))
                      have hLA := OA.lt _ rfl
                      generalize wA.alloc (.cells #[.string (txt r.name), .int .i64 r.page, .int .i64 r.count] 34) = wL at *
                      refine hK.out _ _ (by exact SL) (fun hHeld => ?_)
                      clear hK K
                      try simp only [Act.put, List.setIfInBounds_toArray, List.set_cons_zero, List.set_cons_succ]
                      refine wpAnyH_ready (rs := [4]) (by kernel_rfl) (by simp) ?_
                      refine AllReadyH.cons (o := { dst := some 40, op := Go.Op.call { callee := Go.Callee.builtin Go.Builtin.append, args := #[Go.Operand.tmp 36, Go.Operand.tmp 39], argTypes := #[22, 22] }, type := 22, pos := "ref.go:113", after := #[{ on := 0, ground := Go.Ground.data }, { on := 3, ground := Go.Ground.data }], guard := none }) rfl (fun K hK => ?_) AllReadyH.nil
                      refine step_append_run rfl (.tmp 36) (.tmp 39) 22 22 rfl _ _ (by rfl) (by rfl) _ (run_append_rs wL w2.heap.size _ _ [] OL _ _ _ _ (HT.out _ BL.out) (by first | (simp; done) | (simp; omega)) BL.out.size) ?_
                      rintro v4 w4 ⟨O4, G4⟩
                      rw [List.nil_append] at O4
                      have B4 := Lib.hid (below_own BL.out OL G4 BL.out.size (Nat.le_refl _))
                      have S4 := KR.out _ B4.out
                      refine hK.out _ _ (by exact S4) (fun hHeld => ?_)
                      clear hK K
                      try simp only [Act.put, List.setIfInBounds_toArray, List.set_cons_zero, List.set_cons_succ]
                      have RM := RL.grown G4 (fun a ha hh => by injection ha with ha; subst ha; injection hh with hh; simp at hh hLA; omega)
                      refine wpAnyH_ready (rs := [7]) (by kernel_rfl) (by simp) ?_
                      refine AllReadyH.cons (o := { dst := some 43, op := Go.Op.call { callee := Go.Callee.builtin Go.Builtin.append, args := #[Go.Operand.tmp 40, Go.Operand.tmp 42], argTypes := #[22, 22] }, type := 22, pos := "ref.go:113", after := #[{ on := 4, ground := Go.Ground.data }, { on := 6, ground := Go.Ground.data }, { on := 4, ground := Go.Ground.chain }], guard := none }) rfl (fun K hK => ?_) AllReadyH.nil
                      refine step_append_run rfl (.tmp 40) (.tmp 42) 22 22 rfl _ _ (by rfl) (by rfl) _ (run_append_rs w4 w2.heap.size _ v4 _ O4 _ 1 1 [r] RM (by first | (simp; done) | (simp; omega)) B4.out.size) ?_
                      rintro v7 w7 ⟨O7, G7⟩
                      have B7 := Lib.hid (below_own B4.out O4 G7 B4.out.size (Nat.le_refl _))
                      have S7 := KR.out _ B7.out
                      refine hK.out _ _ (by exact S7) (fun hHeld => ?_)
                      clear hK K
                      try simp only [Act.put, List.setIfInBounds_toArray, List.set_cons_zero, List.set_cons_succ]
                      refine wpAnyH_ready (rs := [11]) (by kernel_rfl) (by simp) ?_
                      refine AllReadyH.cons (o := { dst := some 47, op := Go.Op.call { callee := Go.Callee.builtin Go.Builtin.append, args := #[Go.Operand.tmp 43, Go.Operand.tmp 46], argTypes := #[22, 22] }, type := 22, pos := "ref.go:113", after := #[{ on := 7, ground := Go.Ground.data }, { on := 10, ground := Go.Ground.data }, { on := 7, ground := Go.Ground.chain }], guard := none }) rfl (fun K hK => ?_) AllReadyH.nil
                      refine step_append_run rfl (.tmp 43) (.tmp 46) 22 22 rfl _ _ (by rfl) (by rfl) _ (run_append_rs w7 w2.heap.size _ v7 _ O7 _ _ _ _ (HD.out _ B7.out) (by first | (simp; done) | (simp; omega)) B7.out.size) ?_
                      rintro v9 w9 ⟨O9, G9⟩
                      have B9 := Lib.hid (below_own B7.out O7 G9 B7.out.size (Nat.le_refl _))
                      have S9 := KR.out _ B9.out
                      refine hK.out _ _ (by exact S9) (fun hHeld => ?_)
                      clear hK K
                      try simp only [Act.put, List.setIfInBounds_toArray, List.set_cons_zero, List.set_cons_succ]
                      refine wpAnyH_take (i := 12) (oi := { dst := some 4, op := Go.Op.assign (Go.Operand.tmp 47), type := 22, pos := "ref.go:113", after := #[{ on := 11, ground := Go.Ground.data }, { on := 11, ground := Go.Ground.chain }, { on := 0, ground := Go.Ground.phase }, { on := 1, ground := Go.Ground.phase }, { on := 2, ground := Go.Ground.phase }, { on := 3, ground := Go.Ground.phase }, { on := 4, ground := Go.Ground.phase }, { on := 5, ground := Go.Ground.phase }, { on := 6, ground := Go.Ground.phase }, { on := 7, ground := Go.Ground.phase }, { on := 8, ground := Go.Ground.phase }, { on := 9, ground := Go.Ground.phase }, { on := 10, ground := Go.Ground.phase }, { on := 11, ground := Go.Ground.phase }], guard := none }) (v := ?_) rfl (by kernel_rfl) (by kernel_rfl) (by kernel_rfl) (fun _ _ _ h => h) (Or.inl ⟨by rfl, ?_⟩) (by assumption) ?_
                      rotate_left
                      · (intro w hSw; (try dsimp only at hSw); go_simp; try with_reducible rfl)
                      try simp only [Act.put, List.setIfInBounds_toArray, List.set_cons_zero, List.set_cons_succ]
                      refine wpAnyH_take (i := 13) (oi := { dst := some 5, op := Go.Op.assign (Go.Operand.const (Go.Value.int Go.IntKind.i64 0)), type := 26, pos := "ref.go:113", after := #[{ on := 12, ground := Go.Ground.chain }, { on := 0, ground := Go.Ground.phase }, { on := 1, ground := Go.Ground.phase }, { on := 2, ground := Go.Ground.phase }, { on := 3, ground := Go.Ground.phase }, { on := 4, ground := Go.Ground.phase }, { on := 5, ground := Go.Ground.phase }, { on := 6, ground := Go.Ground.phase }, { on := 7, ground := Go.Ground.phase }, { on := 8, ground := Go.Ground.phase }, { on := 9, ground := Go.Ground.phase }, { on := 10, ground := Go.Ground.phase }, { on := 11, ground := Go.Ground.phase }, { on := 12, ground := Go.Ground.phase }], guard := none }) (v := ?_) rfl (by kernel_rfl) (by kernel_rfl) (by kernel_rfl) (fun _ _ _ h => h) (Or.inl ⟨by rfl, ?_⟩) (by assumption) ?_
                      rotate_left
                      · (intro w hSw; (try dsimp only at hSw); go_simp; try with_reducible rfl)
                      try simp only [Act.put, List.setIfInBounds_toArray, List.set_cons_zero, List.set_cons_succ]
                      refine wpAnyH_done (by kernel_rfl) ?_ _
                      refine NoPanic.normal ?_
                      go_wp2
                      go_ret2
                      exact HFIN.out _ _ _ _ HKE.out O9 B9.out
                  · skip
                    go_simp
                    have RL := rs_new wd r HIN.out
                    have BL := Lib.hid (BD.out.alloc BD.out.size (.cells #[.string (txt r.name), .int .i64 r.page, .int .i64 r.count] 34))
                    have SL := KR.out _ BL.out
                    have sL : wd.heap.size < (wd.alloc (.cells #[.string (txt r.name), .int .i64 r.page, .int .i64 r.count] 34)).heap.size := by simp
                    generalize wd.alloc (.cells #[.string (txt r.name), .int .i64 r.page, .int .i64 r.count] 34) = wL at *
                    refine hK.out _ _ (by exact SL) (fun hHeld => ?_)
                    clear hK K
                    try simp only [Act.put, List.setIfInBounds_toArray, List.set_cons_zero, List.set_cons_succ]
                    refine wpAnyH_ready (rs := [0]) (by kernel_rfl) (by simp) ?_
                    refine AllReadyH.cons (o := { dst := some 36, op := Go.Op.buildSlice 22 0 #[], type := 22, pos := "ref.go:113", after := #[], guard := none }) rfl (fun K hK => ?_) AllReadyH.nil
                    go_simp
                    have OA := own_empty wL w2.heap.size BL.out.size
                    have BA := Lib.hid (BL.out.alloc BL.out.size (.cells #[] 34))
                    have SA := KR.out _ BA.out
                    have RN := RL.alloc (.cells #[] 34)
                    generalize wL.alloc (.cells #[] 34) = wA at *
                    refine hK.out _ _ (by exact SA) (fun hHeld => ?_)
                    clear hK K
                    try simp only [Act.put, List.setIfInBounds_toArray, List.set_cons_zero, List.set_cons_succ]
                    refine wpAnyH_ready (rs := [4]) (by kernel_rfl) (by simp) ?_
                    refine AllReadyH.cons (o := { dst := some 40, op := Go.Op.call { callee := Go.Callee.builtin Go.Builtin.append, args := #[Go.Operand.tmp 36, Go.Operand.tmp 39], argTypes := #[22, 22] }, type := 22, pos := "ref.go:113", after := #[{ on := 0, ground := Go.Ground.data }, { on := 3, ground := Go.Ground.data }], guard := none }) rfl (fun K hK => ?_) AllReadyH.nil
                    refine step_append_run rfl (.tmp 36) (.tmp 39) 22 22 rfl _ _ (by rfl) (by rfl) _ (run_append_rs wA w2.heap.size _ _ [] OA _ _ _ _ (HT.out _ BA.out) (by first | (simp; done) | (simp; omega)) BA.out.size) ?_
                    rintro v4 w4 ⟨O4, G4⟩
                    rw [List.nil_append] at O4
                    have B4 := Lib.hid (below_own BA.out OA G4 BA.out.size (Nat.le_refl _))
                    have S4 := KR.out _ B4.out
                    refine hK.out _ _ (by exact S4) (fun hHeld => ?_)
                    clear hK K
                    try simp only [Act.put, List.setIfInBounds_toArray, List.set_cons_zero, List.set_cons_succ]
                    have RM := RN.grown G4 (fun a ha hh => by injection ha with ha; subst ha; injection hh with hh; simp at hh sL; omega)
                    refine wpAnyH_ready (rs := [7]) (by kernel_rfl) (by simp) ?_
                    refine AllReadyH.cons (o := { dst := some 43, op := Go.Op.call { callee := Go.Callee.builtin Go.Builtin.append, args := #[Go.Operand.tmp 40, Go.Operand.tmp 42], argTypes := #[22, 22] }, type := 22, pos := "ref.go:113", after := #[{ on := 4, ground := Go.Ground.data }, { on := 6, ground := Go.Ground.data }, { on := 4, ground := Go.Ground.chain }], guard := none }) rfl (fun K hK => ?_) AllReadyH.nil
                    refine step_append_run rfl (.tmp 40) (.tmp 42) 22 22 rfl _ _ (by rfl) (by rfl) _ (run_append_rs w4 w2.heap.size _ v4 _ O4 _ 1 1 [r] RM (by first | (simp; done) | (simp; omega)) B4.out.size) ?_
                    rintro v7 w7 ⟨O7, G7⟩
                    have B7 := Lib.hid (below_own B4.out O4 G7 B4.out.size (Nat.le_refl _))
                    have S7 := KR.out _ B7.out
                    refine hK.out _ _ (by exact S7) (fun hHeld => ?_)
                    clear hK K
                    try simp only [Act.put, List.setIfInBounds_toArray, List.set_cons_zero, List.set_cons_succ]
                    refine wpAnyH_ready (rs := [11]) (by kernel_rfl) (by simp) ?_
                    refine AllReadyH.cons (o := { dst := some 47, op := Go.Op.call { callee := Go.Callee.builtin Go.Builtin.append, args := #[Go.Operand.tmp 43, Go.Operand.tmp 46], argTypes := #[22, 22] }, type := 22, pos := "ref.go:113", after := #[{ on := 7, ground := Go.Ground.data }, { on := 10, ground := Go.Ground.data }, { on := 7, ground := Go.Ground.chain }], guard := none }) rfl (fun K hK => ?_) AllReadyH.nil
                    refine step_append_run rfl (.tmp 43) (.tmp 46) 22 22 rfl _ _ (by rfl) (by rfl) _ (run_append_rs w7 w2.heap.size _ v7 _ O7 _ _ _ _ (HD.out _ B7.out) (by first | (simp; done) | (simp; omega)) B7.out.size) ?_
                    rintro v9 w9 ⟨O9, G9⟩
                    have B9 := Lib.hid (below_own B7.out O7 G9 B7.out.size (Nat.le_refl _))
                    have S9 := KR.out _ B9.out
                    refine hK.out _ _ (by exact S9) (fun hHeld => ?_)
                    clear hK K
                    try simp only [Act.put, List.setIfInBounds_toArray, List.set_cons_zero, List.set_cons_succ]
                    refine wpAnyH_take (i := 12) (oi := { dst := some 4, op := Go.Op.assign (Go.Operand.tmp 47), type := 22, pos := "ref.go:113", after := #[{ on := 11, ground := Go.Ground.data }, { on := 11, ground := Go.Ground.chain }, { on := 0, ground := Go.Ground.phase }, { on := 1, ground := Go.Ground.phase }, { on := 2, ground := Go.Ground.phase }, { on := 3, ground := Go.Ground.phase }, { on := 4, ground := Go.Ground.phase }, { on := 5, ground := Go.Ground.phase }, { on := 6, ground := Go.Ground.phase }, { on := 7, ground := Go.Ground.phase }, { on := 8, ground := Go.Ground.phase }, { on := 9, ground := Go.Ground.phase }, { on := 10, ground := Go.Ground.phase }, { on := 11, ground := Go.Ground.phase }], guard := none }) (v := ?_) rfl (by kernel_rfl) (by kernel_rfl) (by kernel_rfl) (fun _ _ _ h => h) (Or.inl ⟨by rfl, ?_⟩) (by assumption) ?_
                    rotate_left
                    · (intro w hSw; (try dsimp only at hSw); go_simp; try with_reducible rfl)
                    try simp only [Act.put, List.setIfInBounds_toArray, List.set_cons_zero, List.set_cons_succ]
                    refine wpAnyH_take (i := 13) (oi := { dst := some 5, op := Go.Op.assign (Go.Operand.const (Go.Value.int Go.IntKind.i64 0)), type := 26, pos := "ref.go:113", after := #[{ on := 12, ground := Go.Ground.chain }, { on := 0, ground := Go.Ground.phase }, { on := 1, ground := Go.Ground.phase }, { on := 2, ground := Go.Ground.phase }, { on := 3, ground := Go.Ground.phase }, { on := 4, ground := Go.Ground.phase }, { on := 5, ground := Go.Ground.phase }, { on := 6, ground := Go.Ground.phase }, { on := 7, ground := Go.Ground.phase }, { on := 8, ground := Go.Ground.phase }, { on := 9, ground := Go.Ground.phase }, { on := 10, ground := Go.Ground.phase }, { on := 11, ground := Go.Ground.phase }, { on := 12, ground := Go.Ground.phase }], guard := none }) (v := ?_) rfl (by kernel_rfl) (by kernel_rfl) (by kernel_rfl) (fun _ _ _ h => h) (Or.inl ⟨by rfl, ?_⟩) (by assumption) ?_
                    rotate_left
                    · (intro w hSw; (try dsimp only at hSw); go_simp; try with_reducible rfl)
                    try simp only [Act.put, List.setIfInBounds_toArray, List.set_cons_zero, List.set_cons_succ]
                    refine wpAnyH_done (by kernel_rfl) ?_ _
                    refine NoPanic.normal ?_
                    go_wp2
                    go_ret2
                    exact HFIN.out _ _ _ _ HKE.out O9 B9.out
                · skip
                  have HT := Lib.hid (fun W (hW : Below w2.heap.size w2 W) => (HR2.out.on hW).first k hk)
                  have HD := Lib.hid (fun W (hW : Below w2.heap.size w2 W) => (HR2.out.on hW).far k hk)
                  have hkm : (k : Int) ≤ (m : Int) := by omega
                  have hkc : (k : Int) ≤ (c2' : Int) := by omega
                  obtain ⟨g0, g1, g2⟩ := hgz
                  go_wp2_with fail
                  have BD := Lib.hid BZ.out.drew
                  refine wp_region_noPanic ?_
                  refine wp_region_held_drew (S := (fun w' : World => w'.cell? ⟨w.heap.size, 0, none⟩ = some (.string (txt r.name)) ∧ w'.cell? ⟨w.heap.size, 1, none⟩ = some (.int .i64 r.page) ∧ w'.cell? ⟨w.heap.size, 2, none⟩ = some (.int .i64 r.count))) (by kernel_rfl) (by exact ⟨g0, g1, g2⟩) (fun hHeld => ?_)
                  generalize wz.drew = wd at *
                  refine wpAnyH_take (i := 1) (oi := { dst := some 37, op := Go.Op.move (Go.Operand.tmp 6), type := 22, pos := "ref.go:113", after := #[], guard := none }) (v := ?_) rfl (by kernel_rfl) (by kernel_rfl) (by kernel_rfl) (fun _ _ _ h => h) (Or.inl ⟨by rfl, ?_⟩) (by assumption) ?_
                  rotate_left
                  · (intro w hSw; (try dsimp only at hSw); go_simp; try with_reducible rfl)
                  try simp only [Act.put, List.setIfInBounds_toArray, List.set_cons_zero, List.set_cons_succ]
                  refine wpAnyH_take (i := 2) (oi := { dst := some 38, op := Go.Op.move (Go.Operand.tmp 7), type := 3, pos := "ref.go:113", after := #[], guard := none }) (v := ?_) rfl (by kernel_rfl) (by kernel_rfl) (by kernel_rfl) (fun _ _ _ h => h) (Or.inl ⟨by rfl, ?_⟩) (by assumption) ?_
                  rotate_left
                  · (intro w hSw; (try dsimp only at hSw); go_simp; try with_reducible rfl)
                  try simp only [Act.put, List.setIfInBounds_toArray, List.set_cons_zero, List.set_cons_succ]
                  refine wpAnyH_take (i := 3) (oi := { dst := some 39, op := Go.Op.slice 22 (Go.Operand.tmp 37) none (some (Go.Operand.tmp 38)) none, type := 22, pos := "ref.go:113", after := #[{ on := 1, ground := Go.Ground.data }, { on := 2, ground := Go.Ground.data }], guard := none }) (v := ?_) rfl (by kernel_rfl) (by kernel_rfl) (by kernel_rfl) (fun _ _ _ h => h) (Or.inl ⟨by rfl, ?_⟩) (by assumption) ?_
                  rotate_left
                  · (intro w hSw; (try dsimp only at hSw); go_simp; try with_reducible rfl)
                  try simp only [Act.put, List.setIfInBounds_toArray, List.set_cons_zero, List.set_cons_succ]
                  refine wpAnyH_take (i := 5) (oi := { dst := some 41, op := Go.Op.load 34 (Go.Operand.tmp 3), type := 34, pos := "ref.go:113", after := #[], guard := none }) (v := ?_) rfl (by kernel_rfl) (by kernel_rfl) (by kernel_rfl) (fun _ _ _ h => h) (Or.inl ⟨by rfl, ?_⟩) (by assumption) ?_
                  rotate_left
                  · (intro w hSw; (try dsimp only at hSw); go_simp; try with_reducible rfl)
                  try simp only [Act.put, List.setIfInBounds_toArray, List.set_cons_zero, List.set_cons_succ]
                  refine wpAnyH_take (i := 8) (oi := { dst := some 44, op := Go.Op.move (Go.Operand.tmp 6), type := 22, pos := "ref.go:113", after := #[], guard := none }) (v := ?_) rfl (by kernel_rfl) (by kernel_rfl) (by kernel_rfl) (fun _ _ _ h => h) (Or.inl ⟨by rfl, ?_⟩) (by assumption) ?_
                  rotate_left
                  · (intro w hSw; (try dsimp only at hSw); go_simp; try with_reducible rfl)
                  try simp only [Act.put, List.setIfInBounds_toArray, List.set_cons_zero, List.set_cons_succ]
                  refine wpAnyH_take (i := 9) (oi := { dst := some 45, op := Go.Op.move (Go.Operand.tmp 7), type := 3, pos := "ref.go:113", after := #[], guard := none }) (v := ?_) rfl (by kernel_rfl) (by kernel_rfl) (by kernel_rfl) (fun _ _ _ h => h) (Or.inl ⟨by rfl, ?_⟩) (by assumption) ?_
                  rotate_left
                  · (intro w hSw; (try dsimp only at hSw); go_simp; try with_reducible rfl)
                  try simp only [Act.put, List.setIfInBounds_toArray, List.set_cons_zero, List.set_cons_succ]
                  refine wpAnyH_take (i := 10) (oi := { dst := some 46, op := Go.Op.slice 22 (Go.Operand.tmp 44) (some (Go.Operand.tmp 45)) none none, type := 22, pos := "ref.go:113", after := #[{ on := 8, ground := Go.Ground.data }, { on := 9, ground := Go.Ground.data }], guard := none }) (v := ?_) rfl (by kernel_rfl) (by kernel_rfl) (by kernel_rfl) (fun _ _ _ h => h) (Or.inl ⟨by rfl, ?_⟩) (by assumption) ?_
                  rotate_left
                  · (intro w hSw; (try dsimp only at hSw); go_simp; try with_reducible rfl)
                  try simp only [Act.put, List.setIfInBounds_toArray, List.set_cons_zero, List.set_cons_succ]
                  refine wpAnyH_ready (rs := [0, 6]) (by kernel_rfl) (by simp) ?_
                  refine AllReadyH.cons (o := { dst := some 36, op := Go.Op.buildSlice 22 0 #[], type := 22, pos := "ref.go:113", after := #[], guard := none }) rfl (fun K hK => ?_) (AllReadyH.cons (o := { dst := some 42, op := Go.Op.buildSlice 22 1 #[(0, Go.Operand.tmp 41)], type := 22, pos := "ref.go:113", after := #[{ on := 5, ground := Go.Ground.data }], guard := none }) rfl (fun K hK => ?_) AllReadyH.nil)
                  · skip
                    go_simp
                    have OA := own_empty wd w2.heap.size BD.out.size
                    have BA := Lib.hid (BD.out.alloc BD.out.size (.cells #[] 34))
                    have SA := KR.out _ BA.out
                    generalize wd.alloc (.cells #[] 34) = wA at *
                    refine hK.out _ _ (by exact SA) (fun hHeld => ?_)
                    clear hK K
                    try simp only [Act.put, List.setIfInBounds_toArray, List.set_cons_zero, List.set_cons_succ]
                    refine wpAnyH_ready (rs := [4, 6]) (by kernel_rfl) (by simp) ?_
                    refine AllReadyH.cons (o := { dst := some 40, op := Go.Op.call { callee := Go.Callee.builtin Go.Builtin.append, args := #[Go.Operand.tmp 36, Go.Operand.tmp 39], argTypes := #[22, 22] }, type := 22, pos := "ref.go:113", after := #[{ on := 0, ground := Go.Ground.data }, { on := 3, ground := Go.Ground.data }], guard := none }) rfl (fun K hK => ?_) (AllReadyH.cons (o := { dst := some 42, op := Go.Op.buildSlice 22 1 #[(0, Go.Operand.tmp 41)], type := 22, pos := "ref.go:113", after := #[{ on := 5, ground := Go.Ground.data }], guard := none }) rfl (fun K hK => ?_) AllReadyH.nil)
                    · skip
                      refine step_append_run rfl (.tmp 36) (.tmp 39) 22 22 rfl _ _ (by rfl) (by rfl) _ (run_append_rs wA w2.heap.size _ _ [] OA _ _ _ _ (HT.out _ BA.out) (by first | (simp; done) | (simp; omega)) BA.out.size) ?_
                      rintro v4 w4 ⟨O4, G4⟩
                      rw [List.nil_append] at O4
                      have B4 := Lib.hid (below_own BA.out OA G4 BA.out.size (Nat.le_refl _))
                      have S4 := KR.out _ B4.out
                      refine hK.out _ _ (by exact S4) (fun hHeld => ?_)
                      clear hK K
                      try simp only [Act.put, List.setIfInBounds_toArray, List.set_cons_zero, List.set_cons_succ]
                      have RL := rs_new w4 r HIN.out
                      have BL := Lib.hid (B4.out.alloc B4.out.size (.cells #[.string (txt r.name), .int .i64 r.page, .int .i64 r.count] 34))
                      have SL := KR.out _ BL.out
                      have OL := own_on3 O4 ((Below.refl _ w4).alloc (Nat.le_refl _) (.cells #[.string (txt r.name), .int .i64 r.page, .int .i64 r.count] 34))
                      refine wpAnyH_ready (rs := [6]) (by kernel_rfl) (by simp) ?_
                      refine AllReadyH.cons (o := { dst := some 42, op := Go.Op.buildSlice 22 1 #[(0, Go.Operand.tmp 41)], type := 22, pos := "ref.go:113", after := #[{ on := 5, ground := Go.Ground.data }], guard := none }) rfl (fun K hK => ?_) AllReadyH.nil
                      go_simp
                      generalize w4.alloc (.cells #[.string (txt r.name), .int .i64 r.page, .int .i64 r.count] 34) = wL at *
                      refine hK.out _ _ (by exact SL) (fun hHeld => ?_)
                      clear hK K
                      try simp only [Act.put, List.setIfInBounds_toArray, List.set_cons_zero, List.set_cons_succ]
                      refine wpAnyH_ready (rs := [7]) (by kernel_rfl) (by simp) ?_
                      refine AllReadyH.cons (o := { dst := some 43, op := Go.Op.call { callee := Go.Callee.builtin Go.Builtin.append, args := #[Go.Operand.tmp 40, Go.Operand.tmp 42], argTypes := #[22, 22] }, type := 22, pos := "ref.go:113", after := #[{ on := 4, ground := Go.Ground.data }, { on := 6, ground := Go.Ground.data }, { on := 4, ground := Go.Ground.chain }], guard := none }) rfl (fun K hK => ?_) AllReadyH.nil
                      refine step_append_run rfl (.tmp 40) (.tmp 42) 22 22 rfl _ _ (by rfl) (by rfl) _ (run_append_rs wL w2.heap.size _ v4 _ OL _ 1 1 [r] RL (by first | (simp; done) | (simp; omega)) BL.out.size) ?_
                      rintro v7 w7 ⟨O7, G7⟩
                      have B7 := Lib.hid (below_own BL.out OL G7 BL.out.size (Nat.le_refl _))
                      have S7 := KR.out _ B7.out
                      refine hK.out _ _ (by exact S7) (fun hHeld => ?_)
                      clear hK K
                      try simp only [Act.put, List.setIfInBounds_toArray, List.set_cons_zero, List.set_cons_succ]
                      refine wpAnyH_ready (rs := [11]) (by kernel_rfl) (by simp) ?_
                      refine AllReadyH.cons (o := { dst := some 47, op := Go.Op.call { callee := Go.Callee.builtin Go.Builtin.append, args := #[Go.Operand.tmp 43, Go.Operand.tmp 46], argTypes := #[22, 22] }, type := 22, pos := "ref.go:113", after := #[{ on := 7, ground := Go.Ground.data }, { on := 10, ground := Go.Ground.data }, { on := 7, ground := Go.Ground.chain }], guard := none }) rfl (fun K hK => ?_) AllReadyH.nil
                      refine step_append_run rfl (.tmp 43) (.tmp 46) 22 22 rfl _ _ (by rfl) (by rfl) _ (run_append_rs w7 w2.heap.size _ v7 _ O7 _ _ _ _ (HD.out _ B7.out) (by first | (simp; done) | (simp; omega)) B7.out.size) ?_
                      rintro v9 w9 ⟨O9, G9⟩
                      have B9 := Lib.hid (below_own B7.out O7 G9 B7.out.size (Nat.le_refl _))
                      have S9 := KR.out _ B9.out
                      refine hK.out _ _ (by exact S9) (fun hHeld => ?_)
                      clear hK K
                      try simp only [Act.put, List.setIfInBounds_toArray, List.set_cons_zero, List.set_cons_succ]
                      refine wpAnyH_take (i := 12) (oi := { dst := some 4, op := Go.Op.assign (Go.Operand.tmp 47), type := 22, pos := "ref.go:113", after := #[{ on := 11, ground := Go.Ground.data }, { on := 11, ground := Go.Ground.chain }, { on := 0, ground := Go.Ground.phase }, { on := 1, ground := Go.Ground.phase }, { on := 2, ground := Go.Ground.phase }, { on := 3, ground := Go.Ground.phase }, { on := 4, ground := Go.Ground.phase }, { on := 5, ground := Go.Ground.phase }, { on := 6, ground := Go.Ground.phase }, { on := 7, ground := Go.Ground.phase }, { on := 8, ground := Go.Ground.phase }, { on := 9, ground := Go.Ground.phase }, { on := 10, ground := Go.Ground.phase }, { on := 11, ground := Go.Ground.phase }], guard := none }) (v := ?_) rfl (by kernel_rfl) (by kernel_rfl) (by kernel_rfl) (fun _ _ _ h => h) (Or.inl ⟨by rfl, ?_⟩) (by assumption) ?_
                      rotate_left
                      · (intro w hSw; (try dsimp only at hSw); go_simp; try with_reducible rfl)
                      try simp only [Act.put, List.setIfInBounds_toArray, List.set_cons_zero, List.set_cons_succ]
                      refine wpAnyH_take (i := 13) (oi := { dst := some 5, op := Go.Op.assign (Go.Operand.const (Go.Value.int Go.IntKind.i64 0)), type := 26, pos := "ref.go:113", after := #[{ on := 12, ground := Go.Ground.chain }, { on := 0, ground := Go.Ground.phase }, { on := 1, ground := Go.Ground.phase }, { on := 2, ground := Go.Ground.phase }, { on := 3, ground := Go.Ground.phase }, { on := 4, ground := Go.Ground.phase }, { on := 5, ground := Go.Ground.phase }, { on := 6, ground := Go.Ground.phase }, { on := 7, ground := Go.Ground.phase }, { on := 8, ground := Go.Ground.phase }, { on := 9, ground := Go.Ground.phase }, { on := 10, ground := Go.Ground.phase }, { on := 11, ground := Go.Ground.phase }, { on := 12, ground := Go.Ground.phase }], guard := none }) (v := ?_) rfl (by kernel_rfl) (by kernel_rfl) (by kernel_rfl) (fun _ _ _ h => h) (Or.inl ⟨by rfl, ?_⟩) (by assumption) ?_
                      rotate_left
                      · (intro w hSw; (try dsimp only at hSw); go_simp; try with_reducible rfl)
                      try simp only [Act.put, List.setIfInBounds_toArray, List.set_cons_zero, List.set_cons_succ]
                      refine wpAnyH_done (by kernel_rfl) ?_ _
                      refine NoPanic.normal ?_
                      go_wp2
                      go_ret2
                      exact HFIN.out _ _ _ _ HKE.out O9 B9.out
                    · skip
                      go_simp
                      have RL := rs_new wA r HIN.out
                      have BL := Lib.hid (BA.out.alloc BA.out.size (.cells #[.string (txt r.name), .int .i64 r.page, .int .i64 r.count] 34))
                      have SL := KR.out _ BL.out
                      have OL := own_on3 OA ((Below.refl _ wA).alloc (Nat.le_refl _) (.cells #[.string (txt r.name), .int .i64 r.page, .int .i64 r.count] 34))
                      have hLA := OA.lt _ rfl
                      generalize wA.alloc (.cells #[.string (txt r.name), .int .i64 r.page, .int .i64 r.count] 34) = wL at *
                      refine hK.out _ _ (by exact SL) (fun hHeld => ?_)
                      clear hK K
                      try simp only [Act.put, List.setIfInBounds_toArray, List.set_cons_zero, List.set_cons_succ]
                      refine wpAnyH_ready (rs := [4]) (by kernel_rfl) (by simp) ?_
                      refine AllReadyH.cons (o := { dst := some 40, op := Go.Op.call { callee := Go.Callee.builtin Go.Builtin.append, args := #[Go.Operand.tmp 36, Go.Operand.tmp 39], argTypes := #[22, 22] }, type := 22, pos := "ref.go:113", after := #[{ on := 0, ground := Go.Ground.data }, { on := 3, ground := Go.Ground.data }], guard := none }) rfl (fun K hK => ?_) AllReadyH.nil
                      refine step_append_run rfl (.tmp 36) (.tmp 39) 22 22 rfl _ _ (by rfl) (by rfl) _ (run_append_rs wL w2.heap.size _ _ [] OL _ _ _ _ (HT.out _ BL.out) (by first | (simp; done) | (simp; omega)) BL.out.size) ?_
                      rintro v4 w4 ⟨O4, G4⟩
                      rw [List.nil_append] at O4
                      have B4 := Lib.hid (below_own BL.out OL G4 BL.out.size (Nat.le_refl _))
                      have S4 := KR.out _ B4.out
                      refine hK.out _ _ (by exact S4) (fun hHeld => ?_)
                      clear hK K
                      try simp only [Act.put, List.setIfInBounds_toArray, List.set_cons_zero, List.set_cons_succ]
                      have RM := RL.grown G4 (fun a ha hh => by injection ha with ha; subst ha; injection hh with hh; simp at hh hLA; omega)
                      refine wpAnyH_ready (rs := [7]) (by kernel_rfl) (by simp) ?_
                      refine AllReadyH.cons (o := { dst := some 43, op := Go.Op.call { callee := Go.Callee.builtin Go.Builtin.append, args := #[Go.Operand.tmp 40, Go.Operand.tmp 42], argTypes := #[22, 22] }, type := 22, pos := "ref.go:113", after := #[{ on := 4, ground := Go.Ground.data }, { on := 6, ground := Go.Ground.data }, { on := 4, ground := Go.Ground.chain }], guard := none }) rfl (fun K hK => ?_) AllReadyH.nil
                      refine step_append_run rfl (.tmp 40) (.tmp 42) 22 22 rfl _ _ (by rfl) (by rfl) _ (run_append_rs w4 w2.heap.size _ v4 _ O4 _ 1 1 [r] RM (by first | (simp; done) | (simp; omega)) B4.out.size) ?_
                      rintro v7 w7 ⟨O7, G7⟩
                      have B7 := Lib.hid (below_own B4.out O4 G7 B4.out.size (Nat.le_refl _))
                      have S7 := KR.out _ B7.out
                      refine hK.out _ _ (by exact S7) (fun hHeld => ?_)
                      clear hK K
                      try simp only [Act.put, List.setIfInBounds_toArray, List.set_cons_zero, List.set_cons_succ]
                      refine wpAnyH_ready (rs := [11]) (by kernel_rfl) (by simp) ?_
                      refine AllReadyH.cons (o := { dst := some 47, op := Go.Op.call { callee := Go.Callee.builtin Go.Builtin.append, args := #[Go.Operand.tmp 43, Go.Operand.tmp 46], argTypes := #[22, 22] }, type := 22, pos := "ref.go:113", after := #[{ on := 7, ground := Go.Ground.data }, { on := 10, ground := Go.Ground.data }, { on := 7, ground := Go.Ground.chain }], guard := none }) rfl (fun K hK => ?_) AllReadyH.nil
                      refine step_append_run rfl (.tmp 43) (.tmp 46) 22 22 rfl _ _ (by rfl) (by rfl) _ (run_append_rs w7 w2.heap.size _ v7 _ O7 _ _ _ _ (HD.out _ B7.out) (by first | (simp; done) | (simp; omega)) B7.out.size) ?_
                      rintro v9 w9 ⟨O9, G9⟩
                      have B9 := Lib.hid (below_own B7.out O7 G9 B7.out.size (Nat.le_refl _))
                      have S9 := KR.out _ B9.out
                      refine hK.out _ _ (by exact S9) (fun hHeld => ?_)
                      clear hK K
                      try simp only [Act.put, List.setIfInBounds_toArray, List.set_cons_zero, List.set_cons_succ]
                      refine wpAnyH_take (i := 12) (oi := { dst := some 4, op := Go.Op.assign (Go.Operand.tmp 47), type := 22, pos := "ref.go:113", after := #[{ on := 11, ground := Go.Ground.data }, { on := 11, ground := Go.Ground.chain }, { on := 0, ground := Go.Ground.phase }, { on := 1, ground := Go.Ground.phase }, { on := 2, ground := Go.Ground.phase }, { on := 3, ground := Go.Ground.phase }, { on := 4, ground := Go.Ground.phase }, { on := 5, ground := Go.Ground.phase }, { on := 6, ground := Go.Ground.phase }, { on := 7, ground := Go.Ground.phase }, { on := 8, ground := Go.Ground.phase }, { on := 9, ground := Go.Ground.phase }, { on := 10, ground := Go.Ground.phase }, { on := 11, ground := Go.Ground.phase }], guard := none }) (v := ?_) rfl (by kernel_rfl) (by kernel_rfl) (by kernel_rfl) (fun _ _ _ h => h) (Or.inl ⟨by rfl, ?_⟩) (by assumption) ?_
                      rotate_left
                      · (intro w hSw; (try dsimp only at hSw); go_simp; try with_reducible rfl)
                      try simp only [Act.put, List.setIfInBounds_toArray, List.set_cons_zero, List.set_cons_succ]
                      refine wpAnyH_take (i := 13) (oi := { dst := some 5, op := Go.Op.assign (Go.Operand.const (Go.Value.int Go.IntKind.i64 0)), type := 26, pos := "ref.go:113", after := #[{ on := 12, ground := Go.Ground.chain }, { on := 0, ground := Go.Ground.phase }, { on := 1, ground := Go.Ground.phase }, { on := 2, ground := Go.Ground.phase }, { on := 3, ground := Go.Ground.phase }, { on := 4, ground := Go.Ground.phase }, { on := 5, ground := Go.Ground.phase }, { on := 6, ground := Go.Ground.phase }, { on := 7, ground := Go.Ground.phase }, { on := 8, ground := Go.Ground.phase }, { on := 9, ground := Go.Ground.phase }, { on := 10, ground := Go.Ground.phase }, { on := 11, ground := Go.Ground.phase }, { on := 12, ground := Go.Ground.phase }], guard := none }) (v := ?_) rfl (by kernel_rfl) (by kernel_rfl) (by kernel_rfl) (fun _ _ _ h => h) (Or.inl ⟨by rfl, ?_⟩) (by assumption) ?_
                      rotate_left
                      · (intro w hSw; (try dsimp only at hSw); go_simp; try with_reducible rfl)
                      try simp only [Act.put, List.setIfInBounds_toArray, List.set_cons_zero, List.set_cons_succ]
                      refine wpAnyH_done (by kernel_rfl) ?_ _
                      refine NoPanic.normal ?_
                      go_wp2
                      go_ret2
                      exact HFIN.out _ _ _ _ HKE.out O9 B9.out
                  · skip
                    go_simp
                    have RL := rs_new wd r HIN.out
                    have BL := Lib.hid (BD.out.alloc BD.out.size (.cells #[.string (txt r.name), .int .i64 r.page, .int .i64 r.count] 34))
                    have SL := KR.out _ BL.out
                    have sL : wd.heap.size < (wd.alloc (.cells #[.string (txt r.name), .int .i64 r.page, .int .i64 r.count] 34)).heap.size := by simp
                    generalize wd.alloc (.cells #[.string (txt r.name), .int .i64 r.page, .int .i64 r.count] 34) = wL at *
                    refine hK.out _ _ (by exact SL) (fun hHeld => ?_)
                    clear hK K
                    try simp only [Act.put, List.setIfInBounds_toArray, List.set_cons_zero, List.set_cons_succ]
                    refine wpAnyH_ready (rs := [0]) (by kernel_rfl) (by simp) ?_
                    refine AllReadyH.cons (o := { dst := some 36, op := Go.Op.buildSlice 22 0 #[], type := 22, pos := "ref.go:113", after := #[], guard := none }) rfl (fun K hK => ?_) AllReadyH.nil
                    go_simp
                    have OA := own_empty wL w2.heap.size BL.out.size
                    have BA := Lib.hid (BL.out.alloc BL.out.size (.cells #[] 34))
                    have SA := KR.out _ BA.out
                    have RN := RL.alloc (.cells #[] 34)
                    generalize wL.alloc (.cells #[] 34) = wA at *
                    refine hK.out _ _ (by exact SA) (fun hHeld => ?_)
                    clear hK K
                    try simp only [Act.put, List.setIfInBounds_toArray, List.set_cons_zero, List.set_cons_succ]
                    refine wpAnyH_ready (rs := [4]) (by kernel_rfl) (by simp) ?_
                    refine AllReadyH.cons (o := { dst := some 40, op := Go.Op.call { callee := Go.Callee.builtin Go.Builtin.append, args := #[Go.Operand.tmp 36, Go.Operand.tmp 39], argTypes := #[22, 22] }, type := 22, pos := "ref.go:113", after := #[{ on := 0, ground := Go.Ground.data }, { on := 3, ground := Go.Ground.data }], guard := none }) rfl (fun K hK => ?_) AllReadyH.nil
                    refine step_append_run rfl (.tmp 36) (.tmp 39) 22 22 rfl _ _ (by rfl) (by rfl) _ (run_append_rs wA w2.heap.size _ _ [] OA _ _ _ _ (HT.out _ BA.out) (by first | (simp; done) | (simp; omega)) BA.out.size) ?_
                    rintro v4 w4 ⟨O4, G4⟩
                    rw [List.nil_append] at O4
                    have B4 := Lib.hid (below_own BA.out OA G4 BA.out.size (Nat.le_refl _))
                    have S4 := KR.out _ B4.out
                    refine hK.out _ _ (by exact S4) (fun hHeld => ?_)
                    clear hK K
                    try simp only [Act.put, List.setIfInBounds_toArray, List.set_cons_zero, List.set_cons_succ]
                    have RM := RN.grown G4 (fun a ha hh => by injection ha with ha; subst ha; injection hh with hh; simp at hh sL; omega)
                    refine wpAnyH_ready (rs := [7]) (by kernel_rfl) (by simp) ?_
                    refine AllReadyH.cons (o := { dst := some 43, op := Go.Op.call { callee := Go.Callee.builtin Go.Builtin.append, args := #[Go.Operand.tmp 40, Go.Operand.tmp 42], argTypes := #[22, 22] }, type := 22, pos := "ref.go:113", after := #[{ on := 4, ground := Go.Ground.data }, { on := 6, ground := Go.Ground.data }, { on := 4, ground := Go.Ground.chain }], guard := none }) rfl (fun K hK => ?_) AllReadyH.nil
                    refine step_append_run rfl (.tmp 40) (.tmp 42) 22 22 rfl _ _ (by rfl) (by rfl) _ (run_append_rs w4 w2.heap.size _ v4 _ O4 _ 1 1 [r] RM (by first | (simp; done) | (simp; omega)) B4.out.size) ?_
                    rintro v7 w7 ⟨O7, G7⟩
                    have B7 := Lib.hid (below_own B4.out O4 G7 B4.out.size (Nat.le_refl _))
                    have S7 := KR.out _ B7.out
                    refine hK.out _ _ (by exact S7) (fun hHeld => ?_)
                    clear hK K
                    try simp only [Act.put, List.setIfInBounds_toArray, List.set_cons_zero, List.set_cons_succ]
                    refine wpAnyH_ready (rs := [11]) (by kernel_rfl) (by simp) ?_
                    refine AllReadyH.cons (o := { dst := some 47, op := Go.Op.call { callee := Go.Callee.builtin Go.Builtin.append, args := #[Go.Operand.tmp 43, Go.Operand.tmp 46], argTypes := #[22, 22] }, type := 22, pos := "ref.go:113", after := #[{ on := 7, ground := Go.Ground.data }, { on := 10, ground := Go.Ground.data }, { on := 7, ground := Go.Ground.chain }], guard := none }) rfl (fun K hK => ?_) AllReadyH.nil
                    refine step_append_run rfl (.tmp 43) (.tmp 46) 22 22 rfl _ _ (by rfl) (by rfl) _ (run_append_rs w7 w2.heap.size _ v7 _ O7 _ _ _ _ (HD.out _ B7.out) (by first | (simp; done) | (simp; omega)) B7.out.size) ?_
                    rintro v9 w9 ⟨O9, G9⟩
                    have B9 := Lib.hid (below_own B7.out O7 G9 B7.out.size (Nat.le_refl _))
                    have S9 := KR.out _ B9.out
                    refine hK.out _ _ (by exact S9) (fun hHeld => ?_)
                    clear hK K
                    try simp only [Act.put, List.setIfInBounds_toArray, List.set_cons_zero, List.set_cons_succ]
                    refine wpAnyH_take (i := 12) (oi := { dst := some 4, op := Go.Op.assign (Go.Operand.tmp 47), type := 22, pos := "ref.go:113", after := #[{ on := 11, ground := Go.Ground.data }, { on := 11, ground := Go.Ground.chain }, { on := 0, ground := Go.Ground.phase }, { on := 1, ground := Go.Ground.phase }, { on := 2, ground := Go.Ground.phase }, { on := 3, ground := Go.Ground.phase }, { on := 4, ground := Go.Ground.phase }, { on := 5, ground := Go.Ground.phase }, { on := 6, ground := Go.Ground.phase }, { on := 7, ground := Go.Ground.phase }, { on := 8, ground := Go.Ground.phase }, { on := 9, ground := Go.Ground.phase }, { on := 10, ground := Go.Ground.phase }, { on := 11, ground := Go.Ground.phase }], guard := none }) (v := ?_) rfl (by kernel_rfl) (by kernel_rfl) (by kernel_rfl) (fun _ _ _ h => h) (Or.inl ⟨by rfl, ?_⟩) (by assumption) ?_
                    rotate_left
                    · (intro w hSw; (try dsimp only at hSw); go_simp; try with_reducible rfl)
                    try simp only [Act.put, List.setIfInBounds_toArray, List.set_cons_zero, List.set_cons_succ]
                    refine wpAnyH_take (i := 13) (oi := { dst := some 5, op := Go.Op.assign (Go.Operand.const (Go.Value.int Go.IntKind.i64 0)), type := 26, pos := "ref.go:113", after := #[{ on := 12, ground := Go.Ground.chain }, { on := 0, ground := Go.Ground.phase }, { on := 1, ground := Go.Ground.phase }, { on := 2, ground := Go.Ground.phase }, { on := 3, ground := Go.Ground.phase }, { on := 4, ground := Go.Ground.phase }, { on := 5, ground := Go.Ground.phase }, { on := 6, ground := Go.Ground.phase }, { on := 7, ground := Go.Ground.phase }, { on := 8, ground := Go.Ground.phase }, { on := 9, ground := Go.Ground.phase }, { on := 10, ground := Go.Ground.phase }, { on := 11, ground := Go.Ground.phase }, { on := 12, ground := Go.Ground.phase }], guard := none }) (v := ?_) rfl (by kernel_rfl) (by kernel_rfl) (by kernel_rfl) (fun _ _ _ h => h) (Or.inl ⟨by rfl, ?_⟩) (by assumption) ?_
                    rotate_left
                    · (intro w hSw; (try dsimp only at hSw); go_simp; try with_reducible rfl)
                    try simp only [Act.put, List.setIfInBounds_toArray, List.set_cons_zero, List.set_cons_succ]
                    refine wpAnyH_done (by kernel_rfl) ?_ _
                    refine NoPanic.normal ?_
                    go_wp2
                    go_ret2
                    exact HFIN.out _ _ _ _ HKE.out O9 B9.out
            · have hi2 := HYB.out rfl
              have HI2 := Lib.hid hi2
              clear hi2
              go_wp2
              go_roundw
              case rel => exact ⟨k + 1, by omega, by go_num, HI2.out, BZ.out⟩
              case measure => simp [intOf]; omega
          · skip
            have BC := Lib.hid (onto BD.out bB)
            go_simp
            refine hK.out _ _ (by exact ⟨(KR.out _ (onto HBR.out BC.out)).1, KX.out _ BC.out⟩) (fun hHeld => ?_)
            clear hK K
            try simp only [Act.put, List.setIfInBounds_toArray, List.set_cons_zero, List.set_cons_succ]
            clear hcy hcx
            obtain ⟨cz, wD, hcz, rz, bD, _⟩ := conv_any wB x.name HINX.out.nm HINX.out.len
            have BE := Lib.hid (onto BC.out bD)
            refine wpAnyH_ready (rs := [10]) (by kernel_rfl) (by simp) ?_
            refine AllReadyH.cons (o := { dst := some 28, op := Go.Op.convert 9 23 (Go.Operand.tmp 27), type := 23, pos := "ref.go:110", after := #[{ on := 9, ground := Go.Ground.data }, { on := 4, ground := Go.Ground.guard }], guard := some (4, true) }) rfl (fun K hK => ?_) AllReadyH.nil
            go_simp
            refine hK.out _ _ (by exact ⟨(KR.out _ (onto HBR.out BE.out)).1, KX.out _ BE.out⟩) (fun hHeld => ?_)
            clear hK K
            try simp only [Act.put, List.setIfInBounds_toArray, List.set_cons_zero, List.set_cons_succ]
            refine wpAnyH_ready (rs := [14]) (by kernel_rfl) (by simp) ?_
            refine AllReadyH.cons (o := { dst := some 32, op := Go.Op.call { callee := Go.Callee.value (Go.Operand.func 28), args := #[Go.Operand.tmp 28, Go.Operand.tmp 31], argTypes := #[23, 23] }, type := 4, pos := "ref.go:110", after := #[{ on := 10, ground := Go.Ground.data }, { on := 13, ground := Go.Ground.data }, { on := 4, ground := Go.Ground.chain }, { on := 4, ground := Go.Ground.guard }], guard := some (4, true) }) rfl (fun K hK => ?_) AllReadyH.nil
            go_simp
            refine (HLS1.out _ _ _ _ _ rz (rx.on bD)).mono ?_
            rintro e w4 ⟨rfl, m4, rfl⟩
            have BF := Lib.hid (below_drewN BE.out m4)
            refine hK.out _ _ (by exact ⟨(KR.out _ (onto HBR.out BF.out)).1, KX.out _ BF.out⟩) (fun hHeld => ?_)
            clear hK K
            try simp only [Act.put, List.setIfInBounds_toArray, List.set_cons_zero, List.set_cons_succ]
            refine wpAnyH_take (i := 15) (oi := { dst := some 33, op := Go.Op.pick (Go.Operand.tmp 22) (Go.Operand.tmp 32) (Go.Operand.const (Go.Value.bool false)), type := 4, pos := "ref.go:110", after := #[{ on := 4, ground := Go.Ground.data }, { on := 14, ground := Go.Ground.data }], guard := none }) (v := ?_) rfl (by kernel_rfl) (by kernel_rfl) (by kernel_rfl) (fun _ _ _ h => h) (Or.inl ⟨by rfl, ?_⟩) (by assumption) ?_
            rotate_left
            · (intro w hSw; (try dsimp only at hSw); go_simp; try with_reducible rfl)
            try simp only [Act.put, List.setIfInBounds_toArray, List.set_cons_zero, List.set_cons_succ]
            refine wpAnyH_done (by kernel_rfl) ?_ _
            refine NoPanic.normal ?_
            have BZ := Lib.hid (onto HBR.out BF.out)
            clear SR hgr SX
            generalize wD.drewN m4 = wz at *
            cases B
            · have HKE := Lib.hid (HNB.out rfl)
              have hgz := KR.out wz BZ.out
              have hbz := BZ.out.size
              rcases Nat.lt_or_ge 0 1 with _ | h01
              rotate_left
              · omega
              · by_cases hci : c2' = k
                · skip
                  have hkm : k = m := by omega
                  subst hkm hci
                  have HT := Lib.hid (fun W (hW : Below w2.heap.size w2 W) => (HR2.out.on hW).first c2' (Nat.le_refl _))
                  have HD : Hid (∀ W : World, Below w2.heap.size w2 W → Rs W (some ⟨bb, off, none⟩) 0 0 (M.drop c2')) := fun W hW => by
                    rw [List.drop_eq_nil_of_le (by have := HML.out; omega)]; exact Rs.nil_ _ _ _ (Nat.zero_le _)
                  obtain ⟨g0, g1, g2⟩ := hgz
                  go_wp2_with fail
                  have BD := Lib.hid BZ.out.drew
                  refine wp_region_noPanic ?_
                  refine wp_region_held_drew (S := (fun w' : World => w'.cell? ⟨w.heap.size, 0, none⟩ = some (.string (txt r.name)) ∧ w'.cell? ⟨w.heap.size, 1, none⟩ = some (.int .i64 r.page) ∧ w'.cell? ⟨w.heap.size, 2, none⟩ = some (.int .i64 r.count))) (by kernel_rfl) (by exact ⟨g0, g1, g2⟩) (fun hHeld => ?_)
                  generalize wz.drew = wd at *
                  refine wpAnyH_take (i := 1) (oi := { dst := some 37, op := Go.Op.move (Go.Operand.tmp 6), type := 22, pos := "ref.go:113", after := #[], guard := none }) (v := ?_) rfl (by kernel_rfl) (by kernel_rfl) (by kernel_rfl) (fun _ _ _ h => h) (Or.inl ⟨by rfl, ?_⟩) (by assumption) ?_
                  rotate_left
                  · (intro w hSw; (try dsimp only at hSw); go_simp; try with_reducible rfl)
                  try simp only [Act.put, List.setIfInBounds_toArray, List.set_cons_zero, List.set_cons_succ]
                  refine wpAnyH_take (i := 2) (oi := { dst := some 38, op := Go.Op.move (Go.Operand.tmp 7), type := 3, pos := "ref.go:113", after := #[], guard := none }) (v := ?_) rfl (by kernel_rfl) (by kernel_rfl) (by kernel_rfl) (fun _ _ _ h => h) (Or.inl ⟨by rfl, ?_⟩) (by assumption) ?_
                  rotate_left
                  · (intro w hSw; (try dsimp only at hSw); go_simp; try with_reducible rfl)
                  try simp only [Act.put, List.setIfInBounds_toArray, List.set_cons_zero, List.set_cons_succ]
                  refine wpAnyH_take (i := 3) (oi := { dst := some 39, op := Go.Op.slice 22 (Go.Operand.tmp 37) none (some (Go.Operand.tmp 38)) none, type := 22, pos := "ref.go:113", after := #[{ on := 1, ground := Go.Ground.data }, { on := 2, ground := Go.Ground.data }], guard := none }) (v := ?_) rfl (by kernel_rfl) (by kernel_rfl) (by kernel_rfl) (fun _ _ _ h => h) (Or.inl ⟨by rfl, ?_⟩) (by assumption) ?_
                  rotate_left
                  · (intro w hSw; (try dsimp only at hSw); go_simp; try with_reducible rfl)
                  try simp only [Act.put, List.setIfInBounds_toArray, List.set_cons_zero, List.set_cons_succ]
                  refine wpAnyH_take (i := 5) (oi := { dst := some 41, op := Go.Op.load 34 (Go.Operand.tmp 3), type := 34, pos := "ref.go:113", after := #[], guard := none }) (v := ?_) rfl (by kernel_rfl) (by kernel_rfl) (by kernel_rfl) (fun _ _ _ h => h) (Or.inl ⟨by rfl, ?_⟩) (by assumption) ?_
                  rotate_left
                  · (intro w hSw; (try dsimp only at hSw); go_simp; try with_reducible rfl)
                  try simp only [Act.put, List.setIfInBounds_toArray, List.set_cons_zero, List.set_cons_succ]
                  refine wpAnyH_take (i := 8) (oi := { dst := some 44, op := Go.Op.move (Go.Operand.tmp 6), type := 22, pos := "ref.go:113", after := #[], guard := none }) (v := ?_) rfl (by kernel_rfl) (by kernel_rfl) (by kernel_rfl) (fun _ _ _ h => h) (Or.inl ⟨by rfl, ?_⟩) (by assumption) ?_
                  rotate_left
                  · (intro w hSw; (try dsimp only at hSw); go_simp; try with_reducible rfl)
                  try simp only [Act.put, List.setIfInBounds_toArray, List.set_cons_zero, List.set_cons_succ]
                  refine wpAnyH_take (i := 9) (oi := { dst := some 45, op := Go.Op.move (Go.Operand.tmp 7), type := 3, pos := "ref.go:113", after := #[], guard := none }) (v := ?_) rfl (by kernel_rfl) (by kernel_rfl) (by kernel_rfl) (fun _ _ _ h => h) (Or.inl ⟨by rfl, ?_⟩) (by assumption) ?_
                  rotate_left
                  · (intro w hSw; (try dsimp only at hSw); go_simp; try with_reducible rfl)
                  try simp only [Act.put, List.setIfInBounds_toArray, List.set_cons_zero, List.set_cons_succ]
                  refine wpAnyH_take (i := 10) (oi := { dst := some 46, op := Go.Op.slice 22 (Go.Operand.tmp 44) (some (Go.Operand.tmp 45)) none none, type := 22, pos := "ref.go:113", after := #[{ on := 8, ground := Go.Ground.data }, { on := 9, ground := Go.Ground.data }], guard := none }) (v := ?_) rfl (by kernel_rfl) (by kernel_rfl) (by kernel_rfl) (fun _ _ _ h => h) (Or.inl ⟨by rfl, ?_⟩) (by assumption) ?_
                  rotate_left
                  · (intro w hSw; (try dsimp only at hSw); go_simp; try with_reducible rfl)
                  try simp only [Act.put, List.setIfInBounds_toArray, List.set_cons_zero, List.set_cons_succ]
                  refine wpAnyH_ready (rs := [0, 6]) (by kernel_rfl) (by simp) ?_
                  refine AllReadyH.cons (o := { dst := some 36, op := Go.Op.buildSlice 22 0 #[], type := 22, pos := "ref.go:113", after := #[], guard := none }) rfl (fun K hK => ?_) (AllReadyH.cons (o := { dst := some 42, op := Go.Op.buildSlice 22 1 #[(0, Go.Operand.tmp 41)], type := 22, pos := "ref.go:113", after := #[{ on := 5, ground := Go.Ground.data }], guard := none }) rfl (fun K hK => ?_) AllReadyH.nil)
                  · skip
                    go_simp
                    have OA := own_empty wd w2.heap.size BD.out.size
                    have BA := Lib.hid (BD.out.alloc BD.out.size (.cells #[] 34))
                    have SA := KR.out _ BA.out
                    generalize wd.alloc (.cells #[] 34) = wA at *
                    refine hK.out _ _ (by exact SA) (fun hHeld => ?_)
                    clear hK K
                    try simp only [Act.put, List.setIfInBounds_toArray, List.set_cons_zero, List.set_cons_succ]
                    refine wpAnyH_ready (rs := [4, 6]) (by kernel_rfl) (by simp) ?_
                    refine AllReadyH.cons (o := { dst := some 40, op := Go.Op.call { callee := Go.Callee.builtin Go.Builtin.append, args := #[Go.Operand.tmp 36, Go.Operand.tmp 39], argTypes := #[22, 22] }, type := 22, pos := "ref.go:113", after := #[{ on := 0, ground := Go.Ground.data }, { on := 3, ground := Go.Ground.data }], guard := none }) rfl (fun K hK => ?_) (AllReadyH.cons (o := { dst := some 42, op := Go.Op.buildSlice 22 1 #[(0, Go.Operand.tmp 41)], type := 22, pos := "ref.go:113", after := #[{ on := 5, ground := Go.Ground.data }], guard := none }) rfl (fun K hK => ?_) AllReadyH.nil)
                    · skip
                      refine step_append_run rfl (.tmp 36) (.tmp 39) 22 22 rfl _ _ (by rfl) (by rfl) _ (run_append_rs wA w2.heap.size _ _ [] OA _ _ _ _ (HT.out _ BA.out) (by first | (simp; done) | (simp; omega)) BA.out.size) ?_
                      rintro v4 w4 ⟨O4, G4⟩
                      rw [List.nil_append] at O4
                      have B4 := Lib.hid (below_own BA.out OA G4 BA.out.size (Nat.le_refl _))
                      have S4 := KR.out _ B4.out
                      refine hK.out _ _ (by exact S4) (fun hHeld => ?_)
                      clear hK K
                      try simp only [Act.put, List.setIfInBounds_toArray, List.set_cons_zero, List.set_cons_succ]
                      have RL := rs_new w4 r HIN.out
                      have BL := Lib.hid (B4.out.alloc B4.out.size (.cells #[.string (txt r.name), .int .i64 r.page, .int .i64 r.count] 34))
                      have SL := KR.out _ BL.out
                      have OL := own_on3 O4 ((Below.refl _ w4).alloc (Nat.le_refl _) (.cells #[.string (txt r.name), .int .i64 r.page, .int .i64 r.count] 34))
                      refine wpAnyH_ready (rs := [6]) (by kernel_rfl) (by simp) ?_
                      refine AllReadyH.cons (o := { dst := some 42, op := Go.Op.buildSlice 22 1 #[(0, Go.Operand.tmp 41)], type := 22, pos := "ref.go:113", after := #[{ on := 5, ground := Go.Ground.data }], guard := none }) rfl (fun K hK => ?_) AllReadyH.nil
                      go_simp
                      generalize w4.alloc (.cells #[.string (txt r.name), .int .i64 r.page, .int .i64 r.count] 34) = wL at *
                      refine hK.out _ _ (by exact SL) (fun hHeld => ?_)
                      clear hK K
                      try simp only [Act.put, List.setIfInBounds_toArray, List.set_cons_zero, List.set_cons_succ]
                      refine wpAnyH_ready (rs := [7]) (by kernel_rfl) (by simp) ?_
                      refine AllReadyH.cons (o := { dst := some 43, op := Go.Op.call { callee := Go.Callee.builtin Go.Builtin.append, args := #[Go.Operand.tmp 40, Go.Operand.tmp 42], argTypes := #[22, 22] }, type := 22, pos := "ref.go:113", after := #[{ on := 4, ground := Go.Ground.data }, { on := 6, ground := Go.Ground.data }, { on := 4, ground := Go.Ground.chain }], guard := none }) rfl (fun K hK => ?_) AllReadyH.nil
                      refine step_append_run rfl (.tmp 40) (.tmp 42) 22 22 rfl _ _ (by rfl) (by rfl) _ (run_append_rs wL w2.heap.size _ v4 _ OL _ 1 1 [r] RL (by first | (simp; done) | (simp; omega)) BL.out.size) ?_
                      rintro v7 w7 ⟨O7, G7⟩
                      have B7 := Lib.hid (below_own BL.out OL G7 BL.out.size (Nat.le_refl _))
                      have S7 := KR.out _ B7.out
                      refine hK.out _ _ (by exact S7) (fun hHeld => ?_)
                      clear hK K
                      try simp only [Act.put, List.setIfInBounds_toArray, List.set_cons_zero, List.set_cons_succ]
                      refine wpAnyH_ready (rs := [11]) (by kernel_rfl) (by simp) ?_
                      refine AllReadyH.cons (o := { dst := some 47, op := Go.Op.call { callee := Go.Callee.builtin Go.Builtin.append, args := #[Go.Operand.tmp 43, Go.Operand.tmp 46], argTypes := #[22, 22] }, type := 22, pos := "ref.go:113", after := #[{ on := 7, ground := Go.Ground.data }, { on := 10, ground := Go.Ground.data }, { on := 7, ground := Go.Ground.chain }], guard := none }) rfl (fun K hK => ?_) AllReadyH.nil
                      refine step_append_run rfl (.tmp 43) (.tmp 46) 22 22 rfl _ _ (by rfl) (by rfl) _ (run_append_rs w7 w2.heap.size _ v7 _ O7 _ _ _ _ (HD.out _ B7.out) (by first | (simp; done) | (simp; omega)) B7.out.size) ?_
                      rintro v9 w9 ⟨O9, G9⟩
                      have B9 := Lib.hid (below_own B7.out O7 G9 B7.out.size (Nat.le_refl _))
                      have S9 := KR.out _ B9.out
                      refine hK.out _ _ (by exact S9) (fun hHeld => ?_)
                      clear hK K
                      try simp only [Act.put, List.setIfInBounds_toArray, List.set_cons_zero, List.set_cons_succ]
                      refine wpAnyH_take (i := 12) (oi := { dst := some 4, op := Go.Op.assign (Go.Operand.tmp 47), type := 22, pos := "ref.go:113", after := #[{ on := 11, ground := Go.Ground.data }, { on := 11, ground := Go.Ground.chain }, { on := 0, ground := Go.Ground.phase }, { on := 1, ground := Go.Ground.phase }, { on := 2, ground := Go.Ground.phase }, { on := 3, ground := Go.Ground.phase }, { on := 4, ground := Go.Ground.phase }, { on := 5, ground := Go.Ground.phase }, { on := 6, ground := Go.Ground.phase }, { on := 7, ground := Go.Ground.phase }, { on := 8, ground := Go.Ground.phase }, { on := 9, ground := Go.Ground.phase }, { on := 10, ground := Go.Ground.phase }, { on := 11, ground := Go.Ground.phase }], guard := none }) (v := ?_) rfl (by kernel_rfl) (by kernel_rfl) (by kernel_rfl) (fun _ _ _ h => h) (Or.inl ⟨by rfl, ?_⟩) (by assumption) ?_
                      rotate_left
                      · (intro w hSw; (try dsimp only at hSw); go_simp; try with_reducible rfl)
                      try simp only [Act.put, List.setIfInBounds_toArray, List.set_cons_zero, List.set_cons_succ]
                      refine wpAnyH_take (i := 13) (oi := { dst := some 5, op := Go.Op.assign (Go.Operand.const (Go.Value.int Go.IntKind.i64 0)), type := 26, pos := "ref.go:113", after := #[{ on := 12, ground := Go.Ground.chain }, { on := 0, ground := Go.Ground.phase }, { on := 1, ground := Go.Ground.phase }, { on := 2, ground := Go.Ground.phase }, { on := 3, ground := Go.Ground.phase }, { on := 4, ground := Go.Ground.phase }, { on := 5, ground := Go.Ground.phase }, { on := 6, ground := Go.Ground.phase }, { on := 7, ground := Go.Ground.phase }, { on := 8, ground := Go.Ground.phase }, { on := 9, ground := Go.Ground.phase }, { on := 10, ground := Go.Ground.phase }, { on := 11, ground := Go.Ground.phase }, { on := 12, ground := Go.Ground.phase }], guard := none }) (v := ?_) rfl (by kernel_rfl) (by kernel_rfl) (by kernel_rfl) (fun _ _ _ h => h) (Or.inl ⟨by rfl, ?_⟩) (by assumption) ?_
                      rotate_left
                      · (intro w hSw; (try dsimp only at hSw); go_simp; try with_reducible rfl)
                      try simp only [Act.put, List.setIfInBounds_toArray, List.set_cons_zero, List.set_cons_succ]
                      refine wpAnyH_done (by kernel_rfl) ?_ _
                      refine NoPanic.normal ?_
                      go_wp2
                      go_ret2
                      exact HFIN.out _ _ _ _ HKE.out O9 B9.out
                    · skip
                      go_simp
                      have RL := rs_new wA r HIN.out
                      have BL := Lib.hid (BA.out.alloc BA.out.size (.cells #[.string (txt r.name), .int .i64 r.page, .int .i64 r.count] 34))
                      have SL := KR.out _ BL.out
                      have OL := own_on3 OA ((Below.refl _ wA).alloc (Nat.le_refl _) (.cells #[.string (txt r.name), .int .i64 r.page, .int .i64 r.count] 34))
                      have hLA := OA.lt _ rfl
                      generalize wA.alloc (.cells #[.string (txt r.name), .int .i64 r.page, .int .i64 r.count] 34) = wL at *
                      refine hK.out _ _ (by exact SL) (fun hHeld => ?_)
                      clear hK K
                      try simp only [Act.put, List.setIfInBounds_toArray, List.set_cons_zero, List.set_cons_succ]
                      refine wpAnyH_ready (rs := [4]) (by kernel_rfl) (by simp) ?_
                      refine AllReadyH.cons (o := { dst := some 40, op := Go.Op.call { callee := Go.Callee.builtin Go.Builtin.append, args := #[Go.Operand.tmp 36, Go.Operand.tmp 39], argTypes := #[22, 22] }, type := 22, pos := "ref.go:113", after := #[{ on := 0, ground := Go.Ground.data }, { on := 3, ground := Go.Ground.data }], guard := none }) rfl (fun K hK => ?_) AllReadyH.nil
                      refine step_append_run rfl (.tmp 36) (.tmp 39) 22 22 rfl _ _ (by rfl) (by rfl) _ (run_append_rs wL w2.heap.size _ _ [] OL _ _ _ _ (HT.out _ BL.out) (by first | (simp; done) | (simp; omega)) BL.out.size) ?_
                      rintro v4 w4 ⟨O4, G4⟩
                      rw [List.nil_append] at O4
                      have B4 := Lib.hid (below_own BL.out OL G4 BL.out.size (Nat.le_refl _))
                      have S4 := KR.out _ B4.out
                      refine hK.out _ _ (by exact S4) (fun hHeld => ?_)
                      clear hK K
                      try simp only [Act.put, List.setIfInBounds_toArray, List.set_cons_zero, List.set_cons_succ]
                      have RM := RL.grown G4 (fun a ha hh => by injection ha with ha; subst ha; injection hh with hh; simp at hh hLA; omega)
                      refine wpAnyH_ready (rs := [7]) (by kernel_rfl) (by simp) ?_
                      refine AllReadyH.cons (o := { dst := some 43, op := Go.Op.call { callee := Go.Callee.builtin Go.Builtin.append, args := #[Go.Operand.tmp 40, Go.Operand.tmp 42], argTypes := #[22, 22] }, type := 22, pos := "ref.go:113", after := #[{ on := 4, ground := Go.Ground.data }, { on := 6, ground := Go.Ground.data }, { on := 4, ground := Go.Ground.chain }], guard := none }) rfl (fun K hK => ?_) AllReadyH.nil
                      refine step_append_run rfl (.tmp 40) (.tmp 42) 22 22 rfl _ _ (by rfl) (by rfl) _ (run_append_rs w4 w2.heap.size _ v4 _ O4 _ 1 1 [r] RM (by first | (simp; done) | (simp; omega)) B4.out.size) ?_
                      rintro v7 w7 ⟨O7, G7⟩
                      have B7 := Lib.hid (below_own B4.out O4 G7 B4.out.size (Nat.le_refl _))
                      have S7 := KR.out _ B7.out
                      refine hK.out _ _ (by exact S7) (fun hHeld => ?_)
                      clear hK K
                      try simp only [Act.put, List.setIfInBounds_toArray, List.set_cons_zero, List.set_cons_succ]
                      refine wpAnyH_ready (rs := [11]) (by kernel_rfl) (by simp) ?_
                      refine AllReadyH.cons (o := { dst := some 47, op := Go.Op.call { callee := Go.Callee.builtin Go.Builtin.append, args := #[Go.Operand.tmp 43, Go.Operand.tmp 46], argTypes := #[22, 22] }, type := 22, pos := "ref.go:113", after := #[{ on := 7, ground := Go.Ground.data }, { on := 10, ground := Go.Ground.data }, { on := 7, ground := Go.Ground.chain }], guard := none }) rfl (fun K hK => ?_) AllReadyH.nil
                      refine step_append_run rfl (.tmp 43) (.tmp 46) 22 22 rfl _ _ (by rfl) (by rfl) _ (run_append_rs w7 w2.heap.size _ v7 _ O7 _ _ _ _ (HD.out _ B7.out) (by first | (simp; done) | (simp; omega)) B7.out.size) ?_
                      rintro v9 w9 ⟨O9, G9⟩
                      have B9 := Lib.hid (below_own B7.out O7 G9 B7.out.size (Nat.le_refl _))
                      have S9 := KR.out _ B9.out
                      refine hK.out _ _ (by exact S9) (fun hHeld => ?_)
                      clear hK K
                      try simp only [Act.put, List.setIfInBounds_toArray, List.set_cons_zero, List.set_cons_succ]
                      refine wpAnyH_take (i := 12) (oi := { dst := some 4, op := Go.Op.assign (Go.Operand.tmp 47), type := 22, pos := "ref.go:113", after := #[{ on := 11, ground := Go.Ground.data }, { on := 11, ground := Go.Ground.chain }, { on := 0, ground := Go.Ground.phase }, { on := 1, ground := Go.Ground.phase }, { on := 2, ground := Go.Ground.phase }, { on := 3, ground := Go.Ground.phase }, { on := 4, ground := Go.Ground.phase }, { on := 5, ground := Go.Ground.phase }, { on := 6, ground := Go.Ground.phase }, { on := 7, ground := Go.Ground.phase }, { on := 8, ground := Go.Ground.phase }, { on := 9, ground := Go.Ground.phase }, { on := 10, ground := Go.Ground.phase }, { on := 11, ground := Go.Ground.phase }], guard := none }) (v := ?_) rfl (by kernel_rfl) (by kernel_rfl) (by kernel_rfl) (fun _ _ _ h => h) (Or.inl ⟨by rfl, ?_⟩) (by assumption) ?_
                      rotate_left
                      · (intro w hSw; (try dsimp only at hSw); go_simp; try with_reducible rfl)
                      try simp only [Act.put, List.setIfInBounds_toArray, List.set_cons_zero, List.set_cons_succ]
                      refine wpAnyH_take (i := 13) (oi := { dst := some 5, op := Go.Op.assign (Go.Operand.const (Go.Value.int Go.IntKind.i64 0)), type := 26, pos := "ref.go:113", after := #[{ on := 12, ground := Go.Ground.chain }, { on := 0, ground := Go.Ground.phase }, { on := 1, ground := Go.Ground.phase }, { on := 2, ground := Go.Ground.phase }, { on := 3, ground := Go.Ground.phase }, { on := 4, ground := Go.Ground.phase }, { on := 5, ground := Go.Ground.phase }, { on := 6, ground := Go.Ground.phase }, { on := 7, ground := Go.Ground.phase }, { on := 8, ground := Go.Ground.phase }, { on := 9, ground := Go.Ground.phase }, { on := 10, ground := Go.Ground.phase }, { on := 11, ground := Go.Ground.phase }, { on := 12, ground := Go.Ground.phase }], guard := none }) (v := ?_) rfl (by kernel_rfl) (by kernel_rfl) (by kernel_rfl) (fun _ _ _ h => h) (Or.inl ⟨by rfl, ?_⟩) (by assumption) ?_
                      rotate_left
                      · (intro w hSw; (try dsimp only at hSw); go_simp; try with_reducible rfl)
                      try simp only [Act.put, List.setIfInBounds_toArray, List.set_cons_zero, List.set_cons_succ]
                      refine wpAnyH_done (by kernel_rfl) ?_ _
                      refine NoPanic.normal ?_
                      go_wp2
                      go_ret2
                      exact HFIN.out _ _ _ _ HKE.out O9 B9.out
                  · skip
                    go_simp
                    have RL := rs_new wd r HIN.out
                    have BL := Lib.hid (BD.out.alloc BD.out.size (.cells #[.string (txt r.name), .int .i64 r.page, .int .i64 r.count] 34))
                    have SL := KR.out _ BL.out
                    have sL : wd.heap.size < (wd.alloc (.cells #[.string (txt r.name), .int .i64 r.page, .int .i64 r.count] 34)).heap.size := by simp
                    generalize wd.alloc (.cells #[.string (txt r.name), .int .i64 r.page, .int .i64 r.count] 34) = wL at *
                    refine hK.out _ _ (by exact SL) (fun hHeld => ?_)
                    clear hK K
                    try simp only [Act.put, List.setIfInBounds_toArray, List.set_cons_zero, List.set_cons_succ]
                    refine wpAnyH_ready (rs := [0]) (by kernel_rfl) (by simp) ?_
                    refine AllReadyH.cons (o := { dst := some 36, op := Go.Op.buildSlice 22 0 #[], type := 22, pos := "ref.go:113", after := #[], guard := none }) rfl (fun K hK => ?_) AllReadyH.nil
                    go_simp
                    have OA := own_empty wL w2.heap.size BL.out.size
                    have BA := Lib.hid (BL.out.alloc BL.out.size (.cells #[] 34))
                    have SA := KR.out _ BA.out
                    have RN := RL.alloc (.cells #[] 34)
                    generalize wL.alloc (.cells #[] 34) = wA at *
                    refine hK.out _ _ (by exact SA) (fun hHeld => ?_)
                    clear hK K
                    try simp only [Act.put, List.setIfInBounds_toArray, List.set_cons_zero, List.set_cons_succ]
                    refine wpAnyH_ready (rs := [4]) (by kernel_rfl) (by simp) ?_
                    refine AllReadyH.cons (o := { dst := some 40, op := Go.Op.call { callee := Go.Callee.builtin Go.Builtin.append, args := #[Go.Operand.tmp 36, Go.Operand.tmp 39], argTypes := #[22, 22] }, type := 22, pos := "ref.go:113", after := #[{ on := 0, ground := Go.Ground.data }, { on := 3, ground := Go.Ground.data }], guard := none }) rfl (fun K hK => ?_) AllReadyH.nil
                    refine step_append_run rfl (.tmp 36) (.tmp 39) 22 22 rfl _ _ (by rfl) (by rfl) _ (run_append_rs wA w2.heap.size _ _ [] OA _ _ _ _ (HT.out _ BA.out) (by first | (simp; done) | (simp; omega)) BA.out.size) ?_
                    rintro v4 w4 ⟨O4, G4⟩
                    rw [List.nil_append] at O4
                    have B4 := Lib.hid (below_own BA.out OA G4 BA.out.size (Nat.le_refl _))
                    have S4 := KR.out _ B4.out
                    refine hK.out _ _ (by exact S4) (fun hHeld => ?_)
                    clear hK K
                    try simp only [Act.put, List.setIfInBounds_toArray, List.set_cons_zero, List.set_cons_succ]
                    have RM := RN.grown G4 (fun a ha hh => by injection ha with ha; subst ha; injection hh with hh; simp at hh sL; omega)
                    refine wpAnyH_ready (rs := [7]) (by kernel_rfl) (by simp) ?_
                    refine AllReadyH.cons (o := { dst := some 43, op := Go.Op.call { callee := Go.Callee.builtin Go.Builtin.append, args := #[Go.Operand.tmp 40, Go.Operand.tmp 42], argTypes := #[22, 22] }, type := 22, pos := "ref.go:113", after := #[{ on := 4, ground := Go.Ground.data }, { on := 6, ground := Go.Ground.data }, { on := 4, ground := Go.Ground.chain }], guard := none }) rfl (fun K hK => ?_) AllReadyH.nil
                    refine step_append_run rfl (.tmp 40) (.tmp 42) 22 22 rfl _ _ (by rfl) (by rfl) _ (run_append_rs w4 w2.heap.size _ v4 _ O4 _ 1 1 [r] RM (by first | (simp; done) | (simp; omega)) B4.out.size) ?_
                    rintro v7 w7 ⟨O7, G7⟩
                    have B7 := Lib.hid (below_own B4.out O4 G7 B4.out.size (Nat.le_refl _))
                    have S7 := KR.out _ B7.out
                    refine hK.out _ _ (by exact S7) (fun hHeld => ?_)
                    clear hK K
                    try simp only [Act.put, List.setIfInBounds_toArray, List.set_cons_zero, List.set_cons_succ]
                    refine wpAnyH_ready (rs := [11]) (by kernel_rfl) (by simp) ?_
                    refine AllReadyH.cons (o := { dst := some 47, op := Go.Op.call { callee := Go.Callee.builtin Go.Builtin.append, args := #[Go.Operand.tmp 43, Go.Operand.tmp 46], argTypes := #[22, 22] }, type := 22, pos := "ref.go:113", after := #[{ on := 7, ground := Go.Ground.data }, { on := 10, ground := Go.Ground.data }, { on := 7, ground := Go.Ground.chain }], guard := none }) rfl (fun K hK => ?_) AllReadyH.nil
                    refine step_append_run rfl (.tmp 43) (.tmp 46) 22 22 rfl _ _ (by rfl) (by rfl) _ (run_append_rs w7 w2.heap.size _ v7 _ O7 _ _ _ _ (HD.out _ B7.out) (by first | (simp; done) | (simp; omega)) B7.out.size) ?_
                    rintro v9 w9 ⟨O9, G9⟩
                    have B9 := Lib.hid (below_own B7.out O7 G9 B7.out.size (Nat.le_refl _))
                    have S9 := KR.out _ B9.out
                    refine hK.out _ _ (by exact S9) (fun hHeld => ?_)
                    clear hK K
                    try simp only [Act.put, List.setIfInBounds_toArray, List.set_cons_zero, List.set_cons_succ]
                    refine wpAnyH_take (i := 12) (oi := { dst := some 4, op := Go.Op.assign (Go.Operand.tmp 47), type := 22, pos := "ref.go:113", after := #[{ on := 11, ground := Go.Ground.data }, { on := 11, ground := Go.Ground.chain }, { on := 0, ground := Go.Ground.phase }, { on := 1, ground := Go.Ground.phase }, { on := 2, ground := Go.Ground.phase }, { on := 3, ground := Go.Ground.phase }, { on := 4, ground := Go.Ground.phase }, { on := 5, ground := Go.Ground.phase }, { on := 6, ground := Go.Ground.phase }, { on := 7, ground := Go.Ground.phase }, { on := 8, ground := Go.Ground.phase }, { on := 9, ground := Go.Ground.phase }, { on := 10, ground := Go.Ground.phase }, { on := 11, ground := Go.Ground.phase }], guard := none }) (v := ?_) rfl (by kernel_rfl) (by kernel_rfl) (by kernel_rfl) (fun _ _ _ h => h) (Or.inl ⟨by rfl, ?_⟩) (by assumption) ?_
                    rotate_left
                    · (intro w hSw; (try dsimp only at hSw); go_simp; try with_reducible rfl)
                    try simp only [Act.put, List.setIfInBounds_toArray, List.set_cons_zero, List.set_cons_succ]
                    refine wpAnyH_take (i := 13) (oi := { dst := some 5, op := Go.Op.assign (Go.Operand.const (Go.Value.int Go.IntKind.i64 0)), type := 26, pos := "ref.go:113", after := #[{ on := 12, ground := Go.Ground.chain }, { on := 0, ground := Go.Ground.phase }, { on := 1, ground := Go.Ground.phase }, { on := 2, ground := Go.Ground.phase }, { on := 3, ground := Go.Ground.phase }, { on := 4, ground := Go.Ground.phase }, { on := 5, ground := Go.Ground.phase }, { on := 6, ground := Go.Ground.phase }, { on := 7, ground := Go.Ground.phase }, { on := 8, ground := Go.Ground.phase }, { on := 9, ground := Go.Ground.phase }, { on := 10, ground := Go.Ground.phase }, { on := 11, ground := Go.Ground.phase }, { on := 12, ground := Go.Ground.phase }], guard := none }) (v := ?_) rfl (by kernel_rfl) (by kernel_rfl) (by kernel_rfl) (fun _ _ _ h => h) (Or.inl ⟨by rfl, ?_⟩) (by assumption) ?_
                    rotate_left
                    · (intro w hSw; (try dsimp only at hSw); go_simp; try with_reducible rfl)
                    try simp only [Act.put, List.setIfInBounds_toArray, List.set_cons_zero, List.set_cons_succ]
                    refine wpAnyH_done (by kernel_rfl) ?_ _
                    refine NoPanic.normal ?_
                    go_wp2
                    go_ret2
                    exact HFIN.out _ _ _ _ HKE.out O9 B9.out
                · skip
                  have HT := Lib.hid (fun W (hW : Below w2.heap.size w2 W) => (HR2.out.on hW).first k hk)
                  have HD := Lib.hid (fun W (hW : Below w2.heap.size w2 W) => (HR2.out.on hW).far k hk)
                  have hkm : (k : Int) ≤ (m : Int) := by omega
                  have hkc : (k : Int) ≤ (c2' : Int) := by omega
                  obtain ⟨g0, g1, g2⟩ := hgz
                  go_wp2_with fail
                  have BD := Lib.hid BZ.out.drew
                  refine wp_region_noPanic ?_
                  refine wp_region_held_drew (S := (fun w' : World => w'.cell? ⟨w.heap.size, 0, none⟩ = some (.string (txt r.name)) ∧ w'.cell? ⟨w.heap.size, 1, none⟩ = some (.int .i64 r.page) ∧ w'.cell? ⟨w.heap.size, 2, none⟩ = some (.int .i64 r.count))) (by kernel_rfl) (by exact ⟨g0, g1, g2⟩) (fun hHeld => ?_)
                  generalize wz.drew = wd at *
                  refine wpAnyH_take (i := 1) (oi := { dst := some 37, op := Go.Op.move (Go.Operand.tmp 6), type := 22, pos := "ref.go:113", after := #[], guard := none }) (v := ?_) rfl (by kernel_rfl) (by kernel_rfl) (by kernel_rfl) (fun _ _ _ h => h) (Or.inl ⟨by rfl, ?_⟩) (by assumption) ?_
                  rotate_left
                  · (intro w hSw; (try dsimp only at hSw); go_simp; try with_reducible rfl)
                  try simp only [Act.put, List.setIfInBounds_toArray, List.set_cons_zero, List.set_cons_succ]
                  refine wpAnyH_take (i := 2) (oi := { dst := some 38, op := Go.Op.move (Go.Operand.tmp 7), type := 3, pos := "ref.go:113", after := #[], guard := none }) (v := ?_) rfl (by kernel_rfl) (by kernel_rfl) (by kernel_rfl) (fun _ _ _ h => h) (Or.inl ⟨by rfl, ?_⟩) (by assumption) ?_
                  rotate_left
                  · (intro w hSw; (try dsimp only at hSw); go_simp; try with_reducible rfl)
                  try simp only [Act.put, List.setIfInBounds_toArray, List.set_cons_zero, List.set_cons_succ]
                  refine wpAnyH_take (i := 3) (oi := { dst := some 39, op := Go.Op.slice 22 (Go.Operand.tmp 37) none (some (Go.Operand.tmp 38)) none, type := 22, pos := "ref.go:113", after := #[{ on := 1, ground := Go.Ground.data }, { on := 2, ground := Go.Ground.data }], guard := none }) (v := ?_) rfl (by kernel_rfl) (by kernel_rfl) (by kernel_rfl) (fun _ _ _ h => h) (Or.inl ⟨by rfl, ?_⟩) (by assumption) ?_
                  rotate_left
                  · (intro w hSw; (try dsimp only at hSw); go_simp; try with_reducible rfl)
                  try simp only [Act.put, List.setIfInBounds_toArray, List.set_cons_zero, List.set_cons_succ]
                  refine wpAnyH_take (i := 5) (oi := { dst := some 41, op := Go.Op.load 34 (Go.Operand.tmp 3), type := 34, pos := "ref.go:113", after := #[], guard := none }) (v := ?_) rfl (by kernel_rfl) (by kernel_rfl) (by kernel_rfl) (fun _ _ _ h => h) (Or.inl ⟨by rfl, ?_⟩) (by assumption) ?_
                  rotate_left
                  · (intro w hSw; (try dsimp only at hSw); go_simp; try with_reducible rfl)
                  try simp only [Act.put, List.setIfInBounds_toArray, List.set_cons_zero, List.set_cons_succ]
                  refine wpAnyH_take (i := 8) (oi := { dst := some 44, op := Go.Op.move (Go.Operand.tmp 6), type := 22, pos := "ref.go:113", after := #[], guard := none }) (v := ?_) rfl (by kernel_rfl) (by kernel_rfl) (by kernel_rfl) (fun _ _ _ h => h) (Or.inl ⟨by rfl, ?_⟩) (by assumption) ?_
                  rotate_left
                  · (intro w hSw; (try dsimp only at hSw); go_simp; try with_reducible rfl)
                  try simp only [Act.put, List.setIfInBounds_toArray, List.set_cons_zero, List.set_cons_succ]
                  refine wpAnyH_take (i := 9) (oi := { dst := some 45, op := Go.Op.move (Go.Operand.tmp 7), type := 3, pos := "ref.go:113", after := #[], guard := none }) (v := ?_) rfl (by kernel_rfl) (by kernel_rfl) (by kernel_rfl) (fun _ _ _ h => h) (Or.inl ⟨by rfl, ?_⟩) (by assumption) ?_
                  rotate_left
                  · (intro w hSw; (try dsimp only at hSw); go_simp; try with_reducible rfl)
                  try simp only [Act.put, List.setIfInBounds_toArray, List.set_cons_zero, List.set_cons_succ]
                  refine wpAnyH_take (i := 10) (oi := { dst := some 46, op := Go.Op.slice 22 (Go.Operand.tmp 44) (some (Go.Operand.tmp 45)) none none, type := 22, pos := "ref.go:113", after := #[{ on := 8, ground := Go.Ground.data }, { on := 9, ground := Go.Ground.data }], guard := none }) (v := ?_) rfl (by kernel_rfl) (by kernel_rfl) (by kernel_rfl) (fun _ _ _ h => h) (Or.inl ⟨by rfl, ?_⟩) (by assumption) ?_
                  rotate_left
                  · (intro w hSw; (try dsimp only at hSw); go_simp; try with_reducible rfl)
                  try simp only [Act.put, List.setIfInBounds_toArray, List.set_cons_zero, List.set_cons_succ]
                  refine wpAnyH_ready (rs := [0, 6]) (by kernel_rfl) (by simp) ?_
                  refine AllReadyH.cons (o := { dst := some 36, op := Go.Op.buildSlice 22 0 #[], type := 22, pos := "ref.go:113", after := #[], guard := none }) rfl (fun K hK => ?_) (AllReadyH.cons (o := { dst := some 42, op := Go.Op.buildSlice 22 1 #[(0, Go.Operand.tmp 41)], type := 22, pos := "ref.go:113", after := #[{ on := 5, ground := Go.Ground.data }], guard := none }) rfl (fun K hK => ?_) AllReadyH.nil)
                  · skip
                    go_simp
                    have OA := own_empty wd w2.heap.size BD.out.size
                    have BA := Lib.hid (BD.out.alloc BD.out.size (.cells #[] 34))
                    have SA := KR.out _ BA.out
                    generalize wd.alloc (.cells #[] 34) = wA at *
                    refine hK.out _ _ (by exact SA) (fun hHeld => ?_)
                    clear hK K
                    try simp only [Act.put, List.setIfInBounds_toArray, List.set_cons_zero, List.set_cons_succ]
                    refine wpAnyH_ready (rs := [4, 6]) (by kernel_rfl) (by simp) ?_
                    refine AllReadyH.cons (o := { dst := some 40, op := Go.Op.call { callee := Go.Callee.builtin Go.Builtin.append, args := #[Go.Operand.tmp 36, Go.Operand.tmp 39], argTypes := #[22, 22] }, type := 22, pos := "ref.go:113", after := #[{ on := 0, ground := Go.Ground.data }, { on := 3, ground := Go.Ground.data }], guard := none }) rfl (fun K hK => ?_) (AllReadyH.cons (o := { dst := some 42, op := Go.Op.buildSlice 22 1 #[(0, Go.Operand.tmp 41)], type := 22, pos := "ref.go:113", after := #[{ on := 5, ground := Go.Ground.data }], guard := none }) rfl (fun K hK => ?_) AllReadyH.nil)
                    · skip
                      refine step_append_run rfl (.tmp 36) (.tmp 39) 22 22 rfl _ _ (by rfl) (by rfl) _ (run_append_rs wA w2.heap.size _ _ [] OA _ _ _ _ (HT.out _ BA.out) (by first | (simp; done) | (simp; omega)) BA.out.size) ?_
                      rintro v4 w4 ⟨O4, G4⟩
                      rw [List.nil_append] at O4
                      have B4 := Lib.hid (below_own BA.out OA G4 BA.out.size (Nat.le_refl _))
                      have S4 := KR.out _ B4.out
                      refine hK.out _ _ (by exact S4) (fun hHeld => ?_)
                      clear hK K
                      try simp only [Act.put, List.setIfInBounds_toArray, List.set_cons_zero, List.set_cons_succ]
                      have RL := rs_new w4 r HIN.out
                      have BL := Lib.hid (B4.out.alloc B4.out.size (.cells #[.string (txt r.name), .int .i64 r.page, .int .i64 r.count] 34))
                      have SL := KR.out _ BL.out
                      have OL := own_on3 O4 ((Below.refl _ w4).alloc (Nat.le_refl _) (.cells #[.string (txt r.name), .int .i64 r.page, .int .i64 r.count] 34))
                      refine wpAnyH_ready (rs := [6]) (by kernel_rfl) (by simp) ?_
                      refine AllReadyH.cons (o := { dst := some 42, op := Go.Op.buildSlice 22 1 #[(0, Go.Operand.tmp 41)], type := 22, pos := "ref.go:113", after := #[{ on := 5, ground := Go.Ground.data }], guard := none }) rfl (fun K hK => ?_) AllReadyH.nil
                      go_simp
                      generalize w4.alloc (.cells #[.string (txt r.name), .int .i64 r.page, .int .i64 r.count] 34) = wL at *
                      refine hK.out _ _ (by exact SL) (fun hHeld => ?_)
                      clear hK K
                      try simp only [Act.put, List.setIfInBounds_toArray, List.set_cons_zero, List.set_cons_succ]
                      refine wpAnyH_ready (rs := [7]) (by kernel_rfl) (by simp) ?_
                      refine AllReadyH.cons (o := { dst := some 43, op := Go.Op.call { callee := Go.Callee.builtin Go.Builtin.append, args := #[Go.Operand.tmp 40, Go.Operand.tmp 42], argTypes := #[22, 22] }, type := 22, pos := "ref.go:113", after := #[{ on := 4, ground := Go.Ground.data }, { on := 6, ground := Go.Ground.data }, { on := 4, ground := Go.Ground.chain }], guard := none }) rfl (fun K hK => ?_) AllReadyH.nil
                      refine step_append_run rfl (.tmp 40) (.tmp 42) 22 22 rfl _ _ (by rfl) (by rfl) _ (run_append_rs wL w2.heap.size _ v4 _ OL _ 1 1 [r] RL (by first | (simp; done) | (simp; omega)) BL.out.size) ?_
                      rintro v7 w7 ⟨O7, G7⟩
                      have B7 := Lib.hid (below_own BL.out OL G7 BL.out.size (Nat.le_refl _))
                      have S7 := KR.out _ B7.out
                      refine hK.out _ _ (by exact S7) (fun hHeld => ?_)
                      clear hK K
                      try simp only [Act.put, List.setIfInBounds_toArray, List.set_cons_zero, List.set_cons_succ]
                      refine wpAnyH_ready (rs := [11]) (by kernel_rfl) (by simp) ?_
                      refine AllReadyH.cons (o := { dst := some 47, op := Go.Op.call { callee := Go.Callee.builtin Go.Builtin.append, args := #[Go.Operand.tmp 43, Go.Operand.tmp 46], argTypes := #[22, 22] }, type := 22, pos := "ref.go:113", after := #[{ on := 7, ground := Go.Ground.data }, { on := 10, ground := Go.Ground.data }, { on := 7, ground := Go.Ground.chain }], guard := none }) rfl (fun K hK => ?_) AllReadyH.nil
                      refine step_append_run rfl (.tmp 43) (.tmp 46) 22 22 rfl _ _ (by rfl) (by rfl) _ (run_append_rs w7 w2.heap.size _ v7 _ O7 _ _ _ _ (HD.out _ B7.out) (by first | (simp; done) | (simp; omega)) B7.out.size) ?_
                      rintro v9 w9 ⟨O9, G9⟩
                      have B9 := Lib.hid (below_own B7.out O7 G9 B7.out.size (Nat.le_refl _))
                      have S9 := KR.out _ B9.out
                      refine hK.out _ _ (by exact S9) (fun hHeld => ?_)
                      clear hK K
                      try simp only [Act.put, List.setIfInBounds_toArray, List.set_cons_zero, List.set_cons_succ]
                      refine wpAnyH_take (i := 12) (oi := { dst := some 4, op := Go.Op.assign (Go.Operand.tmp 47), type := 22, pos := "ref.go:113", after := #[{ on := 11, ground := Go.Ground.data }, { on := 11, ground := Go.Ground.chain }, { on := 0, ground := Go.Ground.phase }, { on := 1, ground := Go.Ground.phase }, { on := 2, ground := Go.Ground.phase }, { on := 3, ground := Go.Ground.phase }, { on := 4, ground := Go.Ground.phase }, { on := 5, ground := Go.Ground.phase }, { on := 6, ground := Go.Ground.phase }, { on := 7, ground := Go.Ground.phase }, { on := 8, ground := Go.Ground.phase }, { on := 9, ground := Go.Ground.phase }, { on := 10, ground := Go.Ground.phase }, { on := 11, ground := Go.Ground.phase }], guard := none }) (v := ?_) rfl (by kernel_rfl) (by kernel_rfl) (by kernel_rfl) (fun _ _ _ h => h) (Or.inl ⟨by rfl, ?_⟩) (by assumption) ?_
                      rotate_left
                      · (intro w hSw; (try dsimp only at hSw); go_simp; try with_reducible rfl)
                      try simp only [Act.put, List.setIfInBounds_toArray, List.set_cons_zero, List.set_cons_succ]
                      refine wpAnyH_take (i := 13) (oi := { dst := some 5, op := Go.Op.assign (Go.Operand.const (Go.Value.int Go.IntKind.i64 0)), type := 26, pos := "ref.go:113", after := #[{ on := 12, ground := Go.Ground.chain }, { on := 0, ground := Go.Ground.phase }, { on := 1, ground := Go.Ground.phase }, { on := 2, ground := Go.Ground.phase }, { on := 3, ground := Go.Ground.phase }, { on := 4, ground := Go.Ground.phase }, { on := 5, ground := Go.Ground.phase }, { on := 6, ground := Go.Ground.phase }, { on := 7, ground := Go.Ground.phase }, { on := 8, ground := Go.Ground.phase }, { on := 9, ground := Go.Ground.phase }, { on := 10, ground := Go.Ground.phase }, { on := 11, ground := Go.Ground.phase }, { on := 12, ground := Go.Ground.phase }], guard := none }) (v := ?_) rfl (by kernel_rfl) (by kernel_rfl) (by kernel_rfl) (fun _ _ _ h => h) (Or.inl ⟨by rfl, ?_⟩) (by assumption) ?_
                      rotate_left
                      · (intro w hSw; (try dsimp only at hSw); go_simp; try with_reducible rfl)
                      try simp only [Act.put, List.setIfInBounds_toArray, List.set_cons_zero, List.set_cons_succ]
                      refine wpAnyH_done (by kernel_rfl) ?_ _
                      refine NoPanic.normal ?_
                      go_wp2
                      go_ret2
                      exact HFIN.out _ _ _ _ HKE.out O9 B9.out
                    · skip
                      go_simp
                      have RL := rs_new wA r HIN.out
                      have BL := Lib.hid (BA.out.alloc BA.out.size (.cells #[.string (txt r.name), .int .i64 r.page, .int .i64 r.count] 34))
                      have SL := KR.out _ BL.out
                      have OL := own_on3 OA ((Below.refl _ wA).alloc (Nat.le_refl _) (.cells #[.string (txt r.name), .int .i64 r.page, .int .i64 r.count] 34))
                      have hLA := OA.lt _ rfl
                      generalize wA.alloc (.cells #[.string (txt r.name), .int .i64 r.page, .int .i64 r.count] 34) = wL at *
                      refine hK.out _ _ (by exact SL) (fun hHeld => ?_)
                      clear hK K
                      try simp only [Act.put, List.setIfInBounds_toArray, List.set_cons_zero, List.set_cons_succ]
                      refine wpAnyH_ready (rs := [4]) (by kernel_rfl) (by simp) ?_
                      refine AllReadyH.cons (o := { dst := some 40, op := Go.Op.call { callee := Go.Callee.builtin Go.Builtin.append, args := #[Go.Operand.tmp 36, Go.Operand.tmp 39], argTypes := #[22, 22] }, type := 22, pos := "ref.go:113", after := #[{ on := 0, ground := Go.Ground.data }, { on := 3, ground := Go.Ground.data }], guard := none }) rfl (fun K hK => ?_) AllReadyH.nil
                      refine step_append_run rfl (.tmp 36) (.tmp 39) 22 22 rfl _ _ (by rfl) (by rfl) _ (run_append_rs wL w2.heap.size _ _ [] OL _ _ _ _ (HT.out _ BL.out) (by first | (simp; done) | (simp; omega)) BL.out.size) ?_
                      rintro v4 w4 ⟨O4, G4⟩
                      rw [List.nil_append] at O4
                      have B4 := Lib.hid (below_own BL.out OL G4 BL.out.size (Nat.le_refl _))
                      have S4 := KR.out _ B4.out
                      refine hK.out _ _ (by exact S4) (fun hHeld => ?_)
                      clear hK K
                      try simp only [Act.put, List.setIfInBounds_toArray, List.set_cons_zero, List.set_cons_succ]
                      have RM := RL.grown G4 (fun a ha hh => by injection ha with ha; subst ha; injection hh with hh; simp at hh hLA; omega)
                      refine wpAnyH_ready (rs := [7]) (by kernel_rfl) (by simp) ?_
                      refine AllReadyH.cons (o := { dst := some 43, op := Go.Op.call { callee := Go.Callee.builtin Go.Builtin.append, args := #[Go.Operand.tmp 40, Go.Operand.tmp 42], argTypes := #[22, 22] }, type := 22, pos := "ref.go:113", after := #[{ on := 4, ground := Go.Ground.data }, { on := 6, ground := Go.Ground.data }, { on := 4, ground := Go.Ground.chain }], guard := none }) rfl (fun K hK => ?_) AllReadyH.nil
                      refine step_append_run rfl (.tmp 40) (.tmp 42) 22 22 rfl _ _ (by rfl) (by rfl) _ (run_append_rs w4 w2.heap.size _ v4 _ O4 _ 1 1 [r] RM (by first | (simp; done) | (simp; omega)) B4.out.size) ?_
                      rintro v7 w7 ⟨O7, G7⟩
                      have B7 := Lib.hid (below_own B4.out O4 G7 B4.out.size (Nat.le_refl _))
                      have S7 := KR.out _ B7.out
                      refine hK.out _ _ (by exact S7) (fun hHeld => ?_)
                      clear hK K
                      try simp only [Act.put, List.setIfInBounds_toArray, List.set_cons_zero, List.set_cons_succ]
                      refine wpAnyH_ready (rs := [11]) (by kernel_rfl) (by simp) ?_
                      refine AllReadyH.cons (o := { dst := some 47, op := Go.Op.call { callee := Go.Callee.builtin Go.Builtin.append, args := #[Go.Operand.tmp 43, Go.Operand.tmp 46], argTypes := #[22, 22] }, type := 22, pos := "ref.go:113", after := #[{ on := 7, ground := Go.Ground.data }, { on := 10, ground := Go.Ground.data }, { on := 7, ground := Go.Ground.chain }], guard := none }) rfl (fun K hK => ?_) AllReadyH.nil
                      refine step_append_run rfl (.tmp 43) (.tmp 46) 22 22 rfl _ _ (by rfl) (by rfl) _ (run_append_rs w7 w2.heap.size _ v7 _ O7 _ _ _ _ (HD.out _ B7.out) (by first | (simp; done) | (simp; omega)) B7.out.size) ?_
                      rintro v9 w9 ⟨O9, G9⟩
                      have B9 := Lib.hid (below_own B7.out O7 G9 B7.out.size (Nat.le_refl _))
                      have S9 := KR.out _ B9.out
                      refine hK.out _ _ (by exact S9) (fun hHeld => ?_)
                      clear hK K
                      try simp only [Act.put, List.setIfInBounds_toArray, List.set_cons_zero, List.set_cons_succ]
                      refine wpAnyH_take (i := 12) (oi := { dst := some 4, op := Go.Op.assign (Go.Operand.tmp 47), type := 22, pos := "ref.go:113", after := #[{ on := 11, ground := Go.Ground.data }, { on := 11, ground := Go.Ground.chain }, { on := 0, ground := Go.Ground.phase }, { on := 1, ground := Go.Ground.phase }, { on := 2, ground := Go.Ground.phase }, { on := 3, ground := Go.Ground.phase }, { on := 4, ground := Go.Ground.phase }, { on := 5, ground := Go.Ground.phase }, { on := 6, ground := Go.Ground.phase }, { on := 7, ground := Go.Ground.phase }, { on := 8, ground := Go.Ground.phase }, { on := 9, ground := Go.Ground.phase }, { on := 10, ground := Go.Ground.phase }, { on := 11, ground := Go.Ground.phase }], guard := none }) (v := ?_) rfl (by kernel_rfl) (by kernel_rfl) (by kernel_rfl) (fun _ _ _ h => h) (Or.inl ⟨by rfl, ?_⟩) (by assumption) ?_
                      rotate_left
                      · (intro w hSw; (try dsimp only at hSw); go_simp; try with_reducible rfl)
                      try simp only [Act.put, List.setIfInBounds_toArray, List.set_cons_zero, List.set_cons_succ]
                      refine wpAnyH_take (i := 13) (oi := { dst := some 5, op := Go.Op.assign (Go.Operand.const (Go.Value.int Go.IntKind.i64 0)), type := 26, pos := "ref.go:113", after := #[{ on := 12, ground := Go.Ground.chain }, { on := 0, ground := Go.Ground.phase }, { on := 1, ground := Go.Ground.phase }, { on := 2, ground := Go.Ground.phase }, { on := 3, ground := Go.Ground.phase }, { on := 4, ground := Go.Ground.phase }, { on := 5, ground := Go.Ground.phase }, { on := 6, ground := Go.Ground.phase }, { on := 7, ground := Go.Ground.phase }, { on := 8, ground := Go.Ground.phase }, { on := 9, ground := Go.Ground.phase }, { on := 10, ground := Go.Ground.phase }, { on := 11, ground := Go.Ground.phase }, { on := 12, ground := Go.Ground.phase }], guard := none }) (v := ?_) rfl (by kernel_rfl) (by kernel_rfl) (by kernel_rfl) (fun _ _ _ h => h) (Or.inl ⟨by rfl, ?_⟩) (by assumption) ?_
                      rotate_left
                      · (intro w hSw; (try dsimp only at hSw); go_simp; try with_reducible rfl)
                      try simp only [Act.put, List.setIfInBounds_toArray, List.set_cons_zero, List.set_cons_succ]
                      refine wpAnyH_done (by kernel_rfl) ?_ _
                      refine NoPanic.normal ?_
                      go_wp2
                      go_ret2
                      exact HFIN.out _ _ _ _ HKE.out O9 B9.out
                  · skip
                    go_simp
                    have RL := rs_new wd r HIN.out
                    have BL := Lib.hid (BD.out.alloc BD.out.size (.cells #[.string (txt r.name), .int .i64 r.page, .int .i64 r.count] 34))
                    have SL := KR.out _ BL.out
                    have sL : wd.heap.size < (wd.alloc (.cells #[.string (txt r.name), .int .i64 r.page, .int .i64 r.count] 34)).heap.size := by simp
                    generalize wd.alloc (.cells #[.string (txt r.name), .int .i64 r.page, .int .i64 r.count] 34) = wL at *
                    refine hK.out _ _ (by exact SL) (fun hHeld => ?_)
                    clear hK K
                    try simp only [Act.put, List.setIfInBounds_toArray, List.set_cons_zero, List.set_cons_succ]
                    refine wpAnyH_ready (rs := [0]) (by kernel_rfl) (by simp) ?_
                    refine AllReadyH.cons (o := { dst := some 36, op := Go.Op.buildSlice 22 0 #[], type := 22, pos := "ref.go:113", after := #[], guard := none }) rfl (fun K hK => ?_) AllReadyH.nil
                    go_simp
                    have OA := own_empty wL w2.heap.size BL.out.size
                    have BA := Lib.hid (BL.out.alloc BL.out.size (.cells #[] 34))
                    have SA := KR.out _ BA.out
                    have RN := RL.alloc (.cells #[] 34)
                    generalize wL.alloc (.cells #[] 34) = wA at *
                    refine hK.out _ _ (by exact SA) (fun hHeld => ?_)
                    clear hK K
                    try simp only [Act.put, List.setIfInBounds_toArray, List.set_cons_zero, List.set_cons_succ]
                    refine wpAnyH_ready (rs := [4]) (by kernel_rfl) (by simp) ?_
                    refine AllReadyH.cons (o := { dst := some 40, op := Go.Op.call { callee := Go.Callee.builtin Go.Builtin.append, args := #[Go.Operand.tmp 36, Go.Operand.tmp 39], argTypes := #[22, 22] }, type := 22, pos := "ref.go:113", after := #[{ on := 0, ground := Go.Ground.data }, { on := 3, ground := Go.Ground.data }], guard := none }) rfl (fun K hK => ?_) AllReadyH.nil
                    refine step_append_run rfl (.tmp 36) (.tmp 39) 22 22 rfl _ _ (by rfl) (by rfl) _ (run_append_rs wA w2.heap.size _ _ [] OA _ _ _ _ (HT.out _ BA.out) (by first | (simp; done) | (simp; omega)) BA.out.size) ?_
                    rintro v4 w4 ⟨O4, G4⟩
                    rw [List.nil_append] at O4
                    have B4 := Lib.hid (below_own BA.out OA G4 BA.out.size (Nat.le_refl _))
                    have S4 := KR.out _ B4.out
                    refine hK.out _ _ (by exact S4) (fun hHeld => ?_)
                    clear hK K
                    try simp only [Act.put, List.setIfInBounds_toArray, List.set_cons_zero, List.set_cons_succ]
                    have RM := RN.grown G4 (fun a ha hh => by injection ha with ha; subst ha; injection hh with hh; simp at hh sL; omega)
                    refine wpAnyH_ready (rs := [7]) (by kernel_rfl) (by simp) ?_
                    refine AllReadyH.cons (o := { dst := some 43, op := Go.Op.call { callee := Go.Callee.builtin Go.Builtin.append, args := #[Go.Operand.tmp 40, Go.Operand.tmp 42], argTypes := #[22, 22] }, type := 22, pos := "ref.go:113", after := #[{ on := 4, ground := Go.Ground.data }, { on := 6, ground := Go.Ground.data }, { on := 4, ground := Go.Ground.chain }], guard := none }) rfl (fun K hK => ?_) AllReadyH.nil
                    refine step_append_run rfl (.tmp 40) (.tmp 42) 22 22 rfl _ _ (by rfl) (by rfl) _ (run_append_rs w4 w2.heap.size _ v4 _ O4 _ 1 1 [r] RM (by first | (simp; done) | (simp; omega)) B4.out.size) ?_
                    rintro v7 w7 ⟨O7, G7⟩
                    have B7 := Lib.hid (below_own B4.out O4 G7 B4.out.size (Nat.le_refl _))
                    have S7 := KR.out _ B7.out
                    refine hK.out _ _ (by exact S7) (fun hHeld => ?_)
                    clear hK K
                    try simp only [Act.put, List.setIfInBounds_toArray, List.set_cons_zero, List.set_cons_succ]
                    refine wpAnyH_ready (rs := [11]) (by kernel_rfl) (by simp) ?_
                    refine AllReadyH.cons (o := { dst := some 47, op := Go.Op.call { callee := Go.Callee.builtin Go.Builtin.append, args := #[Go.Operand.tmp 43, Go.Operand.tmp 46], argTypes := #[22, 22] }, type := 22, pos := "ref.go:113", after := #[{ on := 7, ground := Go.Ground.data }, { on := 10, ground := Go.Ground.data }, { on := 7, ground := Go.Ground.chain }], guard := none }) rfl (fun K hK => ?_) AllReadyH.nil
                    refine step_append_run rfl (.tmp 43) (.tmp 46) 22 22 rfl _ _ (by rfl) (by rfl) _ (run_append_rs w7 w2.heap.size _ v7 _ O7 _ _ _ _ (HD.out _ B7.out) (by first | (simp; done) | (simp; omega)) B7.out.size) ?_
                    rintro v9 w9 ⟨O9, G9⟩
                    have B9 := Lib.hid (below_own B7.out O7 G9 B7.out.size (Nat.le_refl _))
                    have S9 := KR.out _ B9.out
                    refine hK.out _ _ (by exact S9) (fun hHeld => ?_)
                    clear hK K
                    try simp only [Act.put, List.setIfInBounds_toArray, List.set_cons_zero, List.set_cons_succ]
                    refine wpAnyH_take (i := 12) (oi := { dst := some 4, op := Go.Op.assign (Go.Operand.tmp 47), type := 22, pos := "ref.go:113", after := #[{ on := 11, ground := Go.Ground.data }, { on := 11, ground := Go.Ground.chain }, { on := 0, ground := Go.Ground.phase }, { on := 1, ground := Go.Ground.phase }, { on := 2, ground := Go.Ground.phase }, { on := 3, ground := Go.Ground.phase }, { on := 4, ground := Go.Ground.phase }, { on := 5, ground := Go.Ground.phase }, { on := 6, ground := Go.Ground.phase }, { on := 7, ground := Go.Ground.phase }, { on := 8, ground := Go.Ground.phase }, { on := 9, ground := Go.Ground.phase }, { on := 10, ground := Go.Ground.phase }, { on := 11, ground := Go.Ground.phase }], guard := none }) (v := ?_) rfl (by kernel_rfl) (by kernel_rfl) (by kernel_rfl) (fun _ _ _ h => h) (Or.inl ⟨by rfl, ?_⟩) (by assumption) ?_
                    rotate_left
                    · (intro w hSw; (try dsimp only at hSw); go_simp; try with_reducible rfl)
                    try simp only [Act.put, List.setIfInBounds_toArray, List.set_cons_zero, List.set_cons_succ]
                    refine wpAnyH_take (i := 13) (oi := { dst := some 5, op := Go.Op.assign (Go.Operand.const (Go.Value.int Go.IntKind.i64 0)), type := 26, pos := "ref.go:113", after := #[{ on := 12, ground := Go.Ground.chain }, { on := 0, ground := Go.Ground.phase }, { on := 1, ground := Go.Ground.phase }, { on := 2, ground := Go.Ground.phase }, { on := 3, ground := Go.Ground.phase }, { on := 4, ground := Go.Ground.phase }, { on := 5, ground := Go.Ground.phase }, { on := 6, ground := Go.Ground.phase }, { on := 7, ground := Go.Ground.phase }, { on := 8, ground := Go.Ground.phase }, { on := 9, ground := Go.Ground.phase }, { on := 10, ground := Go.Ground.phase }, { on := 11, ground := Go.Ground.phase }, { on := 12, ground := Go.Ground.phase }], guard := none }) (v := ?_) rfl (by kernel_rfl) (by kernel_rfl) (by kernel_rfl) (fun _ _ _ h => h) (Or.inl ⟨by rfl, ?_⟩) (by assumption) ?_
                    rotate_left
                    · (intro w hSw; (try dsimp only at hSw); go_simp; try with_reducible rfl)
                    try simp only [Act.put, List.setIfInBounds_toArray, List.set_cons_zero, List.set_cons_succ]
                    refine wpAnyH_done (by kernel_rfl) ?_ _
                    refine NoPanic.normal ?_
                    go_wp2
                    go_ret2
                    exact HFIN.out _ _ _ _ HKE.out O9 B9.out
            · have hi2 := HYB.out rfl
              have HI2 := Lib.hid hi2
              clear hi2
              go_wp2
              go_roundw
              case rel => exact ⟨k + 1, by omega, by go_num, HI2.out, BZ.out⟩
              case measure => simp [intOf]; omega
        · have hke : k = idx (fun x => !Nm.lexLess x.name r.name) M := by
            rw [HI.out, List.drop_eq_nil_of_le (by have := HML.out; omega)]; simp [idx]
          have HKE := Lib.hid hke
          clear hke HI
          go_wp2_with fail
          have hltb : decide (k < m) = false := by simp; omega
          have hltc : decide ((k : Int) < (m : Int)) = false := by simp; omega
          have SR := hgr.1
          refine wp_region_noPanic ?_
          refine wp_region_held_drew (S := (fun w' : World => w'.cell? ⟨w.heap.size, 0, none⟩ = some (.string (txt r.name)))) (by kernel_rfl) (by exact SR) (fun hHeld => ?_)
          refine wpAnyH_take (i := 0) (oi := { dst := some 18, op := Go.Op.move (Go.Operand.tmp 7), type := 3, pos := "ref.go:110", after := #[], guard := none }) (v := ?_) rfl (by kernel_rfl) (by kernel_rfl) (by kernel_rfl) (fun _ _ _ h => h) (Or.inl ⟨by rfl, ?_⟩) (by assumption) ?_
          rotate_left
          · (intro w hSw; (try dsimp only at hSw); go_simp; try with_reducible rfl)
          try simp only [Act.put, List.setIfInBounds_toArray, List.set_cons_zero, List.set_cons_succ]
          refine wpAnyH_take (i := 1) (oi := { dst := some 19, op := Go.Op.move (Go.Operand.tmp 6), type := 22, pos := "ref.go:110", after := #[], guard := none }) (v := ?_) rfl (by kernel_rfl) (by kernel_rfl) (by kernel_rfl) (fun _ _ _ h => h) (Or.inl ⟨by rfl, ?_⟩) (by assumption) ?_
          rotate_left
          · (intro w hSw; (try dsimp only at hSw); go_simp; try with_reducible rfl)
          try simp only [Act.put, List.setIfInBounds_toArray, List.set_cons_zero, List.set_cons_succ]
          refine wpAnyH_take (i := 2) (oi := { dst := some 20, op := Go.Op.call { callee := Go.Callee.builtin Go.Builtin.len, args := #[Go.Operand.tmp 19], argTypes := #[22] }, type := 3, pos := "ref.go:110", after := #[{ on := 1, ground := Go.Ground.data }], guard := none }) (v := ?_) rfl (by kernel_rfl) (by kernel_rfl) (by kernel_rfl) (fun _ _ _ h => h) (Or.inl ⟨by rfl, ?_⟩) (by assumption) ?_
          rotate_left
          · (intro w hSw; (try dsimp only at hSw); go_simp; try with_reducible rfl)
          try simp only [Act.put, List.setIfInBounds_toArray, List.set_cons_zero, List.set_cons_succ]
          refine wpAnyH_take (i := 3) (oi := { dst := some 21, op := Go.Op.binOp Go.BinOp.lss 3 (Go.Operand.tmp 18) (Go.Operand.tmp 20) 3, type := 4, pos := "ref.go:110", after := #[{ on := 0, ground := Go.Ground.data }, { on := 2, ground := Go.Ground.data }], guard := none }) (v := ?_) rfl (by kernel_rfl) (by kernel_rfl) (by kernel_rfl) (fun _ _ _ h => h) (Or.inl ⟨by rfl, ?_⟩) (by assumption) ?_
          rotate_left
          · (intro w hSw; (try dsimp only at hSw); go_simp; try with_reducible rfl)
          try simp only [Act.put, List.setIfInBounds_toArray, List.set_cons_zero, List.set_cons_succ]
          refine wpAnyH_take (i := 4) (oi := { dst := some 22, op := Go.Op.move (Go.Operand.tmp 21), type := 4, pos := "ref.go:110", after := #[{ on := 3, ground := Go.Ground.data }], guard := none }) (v := ?_) rfl (by kernel_rfl) (by kernel_rfl) (by kernel_rfl) (fun _ _ _ h => h) (Or.inl ⟨by rfl, ?_⟩) (by assumption) ?_
          rotate_left
          · (intro w hSw; (try dsimp only at hSw); go_simp; try with_reducible rfl)
          try simp only [Act.put, List.setIfInBounds_toArray, List.set_cons_zero, List.set_cons_succ]
          refine wpAnyH_take (i := 5) (oi := { dst := some 23, op := Go.Op.move (Go.Operand.tmp 6), type := 22, pos := "ref.go:110", after := #[{ on := 4, ground := Go.Ground.guard }], guard := some (4, true) }) (v := undef) rfl (by kernel_rfl) (by kernel_rfl) (by kernel_rfl) (fun _ _ _ h => h) (Or.inr ⟨by rfl, rfl⟩) (by assumption) ?_
          try simp only [Act.put, List.setIfInBounds_toArray, List.set_cons_zero, List.set_cons_succ]
          refine wpAnyH_take (i := 6) (oi := { dst := some 24, op := Go.Op.move (Go.Operand.tmp 7), type := 3, pos := "ref.go:110", after := #[{ on := 4, ground := Go.Ground.guard }], guard := some (4, true) }) (v := undef) rfl (by kernel_rfl) (by kernel_rfl) (by kernel_rfl) (fun _ _ _ h => h) (Or.inr ⟨by rfl, rfl⟩) (by assumption) ?_
          try simp only [Act.put, List.setIfInBounds_toArray, List.set_cons_zero, List.set_cons_succ]
          refine wpAnyH_take (i := 7) (oi := { dst := some 25, op := Go.Op.indexAddr 22 (Go.Operand.tmp 23) (Go.Operand.tmp 24), type := 0, pos := "ref.go:110", after := #[{ on := 5, ground := Go.Ground.data }, { on := 6, ground := Go.Ground.data }, { on := 4, ground := Go.Ground.guard }], guard := some (4, true) }) (v := undef) rfl (by kernel_rfl) (by kernel_rfl) (by kernel_rfl) (fun _ _ _ h => h) (Or.inr ⟨by rfl, rfl⟩) (by assumption) ?_
          try simp only [Act.put, List.setIfInBounds_toArray, List.set_cons_zero, List.set_cons_succ]
          refine wpAnyH_take (i := 8) (oi := { dst := some 26, op := Go.Op.fieldAddr 34 (Go.Operand.tmp 25) 0, type := 0, pos := "ref.go:110", after := #[{ on := 7, ground := Go.Ground.data }, { on := 4, ground := Go.Ground.guard }], guard := some (4, true) }) (v := undef) rfl (by kernel_rfl) (by kernel_rfl) (by kernel_rfl) (fun _ _ _ h => h) (Or.inr ⟨by rfl, rfl⟩) (by assumption) ?_
          try simp only [Act.put, List.setIfInBounds_toArray, List.set_cons_zero, List.set_cons_succ]
          refine wpAnyH_take (i := 9) (oi := { dst := some 27, op := Go.Op.load 9 (Go.Operand.tmp 26), type := 9, pos := "ref.go:110", after := #[{ on := 8, ground := Go.Ground.data }, { on := 4, ground := Go.Ground.guard }], guard := some (4, true) }) (v := undef) rfl (by kernel_rfl) (by kernel_rfl) (by kernel_rfl) (fun _ _ _ h => h) (Or.inr ⟨by rfl, rfl⟩) (by assumption) ?_
          try simp only [Act.put, List.setIfInBounds_toArray, List.set_cons_zero, List.set_cons_succ]
          refine wpAnyH_take (i := 10) (oi := { dst := some 28, op := Go.Op.convert 9 23 (Go.Operand.tmp 27), type := 23, pos := "ref.go:110", after := #[{ on := 9, ground := Go.Ground.data }, { on := 4, ground := Go.Ground.guard }], guard := some (4, true) }) (v := undef) rfl (by kernel_rfl) (by kernel_rfl) (by kernel_rfl) (fun _ _ _ h => h) (Or.inr ⟨by rfl, rfl⟩) (by assumption) ?_
          try simp only [Act.put, List.setIfInBounds_toArray, List.set_cons_zero, List.set_cons_succ]
          refine wpAnyH_take (i := 11) (oi := { dst := some 29, op := Go.Op.fieldAddr 34 (Go.Operand.tmp 3) 0, type := 0, pos := "ref.go:110", after := #[{ on := 4, ground := Go.Ground.guard }], guard := some (4, true) }) (v := undef) rfl (by kernel_rfl) (by kernel_rfl) (by kernel_rfl) (fun _ _ _ h => h) (Or.inr ⟨by rfl, rfl⟩) (by assumption) ?_
          try simp only [Act.put, List.setIfInBounds_toArray, List.set_cons_zero, List.set_cons_succ]
          refine wpAnyH_take (i := 12) (oi := { dst := some 30, op := Go.Op.load 9 (Go.Operand.tmp 29), type := 9, pos := "ref.go:110", after := #[{ on := 11, ground := Go.Ground.data }, { on := 4, ground := Go.Ground.guard }], guard := some (4, true) }) (v := undef) rfl (by kernel_rfl) (by kernel_rfl) (by kernel_rfl) (fun _ _ _ h => h) (Or.inr ⟨by rfl, rfl⟩) (by assumption) ?_
          try simp only [Act.put, List.setIfInBounds_toArray, List.set_cons_zero, List.set_cons_succ]
          refine wpAnyH_take (i := 13) (oi := { dst := some 31, op := Go.Op.convert 9 23 (Go.Operand.tmp 30), type := 23, pos := "ref.go:110", after := #[{ on := 12, ground := Go.Ground.data }, { on := 4, ground := Go.Ground.guard }], guard := some (4, true) }) (v := undef) rfl (by kernel_rfl) (by kernel_rfl) (by kernel_rfl) (fun _ _ _ h => h) (Or.inr ⟨by rfl, rfl⟩) (by assumption) ?_
          try simp only [Act.put, List.setIfInBounds_toArray, List.set_cons_zero, List.set_cons_succ]
          refine wpAnyH_take (i := 14) (oi := { dst := some 32, op := Go.Op.call { callee := Go.Callee.value (Go.Operand.func 28), args := #[Go.Operand.tmp 28, Go.Operand.tmp 31], argTypes := #[23, 23] }, type := 4, pos := "ref.go:110", after := #[{ on := 10, ground := Go.Ground.data }, { on := 13, ground := Go.Ground.data }, { on := 4, ground := Go.Ground.chain }, { on := 4, ground := Go.Ground.guard }], guard := some (4, true) }) (v := undef) rfl (by kernel_rfl) (by kernel_rfl) (by kernel_rfl) (fun _ _ _ h => h) (Or.inr ⟨by rfl, rfl⟩) (by assumption) ?_
          try simp only [Act.put, List.setIfInBounds_toArray, List.set_cons_zero, List.set_cons_succ]
          refine wpAnyH_take (i := 15) (oi := { dst := some 33, op := Go.Op.pick (Go.Operand.tmp 22) (Go.Operand.tmp 32) (Go.Operand.const (Go.Value.bool false)), type := 4, pos := "ref.go:110", after := #[{ on := 4, ground := Go.Ground.data }, { on := 14, ground := Go.Ground.data }], guard := none }) (v := ?_) rfl (by kernel_rfl) (by kernel_rfl) (by kernel_rfl) (fun _ _ _ h => h) (Or.inl ⟨by rfl, ?_⟩) (by assumption) ?_
          rotate_left
          · (intro w hSw; (try dsimp only at hSw); go_simp; try with_reducible rfl)
          try simp only [Act.put, List.setIfInBounds_toArray, List.set_cons_zero, List.set_cons_succ]
          refine wpAnyH_done (by kernel_rfl) ?_ _
          refine NoPanic.normal ?_
          have BZ := Lib.hid HBR.out.drew
          clear SR hgr
          generalize wr.drew = wz at *
          have hgz := KR.out wz BZ.out
          have hbz := BZ.out.size
          rcases HFM.out with ⟨rfl, rfl, rfl⟩ | ⟨bb, off, rfl⟩
          · skip
            obtain rfl : k = 0 := by omega
            have HT := Lib.hid (fun W (hW : Below w2.heap.size w2 W) => (HR2.out.on hW).first 0 (Nat.zero_le _))
            have HD : Hid (∀ W : World, Below w2.heap.size w2 W → Rs W none 0 0 (M.drop 0)) := fun W hW => HR2.out.on hW
            obtain ⟨g0, g1, g2⟩ := hgz
            go_wp2_with fail
            have BD := Lib.hid BZ.out.drew
            refine wp_region_noPanic ?_
            refine wp_region_held_drew (S := (fun w' : World => w'.cell? ⟨w.heap.size, 0, none⟩ = some (.string (txt r.name)) ∧ w'.cell? ⟨w.heap.size, 1, none⟩ = some (.int .i64 r.page) ∧ w'.cell? ⟨w.heap.size, 2, none⟩ = some (.int .i64 r.count))) (by kernel_rfl) (by exact ⟨g0, g1, g2⟩) (fun hHeld => ?_)
            generalize wz.drew = wd at *
            refine wpAnyH_take (i := 1) (oi := { dst := some 37, op := Go.Op.move (Go.Operand.tmp 6), type := 22, pos := "ref.go:113", after := #[], guard := none }) (v := ?_) rfl (by kernel_rfl) (by kernel_rfl) (by kernel_rfl) (fun _ _ _ h => h) (Or.inl ⟨by rfl, ?_⟩) (by assumption) ?_
            rotate_left
            · (intro w hSw; (try dsimp only at hSw); go_simp; try with_reducible rfl)
            try simp only [Act.put, List.setIfInBounds_toArray, List.set_cons_zero, List.set_cons_succ]
            refine wpAnyH_take (i := 2) (oi := { dst := some 38, op := Go.Op.move (Go.Operand.tmp 7), type := 3, pos := "ref.go:113", after := #[], guard := none }) (v := ?_) rfl (by kernel_rfl) (by kernel_rfl) (by kernel_rfl) (fun _ _ _ h => h) (Or.inl ⟨by rfl, ?_⟩) (by assumption) ?_
            rotate_left
            · (intro w hSw; (try dsimp only at hSw); go_simp; try with_reducible rfl)
            try simp only [Act.put, List.setIfInBounds_toArray, List.set_cons_zero, List.set_cons_succ]
            refine wpAnyH_take (i := 3) (oi := { dst := some 39, op := Go.Op.slice 22 (Go.Operand.tmp 37) none (some (Go.Operand.tmp 38)) none, type := 22, pos := "ref.go:113", after := #[{ on := 1, ground := Go.Ground.data }, { on := 2, ground := Go.Ground.data }], guard := none }) (v := ?_) rfl (by kernel_rfl) (by kernel_rfl) (by kernel_rfl) (fun _ _ _ h => h) (Or.inl ⟨by rfl, ?_⟩) (by assumption) ?_
            rotate_left
            · (intro w hSw; (try dsimp only at hSw); go_simp; try with_reducible rfl)
            try simp only [Act.put, List.setIfInBounds_toArray, List.set_cons_zero, List.set_cons_succ]
            refine wpAnyH_take (i := 5) (oi := { dst := some 41, op := Go.Op.load 34 (Go.Operand.tmp 3), type := 34, pos := "ref.go:113", after := #[], guard := none }) (v := ?_) rfl (by kernel_rfl) (by kernel_rfl) (by kernel_rfl) (fun _ _ _ h => h) (Or.inl ⟨by rfl, ?_⟩) (by assumption) ?_
            rotate_left
            · (intro w hSw; (try dsimp only at hSw); go_simp; try with_reducible rfl)
            try simp only [Act.put, List.setIfInBounds_toArray, List.set_cons_zero, List.set_cons_succ]
            refine wpAnyH_take (i := 8) (oi := { dst := some 44, op := Go.Op.move (Go.Operand.tmp 6), type := 22, pos := "ref.go:113", after := #[], guard := none }) (v := ?_) rfl (by kernel_rfl) (by kernel_rfl) (by kernel_rfl) (fun _ _ _ h => h) (Or.inl ⟨by rfl, ?_⟩) (by assumption) ?_
            rotate_left
            · (intro w hSw; (try dsimp only at hSw); go_simp; try with_reducible rfl)
            try simp only [Act.put, List.setIfInBounds_toArray, List.set_cons_zero, List.set_cons_succ]
            refine wpAnyH_take (i := 9) (oi := { dst := some 45, op := Go.Op.move (Go.Operand.tmp 7), type := 3, pos := "ref.go:113", after := #[], guard := none }) (v := ?_) rfl (by kernel_rfl) (by kernel_rfl) (by kernel_rfl) (fun _ _ _ h => h) (Or.inl ⟨by rfl, ?_⟩) (by assumption) ?_
            rotate_left
            · (intro w hSw; (try dsimp only at hSw); go_simp; try with_reducible rfl)
            try simp only [Act.put, List.setIfInBounds_toArray, List.set_cons_zero, List.set_cons_succ]
            refine wpAnyH_take (i := 10) (oi := { dst := some 46, op := Go.Op.slice 22 (Go.Operand.tmp 44) (some (Go.Operand.tmp 45)) none none, type := 22, pos := "ref.go:113", after := #[{ on := 8, ground := Go.Ground.data }, { on := 9, ground := Go.Ground.data }], guard := none }) (v := ?_) rfl (by kernel_rfl) (by kernel_rfl) (by kernel_rfl) (fun _ _ _ h => h) (Or.inl ⟨by rfl, ?_⟩) (by assumption) ?_
            rotate_left
            · (intro w hSw; (try dsimp only at hSw); go_simp; try with_reducible rfl)
            try simp only [Act.put, List.setIfInBounds_toArray, List.set_cons_zero, List.set_cons_succ]
            refine wpAnyH_ready (rs := [0, 6]) (by kernel_rfl) (by simp) ?_
            refine AllReadyH.cons (o := { dst := some 36, op := Go.Op.buildSlice 22 0 #[], type := 22, pos := "ref.go:113", after := #[], guard := none }) rfl (fun K hK => ?_) (AllReadyH.cons (o := { dst := some 42, op := Go.Op.buildSlice 22 1 #[(0, Go.Operand.tmp 41)], type := 22, pos := "ref.go:113", after := #[{ on := 5, ground := Go.Ground.data }], guard := none }) rfl (fun K hK => ?_) AllReadyH.nil)
            · skip
              go_simp
              have OA := own_empty wd w2.heap.size BD.out.size
              have BA := Lib.hid (BD.out.alloc BD.out.size (.cells #[] 34))
              have SA := KR.out _ BA.out
              generalize wd.alloc (.cells #[] 34) = wA at *
              refine hK.out _ _ (by exact SA) (fun hHeld => ?_)
              clear hK K
              try simp only [Act.put, List.setIfInBounds_toArray, List.set_cons_zero, List.set_cons_succ]
              refine wpAnyH_ready (rs := [4, 6]) (by kernel_rfl) (by simp) ?_
              refine AllReadyH.cons (o := { dst := some 40, op := Go.Op.call { callee := Go.Callee.builtin Go.Builtin.append, args := #[Go.Operand.tmp 36, Go.Operand.tmp 39], argTypes := #[22, 22] }, type := 22, pos := "ref.go:113", after := #[{ on := 0, ground := Go.Ground.data }, { on := 3, ground := Go.Ground.data }], guard := none }) rfl (fun K hK => ?_) (AllReadyH.cons (o := { dst := some 42, op := Go.Op.buildSlice 22 1 #[(0, Go.Operand.tmp 41)], type := 22, pos := "ref.go:113", after := #[{ on := 5, ground := Go.Ground.data }], guard := none }) rfl (fun K hK => ?_) AllReadyH.nil)
              · skip
                refine step_append_run rfl (.tmp 36) (.tmp 39) 22 22 rfl _ _ (by rfl) (by rfl) _ (run_append_rs wA w2.heap.size _ _ [] OA _ _ _ _ (HT.out _ BA.out) (by first | (simp; done) | (simp; omega)) BA.out.size) ?_
                rintro v4 w4 ⟨O4, G4⟩
                rw [List.nil_append] at O4
                have B4 := Lib.hid (below_own BA.out OA G4 BA.out.size (Nat.le_refl _))
                have S4 := KR.out _ B4.out
                refine hK.out _ _ (by exact S4) (fun hHeld => ?_)
                clear hK K
                try simp only [Act.put, List.setIfInBounds_toArray, List.set_cons_zero, List.set_cons_succ]
                have RL := rs_new w4 r HIN.out
                have BL := Lib.hid (B4.out.alloc B4.out.size (.cells #[.string (txt r.name), .int .i64 r.page, .int .i64 r.count] 34))
                have SL := KR.out _ BL.out
                have OL := own_on3 O4 ((Below.refl _ w4).alloc (Nat.le_refl _) (.cells #[.string (txt r.name), .int .i64 r.page, .int .i64 r.count] 34))
                refine wpAnyH_ready (rs := [6]) (by kernel_rfl) (by simp) ?_
                refine AllReadyH.cons (o := { dst := some 42, op := Go.Op.buildSlice 22 1 #[(0, Go.Operand.tmp 41)], type := 22, pos := "ref.go:113", after := #[{ on := 5, ground := Go.Ground.data }], guard := none }) rfl (fun K hK => ?_) AllReadyH.nil
                go_simp
                generalize w4.alloc (.cells #[.string (txt r.name), .int .i64 r.page, .int .i64 r.count] 34) = wL at *
                refine hK.out _ _ (by exact SL) (fun hHeld => ?_)
                clear hK K
                try simp only [Act.put, List.setIfInBounds_toArray, List.set_cons_zero, List.set_cons_succ]
                refine wpAnyH_ready (rs := [7]) (by kernel_rfl) (by simp) ?_
                refine AllReadyH.cons (o := { dst := some 43, op := Go.Op.call { callee := Go.Callee.builtin Go.Builtin.append, args := #[Go.Operand.tmp 40, Go.Operand.tmp 42], argTypes := #[22, 22] }, type := 22, pos := "ref.go:113", after := #[{ on := 4, ground := Go.Ground.data }, { on := 6, ground := Go.Ground.data }, { on := 4, ground := Go.Ground.chain }], guard := none }) rfl (fun K hK => ?_) AllReadyH.nil
                refine step_append_run rfl (.tmp 40) (.tmp 42) 22 22 rfl _ _ (by rfl) (by rfl) _ (run_append_rs wL w2.heap.size _ v4 _ OL _ 1 1 [r] RL (by first | (simp; done) | (simp; omega)) BL.out.size) ?_
                rintro v7 w7 ⟨O7, G7⟩
                have B7 := Lib.hid (below_own BL.out OL G7 BL.out.size (Nat.le_refl _))
                have S7 := KR.out _ B7.out
                refine hK.out _ _ (by exact S7) (fun hHeld => ?_)
                clear hK K
                try simp only [Act.put, List.setIfInBounds_toArray, List.set_cons_zero, List.set_cons_succ]
                refine wpAnyH_ready (rs := [11]) (by kernel_rfl) (by simp) ?_
                refine AllReadyH.cons (o := { dst := some 47, op := Go.Op.call { callee := Go.Callee.builtin Go.Builtin.append, args := #[Go.Operand.tmp 43, Go.Operand.tmp 46], argTypes := #[22, 22] }, type := 22, pos := "ref.go:113", after := #[{ on := 7, ground := Go.Ground.data }, { on := 10, ground := Go.Ground.data }, { on := 7, ground := Go.Ground.chain }], guard := none }) rfl (fun K hK => ?_) AllReadyH.nil
                refine step_append_run rfl (.tmp 43) (.tmp 46) 22 22 rfl _ _ (by rfl) (by rfl) _ (run_append_rs w7 w2.heap.size _ v7 _ O7 _ _ _ _ (HD.out _ B7.out) (by first | (simp; done) | (simp; omega)) B7.out.size) ?_
                rintro v9 w9 ⟨O9, G9⟩
                have B9 := Lib.hid (below_own B7.out O7 G9 B7.out.size (Nat.le_refl _))
                have S9 := KR.out _ B9.out
                refine hK.out _ _ (by exact S9) (fun hHeld => ?_)
                clear hK K
                try simp only [Act.put, List.setIfInBounds_toArray, List.set_cons_zero, List.set_cons_succ]
                refine wpAnyH_take (i := 12) (oi := { dst := some 4, op := Go.Op.assign (Go.Operand.tmp 47), type := 22, pos := "ref.go:113", after := #[{ on := 11, ground := Go.Ground.data }, { on := 11, ground := Go.Ground.chain }, { on := 0, ground := Go.Ground.phase }, { on := 1, ground := Go.Ground.phase }, { on := 2, ground := Go.Ground.phase }, { on := 3, ground := Go.Ground.phase }, { on := 4, ground := Go.Ground.phase }, { on := 5, ground := Go.Ground.phase }, { on := 6, ground := Go.Ground.phase }, { on := 7, ground := Go.Ground.phase }, { on := 8, ground := Go.Ground.phase }, { on := 9, ground := Go.Ground.phase }, { on := 10, ground := Go.Ground.phase }, { on := 11, ground := Go.Ground.phase }], guard := none }) (v := ?_) rfl (by kernel_rfl) (by kernel_rfl) (by kernel_rfl) (fun _ _ _ h => h) (Or.inl ⟨by rfl, ?_⟩) (by assumption) ?_
                rotate_left
                · (intro w hSw; (try dsimp only at hSw); go_simp; try with_reducible rfl)
                try simp only [Act.put, List.setIfInBounds_toArray, List.set_cons_zero, List.set_cons_succ]
                refine wpAnyH_take (i := 13) (oi := { dst := some 5, op := Go.Op.assign (Go.Operand.const (Go.Value.int Go.IntKind.i64 0)), type := 26, pos := "ref.go:113", after := #[{ on := 12, ground := Go.Ground.chain }, { on := 0, ground := Go.Ground.phase }, { on := 1, ground := Go.Ground.phase }, { on := 2, ground := Go.Ground.phase }, { on := 3, ground := Go.Ground.phase }, { on := 4, ground := Go.Ground.phase }, { on := 5, ground := Go.Ground.phase }, { on := 6, ground := Go.Ground.phase }, { on := 7, ground := Go.Ground.phase }, { on := 8, ground := Go.Ground.phase }, { on := 9, ground := Go.Ground.phase }, { on := 10, ground := Go.Ground.phase }, { on := 11, ground := Go.Ground.phase }, { on := 12, ground := Go.Ground.phase }], guard := none }) (v := ?_) rfl (by kernel_rfl) (by kernel_rfl) (by kernel_rfl) (fun _ _ _ h => h) (Or.inl ⟨by rfl, ?_⟩) (by assumption) ?_
                rotate_left
                · (intro w hSw; (try dsimp only at hSw); go_simp; try with_reducible rfl)
                try simp only [Act.put, List.setIfInBounds_toArray, List.set_cons_zero, List.set_cons_succ]
                refine wpAnyH_done (by kernel_rfl) ?_ _
                refine NoPanic.normal ?_
                go_wp2
                go_ret2
                exact HFIN.out _ _ _ _ HKE.out O9 B9.out
              · skip
                go_simp
                have RL := rs_new wA r HIN.out
                have BL := Lib.hid (BA.out.alloc BA.out.size (.cells #[.string (txt r.name), .int .i64 r.page, .int .i64 r.count] 34))
                have SL := KR.out _ BL.out
                have OL := own_on3 OA ((Below.refl _ wA).alloc (Nat.le_refl _) (.cells #[.string (txt r.name), .int .i64 r.page, .int .i64 r.count] 34))
                have hLA := OA.lt _ rfl
                generalize wA.alloc (.cells #[.string (txt r.name), .int .i64 r.page, .int .i64 r.count] 34) = wL at *
                refine hK.out _ _ (by exact SL) (fun hHeld => ?_)
                clear hK K
                try simp only [Act.put, List.setIfInBounds_toArray, List.set_cons_zero, List.set_cons_succ]
                refine wpAnyH_ready (rs := [4]) (by kernel_rfl) (by simp) ?_
                refine AllReadyH.cons (o := { dst := some 40, op := Go.Op.call { callee := Go.Callee.builtin Go.Builtin.append, args := #[Go.Operand.tmp 36, Go.Operand.tmp 39], argTypes := #[22, 22] }, type := 22, pos := "ref.go:113", after := #[{ on := 0, ground := Go.Ground.data }, { on := 3, ground := Go.Ground.data }], guard := none }) rfl (fun K hK => ?_) AllReadyH.nil
                refine step_append_run rfl (.tmp 36) (.tmp 39) 22 22 rfl _ _ (by rfl) (by rfl) _ (run_append_rs wL w2.heap.size _ _ [] OL _ _ _ _ (HT.out _ BL.out) (by first | (simp; done) | (simp; omega)) BL.out.size) ?_
                rintro v4 w4 ⟨O4, G4⟩
                rw [List.nil_append] at O4
                have B4 := Lib.hid (below_own BL.out OL G4 BL.out.size (Nat.le_refl _))
                have S4 := KR.out _ B4.out
                refine hK.out _ _ (by exact S4) (fun hHeld => ?_)
                clear hK K
                try simp only [Act.put, List.setIfInBounds_toArray, List.set_cons_zero, List.set_cons_succ]
                have RM := RL.grown G4 (fun a ha hh => by injection ha with ha; subst ha; injection hh with hh; simp at hh hLA; omega)
                refine wpAnyH_ready (rs := [7]) (by kernel_rfl) (by simp) ?_
                refine AllReadyH.cons (o := { dst := some 43, op := Go.Op.call { callee := Go.Callee.builtin Go.Builtin.append, args := #[Go.Operand.tmp 40, Go.Operand.tmp 42], argTypes := #[22, 22] }, type := 22, pos := "ref.go:113", after := #[{ on := 4, ground := Go.Ground.data }, { on := 6, ground := Go.Ground.data }, { on := 4, ground := Go.Ground.chain }], guard := none }) rfl (fun K hK => ?_) AllReadyH.nil
                refine step_append_run rfl (.tmp 40) (.tmp 42) 22 22 rfl _ _ (by rfl) (by rfl) _ (run_append_rs w4 w2.heap.size _ v4 _ O4 _ 1 1 [r] RM (by first | (simp; done) | (simp; omega)) B4.out.size) ?_
                rintro v7 w7 ⟨O7, G7⟩
                have B7 := Lib.hid (below_own B4.out O4 G7 B4.out.size (Nat.le_refl _))
                have S7 := KR.out _ B7.out
                refine hK.out _ _ (by exact S7) (fun hHeld => ?_)
                clear hK K
                try simp only [Act.put, List.setIfInBounds_toArray, List.set_cons_zero, List.set_cons_succ]
                refine wpAnyH_ready (rs := [11]) (by kernel_rfl) (by simp) ?_
                refine AllReadyH.cons (o := { dst := some 47, op := Go.Op.call { callee := Go.Callee.builtin Go.Builtin.append, args := #[Go.Operand.tmp 43, Go.Operand.tmp 46], argTypes := #[22, 22] }, type := 22, pos := "ref.go:113", after := #[{ on := 7, ground := Go.Ground.data }, { on := 10, ground := Go.Ground.data }, { on := 7, ground := Go.Ground.chain }], guard := none }) rfl (fun K hK => ?_) AllReadyH.nil
                refine step_append_run rfl (.tmp 43) (.tmp 46) 22 22 rfl _ _ (by rfl) (by rfl) _ (run_append_rs w7 w2.heap.size _ v7 _ O7 _ _ _ _ (HD.out _ B7.out) (by first | (simp; done) | (simp; omega)) B7.out.size) ?_
                rintro v9 w9 ⟨O9, G9⟩
                have B9 := Lib.hid (below_own B7.out O7 G9 B7.out.size (Nat.le_refl _))
                have S9 := KR.out _ B9.out
                refine hK.out _ _ (by exact S9) (fun hHeld => ?_)
                clear hK K
                try simp only [Act.put, List.setIfInBounds_toArray, List.set_cons_zero, List.set_cons_succ]
                refine wpAnyH_take (i := 12) (oi := { dst := some 4, op := Go.Op.assign (Go.Operand.tmp 47), type := 22, pos := "ref.go:113", after := #[{ on := 11, ground := Go.Ground.data }, { on := 11, ground := Go.Ground.chain }, { on := 0, ground := Go.Ground.phase }, { on := 1, ground := Go.Ground.phase }, { on := 2, ground := Go.Ground.phase }, { on := 3, ground := Go.Ground.phase }, { on := 4, ground := Go.Ground.phase }, { on := 5, ground := Go.Ground.phase }, { on := 6, ground := Go.Ground.phase }, { on := 7, ground := Go.Ground.phase }, { on := 8, ground := Go.Ground.phase }, { on := 9, ground := Go.Ground.phase }, { on := 10, ground := Go.Ground.phase }, { on := 11, ground := Go.Ground.phase }], guard := none }) (v := ?_) rfl (by kernel_rfl) (by kernel_rfl) (by kernel_rfl) (fun _ _ _ h => h) (Or.inl ⟨by rfl, ?_⟩) (by assumption) ?_
                rotate_left
                · (intro w hSw; (try dsimp only at hSw); go_simp; try with_reducible rfl)
                try simp only [Act.put, List.setIfInBounds_toArray, List.set_cons_zero, List.set_cons_succ]
                refine wpAnyH_take (i := 13) (oi := { dst := some 5, op := Go.Op.assign (Go.Operand.const (Go.Value.int Go.IntKind.i64 0)), type := 26, pos := "ref.go:113", after := #[{ on := 12, ground := Go.Ground.chain }, { on := 0, ground := Go.Ground.phase }, { on := 1, ground := Go.Ground.phase }, { on := 2, ground := Go.Ground.phase }, { on := 3, ground := Go.Ground.phase }, { on := 4, ground := Go.Ground.phase }, { on := 5, ground := Go.Ground.phase }, { on := 6, ground := Go.Ground.phase }, { on := 7, ground := Go.Ground.phase }, { on := 8, ground := Go.Ground.phase }, { on := 9, ground := Go.Ground.phase }, { on := 10, ground := Go.Ground.phase }, { on := 11, ground := Go.Ground.phase }, { on := 12, ground := Go.Ground.phase }], guard := none }) (v := ?_) rfl (by kernel_rfl) (by kernel_rfl) (by kernel_rfl) (fun _ _ _ h => h) (Or.inl ⟨by rfl, ?_⟩) (by assumption) ?_
                rotate_left
                · (intro w hSw; (try dsimp only at hSw); go_simp; try with_reducible rfl)
                try simp only [Act.put, List.setIfInBounds_toArray, List.set_cons_zero, List.set_cons_succ]
                refine wpAnyH_done (by kernel_rfl) ?_ _
                refine NoPanic.normal ?_
                go_wp2
                go_ret2
                exact HFIN.out _ _ _ _ HKE.out O9 B9.out
            · skip
              go_simp
              have RL := rs_new wd r HIN.out
              have BL := Lib.hid (BD.out.alloc BD.out.size (.cells #[.string (txt r.name), .int .i64 r.page, .int .i64 r.count] 34))
              have SL := KR.out _ BL.out
              have sL : wd.heap.size < (wd.alloc (.cells #[.string (txt r.name), .int .i64 r.page, .int .i64 r.count] 34)).heap.size := by simp
              generalize wd.alloc (.cells #[.string (txt r.name), .int .i64 r.page, .int .i64 r.count] 34) = wL at *
              refine hK.out _ _ (by exact SL) (fun hHeld => ?_)
              clear hK K
              try simp only [Act.put, List.setIfInBounds_toArray, List.set_cons_zero, List.set_cons_succ]
              refine wpAnyH_ready (rs := [0]) (by kernel_rfl) (by simp) ?_
              refine AllReadyH.cons (o := { dst := some 36, op := Go.Op.buildSlice 22 0 #[], type := 22, pos := "ref.go:113", after := #[], guard := none }) rfl (fun K hK => ?_) AllReadyH.nil
              go_simp
              have OA := own_empty wL w2.heap.size BL.out.size
              have BA := Lib.hid (BL.out.alloc BL.out.size (.cells #[] 34))
              have SA := KR.out _ BA.out
              have RN := RL.alloc (.cells #[] 34)
              generalize wL.alloc (.cells #[] 34) = wA at *
              refine hK.out _ _ (by exact SA) (fun hHeld => ?_)
              clear hK K
              try simp only [Act.put, List.setIfInBounds_toArray, List.set_cons_zero, List.set_cons_succ]
              refine wpAnyH_ready (rs := [4]) (by kernel_rfl) (by simp) ?_
              refine AllReadyH.cons (o := { dst := some 40, op := Go.Op.call { callee := Go.Callee.builtin Go.Builtin.append, args := #[Go.Operand.tmp 36, Go.Operand.tmp 39], argTypes := #[22, 22] }, type := 22, pos := "ref.go:113", after := #[{ on := 0, ground := Go.Ground.data }, { on := 3, ground := Go.Ground.data }], guard := none }) rfl (fun K hK => ?_) AllReadyH.nil
              refine step_append_run rfl (.tmp 36) (.tmp 39) 22 22 rfl _ _ (by rfl) (by rfl) _ (run_append_rs wA w2.heap.size _ _ [] OA _ _ _ _ (HT.out _ BA.out) (by first | (simp; done) | (simp; omega)) BA.out.size) ?_
              rintro v4 w4 ⟨O4, G4⟩
              rw [List.nil_append] at O4
              have B4 := Lib.hid (below_own BA.out OA G4 BA.out.size (Nat.le_refl _))
              have S4 := KR.out _ B4.out
              refine hK.out _ _ (by exact S4) (fun hHeld => ?_)
              clear hK K
              try simp only [Act.put, List.setIfInBounds_toArray, List.set_cons_zero, List.set_cons_succ]
              have RM := RN.grown G4 (fun a ha hh => by injection ha with ha; subst ha; injection hh with hh; simp at hh sL; omega)
              refine wpAnyH_ready (rs := [7]) (by kernel_rfl) (by simp) ?_
              refine AllReadyH.cons (o := { dst := some 43, op := Go.Op.call { callee := Go.Callee.builtin Go.Builtin.append, args := #[Go.Operand.tmp 40, Go.Operand.tmp 42], argTypes := #[22, 22] }, type := 22, pos := "ref.go:113", after := #[{ on := 4, ground := Go.Ground.data }, { on := 6, ground := Go.Ground.data }, { on := 4, ground := Go.Ground.chain }], guard := none }) rfl (fun K hK => ?_) AllReadyH.nil
              refine step_append_run rfl (.tmp 40) (.tmp 42) 22 22 rfl _ _ (by rfl) (by rfl) _ (run_append_rs w4 w2.heap.size _ v4 _ O4 _ 1 1 [r] RM (by first | (simp; done) | (simp; omega)) B4.out.size) ?_
              rintro v7 w7 ⟨O7, G7⟩
              have B7 := Lib.hid (below_own B4.out O4 G7 B4.out.size (Nat.le_refl _))
              have S7 := KR.out _ B7.out
              refine hK.out _ _ (by exact S7) (fun hHeld => ?_)
              clear hK K
              try simp only [Act.put, List.setIfInBounds_toArray, List.set_cons_zero, List.set_cons_succ]
              refine wpAnyH_ready (rs := [11]) (by kernel_rfl) (by simp) ?_
              refine AllReadyH.cons (o := { dst := some 47, op := Go.Op.call { callee := Go.Callee.builtin Go.Builtin.append, args := #[Go.Operand.tmp 43, Go.Operand.tmp 46], argTypes := #[22, 22] }, type := 22, pos := "ref.go:113", after := #[{ on := 7, ground := Go.Ground.data }, { on := 10, ground := Go.Ground.data }, { on := 7, ground := Go.Ground.chain }], guard := none }) rfl (fun K hK => ?_) AllReadyH.nil
              refine step_append_run rfl (.tmp 43) (.tmp 46) 22 22 rfl _ _ (by rfl) (by rfl) _ (run_append_rs w7 w2.heap.size _ v7 _ O7 _ _ _ _ (HD.out _ B7.out) (by first | (simp; done) | (simp; omega)) B7.out.size) ?_
              rintro v9 w9 ⟨O9, G9⟩
              have B9 := Lib.hid (below_own B7.out O7 G9 B7.out.size (Nat.le_refl _))
              have S9 := KR.out _ B9.out
              refine hK.out _ _ (by exact S9) (fun hHeld => ?_)
              clear hK K
              try simp only [Act.put, List.setIfInBounds_toArray, List.set_cons_zero, List.set_cons_succ]
              refine wpAnyH_take (i := 12) (oi := { dst := some 4, op := Go.Op.assign (Go.Operand.tmp 47), type := 22, pos := "ref.go:113", after := #[{ on := 11, ground := Go.Ground.data }, { on := 11, ground := Go.Ground.chain }, { on := 0, ground := Go.Ground.phase }, { on := 1, ground := Go.Ground.phase }, { on := 2, ground := Go.Ground.phase }, { on := 3, ground := Go.Ground.phase }, { on := 4, ground := Go.Ground.phase }, { on := 5, ground := Go.Ground.phase }, { on := 6, ground := Go.Ground.phase }, { on := 7, ground := Go.Ground.phase }, { on := 8, ground := Go.Ground.phase }, { on := 9, ground := Go.Ground.phase }, { on := 10, ground := Go.Ground.phase }, { on := 11, ground := Go.Ground.phase }], guard := none }) (v := ?_) rfl (by kernel_rfl) (by kernel_rfl) (by kernel_rfl) (fun _ _ _ h => h) (Or.inl ⟨by rfl, ?_⟩) (by assumption) ?_
              rotate_left
              · (intro w hSw; (try dsimp only at hSw); go_simp; try with_reducible rfl)
              try simp only [Act.put, List.setIfInBounds_toArray, List.set_cons_zero, List.set_cons_succ]
              refine wpAnyH_take (i := 13) (oi := { dst := some 5, op := Go.Op.assign (Go.Operand.const (Go.Value.int Go.IntKind.i64 0)), type := 26, pos := "ref.go:113", after := #[{ on := 12, ground := Go.Ground.chain }, { on := 0, ground := Go.Ground.phase }, { on := 1, ground := Go.Ground.phase }, { on := 2, ground := Go.Ground.phase }, { on := 3, ground := Go.Ground.phase }, { on := 4, ground := Go.Ground.phase }, { on := 5, ground := Go.Ground.phase }, { on := 6, ground := Go.Ground.phase }, { on := 7, ground := Go.Ground.phase }, { on := 8, ground := Go.Ground.phase }, { on := 9, ground := Go.Ground.phase }, { on := 10, ground := Go.Ground.phase }, { on := 11, ground := Go.Ground.phase }, { on := 12, ground := Go.Ground.phase }], guard := none }) (v := ?_) rfl (by kernel_rfl) (by kernel_rfl) (by kernel_rfl) (fun _ _ _ h => h) (Or.inl ⟨by rfl, ?_⟩) (by assumption) ?_
              rotate_left
              · (intro w hSw; (try dsimp only at hSw); go_simp; try with_reducible rfl)
              try simp only [Act.put, List.setIfInBounds_toArray, List.set_cons_zero, List.set_cons_succ]
              refine wpAnyH_done (by kernel_rfl) ?_ _
              refine NoPanic.normal ?_
              go_wp2
              go_ret2
              exact HFIN.out _ _ _ _ HKE.out O9 B9.out
          · by_cases hci : c2' = k
            · skip
              have hkm : k = m := by omega
              subst hkm hci
              have HT := Lib.hid (fun W (hW : Below w2.heap.size w2 W) => (HR2.out.on hW).first c2' (Nat.le_refl _))
              have HD : Hid (∀ W : World, Below w2.heap.size w2 W → Rs W (some ⟨bb, off, none⟩) 0 0 (M.drop c2')) := fun W hW => by
                rw [List.drop_eq_nil_of_le (by have := HML.out; omega)]; exact Rs.nil_ _ _ _ (Nat.zero_le _)
              obtain ⟨g0, g1, g2⟩ := hgz
              go_wp2_with fail
              have BD := Lib.hid BZ.out.drew
              refine wp_region_noPanic ?_
              refine wp_region_held_drew (S := (fun w' : World => w'.cell? ⟨w.heap.size, 0, none⟩ = some (.string (txt r.name)) ∧ w'.cell? ⟨w.heap.size, 1, none⟩ = some (.int .i64 r.page) ∧ w'.cell? ⟨w.heap.size, 2, none⟩ = some (.int .i64 r.count))) (by kernel_rfl) (by exact ⟨g0, g1, g2⟩) (fun hHeld => ?_)
              generalize wz.drew = wd at *
              refine wpAnyH_take (i := 1) (oi := { dst := some 37, op := Go.Op.move (Go.Operand.tmp 6), type := 22, pos := "ref.go:113", after := #[], guard := none }) (v := ?_) rfl (by kernel_rfl) (by kernel_rfl) (by kernel_rfl) (fun _ _ _ h => h) (Or.inl ⟨by rfl, ?_⟩) (by assumption) ?_
              rotate_left
              · (intro w hSw; (try dsimp only at hSw); go_simp; try with_reducible rfl)
              try simp only [Act.put, List.setIfInBounds_toArray, List.set_cons_zero, List.set_cons_succ]
              refine wpAnyH_take (i := 2) (oi := { dst := some 38, op := Go.Op.move (Go.Operand.tmp 7), type := 3, pos := "ref.go:113", after := #[], guard := none }) (v := ?_) rfl (by kernel_rfl) (by kernel_rfl) (by kernel_rfl) (fun _ _ _ h => h) (Or.inl ⟨by rfl, ?_⟩) (by assumption) ?_
              rotate_left
              · (intro w hSw; (try dsimp only at hSw); go_simp; try with_reducible rfl)
              try simp only [Act.put, List.setIfInBounds_toArray, List.set_cons_zero, List.set_cons_succ]
              refine wpAnyH_take (i := 3) (oi := { dst := some 39, op := Go.Op.slice 22 (Go.Operand.tmp 37) none (some (Go.Operand.tmp 38)) none, type := 22, pos := "ref.go:113", after := #[{ on := 1, ground := Go.Ground.data }, { on := 2, ground := Go.Ground.data }], guard := none }) (v := ?_) rfl (by kernel_rfl) (by kernel_rfl) (by kernel_rfl) (fun _ _ _ h => h) (Or.inl ⟨by rfl, ?_⟩) (by assumption) ?_
              rotate_left
              · (intro w hSw; (try dsimp only at hSw); go_simp; try with_reducible rfl)
              try simp only [Act.put, List.setIfInBounds_toArray, List.set_cons_zero, List.set_cons_succ]
              refine wpAnyH_take (i := 5) (oi := { dst := some 41, op := Go.Op.load 34 (Go.Operand.tmp 3), type := 34, pos := "ref.go:113", after := #[], guard := none }) (v := ?_) rfl (by kernel_rfl) (by kernel_rfl) (by kernel_rfl) (fun _ _ _ h => h) (Or.inl ⟨by rfl, ?_⟩) (by assumption) ?_
              rotate_left
              · (intro w hSw; (try dsimp only at hSw); go_simp; try with_reducible rfl)
              try simp only [Act.put, List.setIfInBounds_toArray, List.set_cons_zero, List.set_cons_succ]
              refine wpAnyH_take (i := 8) (oi := { dst := some 44, op := Go.Op.move (Go.Operand.tmp 6), type := 22, pos := "ref.go:113", after := #[], guard := none }) (v := ?_) rfl (by kernel_rfl) (by kernel_rfl) (by kernel_rfl) (fun _ _ _ h => h) (Or.inl ⟨by rfl, ?_⟩) (by assumption) ?_
              rotate_left
              · (intro w hSw; (try dsimp only at hSw); go_simp; try with_reducible rfl)
              try simp only [Act.put, List.setIfInBounds_toArray, List.set_cons_zero, List.set_cons_succ]
              refine wpAnyH_take (i := 9) (oi := { dst := some 45, op := Go.Op.move (Go.Operand.tmp 7), type := 3, pos := "ref.go:113", after := #[], guard := none }) (v := ?_) rfl (by kernel_rfl) (by kernel_rfl) (by kernel_rfl) (fun _ _ _ h => h) (Or.inl ⟨by rfl, ?_⟩) (by assumption) ?_
              rotate_left
              · (intro w hSw; (try dsimp only at hSw); go_simp; try with_reducible rfl)
              try simp only [Act.put, List.setIfInBounds_toArray, List.set_cons_zero, List.set_cons_succ]
              refine wpAnyH_take (i := 10) (oi := { dst := some 46, op := Go.Op.slice 22 (Go.Operand.tmp 44) (some (Go.Operand.tmp 45)) none none, type := 22, pos := "ref.go:113", after := #[{ on := 8, ground := Go.Ground.data }, { on := 9, ground := Go.Ground.data }], guard := none }) (v := ?_) rfl (by kernel_rfl) (by kernel_rfl) (by kernel_rfl) (fun _ _ _ h => h) (Or.inl ⟨by rfl, ?_⟩) (by assumption) ?_
              rotate_left
              · (intro w hSw; (try dsimp only at hSw); go_simp; try with_reducible rfl)
              try simp only [Act.put, List.setIfInBounds_toArray, List.set_cons_zero, List.set_cons_succ]
              refine wpAnyH_ready (rs := [0, 6]) (by kernel_rfl) (by simp) ?_
              refine AllReadyH.cons (o := { dst := some 36, op := Go.Op.buildSlice 22 0 #[], type := 22, pos := "ref.go:113", after := #[], guard := none }) rfl (fun K hK => ?_) (AllReadyH.cons (o := { dst := some 42, op := Go.Op.buildSlice 22 1 #[(0, Go.Operand.tmp 41)], type := 22, pos := "ref.go:113", after := #[{ on := 5, ground := Go.Ground.data }], guard := none }) rfl (fun K hK => ?_) AllReadyH.nil)
              · skip
                go_simp
                have OA := own_empty wd w2.heap.size BD.out.size
                have BA := Lib.hid (BD.out.alloc BD.out.size (.cells #[] 34))
                have SA := KR.out _ BA.out
                generalize wd.alloc (.cells #[] 34) = wA at *
                refine hK.out _ _ (by exact SA) (fun hHeld => ?_)
                clear hK K
                try simp only [Act.put, List.setIfInBounds_toArray, List.set_cons_zero, List.set_cons_succ]
                refine wpAnyH_ready (rs := [4, 6]) (by kernel_rfl) (by simp) ?_
                refine AllReadyH.cons (o := { dst := some 40, op := Go.Op.call { callee := Go.Callee.builtin Go.Builtin.append, args := #[Go.Operand.tmp 36, Go.Operand.tmp 39], argTypes := #[22, 22] }, type := 22, pos := "ref.go:113", after := #[{ on := 0, ground := Go.Ground.data }, { on := 3, ground := Go.Ground.data }], guard := none }) rfl (fun K hK => ?_) (AllReadyH.cons (o := { dst := some 42, op := Go.Op.buildSlice 22 1 #[(0, Go.Operand.tmp 41)], type := 22, pos := "ref.go:113", after := #[{ on := 5, ground := Go.Ground.data }], guard := none }) rfl (fun K hK => ?_) AllReadyH.nil)
                · skip
                  refine step_append_run rfl (.tmp 36) (.tmp 39) 22 22 rfl _ _ (by rfl) (by rfl) _ (run_append_rs wA w2.heap.size _ _ [] OA _ _ _ _ (HT.out _ BA.out) (by first | (simp; done) | (simp; omega)) BA.out.size) ?_
                  rintro v4 w4 ⟨O4, G4⟩
                  rw [List.nil_append] at O4
                  have B4 := Lib.hid (below_own BA.out OA G4 BA.out.size (Nat.le_refl _))
                  have S4 := KR.out _ B4.out
                  refine hK.out _ _ (by exact S4) (fun hHeld => ?_)
                  clear hK K
                  try simp only [Act.put, List.setIfInBounds_toArray, List.set_cons_zero, List.set_cons_succ]
                  have RL := rs_new w4 r HIN.out
                  have BL := Lib.hid (B4.out.alloc B4.out.size (.cells #[.string (txt r.name), .int .i64 r.page, .int .i64 r.count] 34))
                  have SL := KR.out _ BL.out
                  have OL := own_on3 O4 ((Below.refl _ w4).alloc (Nat.le_refl _) (.cells #[.string (txt r.name), .int .i64 r.page, .int .i64 r.count] 34))
                  refine wpAnyH_ready (rs := [6]) (by kernel_rfl) (by simp) ?_
                  refine AllReadyH.cons (o := { dst := some 42, op := Go.Op.buildSlice 22 1 #[(0, Go.Operand.tmp 41)], type := 22, pos := "ref.go:113", after := #[{ on := 5, ground := Go.Ground.data }], guard := none }) rfl (fun K hK => ?_) AllReadyH.nil
                  go_simp
                  generalize w4.alloc (.cells #[.string (txt r.name), .int .i64 r.page, .int .i64 r.count] 34) = wL at *
                  refine hK.out _ _ (by exact SL) (fun hHeld => ?_)
                  clear hK K
                  try simp only [Act.put, List.setIfInBounds_toArray, List.set_cons_zero, List.set_cons_succ]
                  refine wpAnyH_ready (rs := [7]) (by kernel_rfl) (by simp) ?_
                  refine AllReadyH.cons (o := { dst := some 43, op := Go.Op.call { callee := Go.Callee.builtin Go.Builtin.append, args := #[Go.Operand.tmp 40, Go.Operand.tmp 42], argTypes := #[22, 22] }, type := 22, pos := "ref.go:113", after := #[{ on := 4, ground := Go.Ground.data }, { on := 6, ground := Go.Ground.data }, { on := 4, ground := Go.Ground.chain }], guard := none }) rfl (fun K hK => ?_) AllReadyH.nil
                  refine step_append_run rfl (.tmp 40) (.tmp 42) 22 22 rfl _ _ (by rfl) (by rfl) _ (run_append_rs wL w2.heap.size _ v4 _ OL _ 1 1 [r] RL (by first | (simp; done) | (simp; omega)) BL.out.size) ?_
                  rintro v7 w7 ⟨O7, G7⟩
                  have B7 := Lib.hid (below_own BL.out OL G7 BL.out.size (Nat.le_refl _))
                  have S7 := KR.out _ B7.out
                  refine hK.out _ _ (by exact S7) (fun hHeld => ?_)
                  clear hK K
                  try simp only [Act.put, List.setIfInBounds_toArray, List.set_cons_zero, List.set_cons_succ]
                  refine wpAnyH_ready (rs := [11]) (by kernel_rfl) (by simp) ?_
                  refine AllReadyH.cons (o := { dst := some 47, op := Go.Op.call { callee := Go.Callee.builtin Go.Builtin.append, args := #[Go.Operand.tmp 43, Go.Operand.tmp 46], argTypes := #[22, 22] }, type := 22, pos := "ref.go:113", after := #[{ on := 7, ground := Go.Ground.data }, { on := 10, ground := Go.Ground.data }, { on := 7, ground := Go.Ground.chain }], guard := none }) rfl (fun K hK => ?_) AllReadyH.nil
                  refine step_append_run rfl (.tmp 43) (.tmp 46) 22 22 rfl _ _ (by rfl) (by rfl) _ (run_append_rs w7 w2.heap.size _ v7 _ O7 _ _ _ _ (HD.out _ B7.out) (by first | (simp; done) | (simp; omega)) B7.out.size) ?_
                  rintro v9 w9 ⟨O9, G9⟩
                  have B9 := Lib.hid (below_own B7.out O7 G9 B7.out.size (Nat.le_refl _))
                  have S9 := KR.out _ B9.out
                  refine hK.out _ _ (by exact S9) (fun hHeld => ?_)
                  clear hK K
                  try simp only [Act.put, List.setIfInBounds_toArray, List.set_cons_zero, List.set_cons_succ]
                  refine wpAnyH_take (i := 12) (oi := { dst := some 4, op := Go.Op.assign (Go.Operand.tmp 47), type := 22, pos := "ref.go:113", after := #[{ on := 11, ground := Go.Ground.data }, { on := 11, ground := Go.Ground.chain }, { on := 0, ground := Go.Ground.phase }, { on := 1, ground := Go.Ground.phase }, { on := 2, ground := Go.Ground.phase }, { on := 3, ground := Go.Ground.phase }, { on := 4, ground := Go.Ground.phase }, { on := 5, ground := Go.Ground.phase }, { on := 6, ground := Go.Ground.phase }, { on := 7, ground := Go.Ground.phase }, { on := 8, ground := Go.Ground.phase }, { on := 9, ground := Go.Ground.phase }, { on := 10, ground := Go.Ground.phase }, { on := 11, ground := Go.Ground.phase }], guard := none }) (v := ?_) rfl (by kernel_rfl) (by kernel_rfl) (by kernel_rfl) (fun _ _ _ h => h) (Or.inl ⟨by rfl, ?_⟩) (by assumption) ?_
                  rotate_left
                  · (intro w hSw; (try dsimp only at hSw); go_simp; try with_reducible rfl)
                  try simp only [Act.put, List.setIfInBounds_toArray, List.set_cons_zero, List.set_cons_succ]
                  refine wpAnyH_take (i := 13) (oi := { dst := some 5, op := Go.Op.assign (Go.Operand.const (Go.Value.int Go.IntKind.i64 0)), type := 26, pos := "ref.go:113", after := #[{ on := 12, ground := Go.Ground.chain }, { on := 0, ground := Go.Ground.phase }, { on := 1, ground := Go.Ground.phase }, { on := 2, ground := Go.Ground.phase }, { on := 3, ground := Go.Ground.phase }, { on := 4, ground := Go.Ground.phase }, { on := 5, ground := Go.Ground.phase }, { on := 6, ground := Go.Ground.phase }, { on := 7, ground := Go.Ground.phase }, { on := 8, ground := Go.Ground.phase }, { on := 9, ground := Go.Ground.phase }, { on := 10, ground := Go.Ground.phase }, { on := 11, ground := Go.Ground.phase }, { on := 12, ground := Go.Ground.phase }], guard := none }) (v := ?_) rfl (by kernel_rfl) (by kernel_rfl) (by kernel_rfl) (fun _ _ _ h => h) (Or.inl ⟨by rfl, ?_⟩) (by assumption) ?_
                  rotate_left
                  · (intro w hSw; (try dsimp only at hSw); go_simp; try with_reducible rfl)
                  try simp only [Act.put, List.setIfInBounds_toArray, List.set_cons_zero, List.set_cons_succ]
                  refine wpAnyH_done (by kernel_rfl) ?_ _
                  refine NoPanic.normal ?_
                  go_wp2
                  go_ret2
                  exact HFIN.out _ _ _ _ HKE.out O9 B9.out
                · skip
                  go_simp
                  have RL := rs_new wA r HIN.out
                  have BL := Lib.hid (BA.out.alloc BA.out.size (.cells #[.string (txt r.name), .int .i64 r.page, .int .i64 r.count] 34))
                  have SL := KR.out _ BL.out
                  have OL := own_on3 OA ((Below.refl _ wA).alloc (Nat.le_refl _) (.cells #[.string (txt r.name), .int .i64 r.page, .int .i64 r.count] 34))
                  have hLA := OA.lt _ rfl
                  generalize wA.alloc (.cells #[.string (txt r.name), .int .i64 r.page, .int .i64 r.count] 34) = wL at *
                  refine hK.out _ _ (by exact SL) (fun hHeld => ?_)
                  clear hK K
                  try simp only [Act.put, List.setIfInBounds_toArray, List.set_cons_zero, List.set_cons_succ]
                  refine wpAnyH_ready (rs := [4]) (by kernel_rfl) (by simp) ?_
                  refine AllReadyH.cons (o := { dst := some 40, op := Go.Op.call { callee := Go.Callee.builtin Go.Builtin.append, args := #[Go.Operand.tmp 36, Go.Operand.tmp 39], argTypes := #[22, 22] }, type := 22, pos := "ref.go:113", after := #[{ on := 0, ground := Go.Ground.data }, { on := 3, ground := Go.Ground.data }], guard := none }) rfl (fun K hK => ?_) AllReadyH.nil
                  refine step_append_run rfl (.tmp 36) (.tmp 39) 22 22 rfl _ _ (by rfl) (by rfl) _ (run_append_rs wL w2.heap.size _ _ [] OL _ _ _ _ (HT.out _ BL.out) (by first | (simp; done) | (simp; omega)) BL.out.size) ?_
                  rintro v4 w4 ⟨O4, G4⟩
                  rw [List.nil_append] at O4
                  have B4 := Lib.hid (below_own BL.out OL G4 BL.out.size (Nat.le_refl _))
                  have S4 := KR.out _ B4.out
                  refine hK.out _ _ (by exact S4) (fun hHeld => ?_)
                  clear hK K
                  try simp only [Act.put, List.setIfInBounds_toArray, List.set_cons_zero, List.set_cons_succ]
                  have RM := RL.grown G4 (fun a ha hh => by injection ha with ha; subst ha; injection hh with hh; simp at hh hLA; omega)
                  refine wpAnyH_ready (rs := [7]) (by kernel_rfl) (by simp) ?_
                  refine AllReadyH.cons (o := { dst := some 43, op := Go.Op.call { callee := Go.Callee.builtin Go.Builtin.append, args := #[Go.Operand.tmp 40, Go.Operand.tmp 42], argTypes := #[22, 22] }, type := 22, pos := "ref.go:113", after := #[{ on := 4, ground := Go.Ground.data }, { on := 6, ground := Go.Ground.data }, { on := 4, ground := Go.Ground.chain }], guard := none }) rfl (fun K hK => ?_) AllReadyH.nil
                  refine step_append_run rfl (.tmp 40) (.tmp 42) 22 22 rfl _ _ (by rfl) (by rfl) _ (run_append_rs w4 w2.heap.size _ v4 _ O4 _ 1 1 [r] RM (by first | (simp; done) | (simp; omega)) B4.out.size) ?_
                  rintro v7 w7 ⟨O7, G7⟩
                  have B7 := Lib.hid (below_own B4.out O4 G7 B4.out.size (Nat.le_refl _))
                  have S7 := KR.out _ B7.out
                  refine hK.out _ _ (by exact S7) (fun hHeld => ?_)
                  clear hK K
                  try simp only [Act.put, List.setIfInBounds_toArray, List.set_cons_zero, List.set_cons_succ]
                  refine wpAnyH_ready (rs := [11]) (by kernel_rfl) (by simp) ?_
                  refine AllReadyH.cons (o := { dst := some 47, op := Go.Op.call { callee := Go.Callee.builtin Go.Builtin.append, args := #[Go.Operand.tmp 43, Go.Operand.tmp 46], argTypes := #[22, 22] }, type := 22, pos := "ref.go:113", after := #[{ on := 7, ground := Go.Ground.data }, { on := 10, ground := Go.Ground.data }, { on := 7, ground := Go.Ground.chain }], guard := none }) rfl (fun K hK => ?_) AllReadyH.nil
                  refine step_append_run rfl (.tmp 43) (.tmp 46) 22 22 rfl _ _ (by rfl) (by rfl) _ (run_append_rs w7 w2.heap.size _ v7 _ O7 _ _ _ _ (HD.out _ B7.out) (by first | (simp; done) | (simp; omega)) B7.out.size) ?_
                  rintro v9 w9 ⟨O9, G9⟩
                  have B9 := Lib.hid (below_own B7.out O7 G9 B7.out.size (Nat.le_refl _))
                  have S9 := KR.out _ B9.out
                  refine hK.out _ _ (by exact S9) (fun hHeld => ?_)
                  clear hK K
                  try simp only [Act.put, List.setIfInBounds_toArray, List.set_cons_zero, List.set_cons_succ]
                  refine wpAnyH_take (i := 12) (oi := { dst := some 4, op := Go.Op.assign (Go.Operand.tmp 47), type := 22, pos := "ref.go:113", after := #[{ on := 11, ground := Go.Ground.data }, { on := 11, ground := Go.Ground.chain }, { on := 0, ground := Go.Ground.phase }, { on := 1, ground := Go.Ground.phase }, { on := 2, ground := Go.Ground.phase }, { on := 3, ground := Go.Ground.phase }, { on := 4, ground := Go.Ground.phase }, { on := 5, ground := Go.Ground.phase }, { on := 6, ground := Go.Ground.phase }, { on := 7, ground := Go.Ground.phase }, { on := 8, ground := Go.Ground.phase }, { on := 9, ground := Go.Ground.phase }, { on := 10, ground := Go.Ground.phase }, { on := 11, ground := Go.Ground.phase }], guard := none }) (v := ?_) rfl (by kernel_rfl) (by kernel_rfl) (by kernel_rfl) (fun _ _ _ h => h) (Or.inl ⟨by rfl, ?_⟩) (by assumption) ?_
                  rotate_left
                  · (intro w hSw; (try dsimp only at hSw); go_simp; try with_reducible rfl)
                  try simp only [Act.put, List.setIfInBounds_toArray, List.set_cons_zero, List.set_cons_succ]
                  refine wpAnyH_take (i := 13) (oi := { dst := some 5, op := Go.Op.assign (Go.Operand.const (Go.Value.int Go.IntKind.i64 0)), type := 26, pos := "ref.go:113", after := #[{ on := 12, ground := Go.Ground.chain }, { on := 0, ground := Go.Ground.phase }, { on := 1, ground := Go.Ground.phase }, { on := 2, ground := Go.Ground.phase }, { on := 3, ground := Go.Ground.phase }, { on := 4, ground := Go.Ground.phase }, { on := 5, ground := Go.Ground.phase }, { on := 6, ground := Go.Ground.phase }, { on := 7, ground := Go.Ground.phase }, { on := 8, ground := Go.Ground.phase }, { on := 9, ground := Go.Ground.phase }, { on := 10, ground := Go.Ground.phase }, { on := 11, ground := Go.Ground.phase }, { on := 12, ground := Go.Ground.phase }], guard := none }) (v := ?_) rfl (by kernel_rfl) (by kernel_rfl) (by kernel_rfl) (fun _ _ _ h => h) (Or.inl ⟨by rfl, ?_⟩) (by assumption) ?_
                  rotate_left
                  · (intro w hSw; (try dsimp only at hSw); go_simp; try with_reducible rfl)
                  try simp only [Act.put, List.setIfInBounds_toArray, List.set_cons_zero, List.set_cons_succ]
                  refine wpAnyH_done (by kernel_rfl) ?_ _
                  refine NoPanic.normal ?_
                  go_wp2
                  go_ret2
                  exact HFIN.out _ _ _ _ HKE.out O9 B9.out
              · skip
                go_simp
                have RL := rs_new wd r HIN.out
                have BL := Lib.hid (BD.out.alloc BD.out.size (.cells #[.string (txt r.name), .int .i64 r.page, .int .i64 r.count] 34))
                have SL := KR.out _ BL.out
                have sL : wd.heap.size < (wd.alloc (.cells #[.string (txt r.name), .int .i64 r.page, .int .i64 r.count] 34)).heap.size := by simp
                generalize wd.alloc (.cells #[.string (txt r.name), .int .i64 r.page, .int .i64 r.count] 34) = wL at *
                refine hK.out _ _ (by exact SL) (fun hHeld => ?_)
                clear hK K
                try simp only [Act.put, List.setIfInBounds_toArray, List.set_cons_zero, List.set_cons_succ]
                refine wpAnyH_ready (rs := [0]) (by kernel_rfl) (by simp) ?_
                refine AllReadyH.cons (o := { dst := some 36, op := Go.Op.buildSlice 22 0 #[], type := 22, pos := "ref.go:113", after := #[], guard := none }) rfl (fun K hK => ?_) AllReadyH.nil
                go_simp
                have OA := own_empty wL w2.heap.size BL.out.size
                have BA := Lib.hid (BL.out.alloc BL.out.size (.cells #[] 34))
                have SA := KR.out _ BA.out
                have RN := RL.alloc (.cells #[] 34)
                generalize wL.alloc (.cells #[] 34) = wA at *
                refine hK.out _ _ (by exact SA) (fun hHeld => ?_)
                clear hK K
                try simp only [Act.put, List.setIfInBounds_toArray, List.set_cons_zero, List.set_cons_succ]
                refine wpAnyH_ready (rs := [4]) (by kernel_rfl) (by simp) ?_
                refine AllReadyH.cons (o := { dst := some 40, op := Go.Op.call { callee := Go.Callee.builtin Go.Builtin.append, args := #[Go.Operand.tmp 36, Go.Operand.tmp 39], argTypes := #[22, 22] }, type := 22, pos := "ref.go:113", after := #[{ on := 0, ground := Go.Ground.data }, { on := 3, ground := Go.Ground.data }], guard := none }) rfl (fun K hK => ?_) AllReadyH.nil
                refine step_append_run rfl (.tmp 36) (.tmp 39) 22 22 rfl _ _ (by rfl) (by rfl) _ (run_append_rs wA w2.heap.size _ _ [] OA _ _ _ _ (HT.out _ BA.out) (by first | (simp; done) | (simp; omega)) BA.out.size) ?_
                rintro v4 w4 ⟨O4, G4⟩
                rw [List.nil_append] at O4
                have B4 := Lib.hid (below_own BA.out OA G4 BA.out.size (Nat.le_refl _))
                have S4 := KR.out _ B4.out
                refine hK.out _ _ (by exact S4) (fun hHeld => ?_)
                clear hK K
                try simp only [Act.put, List.setIfInBounds_toArray, List.set_cons_zero, List.set_cons_succ]
                have RM := RN.grown G4 (fun a ha hh => by injection ha with ha; subst ha; injection hh with hh; simp at hh sL; omega)
                refine wpAnyH_ready (rs := [7]) (by kernel_rfl) (by simp) ?_
                refine AllReadyH.cons (o := { dst := some 43, op := Go.Op.call { callee := Go.Callee.builtin Go.Builtin.append, args := #[Go.Operand.tmp 40, Go.Operand.tmp 42], argTypes := #[22, 22] }, type := 22, pos := "ref.go:113", after := #[{ on := 4, ground := Go.Ground.data }, { on := 6, ground := Go.Ground.data }, { on := 4, ground := Go.Ground.chain }], guard := none }) rfl (fun K hK => ?_) AllReadyH.nil
                refine step_append_run rfl (.tmp 40) (.tmp 42) 22 22 rfl _ _ (by rfl) (by rfl) _ (run_append_rs w4 w2.heap.size _ v4 _ O4 _ 1 1 [r] RM (by first | (simp; done) | (simp; omega)) B4.out.size) ?_
                rintro v7 w7 ⟨O7, G7⟩
                have B7 := Lib.hid (below_own B4.out O4 G7 B4.out.size (Nat.le_refl _))
                have S7 := KR.out _ B7.out
                refine hK.out _ _ (by exact S7) (fun hHeld => ?_)
                clear hK K
                try simp only [Act.put, List.setIfInBounds_toArray, List.set_cons_zero, List.set_cons_succ]
                refine wpAnyH_ready (rs := [11]) (by kernel_rfl) (by simp) ?_
                refine AllReadyH.cons (o := { dst := some 47, op := Go.Op.call { callee := Go.Callee.builtin Go.Builtin.append, args := #[Go.Operand.tmp 43, Go.Operand.tmp 46], argTypes := #[22, 22] }, type := 22, pos := "ref.go:113", after := #[{ on := 7, ground := Go.Ground.data }, { on := 10, ground := Go.Ground.data }, { on := 7, ground := Go.Ground.chain }], guard := none }) rfl (fun K hK => ?_) AllReadyH.nil
                refine step_append_run rfl (.tmp 43) (.tmp 46) 22 22 rfl _ _ (by rfl) (by rfl) _ (run_append_rs w7 w2.heap.size _ v7 _ O7 _ _ _ _ (HD.out _ B7.out) (by first | (simp; done) | (simp; omega)) B7.out.size) ?_
                rintro v9 w9 ⟨O9, G9⟩
                have B9 := Lib.hid (below_own B7.out O7 G9 B7.out.size (Nat.le_refl _))
                have S9 := KR.out _ B9.out
                refine hK.out _ _ (by exact S9) (fun hHeld => ?_)
                clear hK K
                try simp only [Act.put, List.setIfInBounds_toArray, List.set_cons_zero, List.set_cons_succ]
                refine wpAnyH_take (i := 12) (oi := { dst := some 4, op := Go.Op.assign (Go.Operand.tmp 47), type := 22, pos := "ref.go:113", after := #[{ on := 11, ground := Go.Ground.data }, { on := 11, ground := Go.Ground.chain }, { on := 0, ground := Go.Ground.phase }, { on := 1, ground := Go.Ground.phase }, { on := 2, ground := Go.Ground.phase }, { on := 3, ground := Go.Ground.phase }, { on := 4, ground := Go.Ground.phase }, { on := 5, ground := Go.Ground.phase }, { on := 6, ground := Go.Ground.phase }, { on := 7, ground := Go.Ground.phase }, { on := 8, ground := Go.Ground.phase }, { on := 9, ground := Go.Ground.phase }, { on := 10, ground := Go.Ground.phase }, { on := 11, ground := Go.Ground.phase }], guard := none }) (v := ?_) rfl (by kernel_rfl) (by kernel_rfl) (by kernel_rfl) (fun _ _ _ h => h) (Or.inl ⟨by rfl, ?_⟩) (by assumption) ?_
                rotate_left
                · (intro w hSw; (try dsimp only at hSw); go_simp; try with_reducible rfl)
                try simp only [Act.put, List.setIfInBounds_toArray, List.set_cons_zero, List.set_cons_succ]
                refine wpAnyH_take (i := 13) (oi := { dst := some 5, op := Go.Op.assign (Go.Operand.const (Go.Value.int Go.IntKind.i64 0)), type := 26, pos := "ref.go:113", after := #[{ on := 12, ground := Go.Ground.chain }, { on := 0, ground := Go.Ground.phase }, { on := 1, ground := Go.Ground.phase }, { on := 2, ground := Go.Ground.phase }, { on := 3, ground := Go.Ground.phase }, { on := 4, ground := Go.Ground.phase }, { on := 5, ground := Go.Ground.phase }, { on := 6, ground := Go.Ground.phase }, { on := 7, ground := Go.Ground.phase }, { on := 8, ground := Go.Ground.phase }, { on := 9, ground := Go.Ground.phase }, { on := 10, ground := Go.Ground.phase }, { on := 11, ground := Go.Ground.phase }, { on := 12, ground := Go.Ground.phase }], guard := none }) (v := ?_) rfl (by kernel_rfl) (by kernel_rfl) (by kernel_rfl) (fun _ _ _ h => h) (Or.inl ⟨by rfl, ?_⟩) (by assumption) ?_
                rotate_left
                · (intro w hSw; (try dsimp only at hSw); go_simp; try with_reducible rfl)
                try simp only [Act.put, List.setIfInBounds_toArray, List.set_cons_zero, List.set_cons_succ]
                refine wpAnyH_done (by kernel_rfl) ?_ _
                refine NoPanic.normal ?_
                go_wp2
                go_ret2
                exact HFIN.out _ _ _ _ HKE.out O9 B9.out
            · skip
              have HT := Lib.hid (fun W (hW : Below w2.heap.size w2 W) => (HR2.out.on hW).first k hk)
              have HD := Lib.hid (fun W (hW : Below w2.heap.size w2 W) => (HR2.out.on hW).far k hk)
              have hkm : (k : Int) ≤ (m : Int) := by omega
              have hkc : (k : Int) ≤ (c2' : Int) := by omega
              obtain ⟨g0, g1, g2⟩ := hgz
              go_wp2_with fail
              have BD := Lib.hid BZ.out.drew
              refine wp_region_noPanic ?_
              refine wp_region_held_drew (S := (fun w' : World => w'.cell? ⟨w.heap.size, 0, none⟩ = some (.string (txt r.name)) ∧ w'.cell? ⟨w.heap.size, 1, none⟩ = some (.int .i64 r.page) ∧ w'.cell? ⟨w.heap.size, 2, none⟩ = some (.int .i64 r.count))) (by kernel_rfl) (by exact ⟨g0, g1, g2⟩) (fun hHeld => ?_)
              generalize wz.drew = wd at *
              refine wpAnyH_take (i := 1) (oi := { dst := some 37, op := Go.Op.move (Go.Operand.tmp 6), type := 22, pos := "ref.go:113", after := #[], guard := none }) (v := ?_) rfl (by kernel_rfl) (by kernel_rfl) (by kernel_rfl) (fun _ _ _ h => h) (Or.inl ⟨by rfl, ?_⟩) (by assumption) ?_
              rotate_left
              · (intro w hSw; (try dsimp only at hSw); go_simp; try with_reducible rfl)
              try simp only [Act.put, List.setIfInBounds_toArray, List.set_cons_zero, List.set_cons_succ]
              refine wpAnyH_take (i := 2) (oi := { dst := some 38, op := Go.Op.move (Go.Operand.tmp 7), type := 3, pos := "ref.go:113", after := #[], guard := none }) (v := ?_) rfl (by kernel_rfl) (by kernel_rfl) (by kernel_rfl) (fun _ _ _ h => h) (Or.inl ⟨by rfl, ?_⟩) (by assumption) ?_
              rotate_left
              · (intro w hSw; (try dsimp only at hSw); go_simp; try with_reducible rfl)
              try simp only [Act.put, List.setIfInBounds_toArray, List.set_cons_zero, List.set_cons_succ]
              refine wpAnyH_take (i := 3) (oi := { dst := some 39, op := Go.Op.slice 22 (Go.Operand.tmp 37) none (some (Go.Operand.tmp 38)) none, type := 22, pos := "ref.go:113", after := #[{ on := 1, ground := Go.Ground.data }, { on := 2, ground := Go.Ground.data }], guard := none }) (v := ?_) rfl (by kernel_rfl) (by kernel_rfl) (by kernel_rfl) (fun _ _ _ h => h) (Or.inl ⟨by rfl, ?_⟩) (by assumption) ?_
              rotate_left
              · (intro w hSw; (try dsimp only at hSw); go_simp; try with_reducible rfl)
              try simp only [Act.put, List.setIfInBounds_toArray, List.set_cons_zero, List.set_cons_succ]
              refine wpAnyH_take (i := 5) (oi := { dst := some 41, op := Go.Op.load 34 (Go.Operand.tmp 3), type := 34, pos := "ref.go:113", after := #[], guard := none }) (v := ?_) rfl (by kernel_rfl) (by kernel_rfl) (by kernel_rfl) (fun _ _ _ h => h) (Or.inl ⟨by rfl, ?_⟩) (by assumption) ?_
              rotate_left
              · (intro w hSw; (try dsimp only at hSw); go_simp; try with_reducible rfl)
              try simp only [Act.put, List.setIfInBounds_toArray, List.set_cons_zero, List.set_cons_succ]
              refine wpAnyH_take (i := 8) (oi := { dst := some 44, op := Go.Op.move (Go.Operand.tmp 6), type := 22, pos := "ref.go:113", after := #[], guard := none }) (v := ?_) rfl (by kernel_rfl) (by kernel_rfl) (by kernel_rfl) (fun _ _ _ h => h) (Or.inl ⟨by rfl, ?_⟩) (by assumption) ?_
              rotate_left
              · (intro w hSw; (try dsimp only at hSw); go_simp; try with_reducible rfl)
              try simp only [Act.put, List.setIfInBounds_toArray, List.set_cons_zero, List.set_cons_succ]
              refine wpAnyH_take (i := 9) (oi := { dst := some 45, op := Go.Op.move (Go.Operand.tmp 7), type := 3, pos := "ref.go:113", after := #[], guard := none }) (v := ?_) rfl (by kernel_rfl) (by kernel_rfl) (by kernel_rfl) (fun _ _ _ h => h) (Or.inl ⟨by rfl, ?_⟩) (by assumption) ?_
              rotate_left
              · (intro w hSw; (try dsimp only at hSw); go_simp; try with_reducible rfl)
              try simp only [Act.put, List.setIfInBounds_toArray, List.set_cons_zero, List.set_cons_succ]
              refine wpAnyH_take (i := 10) (oi := { dst := some 46, op := Go.Op.slice 22 (Go.Operand.tmp 44) (some (Go.Operand.tmp 45)) none none, type := 22, pos := "ref.go:113", after := #[{ on := 8, ground := Go.Ground.data }, { on := 9, ground := Go.Ground.data }], guard := none }) (v := ?_) rfl (by kernel_rfl) (by kernel_rfl) (by kernel_rfl) (fun _ _ _ h => h) (Or.inl ⟨by rfl, ?_⟩) (by assumption) ?_
              rotate_left
              · (intro w hSw; (try dsimp only at hSw); go_simp; try with_reducible rfl)
              try simp only [Act.put, List.setIfInBounds_toArray, List.set_cons_zero, List.set_cons_succ]
              refine wpAnyH_ready (rs := [0, 6]) (by kernel_rfl) (by simp) ?_
              refine AllReadyH.cons (o := { dst := some 36, op := Go.Op.buildSlice 22 0 #[], type := 22, pos := "ref.go:113", after := #[], guard := none }) rfl (fun K hK => ?_) (AllReadyH.cons (o := { dst := some 42, op := Go.Op.buildSlice 22 1 #[(0, Go.Operand.tmp 41)], type := 22, pos := "ref.go:113", after := #[{ on := 5, ground := Go.Ground.data }], guard := none }) rfl (fun K hK => ?_) AllReadyH.nil)
              · skip
                go_simp
                have OA := own_empty wd w2.heap.size BD.out.size
                have BA := Lib.hid (BD.out.alloc BD.out.size (.cells #[] 34))
                have SA := KR.out _ BA.out
                generalize wd.alloc (.cells #[] 34) = wA at *
                refine hK.out _ _ (by exact SA) (fun hHeld => ?_)
                clear hK K
                try simp only [Act.put, List.setIfInBounds_toArray, List.set_cons_zero, List.set_cons_succ]
                refine wpAnyH_ready (rs := [4, 6]) (by kernel_rfl) (by simp) ?_
                refine AllReadyH.cons (o := { dst := some 40, op := Go.Op.call { callee := Go.Callee.builtin Go.Builtin.append, args := #[Go.Operand.tmp 36, Go.Operand.tmp 39], argTypes := #[22, 22] }, type := 22, pos := "ref.go:113", after := #[{ on := 0, ground := Go.Ground.data }, { on := 3, ground := Go.Ground.data }], guard := none }) rfl (fun K hK => ?_) (AllReadyH.cons (o := { dst := some 42, op := Go.Op.buildSlice 22 1 #[(0, Go.Operand.tmp 41)], type := 22, pos := "ref.go:113", after := #[{ on := 5, ground := Go.Ground.data }], guard := none }) rfl (fun K hK => ?_) AllReadyH.nil)
                · skip
                  refine step_append_run rfl (.tmp 36) (.tmp 39) 22 22 rfl _ _ (by rfl) (by rfl) _ (run_append_rs wA w2.heap.size _ _ [] OA _ _ _ _ (HT.out _ BA.out) (by first | (simp; done) | (simp; omega)) BA.out.size) ?_
                  rintro v4 w4 ⟨O4, G4⟩
                  rw [List.nil_append] at O4
                  have B4 := Lib.hid (below_own BA.out OA G4 BA.out.size (Nat.le_refl _))
                  have S4 := KR.out _ B4.out
                  refine hK.out _ _ (by exact S4) (fun hHeld => ?_)
                  clear hK K
                  try simp only [Act.put, List.setIfInBounds_toArray, List.set_cons_zero, List.set_cons_succ]
                  have RL := rs_new w4 r HIN.out
                  have BL := Lib.hid (B4.out.alloc B4.out.size (.cells #[.string (txt r.name), .int .i64 r.page, .int .i64 r.count] 34))
                  have SL := KR.out _ BL.out
                  have OL := own_on3 O4 ((Below.refl _ w4).alloc (Nat.le_refl _) (.cells #[.string (txt r.name), .int .i64 r.page, .int .i64 r.count] 34))
                  refine wpAnyH_ready (rs := [6]) (by kernel_rfl) (by simp) ?_
                  refine AllReadyH.cons (o := { dst := some 42, op := Go.Op.buildSlice 22 1 #[(0, Go.Operand.tmp 41)], type := 22, pos := "ref.go:113", after := #[{ on := 5, ground := Go.Ground.data }], guard := none }) rfl (fun K hK => ?_) AllReadyH.nil
                  go_simp
                  generalize w4.alloc (.cells #[.string (txt r.name), .int .i64 r.page, .int .i64 r.count] 34) = wL at *
                  refine hK.out _ _ (by exact SL) (fun hHeld => ?_)
                  clear hK K
                  try simp only [Act.put, List.setIfInBounds_toArray, List.set_cons_zero, List.set_cons_succ]
                  refine wpAnyH_ready (rs := [7]) (by kernel_rfl) (by simp) ?_
                  refine AllReadyH.cons (o := { dst := some 43, op := Go.Op.call { callee := Go.Callee.builtin Go.Builtin.append, args := #[Go.Operand.tmp 40, Go.Operand.tmp 42], argTypes := #[22, 22] }, type := 22, pos := "ref.go:113", after := #[{ on := 4, ground := Go.Ground.data }, { on := 6, ground := Go.Ground.data }, { on := 4, ground := Go.Ground.chain }], guard := none }) rfl (fun K hK => ?_) AllReadyH.nil
                  refine step_append_run rfl (.tmp 40) (.tmp 42) 22 22 rfl _ _ (by rfl) (by rfl) _ (run_append_rs wL w2.heap.size _ v4 _ OL _ 1 1 [r] RL (by first | (simp; done) | (simp; omega)) BL.out.size) ?_
                  rintro v7 w7 ⟨O7, G7⟩
                  have B7 := Lib.hid (below_own BL.out OL G7 BL.out.size (Nat.le_refl _))
                  have S7 := KR.out _ B7.out
                  refine hK.out _ _ (by exact S7) (fun hHeld => ?_)
                  clear hK K
                  try simp only [Act.put, List.setIfInBounds_toArray, List.set_cons_zero, List.set_cons_succ]
                  refine wpAnyH_ready (rs := [11]) (by kernel_rfl) (by simp) ?_
                  refine AllReadyH.cons (o := { dst := some 47, op := Go.Op.call { callee := Go.Callee.builtin Go.Builtin.append, args := #[Go.Operand.tmp 43, Go.Operand.tmp 46], argTypes := #[22, 22] }, type := 22, pos := "ref.go:113", after := #[{ on := 7, ground := Go.Ground.data }, { on := 10, ground := Go.Ground.data }, { on := 7, ground := Go.Ground.chain }], guard := none }) rfl (fun K hK => ?_) AllReadyH.nil
                  refine step_append_run rfl (.tmp 43) (.tmp 46) 22 22 rfl _ _ (by rfl) (by rfl) _ (run_append_rs w7 w2.heap.size _ v7 _ O7 _ _ _ _ (HD.out _ B7.out) (by first | (simp; done) | (simp; omega)) B7.out.size) ?_
                  rintro v9 w9 ⟨O9, G9⟩
                  have B9 := Lib.hid (below_own B7.out O7 G9 B7.out.size (Nat.le_refl _))
                  have S9 := KR.out _ B9.out
                  refine hK.out _ _ (by exact S9) (fun hHeld => ?_)
                  clear hK K
                  try simp only [Act.put, List.setIfInBounds_toArray, List.set_cons_zero, List.set_cons_succ]
                  refine wpAnyH_take (i := 12) (oi := { dst := some 4, op := Go.Op.assign (Go.Operand.tmp 47), type := 22, pos := "ref.go:113", after := #[{ on := 11, ground := Go.Ground.data }, { on := 11, ground := Go.Ground.chain }, { on := 0, ground := Go.Ground.phase }, { on := 1, ground := Go.Ground.phase }, { on := 2, ground := Go.Ground.phase }, { on := 3, ground := Go.Ground.phase }, { on := 4, ground := Go.Ground.phase }, { on := 5, ground := Go.Ground.phase }, { on := 6, ground := Go.Ground.phase }, { on := 7, ground := Go.Ground.phase }, { on := 8, ground := Go.Ground.phase }, { on := 9, ground := Go.Ground.phase }, { on := 10, ground := Go.Ground.phase }, { on := 11, ground := Go.Ground.phase }], guard := none }) (v := ?_) rfl (by kernel_rfl) (by kernel_rfl) (by kernel_rfl) (fun _ _ _ h => h) (Or.inl ⟨by rfl, ?_⟩) (by assumption) ?_
                  rotate_left
                  · (intro w hSw; (try dsimp only at hSw); go_simp; try with_reducible rfl)
                  try simp only [Act.put, List.setIfInBounds_toArray, List.set_cons_zero, List.set_cons_succ]
                  refine wpAnyH_take (i := 13) (oi := { dst := some 5, op := Go.Op.assign (Go.Operand.const (Go.Value.int Go.IntKind.i64 0)), type := 26, pos := "ref.go:113", after := #[{ on := 12, ground := Go.Ground.chain }, { on := 0, ground := Go.Ground.phase }, { on := 1, ground := Go.Ground.phase }, { on := 2, ground := Go.Ground.phase }, { on := 3, ground := Go.Ground.phase }, { on := 4, ground := Go.Ground.phase }, { on := 5, ground := Go.Ground.phase }, { on := 6, ground := Go.Ground.phase }, { on := 7, ground := Go.Ground.phase }, { on := 8, ground := Go.Ground.phase }, { on := 9, ground := Go.Ground.phase }, { on := 10, ground := Go.Ground.phase }, { on := 11, ground := Go.Ground.phase }, { on := 12, ground := Go.Ground.phase }], guard := none }) (v := ?_) rfl (by kernel_rfl) (by kernel_rfl) (by kernel_rfl) (fun _ _ _ h => h) (Or.inl ⟨by rfl, ?_⟩) (by assumption) ?_
                  rotate_left
                  · (intro w hSw; (try dsimp only at hSw); go_simp; try with_reducible rfl)
                  try simp only [Act.put, List.setIfInBounds_toArray, List.set_cons_zero, List.set_cons_succ]
                  refine wpAnyH_done (by kernel_rfl) ?_ _
                  refine NoPanic.normal ?_
                  go_wp2
                  go_ret2
                  exact HFIN.out _ _ _ _ HKE.out O9 B9.out
                · skip
                  go_simp
                  have RL := rs_new wA r HIN.out
                  have BL := Lib.hid (BA.out.alloc BA.out.size (.cells #[.string (txt r.name), .int .i64 r.page, .int .i64 r.count] 34))
                  have SL := KR.out _ BL.out
                  have OL := own_on3 OA ((Below.refl _ wA).alloc (Nat.le_refl _) (.cells #[.string (txt r.name), .int .i64 r.page, .int .i64 r.count] 34))
                  have hLA := OA.lt _ rfl
                  generalize wA.alloc (.cells #[.string (txt r.name), .int .i64 r.page, .int .i64 r.count] 34) = wL at *
                  refine hK.out _ _ (by exact SL) (fun hHeld => ?_)
                  clear hK K
                  try simp only [Act.put, List.setIfInBounds_toArray, List.set_cons_zero, List.set_cons_succ]
                  refine wpAnyH_ready (rs := [4]) (by kernel_rfl) (by simp) ?_
                  refine AllReadyH.cons (o := { dst := some 40, op := Go.Op.call { callee := Go.Callee.builtin Go.Builtin.append, args := #[Go.Operand.tmp 36, Go.Operand.tmp 39], argTypes := #[22, 22] }, type := 22, pos := "ref.go:113", after := #[{ on := 0, ground := Go.Ground.data }, { on := 3, ground := Go.Ground.data }], guard := none }) rfl (fun K hK => ?_) AllReadyH.nil
                  refine step_append_run rfl (.tmp 36) (.tmp 39) 22 22 rfl _ _ (by rfl) (by rfl) _ (run_append_rs wL w2.heap.size _ _ [] OL _ _ _ _ (HT.out _ BL.out) (by first | (simp; done) | (simp; omega)) BL.out.size) ?_
                  rintro v4 w4 ⟨O4, G4⟩
                  rw [List.nil_append] at O4
                  have B4 := Lib.hid (below_own BL.out OL G4 BL.out.size (Nat.le_refl _))
                  have S4 := KR.out _ B4.out
                  refine hK.out _ _ (by exact S4) (fun hHeld => ?_)
                  clear hK K
                  try simp only [Act.put, List.setIfInBounds_toArray, List.set_cons_zero, List.set_cons_succ]
                  have RM := RL.grown G4 (fun a ha hh => by injection ha with ha; subst ha; injection hh with hh; simp at hh hLA; omega)
                  refine wpAnyH_ready (rs := [7]) (by kernel_rfl) (by simp) ?_
                  refine AllReadyH.cons (o := { dst := some 43, op := Go.Op.call { callee := Go.Callee.builtin Go.Builtin.append, args := #[Go.Operand.tmp 40, Go.Operand.tmp 42], argTypes := #[22, 22] }, type := 22, pos := "ref.go:113", after := #[{ on := 4, ground := Go.Ground.data }, { on := 6, ground := Go.Ground.data }, { on := 4, ground := Go.Ground.chain }], guard := none }) rfl (fun K hK => ?_) AllReadyH.nil
                  refine step_append_run rfl (.tmp 40) (.tmp 42) 22 22 rfl _ _ (by rfl) (by rfl) _ (run_append_rs w4 w2.heap.size _ v4 _ O4 _ 1 1 [r] RM (by first | (simp; done) | (simp; omega)) B4.out.size) ?_
                  rintro v7 w7 ⟨O7, G7⟩
                  have B7 := Lib.hid (below_own B4.out O4 G7 B4.out.size (Nat.le_refl _))
                  have S7 := KR.out _ B7.out
                  refine hK.out _ _ (by exact S7) (fun hHeld => ?_)
                  clear hK K
                  try simp only [Act.put, List.setIfInBounds_toArray, List.set_cons_zero, List.set_cons_succ]
                  refine wpAnyH_ready (rs := [11]) (by kernel_rfl) (by simp) ?_
                  refine AllReadyH.cons (o := { dst := some 47, op := Go.Op.call { callee := Go.Callee.builtin Go.Builtin.append, args := #[Go.Operand.tmp 43, Go.Operand.tmp 46], argTypes := #[22, 22] }, type := 22, pos := "ref.go:113", after := #[{ on := 7, ground := Go.Ground.data }, { on := 10, ground := Go.Ground.data }, { on := 7, ground := Go.Ground.chain }], guard := none }) rfl (fun K hK => ?_) AllReadyH.nil
                  refine step_append_run rfl (.tmp 43) (.tmp 46) 22 22 rfl _ _ (by rfl) (by rfl) _ (run_append_rs w7 w2.heap.size _ v7 _ O7 _ _ _ _ (HD.out _ B7.out) (by first | (simp; done) | (simp; omega)) B7.out.size) ?_
                  rintro v9 w9 ⟨O9, G9⟩
                  have B9 := Lib.hid (below_own B7.out O7 G9 B7.out.size (Nat.le_refl _))
                  have S9 := KR.out _ B9.out
                  refine hK.out _ _ (by exact S9) (fun hHeld => ?_)
                  clear hK K
                  try simp only [Act.put, List.setIfInBounds_toArray, List.set_cons_zero, List.set_cons_succ]
                  refine wpAnyH_take (i := 12) (oi := { dst := some 4, op := Go.Op.assign (Go.Operand.tmp 47), type := 22, pos := "ref.go:113", after := #[{ on := 11, ground := Go.Ground.data }, { on := 11, ground := Go.Ground.chain }, { on := 0, ground := Go.Ground.phase }, { on := 1, ground := Go.Ground.phase }, { on := 2, ground := Go.Ground.phase }, { on := 3, ground := Go.Ground.phase }, { on := 4, ground := Go.Ground.phase }, { on := 5, ground := Go.Ground.phase }, { on := 6, ground := Go.Ground.phase }, { on := 7, ground := Go.Ground.phase }, { on := 8, ground := Go.Ground.phase }, { on := 9, ground := Go.Ground.phase }, { on := 10, ground := Go.Ground.phase }, { on := 11, ground := Go.Ground.phase }], guard := none }) (v := ?_) rfl (by kernel_rfl) (by kernel_rfl) (by kernel_rfl) (fun _ _ _ h => h) (Or.inl ⟨by rfl, ?_⟩) (by assumption) ?_
                  rotate_left
                  · (intro w hSw; (try dsimp only at hSw); go_simp; try with_reducible rfl)
                  try simp only [Act.put, List.setIfInBounds_toArray, List.set_cons_zero, List.set_cons_succ]
                  refine wpAnyH_take (i := 13) (oi := { dst := some 5, op := Go.Op.assign (Go.Operand.const (Go.Value.int Go.IntKind.i64 0)), type := 26, pos := "ref.go:113", after := #[{ on := 12, ground := Go.Ground.chain }, { on := 0, ground := Go.Ground.phase }, { on := 1, ground := Go.Ground.phase }, { on := 2, ground := Go.Ground.phase }, { on := 3, ground := Go.Ground.phase }, { on := 4, ground := Go.Ground.phase }, { on := 5, ground := Go.Ground.phase }, { on := 6, ground := Go.Ground.phase }, { on := 7, ground := Go.Ground.phase }, { on := 8, ground := Go.Ground.phase }, { on := 9, ground := Go.Ground.phase }, { on := 10, ground := Go.Ground.phase }, { on := 11, ground := Go.Ground.phase }, { on := 12, ground := Go.Ground.phase }], guard := none }) (v := ?_) rfl (by kernel_rfl) (by kernel_rfl) (by kernel_rfl) (fun _ _ _ h => h) (Or.inl ⟨by rfl, ?_⟩) (by assumption) ?_
                  rotate_left
                  · (intro w hSw; (try dsimp only at hSw); go_simp; try with_reducible rfl)
                  try simp only [Act.put, List.setIfInBounds_toArray, List.set_cons_zero, List.set_cons_succ]
                  refine wpAnyH_done (by kernel_rfl) ?_ _
                  refine NoPanic.normal ?_
                  go_wp2
                  go_ret2
                  exact HFIN.out _ _ _ _ HKE.out O9 B9.out
              · skip
                go_simp
                have RL := rs_new wd r HIN.out
                have BL := Lib.hid (BD.out.alloc BD.out.size (.cells #[.string (txt r.name), .int .i64 r.page, .int .i64 r.count] 34))
                have SL := KR.out _ BL.out
                have sL : wd.heap.size < (wd.alloc (.cells #[.string (txt r.name), .int .i64 r.page, .int .i64 r.count] 34)).heap.size := by simp
                generalize wd.alloc (.cells #[.string (txt r.name), .int .i64 r.page, .int .i64 r.count] 34) = wL at *
                refine hK.out _ _ (by exact SL) (fun hHeld => ?_)
                clear hK K
                try simp only [Act.put, List.setIfInBounds_toArray, List.set_cons_zero, List.set_cons_succ]
                refine wpAnyH_ready (rs := [0]) (by kernel_rfl) (by simp) ?_
                refine AllReadyH.cons (o := { dst := some 36, op := Go.Op.buildSlice 22 0 #[], type := 22, pos := "ref.go:113", after := #[], guard := none }) rfl (fun K hK => ?_) AllReadyH.nil
                go_simp
                have OA := own_empty wL w2.heap.size BL.out.size
                have BA := Lib.hid (BL.out.alloc BL.out.size (.cells #[] 34))
                have SA := KR.out _ BA.out
                have RN := RL.alloc (.cells #[] 34)
                generalize wL.alloc (.cells #[] 34) = wA at *
                refine hK.out _ _ (by exact SA) (fun hHeld => ?_)
                clear hK K
                try simp only [Act.put, List.setIfInBounds_toArray, List.set_cons_zero, List.set_cons_succ]
                refine wpAnyH_ready (rs := [4]) (by kernel_rfl) (by simp) ?_
                refine AllReadyH.cons (o := { dst := some 40, op := Go.Op.call { callee := Go.Callee.builtin Go.Builtin.append, args := #[Go.Operand.tmp 36, Go.Operand.tmp 39], argTypes := #[22, 22] }, type := 22, pos := "ref.go:113", after := #[{ on := 0, ground := Go.Ground.data }, { on := 3, ground := Go.Ground.data }], guard := none }) rfl (fun K hK => ?_) AllReadyH.nil
                refine step_append_run rfl (.tmp 36) (.tmp 39) 22 22 rfl _ _ (by rfl) (by rfl) _ (run_append_rs wA w2.heap.size _ _ [] OA _ _ _ _ (HT.out _ BA.out) (by first | (simp; done) | (simp; omega)) BA.out.size) ?_
                rintro v4 w4 ⟨O4, G4⟩
                rw [List.nil_append] at O4
                have B4 := Lib.hid (below_own BA.out OA G4 BA.out.size (Nat.le_refl _))
                have S4 := KR.out _ B4.out
                refine hK.out _ _ (by exact S4) (fun hHeld => ?_)
                clear hK K
                try simp only [Act.put, List.setIfInBounds_toArray, List.set_cons_zero, List.set_cons_succ]
                have RM := RN.grown G4 (fun a ha hh => by injection ha with ha; subst ha; injection hh with hh; simp at hh sL; omega)
                refine wpAnyH_ready (rs := [7]) (by kernel_rfl) (by simp) ?_
                refine AllReadyH.cons (o := { dst := some 43, op := Go.Op.call { callee := Go.Callee.builtin Go.Builtin.append, args := #[Go.Operand.tmp 40, Go.Operand.tmp 42], argTypes := #[22, 22] }, type := 22, pos := "ref.go:113", after := #[{ on := 4, ground := Go.Ground.data }, { on := 6, ground := Go.Ground.data }, { on := 4, ground := Go.Ground.chain }], guard := none }) rfl (fun K hK => ?_) AllReadyH.nil
                refine step_append_run rfl (.tmp 40) (.tmp 42) 22 22 rfl _ _ (by rfl) (by rfl) _ (run_append_rs w4 w2.heap.size _ v4 _ O4 _ 1 1 [r] RM (by first | (simp; done) | (simp; omega)) B4.out.size) ?_
                rintro v7 w7 ⟨O7, G7⟩
                have B7 := Lib.hid (below_own B4.out O4 G7 B4.out.size (Nat.le_refl _))
                have S7 := KR.out _ B7.out
                refine hK.out _ _ (by exact S7) (fun hHeld => ?_)
                clear hK K
                try simp only [Act.put, List.setIfInBounds_toArray, List.set_cons_zero, List.set_cons_succ]
                refine wpAnyH_ready (rs := [11]) (by kernel_rfl) (by simp) ?_
                refine AllReadyH.cons (o := { dst := some 47, op := Go.Op.call { callee := Go.Callee.builtin Go.Builtin.append, args := #[Go.Operand.tmp 43, Go.Operand.tmp 46], argTypes := #[22, 22] }, type := 22, pos := "ref.go:113", after := #[{ on := 7, ground := Go.Ground.data }, { on := 10, ground := Go.Ground.data }, { on := 7, ground := Go.Ground.chain }], guard := none }) rfl (fun K hK => ?_) AllReadyH.nil
                refine step_append_run rfl (.tmp 43) (.tmp 46) 22 22 rfl _ _ (by rfl) (by rfl) _ (run_append_rs w7 w2.heap.size _ v7 _ O7 _ _ _ _ (HD.out _ B7.out) (by first | (simp; done) | (simp; omega)) B7.out.size) ?_
                rintro v9 w9 ⟨O9, G9⟩
                have B9 := Lib.hid (below_own B7.out O7 G9 B7.out.size (Nat.le_refl _))
                have S9 := KR.out _ B9.out
                refine hK.out _ _ (by exact S9) (fun hHeld => ?_)
                clear hK K
                try simp only [Act.put, List.setIfInBounds_toArray, List.set_cons_zero, List.set_cons_succ]
                refine wpAnyH_take (i := 12) (oi := { dst := some 4, op := Go.Op.assign (Go.Operand.tmp 47), type := 22, pos := "ref.go:113", after := #[{ on := 11, ground := Go.Ground.data }, { on := 11, ground := Go.Ground.chain }, { on := 0, ground := Go.Ground.phase }, { on := 1, ground := Go.Ground.phase }, { on := 2, ground := Go.Ground.phase }, { on := 3, ground := Go.Ground.phase }, { on := 4, ground := Go.Ground.phase }, { on := 5, ground := Go.Ground.phase }, { on := 6, ground := Go.Ground.phase }, { on := 7, ground := Go.Ground.phase }, { on := 8, ground := Go.Ground.phase }, { on := 9, ground := Go.Ground.phase }, { on := 10, ground := Go.Ground.phase }, { on := 11, ground := Go.Ground.phase }], guard := none }) (v := ?_) rfl (by kernel_rfl) (by kernel_rfl) (by kernel_rfl) (fun _ _ _ h => h) (Or.inl ⟨by rfl, ?_⟩) (by assumption) ?_
                rotate_left
                · (intro w hSw; (try dsimp only at hSw); go_simp; try with_reducible rfl)
                try simp only [Act.put, List.setIfInBounds_toArray, List.set_cons_zero, List.set_cons_succ]
                refine wpAnyH_take (i := 13) (oi := { dst := some 5, op := Go.Op.assign (Go.Operand.const (Go.Value.int Go.IntKind.i64 0)), type := 26, pos := "ref.go:113", after := #[{ on := 12, ground := Go.Ground.chain }, { on := 0, ground := Go.Ground.phase }, { on := 1, ground := Go.Ground.phase }, { on := 2, ground := Go.Ground.phase }, { on := 3, ground := Go.Ground.phase }, { on := 4, ground := Go.Ground.phase }, { on := 5, ground := Go.Ground.phase }, { on := 6, ground := Go.Ground.phase }, { on := 7, ground := Go.Ground.phase }, { on := 8, ground := Go.Ground.phase }, { on := 9, ground := Go.Ground.phase }, { on := 10, ground := Go.Ground.phase }, { on := 11, ground := Go.Ground.phase }, { on := 12, ground := Go.Ground.phase }], guard := none }) (v := ?_) rfl (by kernel_rfl) (by kernel_rfl) (by kernel_rfl) (fun _ _ _ h => h) (Or.inl ⟨by rfl, ?_⟩) (by assumption) ?_
                rotate_left
                · (intro w hSw; (try dsimp only at hSw); go_simp; try with_reducible rfl)
                try simp only [Act.put, List.setIfInBounds_toArray, List.set_cons_zero, List.set_cons_succ]
                refine wpAnyH_done (by kernel_rfl) ?_ _
                refine NoPanic.normal ?_
                go_wp2
                go_ret2
                exact HFIN.out _ _ _ _ HKE.out O9 B9.out
  · rw [decide_eq_false hone]
    have HC : Hid (withCode L r = 1) := if_neg hone
    go_wp2_with fail
    go_ret2
    exact with_no (k := 1) HC.out (by decide) HB1.out

end Go.Proofs.Ytbhahihgojhcmaa.Rt
