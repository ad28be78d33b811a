/-
  allZero; the program's FromPay. Laid by gen_rtfrom.py SEAT.
-/
import Derived.Test.YtbhahihgojhcmaaRtRead
import Derived.Test.YtbhahihgojhcmaaRtAwake
namespace Go.Proofs.Ytbhahihgojhcmaa.Rt
open Go.RowKit
set_option linter.unusedVariables false

set_option maxRecDepth 100000 in
theorem allZero_any (w : World) (A : Option Addr) (n c : Nat) (l : List Nat) (hb : Bs w A n c l) :
    Calls Try.prog 24 #[.slice A n c] w fun e w' => e = .returned (.bool (decide (∀ x ∈ l, x = 0))) ∧ w = w' := by
  obtain ⟨h1, h2, h3, h4, h5⟩ := hb
  unfold maxLen at h3
  have H1 := Lib.hid h1
  have H4 := Lib.hid h4
  have H5 := Lib.hid h5
  clear h1 h4 h5
  generalize hD : decide (∀ x ∈ l, x = 0) = D
  have HD := Lib.hid hD
  clear hD
  go_enter Try.func24, Try.ntmps24
  go_wp2
  go_loop [4, 7] (fun _ i => ∃ k : Nat, k ≤ n ∧ i = .int .i64 k ∧ Hid (∀ x ∈ l.take k, x = 0)) (fun _ i => n - (intOf i).toNat)
  case atStart => exact ⟨0, Nat.zero_le _, rfl, by show ∀ x ∈ l.take 0, _; simp⟩
  case round =>
    obtain ⟨k, hk, rfl, HT⟩ := hrel
    by_cases hlt : k < n
    · obtain ⟨b, off, rfl, hbl, hcell⟩ := H5.out (by omega)
      obtain ⟨x, hx⟩ : ∃ x, l[k]? = some x := ⟨_, List.getElem?_eq_getElem (by rw [H1.out]; omega)⟩
      have hx256 := H4.out x (List.mem_of_getElem? hx)
      have hcx := hcell k x hx
      have HX := Lib.hid hx
      clear hx hcell
      by_cases h0 : x = 0
      · subst h0
        have H2 : Hid (∀ x ∈ l.take (k + 1), x = 0) := fun y hy => by
          rw [List.take_add_one, HX.out] at hy
          rcases List.mem_append.1 hy with h | h
          · exact HT.out y h
          · simpa using h
        go_wp2
        go_round
        case rel => exact ⟨k + 1, by omega, by go_num, H2⟩
        case measure => simp [intOf]; omega
      · have e : D = false := by
          rw [← HD.out]
          exact decide_eq_false fun h => h0 (h x (List.mem_of_getElem? HX.out))
        subst e
        have hxx : ((x : Int) != 0) = true := by rw [bne_iff_ne]; omega
        go_wp2
        go_ret
        exact ⟨rfl, rfl⟩
    · have e : D = true := by
        rw [← HD.out]
        refine decide_eq_true fun y hy => HT.out y ?_
        rw [List.take_of_length_le (by rw [H1.out]; omega)]; exact hy
      subst e
      go_wp2
      go_ret
      exact ⟨rfl, rfl⟩

/-- What FromPay answers. -/
def FromAns (b : List Nat) (z : Nat) (M : List Rm.R) : Prop := (z = 0 ∧ Rm.Says b M) ∨ (z = 5 ∧ M = [] ∧ ¬ ∃ L, Rm.Says b L)
theorem FromAns.one {b : List Nat} {z z' : Nat} {M M' : List Rm.R} (h : FromAns b z M) (h' : FromAns b z' M') : z = z' ∧ M = M' := by
  rcases h with ⟨h1, h2⟩ | ⟨h1, h2, h3⟩
  · rcases h' with ⟨g1, g2⟩ | ⟨g1, g2, g3⟩
    · exact ⟨h1.trans g1.symm, Rm.says_inj h2 g2⟩
    · exact absurd ⟨M, h2⟩ g3
  · rcases h' with ⟨g1, g2⟩ | ⟨g1, g2, g3⟩
    · exact absurd ⟨M', g2⟩ h3
    · exact ⟨h1.trans g1.symm, h2.trans g2.symm⟩
def FromSays (w : World) (b : List Nat) (e : Ending) (w' : World) : Prop :=
  ∃ (A : Option Addr) (m c z : Nat) (M : List Rm.R), e = .returned (.tuple #[.slice A m c, .int .i64 (z : Int)]) ∧ Below w.heap.size w w' ∧ FromAns b z M ∧ Rs w' A m c M
theorem from_no {w w' : World} {b : List Nat} (h : ¬ ∃ L, Rm.Says b L) (hb : Below w.heap.size w w') : FromSays w b (.returned (.tuple #[.slice none 0 0, .int .i64 5])) w' :=
  ⟨none, 0, 0, 5, [], rfl, hb, .inr ⟨rfl, rfl, h⟩, Rs.nil_ _ _ _ (Nat.zero_le _)⟩
theorem read_one {k : Nat} {b : List Nat} {L M : List Rm.R} {t u : List Nat} (h : Rm.Read k b L t) (g : Rm.Read k b M u) : L = M ∧ t = u := by
  obtain ⟨L2, h1, h2⟩ := Rm.encs_split L M t u h.in32 g.in32 (by rw [← h.eq, ← g.eq]) (by rw [h.len, g.len]; exact Nat.le_refl _)
  have h3 : L2 = [] := List.eq_nil_of_length_eq_zero (by have a := g.len; have c := h.len; rw [h1, List.length_append] at a; omega)
  subst h3
  exact ⟨by rw [h1, List.append_nil], by rw [h2]; rfl⟩
theorem says_toRead {b : List Nat} {L : List Rm.R} {k : Nat} (h : Rm.Says b L) (hk : b[4]? = some k) : k ≤ 12 ∧ Rm.Read k (b.drop 5) L (List.replicate (1016 - (Rm.pay L).length) 0) := by
  obtain ⟨_, _, h3, h4, h5⟩ := Rm.says_read h
  rw [hk] at h4
  injection h4 with h4
  subst h4
  exact ⟨h5, rfl, h3, fun r hr => (Rm.may_one h.1 r hr).1.1.2, fun r hr => (Rm.may_one h.1 r hr).in32⟩
theorem croo_txt : txt [67, 82, 79, 79] = ⟨#[67, 82, 79, 79]⟩ := rfl

set_option maxRecDepth 100000 in
set_option maxHeartbeats 1000000 in
theorem from_any (w : World) (A : Option Addr) (n c : Nat) (b : List Nat) (h : Bs w A n c b) :
    Calls Try.prog 9 #[.slice A n c] w fun e w' => FromSays w b e w' := by
  by_cases hn : n = 1016
  · subst hn
    obtain ⟨bb, off, rfl⟩ := h.some_ (by omega)
    obtain ⟨b', off', e0, hbb, hcell⟩ := h.2.2.2.2 (by omega)
    injection e0 with e0
    injection e0 with e1 e2
    subst e1 e2
    obtain ⟨k, hk⟩ : ∃ k, b[4]? = some k := ⟨_, List.getElem?_eq_getElem (by rw [h.1]; omega)⟩
    have hk8 := h.2.2.2.1 k (List.mem_of_getElem? hk)
    have d4 := hcell 4 k hk
    have hcm := h.2.2.1
    have hnc := h.2.1
    unfold maxLen at hcm
    have wk : IntKind.i64.wrap (k : Int) = (k : Int) := by rw [IntKind.wrap_i64]; omega
    have h4 := h.first 4 (by omega)
    have hct := h4.text (P := Try.prog) 23 9 5 Try.underlying23 Try.underlying5 Try.underlying9
    have hlt4 : ∀ x ∈ b.take 4, x < 256 := h4.2.2.2.1
    have hneq : (!((txt (b.take 4)).toList == [67, 82, 79, 79])) = !decide (b.take 4 = [67, 82, 79, 79]) := by
      rw [← txt_eq hlt4 (by simp), croo_txt]; simp
    have H := Lib.hid h
    have HK := Lib.hid hk
    have hc5 : ¬ c = 5 := by omega
    clear h hcell hk h4 hlt4
    by_cases hmk : b.take 4 = [67, 82, 79, 79]
    · rw [decide_eq_true hmk] at hneq
      have HMK := Lib.hid hmk
      have C6 := Lib.hid (read_any w.drew k hk8 (some ⟨bb, off + 5, none⟩) (c - 5) (b.drop 5) (H.out.drew.cut_far 5 (by omega)))
      simp only [Bool.not_true] at hneq
      clear hmk
      go_enter Try.func9, Try.ntmps9
      go_wp2_with fail
      refine wp_region_noPanic ?_
      refine wp_region_held_drew (S := (fun w' : World => w'.cell? ⟨bb, off + 4, none⟩ = some (.int .u8 (k : Int)))) (by kernel_rfl) (by exact d4) (fun hHeld => ?_)
      refine wpAnyH_take (i := 0) (oi := { dst := some 17, op := Go.Op.move (Go.Operand.tmp 0), type := 23, pos := "roots.go:56", after := #[], guard := none }) (v := ?_) rfl (by kernel_rfl) (by kernel_rfl) (by kernel_rfl) (fun _ _ _ h => h) (Or.inl ⟨by rfl, ?_⟩) (by assumption) ?_
      rotate_left
      · (intro w hSw; (try dsimp only at hSw); go_simp; try with_reducible rfl)
      try simp only [Act.put, List.setIfInBounds_toArray, List.set_cons_zero, List.set_cons_succ]
      refine wpAnyH_take (i := 1) (oi := { dst := some 18, op := Go.Op.indexAddr 23 (Go.Operand.tmp 17) (Go.Operand.const (Go.Value.int Go.IntKind.i64 4)), type := 0, pos := "roots.go:56", after := #[{ on := 0, ground := Go.Ground.data }], guard := none }) (v := ?_) rfl (by kernel_rfl) (by kernel_rfl) (by kernel_rfl) (fun _ _ _ h => h) (Or.inl ⟨by rfl, ?_⟩) (by assumption) ?_
      rotate_left
      · (intro w hSw; (try dsimp only at hSw); go_simp; try with_reducible rfl)
      try simp only [Act.put, List.setIfInBounds_toArray, List.set_cons_zero, List.set_cons_succ]
      refine wpAnyH_take (i := 2) (oi := { dst := some 19, op := Go.Op.load 5 (Go.Operand.tmp 18), type := 5, pos := "roots.go:56", after := #[{ on := 1, ground := Go.Ground.data }], guard := none }) (v := ?_) rfl (by kernel_rfl) (by kernel_rfl) (by kernel_rfl) (fun _ _ _ h => h) (Or.inl ⟨by rfl, ?_⟩) (by assumption) ?_
      rotate_left
      · (intro w hSw; (try dsimp only at hSw); go_simp; try with_reducible rfl)
      try simp only [Act.put, List.setIfInBounds_toArray, List.set_cons_zero, List.set_cons_succ]
      refine wpAnyH_take (i := 3) (oi := { dst := some 20, op := Go.Op.convert 5 3 (Go.Operand.tmp 19), type := 3, pos := "roots.go:56", after := #[{ on := 2, ground := Go.Ground.data }], guard := none }) (v := ?_) rfl (by kernel_rfl) (by kernel_rfl) (by kernel_rfl) (fun _ _ _ h => h) (Or.inl ⟨by rfl, ?_⟩) (by assumption) ?_
      rotate_left
      · (intro w hSw; (try dsimp only at hSw); go_simp; try with_reducible rfl)
      try simp only [Act.put, List.setIfInBounds_toArray, List.set_cons_zero, List.set_cons_succ]
      refine wpAnyH_take (i := 4) (oi := { dst := some 21, op := Go.Op.move (Go.Operand.tmp 0), type := 23, pos := "roots.go:56", after := #[], guard := none }) (v := ?_) rfl (by kernel_rfl) (by kernel_rfl) (by kernel_rfl) (fun _ _ _ h => h) (Or.inl ⟨by rfl, ?_⟩) (by assumption) ?_
      rotate_left
      · (intro w hSw; (try dsimp only at hSw); go_simp; try with_reducible rfl)
      try simp only [Act.put, List.setIfInBounds_toArray, List.set_cons_zero, List.set_cons_succ]
      refine wpAnyH_take (i := 5) (oi := { dst := some 22, op := Go.Op.slice 23 (Go.Operand.tmp 21) (some (Go.Operand.const (Go.Value.int Go.IntKind.i64 5))) none none, type := 23, pos := "roots.go:56", after := #[{ on := 4, ground := Go.Ground.data }], guard := none }) (v := ?_) rfl (by kernel_rfl) (by kernel_rfl) (by kernel_rfl) (fun _ _ _ h => h) (Or.inl ⟨by rfl, ?_⟩) (by assumption) ?_
      rotate_left
      · (intro w hSw; (try dsimp only at hSw); go_simp; try with_reducible rfl)
      try simp only [Act.put, List.setIfInBounds_toArray, List.set_cons_zero, List.set_cons_succ]
      refine wpAnyH_ready (rs := [6]) (by kernel_rfl) (by simp) ?_
      refine AllReadyH.cons (o := { dst := some 23, op := Go.Op.call { callee := Go.Callee.value (Go.Operand.func 23), args := #[Go.Operand.tmp 20, Go.Operand.tmp 22], argTypes := #[3, 23] }, type := 43, pos := "roots.go:56", after := #[{ on := 3, ground := Go.Ground.data }, { on := 5, ground := Go.Ground.data }], guard := none }) rfl (fun K hK => ?_) AllReadyH.nil
      go_simp
      refine C6.out.mono ?_
      rintro e w6 ⟨A1, m1, c1, A2, m2, c2, ok, rfl, b6, hr⟩
      have B6 := Lib.hid (Below.trans (Below.refl w.heap.size w).drew b6)
      have HR := Lib.hid hr
      clear b6 hr
      refine hK.out _ _ (by exact ((B6.out.cell (p := ⟨bb, off + 4, none⟩) hbb).trans d4)) (fun hHeld => ?_)
      clear hK K
      try simp only [Act.put, List.setIfInBounds_toArray, List.set_cons_zero, List.set_cons_succ]
      refine wpAnyH_take (i := 7) (oi := { dst := some 16, op := Go.Op.move (Go.Operand.tmp 23), type := 43, pos := "roots.go:56", after := #[{ on := 6, ground := Go.Ground.data }], guard := none }) (v := ?_) rfl (by kernel_rfl) (by kernel_rfl) (by kernel_rfl) (fun _ _ _ h => h) (Or.inl ⟨by rfl, ?_⟩) (by assumption) ?_
      rotate_left
      · (intro w hSw; (try dsimp only at hSw); go_simp; try with_reducible rfl)
      try simp only [Act.put, List.setIfInBounds_toArray, List.set_cons_zero, List.set_cons_succ]
      refine wpAnyH_take (i := 8) (oi := { dst := some 24, op := Go.Op.extract (Go.Operand.tmp 16) 0, type := 22, pos := "roots.go:56", after := #[{ on := 7, ground := Go.Ground.data }], guard := none }) (v := ?_) rfl (by kernel_rfl) (by kernel_rfl) (by kernel_rfl) (fun _ _ _ h => h) (Or.inl ⟨by rfl, ?_⟩) (by assumption) ?_
      rotate_left
      · (intro w hSw; (try dsimp only at hSw); go_simp; try with_reducible rfl)
      try simp only [Act.put, List.setIfInBounds_toArray, List.set_cons_zero, List.set_cons_succ]
      refine wpAnyH_take (i := 9) (oi := { dst := some 25, op := Go.Op.extract (Go.Operand.tmp 16) 1, type := 23, pos := "roots.go:56", after := #[{ on := 7, ground := Go.Ground.data }, { on := 11, ground := Go.Ground.gcOnly Go.Departure.lateStores }], guard := none }) (v := ?_) rfl (by kernel_rfl) (by kernel_rfl) (by kernel_rfl) (fun _ _ _ h => h) (Or.inl ⟨by rfl, ?_⟩) (by assumption) ?_
      rotate_left
      · (intro w hSw; (try dsimp only at hSw); go_simp; try with_reducible rfl)
      try simp only [Act.put, List.setIfInBounds_toArray, List.set_cons_zero, List.set_cons_succ]
      refine wpAnyH_take (i := 10) (oi := { dst := some 26, op := Go.Op.extract (Go.Operand.tmp 16) 2, type := 4, pos := "roots.go:56", after := #[{ on := 7, ground := Go.Ground.data }, { on := 12, ground := Go.Ground.gcOnly Go.Departure.lateStores }], guard := none }) (v := ?_) rfl (by kernel_rfl) (by kernel_rfl) (by kernel_rfl) (fun _ _ _ h => h) (Or.inl ⟨by rfl, ?_⟩) (by assumption) ?_
      rotate_left
      · (intro w hSw; (try dsimp only at hSw); go_simp; try with_reducible rfl)
      try simp only [Act.put, List.setIfInBounds_toArray, List.set_cons_zero, List.set_cons_succ]
      refine wpAnyH_take (i := 11) (oi := { dst := some 4, op := Go.Op.assign (Go.Operand.tmp 24), type := 22, pos := "roots.go:56", after := #[{ on := 8, ground := Go.Ground.data }, { on := 6, ground := Go.Ground.chain }, { on := 0, ground := Go.Ground.phase }, { on := 1, ground := Go.Ground.phase }, { on := 2, ground := Go.Ground.phase }, { on := 3, ground := Go.Ground.phase }, { on := 4, ground := Go.Ground.phase }, { on := 5, ground := Go.Ground.phase }, { on := 6, ground := Go.Ground.phase }, { on := 7, ground := Go.Ground.phase }, { on := 8, ground := Go.Ground.phase }, { on := 9, ground := Go.Ground.textOnly Go.Departure.lateStores }, { on := 10, ground := Go.Ground.textOnly Go.Departure.lateStores }], guard := none }) (v := ?_) rfl (by kernel_rfl) (by kernel_rfl) (by kernel_rfl) (fun _ _ _ h => h) (Or.inl ⟨by rfl, ?_⟩) (by assumption) ?_
      rotate_left
      · (intro w hSw; (try dsimp only at hSw); go_simp; try with_reducible rfl)
      try simp only [Act.put, List.setIfInBounds_toArray, List.set_cons_zero, List.set_cons_succ]
      refine wpAnyH_take (i := 12) (oi := { dst := some 5, op := Go.Op.assign (Go.Operand.tmp 25), type := 23, pos := "roots.go:56", after := #[{ on := 9, ground := Go.Ground.data }, { on := 11, ground := Go.Ground.chain }, { on := 0, ground := Go.Ground.phase }, { on := 1, ground := Go.Ground.phase }, { on := 2, ground := Go.Ground.phase }, { on := 3, ground := Go.Ground.phase }, { on := 4, ground := Go.Ground.phase }, { on := 5, ground := Go.Ground.phase }, { on := 6, ground := Go.Ground.phase }, { on := 7, ground := Go.Ground.phase }, { on := 8, ground := Go.Ground.phase }, { on := 9, ground := Go.Ground.phase }, { on := 10, ground := Go.Ground.textOnly Go.Departure.lateStores }, { on := 11, ground := Go.Ground.phase }], guard := none }) (v := ?_) rfl (by kernel_rfl) (by kernel_rfl) (by kernel_rfl) (fun _ _ _ h => h) (Or.inl ⟨by rfl, ?_⟩) (by assumption) ?_
      rotate_left
      · (intro w hSw; (try dsimp only at hSw); go_simp; try with_reducible rfl)
      try simp only [Act.put, List.setIfInBounds_toArray, List.set_cons_zero, List.set_cons_succ]
      refine wpAnyH_take (i := 13) (oi := { dst := some 6, op := Go.Op.assign (Go.Operand.tmp 26), type := 4, pos := "roots.go:56", after := #[{ on := 10, ground := Go.Ground.data }, { on := 12, ground := Go.Ground.chain }, { on := 0, ground := Go.Ground.phase }, { on := 1, ground := Go.Ground.phase }, { on := 2, ground := Go.Ground.phase }, { on := 3, ground := Go.Ground.phase }, { on := 4, ground := Go.Ground.phase }, { on := 5, ground := Go.Ground.phase }, { on := 6, ground := Go.Ground.phase }, { on := 7, ground := Go.Ground.phase }, { on := 8, ground := Go.Ground.phase }, { on := 9, ground := Go.Ground.phase }, { on := 10, ground := Go.Ground.phase }, { on := 11, ground := Go.Ground.phase }, { on := 12, ground := Go.Ground.phase }], guard := none }) (v := ?_) rfl (by kernel_rfl) (by kernel_rfl) (by kernel_rfl) (fun _ _ _ h => h) (Or.inl ⟨by rfl, ?_⟩) (by assumption) ?_
      rotate_left
      · (intro w hSw; (try dsimp only at hSw); go_simp; try with_reducible rfl)
      try simp only [Act.put, List.setIfInBounds_toArray, List.set_cons_zero, List.set_cons_succ]
      refine wpAnyH_done (by kernel_rfl) ?_ _
      refine NoPanic.normal ?_
      rcases HR.out with ⟨rfl, hno⟩ | ⟨rfl, hk12, L, t, hRd, hL, ht⟩
      · have HN : Hid (¬ ∃ L, Rm.Says b L) := fun ⟨L, hL⟩ => by
          obtain ⟨g1, g2⟩ := says_toRead hL HK.out
          rcases hno with h1 | h1
          · omega
          · exact h1 ⟨_, _, g2⟩
        clear hno HR C6
        go_wp2
        go_ret2
        exact from_no HN.out B6.out
      · have HRD := Lib.hid hRd
        have HL := Lib.hid hL
        have HT := Lib.hid ht
        have C7 := Lib.hid (may_any w6 A1 m1 c1 L hL)
        clear hRd hL ht HR C6
        cases hmay : Rm.may L with
        | false =>
          rw [hmay] at C7
          have HN : Hid (¬ ∃ L, Rm.Says b L) := fun ⟨M, hM⟩ => by
            obtain ⟨g1, g2⟩ := says_toRead hM HK.out
            obtain ⟨rfl, _⟩ := read_one HRD.out g2
            rw [hM.1] at hmay; cases hmay
          clear hmay
          go_wp2_with fail
          refine C7.out.mono ?_
          rintro e w7 ⟨rfl, b7⟩
          have B7 := Lib.hid (onto B6.out b7)
          clear b7 C7
          go_wp2
          go_ret2
          exact from_no HN.out B7.out
        | true =>
          rw [hmay] at C7
          have HMAY := Lib.hid hmay
          clear hmay
          go_wp2_with fail
          refine C7.out.mono ?_
          rintro e w7 ⟨rfl, b7⟩
          have B7 := Lib.hid (onto B6.out b7)
          have HL7 := Lib.hid (HL.out.on b7)
          have C8 := Lib.hid (allZero_any w7 A2 m2 c2 t (HT.out.on b7))
          clear b7 C7 HL HT
          by_cases hz : ∀ x ∈ t, x = 0
          · rw [decide_eq_true hz] at C8
            have HS : Hid (Rm.Says b L) := Rm.says_of H.out.1 HMK.out (by rw [HRD.out.len]; exact HK.out) (by rw [HRD.out.len]; exact HRD.out) HMAY.out hz
            clear hz
            go_wp2_with fail
            refine C8.out.mono ?_
            rintro e w8 ⟨rfl, rfl⟩
            go_wp2
            go_ret2
            exact ⟨A1, m1, c1, 0, L, rfl, B7.out, .inl ⟨rfl, HS.out⟩, HL7.out⟩
          · rw [decide_eq_false hz] at C8
            have HN : Hid (¬ ∃ L, Rm.Says b L) := fun ⟨M, hM⟩ => by
              obtain ⟨g1, g2⟩ := says_toRead hM HK.out
              obtain ⟨_, h2⟩ := read_one HRD.out g2
              exact hz fun x hx => by rw [h2] at hx; exact (List.mem_replicate.1 hx).2
            clear hz
            go_wp2_with fail
            refine C8.out.mono ?_
            rintro e w8 ⟨rfl, rfl⟩
            go_wp2
            go_ret2
            exact from_no HN.out B7.out
    · rw [decide_eq_false hmk] at hneq
      have HN : Hid (¬ ∃ L, Rm.Says b L) := fun ⟨L, hL⟩ => hmk (Rm.says_read hL).2.1
      simp only [Bool.not_false] at hneq
      clear hmk
      go_enter Try.func9, Try.ntmps9
      go_wp2
      go_ret2
      exact from_no HN.out (Below.refl _ _)
  · refine (from_short w A n c hn).mono ?_
    rintro e w' ⟨rfl, rfl⟩
    exact from_no (fun ⟨L, hL⟩ => hn (h.1.symm.trans (Rm.says_read hL).1)) (Below.refl _ _)

end Go.Proofs.Ytbhahihgojhcmaa.Rt
