/-
  The document's FromPay. Laid by gen_rtrffrom.py SEAT.
-/
import Derived.Test.YtbhahihgojhcmaaRtFrom
import Derived.Test.YtbhahihgojhcmaaRtRfPay
import Derived.Test.YtbhahihgojhcmaaMtNum
import Derived.Test.YtbhahihgojhcmaaSame
namespace Go.Proofs.Ytbhahihgojhcmaa.Rt
open Go.RowKit
set_option linter.unusedVariables false

/-- Some roots were read, up to the place p. -/
structure Walked (j : Nat) (b : List Nat) (L : List Rm.R) (p : Nat) : Prop where
  len : L.length = j
  eq : b.drop 5 = Rm.encs L ++ b.drop p
  at_ : p = 5 + (Rm.encs L).length
  in32 : ∀ r ∈ L, Rm.In32 r
theorem walked_next {j p x : Nat} {b : List Nat} {L : List Rm.R} (h : Walked j b L p) (hx : (b.drop p)[0]? = some x) (hl : p + 9 + x ≤ b.length) (hb : ∀ y ∈ b, y < 256) : Walked (j + 1) b (L ++ [rootAt (b.drop p) x]) (p + 9 + x) := by
  have hbd : ∀ y ∈ b.drop p, y < 256 := fun y hy => hb y (List.mem_of_mem_drop hy)
  have he := enc_rootAt hx (by rw [List.length_drop]; omega) hbd
  rw [List.drop_drop, show p + (9 + x) = p + 9 + x by omega] at he
  refine ⟨by simp [h.len], ?_, ?_, ?_⟩
  · rw [Rm.encs_app, Rm.encs_one, List.append_assoc, ← he]; exact h.eq
  · rw [Rm.encs_app, Rm.encs_one, List.length_append, Rm.enc_len, ← Nat.add_assoc, ← h.at_]
    have hn : (rootAt (b.drop p) x).name.length = x := by
      show (((b.drop p).drop 1).take x).length = x
      rw [List.length_take, List.length_drop, List.length_drop]; omega
    rw [hn]; omega
  · intro r hr
    rcases List.mem_append.1 hr with h1 | h1
    · exact h.in32 r h1
    · simp at h1; subst h1
      have p1 := from4_lt hbd (1 + x)
      have q1 := from4_lt hbd (5 + x)
      unfold Rm.In32 rootAt
      simp only
      omega
theorem walked_says {j p k : Nat} {b : List Nat} {L M : List Rm.R} (h : Walked j b L p) (hM : Rm.Says b M) (hk : b[4]? = some k) (hj : j ≤ k) :
    k ≤ 12 ∧ M.length = k ∧ ∃ L2, M = L ++ L2 ∧ b.drop p = Rm.encs L2 ++ List.replicate (1016 - (Rm.pay M).length) 0 := by
  obtain ⟨h1, h2⟩ := says_toRead hM hk
  exact ⟨h1, h2.len, Rm.encs_split L M _ _ h.in32 h2.in32 (by rw [← h.eq, ← h2.eq]) (by rw [h.len, h2.len]; exact hj)⟩
/-- Where it goes on, the next root lies whole. -/
theorem walked_fits {j p k x : Nat} {b : List Nat} {L M : List Rm.R} (h : Walked j b L p) (hM : Rm.Says b M) (hk : b[4]? = some k) (hj : j < k) (hx : (b.drop p)[0]? = some x) : p + 9 + x ≤ 1016 := by
  obtain ⟨h1, h2, L2, h3, h4⟩ := walked_says h hM hk (by omega)
  cases L2 with
  | nil => rw [List.append_nil] at h3; have a := h.len; rw [h3] at h2; omega
  | cons s u =>
    rw [h4] at hx
    have hx' : s.name.length = x := by
      have : (Rm.encs (s :: u) ++ List.replicate (1016 - (Rm.pay M).length) 0)[0]? = some s.name.length := rfl
      rw [this] at hx; injection hx
    have hl : (b.drop p).length = ((Rm.encs (s :: u)) ++ List.replicate (1016 - (Rm.pay M).length) 0).length := by rw [h4]
    rw [Rm.encs_cons, List.length_append, List.length_append, Rm.enc_len, List.length_drop, (Rm.says_read hM).1] at hl
    omega
theorem walked_before {j p k : Nat} {b : List Nat} {L M : List Rm.R} (h : Walked j b L p) (hM : Rm.Says b M) (hk : b[4]? = some k) (hj : j ≤ k) : p < 1016 := by
  obtain ⟨h1, h2, L2, h3, h4⟩ := walked_says h hM hk hj
  have h5 := Rm.pay_le hM.1
  rw [Rm.pay_len, h3, Rm.encs_app, List.length_append] at h5
  have := h.at_
  omega
theorem walked_all {p k : Nat} {b : List Nat} {L M : List Rm.R} (h : Walked k b L p) (hM : Rm.Says b M) (hk : b[4]? = some k) : M = L := by
  obtain ⟨h1, h2, L2, h3, h4⟩ := walked_says h hM hk (Nat.le_refl _)
  have : L2 = [] := List.eq_nil_of_length_eq_zero (by have a := h.len; rw [h3, List.length_append] at h2; omega)
  subst this
  rw [h3, List.append_nil]
theorem in_rootAt' {l : List Nat} {x : Nat} (hb : ∀ y ∈ l, y < 256) (h8 : x < 256) : In (rootAt l x) := by
  refine ⟨fun y hy => hb y (List.mem_of_mem_drop (List.mem_of_mem_take hy)), ?_, ?_, ?_⟩
  · show ((l.drop 1).take x).length ≤ _
    rw [List.length_take]; omega
  · have p := from4_lt hb (1 + x)
    unfold I64 rootAt
    simp only
    omega
  · have q := from4_lt hb (5 + x)
    unfold I64 rootAt
    simp only
    omega
theorem pad4_take {l : List Nat} (h : 4 ≤ l.length) : pad4 l = l.take 4 := by
  unfold pad4
  rw [show 4 - l.length = 0 from by omega, List.replicate_zero, List.append_nil]
theorem bs_zero (w : World) : Bs (w.alloc (.cells #[.int .u8 0] 5)) (some ⟨w.heap.size, 0, none⟩) 1 1 [0] := bs_lit1 w 0 (by omega)

set_option maxRecDepth 100000 in
set_option maxHeartbeats 2000000 in
theorem rfFrom_any (w : World) (A : Option Addr) (n c : Nat) (b : List Nat) (h : Bs w A n c b) :
    Calls Try.prog 10 #[.slice A n c] w fun e w' => FromSays w b e w' := by
  have hcm := h.2.2.1
  have hnc := h.2.1
  unfold maxLen at hcm
  have H := Lib.hid h
  by_cases hn : n = 1016
  · subst hn
    obtain ⟨bb, off, rfl⟩ := h.some_ (by omega)
    obtain ⟨b', off', e0, hbb, hcell⟩ := h.2.2.2.2 (by omega)
    injection e0 with e0
    injection e0 with e1 e2
    subst e1 e2
    have hlen := h.1
    obtain ⟨k, hk⟩ : ∃ k, b[4]? = some k := ⟨_, List.getElem?_eq_getElem (by rw [h.1]; omega)⟩
    have hk8 := h.2.2.2.1 k (List.mem_of_getElem? hk)
    have d4 := hcell 4 k hk
    have wk : IntKind.i64.wrap (k : Int) = (k : Int) := by rw [IntKind.wrap_i64]; omega
    have HK := Lib.hid hk
    have HCELL := Lib.hid hcell
    have HLT := Lib.hid h.2.2.2.1
    clear h hcell hk
    go_enter Try.func10, Try.ntmps10
    go_wp2_with fail
    go_loopw [4, 5, 6] (fun out p i wr => ∃ (j q : Nat) (L : List Rm.R) (ov : Value), ov = out ∧ j ≤ k ∧ j ≤ 13 ∧ i = .int .i64 (j : Int) ∧ p = .int .i64 (q : Int) ∧ q < 1016 ∧ Hid (Own w wr ov L) ∧ Hid (Walked j b L q)) (fun _ _ i _ => k - (intOf i).toNat)
    case atStart => exact ⟨0, 5, [], _, rfl, Nat.zero_le _, by omega, rfl, rfl, by omega, ⟨own_none w _, Below.refl _ _, by simp⟩, ⟨rfl, rfl, rfl, by simp⟩⟩
    case round =>
      obtain ⟨j, q, L, ov, rfl, hj, hj13, rfl, rfl, hq, HO, HW⟩ := hrel
      have d4r := (HO.out.bel.cell (p := ⟨bb, off + 4, none⟩) hbb).trans d4
      by_cases hlt : j < k ∧ j < 13
      · obtain ⟨hlt1, hlt2⟩ := hlt
        have hltb : (j : Int) < (k : Int) := by omega
        have hltc : (j : Int) < 13 := by omega
        obtain ⟨x, hx⟩ : ∃ x, b[q]? = some x := ⟨_, List.getElem?_eq_getElem (by omega)⟩
        have hx8 := HLT.out x (List.mem_of_getElem? hx)
        have dq := (HO.out.bel.cell (p := ⟨bb, off + q, none⟩) hbb).trans (HCELL.out q x hx)
        have wx : IntKind.i64.wrap (x : Int) = (x : Int) := by rw [IntKind.wrap_i64]; omega
        have hxd : (b.drop q)[0]? = some x := by rw [List.getElem?_drop, Nat.add_zero]; exact hx
        have HXD := Lib.hid hxd
        obtain ⟨s9, hs9⟩ : ∃ s9, s9 = q + 9 := ⟨_, rfl⟩
        obtain ⟨e9, he9⟩ : ∃ e9, e9 = s9 + x := ⟨_, rfl⟩
        have q1 : (q : Int) + 9 = (s9 : Int) := by omega
        have q2 : IntKind.i64.wrap ((q : Int) + 9) = (s9 : Int) := by rw [IntKind.wrap_i64]; omega
        have q3 : IntKind.i64.wrap (s9 : Int) = (s9 : Int) := by rw [IntKind.wrap_i64]; omega
        have q4 : (s9 : Int) + (x : Int) = (e9 : Int) := by omega
        have q5 : IntKind.i64.wrap ((s9 : Int) + (x : Int)) = (e9 : Int) := by rw [IntKind.wrap_i64]; omega
        have q6 : IntKind.i64.wrap (e9 : Int) = (e9 : Int) := by rw [IntKind.wrap_i64]; omega
        have HS9 := Lib.hid hs9
        have HE9 := Lib.hid he9
        clear hx hxd hs9 he9
        by_cases hbig : 1016 < e9
        · have hbig' : (1016 : Int) < (e9 : Int) := by omega
          have HN : Hid (¬ ∃ M, Rm.Says b M) := fun ⟨M, hM⟩ => by
            have := walked_fits HW.out hM HK.out hlt1 HXD.out
            have := HS9.out
            have := HE9.out
            omega
          have HBEL := Lib.hid HO.out.bel
          go_wp2
          go_ret2
          exact from_no HN.out HBEL.out
        · have hbig' : ¬ (1016 : Int) < (e9 : Int) := by omega
          obtain ⟨a1, ha1⟩ : ∃ a1, a1 = q + 1 := ⟨_, rfl⟩
          obtain ⟨a2, ha2⟩ : ∃ a2, a2 = a1 + x := ⟨_, rfl⟩
          obtain ⟨b1, hb1⟩ : ∃ b1, b1 = q + 5 := ⟨_, rfl⟩
          obtain ⟨b2, hb2⟩ : ∃ b2, b2 = b1 + x := ⟨_, rfl⟩
          have hfit : q + 9 + x ≤ 1016 := by have := HS9.out; have := HE9.out; omega
          have r1 : (q : Int) + 1 = (a1 : Int) := by omega
          have r2 : IntKind.i64.wrap (a1 : Int) = (a1 : Int) := by rw [IntKind.wrap_i64]; omega
          have r3 : (a1 : Int) + (x : Int) = (a2 : Int) := by omega
          have r4 : IntKind.i64.wrap (a2 : Int) = (a2 : Int) := by rw [IntKind.wrap_i64]; omega
          have r5 : (q : Int) + 5 = (b1 : Int) := by omega
          have r6 : IntKind.i64.wrap (b1 : Int) = (b1 : Int) := by rw [IntKind.wrap_i64]; omega
          have r7 : (b1 : Int) + (x : Int) = (b2 : Int) := by omega
          have r8 : IntKind.i64.wrap (b2 : Int) = (b2 : Int) := by rw [IntKind.wrap_i64]; omega
          have k1 : ¬ c = a1 := by omega
          have k2 : ¬ c = a2 := by omega
          have k3 : ¬ c = b2 := by omega
          have i1 : (a1 : Int) ≤ (a2 : Int) := by omega
          have i2 : (a2 : Int) ≤ (c : Int) := by omega
          have i3 : (a2 : Int) ≤ 1016 := by omega
          have i4 : (b2 : Int) ≤ 1016 := by omega
          have RN := Lib.hid (fun (W : World) (hW : Below w.heap.size w W) => (H.out.on hW).sub (q + 1) x (by omega) (by omega))
          have RP := Lib.hid (fun (W : World) (hW : Below w.heap.size w W) => (H.out.on hW).cut_far (q + 1 + x) (by omega))
          have RQ := Lib.hid (fun (W : World) (hW : Below w.heap.size w W) => (H.out.on hW).cut_far (q + 5 + x) (by omega))
          have HWN := Lib.hid (walked_next HW.out HXD.out (by omega) HLT.out)
          have HIN := Lib.hid (in_rootAt' (l := b.drop q) (x := x) (fun y hy => HLT.out y (List.mem_of_mem_drop hy)) hx8)
          obtain ⟨P, hP⟩ : ∃ P : Nat, P = Nm.fromBe (((b.drop q).drop (1 + x)).take 4) := ⟨_, rfl⟩
          obtain ⟨Q, hQ⟩ : ∃ Q : Nat, Q = Nm.fromBe (((b.drop q).drop (5 + x)).take 4) := ⟨_, rfl⟩
          obtain ⟨N, hN⟩ : ∃ N : List Nat, N = ((b.drop q).drop 1).take x := ⟨_, rfl⟩
          have hra : rootAt (b.drop q) x = ⟨N, (P : Int), (Q : Int)⟩ := by unfold rootAt; rw [hP, hQ, hN]
          have hbd : ∀ y ∈ b.drop q, y < 256 := fun y hy => HLT.out y (List.mem_of_mem_drop hy)
          have hP4 : P < 4294967296 := by rw [hP]; exact from4_lt hbd _
          have hQ4 : Q < 4294967296 := by rw [hQ]; exact from4_lt hbd _
          have hPp : Nm.fromBe (pad4 (b.drop (q + 1 + x))) = P := by
            rw [pad4_take (by rw [List.length_drop]; omega), hP, List.drop_drop, show q + (1 + x) = q + 1 + x by omega]
          have hQp : Nm.fromBe (pad4 (b.drop (q + 5 + x))) = Q := by
            rw [pad4_take (by rw [List.length_drop]; omega), hQ, List.drop_drop, show q + (5 + x) = q + 5 + x by omega]
          have hNN : (b.drop (q + 1)).take x = N := by rw [hN, List.drop_drop]
          rw [hra] at HWN HIN
          rw [hNN] at RN
          have hxa : x = a2 - a1 := by omega
          have wP : IntKind.i64.wrap (P : Int) = (P : Int) := by rw [IntKind.wrap_i64]; omega
          have wQ : IntKind.i64.wrap (Q : Int) = (Q : Int) := by rw [IntKind.wrap_i64]; omega
          have CP := Lib.hid (fun (W : World) (hW : Below w.heap.size w W) => refGet32_any W _ _ _ _ (RP.out W hW))
          have CQ := Lib.hid (fun (W : World) (hW : Below w.heap.size w W) => refGet32_any W _ _ _ _ (RQ.out W hW))
          rw [hPp, ← ha1, ← ha2] at CP
          rw [hQp, ← hb1, ← hb2] at CQ
          rw [← ha1] at RN
          have RN' := Lib.hid (fun (W : World) (hW : Below w.heap.size w W) => (show Bs W (some ⟨bb, off + a1, none⟩) (a2 - a1) (c - a1) N from by rw [← hxa]; exact RN.out W hW))
          rw [← HS9.out, ← HE9.out] at HWN
          have HL := Lib.hid HW.out.len
          have hL13 : L.length ≤ 13 := by rw [HL.out]; exact hj13
          clear hP hQ hN hra hPp hQp hNN RP RQ RN hbd ha1 ha2 hb1 hb2 hxa hfit
          go_wp2_with fail
          have BD := Lib.hid HO.out.bel.drew
          have OD : Hid (Own w wr.drew ov L) := ⟨HO.out.own, HO.out.bel.drew, HO.out.all⟩
          refine wp_region_noPanic ?_
          refine wp_region_held_drew (S := (fun _ : World => True)) (by kernel_rfl) (by exact trivial) (fun hHeld => ?_)
          generalize wr.drew = wd at *
          refine wpAnyH_take (i := 0) (oi := { dst := some 36, op := Go.Op.move (Go.Operand.tmp 4), type := 22, pos := "ref.go:60", after := #[], guard := none }) (v := ?_) rfl (by kernel_rfl) (by kernel_rfl) (by kernel_rfl) (fun _ _ _ h => h) (Or.inl ⟨by rfl, ?_⟩) (by assumption) ?_
          rotate_left
          · (intro w hSw; (try dsimp only at hSw); go_simp; try with_reducible rfl)
          try simp only [Act.put, List.setIfInBounds_toArray, List.set_cons_zero, List.set_cons_succ]
          refine wpAnyH_take (i := 1) (oi := { dst := some 37, op := Go.Op.move (Go.Operand.tmp 0), type := 23, pos := "ref.go:60", after := #[], guard := none }) (v := ?_) rfl (by kernel_rfl) (by kernel_rfl) (by kernel_rfl) (fun _ _ _ h => h) (Or.inl ⟨by rfl, ?_⟩) (by assumption) ?_
          rotate_left
          · (intro w hSw; (try dsimp only at hSw); go_simp; try with_reducible rfl)
          try simp only [Act.put, List.setIfInBounds_toArray, List.set_cons_zero, List.set_cons_succ]
          refine wpAnyH_take (i := 2) (oi := { dst := some 38, op := Go.Op.move (Go.Operand.tmp 5), type := 3, pos := "ref.go:60", after := #[], guard := none }) (v := ?_) rfl (by kernel_rfl) (by kernel_rfl) (by kernel_rfl) (fun _ _ _ h => h) (Or.inl ⟨by rfl, ?_⟩) (by assumption) ?_
          rotate_left
          · (intro w hSw; (try dsimp only at hSw); go_simp; try with_reducible rfl)
          try simp only [Act.put, List.setIfInBounds_toArray, List.set_cons_zero, List.set_cons_succ]
          refine wpAnyH_take (i := 3) (oi := { dst := some 39, op := Go.Op.binOp Go.BinOp.add 3 (Go.Operand.tmp 38) (Go.Operand.const (Go.Value.int Go.IntKind.i64 1)) 3, type := 3, pos := "ref.go:60", after := #[{ on := 2, ground := Go.Ground.data }], guard := none }) (v := ?_) rfl (by kernel_rfl) (by kernel_rfl) (by kernel_rfl) (fun _ _ _ h => h) (Or.inl ⟨by rfl, ?_⟩) (by assumption) ?_
          rotate_left
          · (intro w hSw; (try dsimp only at hSw); go_simp; try with_reducible rfl)
          try simp only [Act.put, List.setIfInBounds_toArray, List.set_cons_zero, List.set_cons_succ]
          refine wpAnyH_take (i := 4) (oi := { dst := some 40, op := Go.Op.move (Go.Operand.tmp 5), type := 3, pos := "ref.go:60", after := #[], guard := none }) (v := ?_) rfl (by kernel_rfl) (by kernel_rfl) (by kernel_rfl) (fun _ _ _ h => h) (Or.inl ⟨by rfl, ?_⟩) (by assumption) ?_
          rotate_left
          · (intro w hSw; (try dsimp only at hSw); go_simp; try with_reducible rfl)
          try simp only [Act.put, List.setIfInBounds_toArray, List.set_cons_zero, List.set_cons_succ]
          refine wpAnyH_take (i := 5) (oi := { dst := some 41, op := Go.Op.binOp Go.BinOp.add 3 (Go.Operand.tmp 40) (Go.Operand.const (Go.Value.int Go.IntKind.i64 1)) 3, type := 3, pos := "ref.go:60", after := #[{ on := 4, ground := Go.Ground.data }], guard := none }) (v := ?_) rfl (by kernel_rfl) (by kernel_rfl) (by kernel_rfl) (fun _ _ _ h => h) (Or.inl ⟨by rfl, ?_⟩) (by assumption) ?_
          rotate_left
          · (intro w hSw; (try dsimp only at hSw); go_simp; try with_reducible rfl)
          try simp only [Act.put, List.setIfInBounds_toArray, List.set_cons_zero, List.set_cons_succ]
          refine wpAnyH_take (i := 6) (oi := { dst := some 42, op := Go.Op.move (Go.Operand.tmp 7), type := 3, pos := "ref.go:60", after := #[], guard := none }) (v := ?_) rfl (by kernel_rfl) (by kernel_rfl) (by kernel_rfl) (fun _ _ _ h => h) (Or.inl ⟨by rfl, ?_⟩) (by assumption) ?_
          rotate_left
          · (intro w hSw; (try dsimp only at hSw); go_simp; try with_reducible rfl)
          try simp only [Act.put, List.setIfInBounds_toArray, List.set_cons_zero, List.set_cons_succ]
          refine wpAnyH_take (i := 7) (oi := { dst := some 43, op := Go.Op.binOp Go.BinOp.add 3 (Go.Operand.tmp 41) (Go.Operand.tmp 42) 3, type := 3, pos := "ref.go:60", after := #[{ on := 5, ground := Go.Ground.data }, { on := 6, ground := Go.Ground.data }], guard := none }) (v := ?_) rfl (by kernel_rfl) (by kernel_rfl) (by kernel_rfl) (fun _ _ _ h => h) (Or.inl ⟨by rfl, ?_⟩) (by assumption) ?_
          rotate_left
          · (intro w hSw; (try dsimp only at hSw); go_simp; try with_reducible rfl)
          try simp only [Act.put, List.setIfInBounds_toArray, List.set_cons_zero, List.set_cons_succ]
          refine wpAnyH_take (i := 8) (oi := { dst := some 44, op := Go.Op.slice 23 (Go.Operand.tmp 37) (some (Go.Operand.tmp 39)) (some (Go.Operand.tmp 43)) none, type := 23, pos := "ref.go:60", after := #[{ on := 1, ground := Go.Ground.data }, { on := 3, ground := Go.Ground.data }, { on := 7, ground := Go.Ground.data }], guard := none }) (v := ?_) rfl (by kernel_rfl) (by kernel_rfl) (by kernel_rfl) (fun _ _ _ h => h) (Or.inl ⟨by rfl, ?_⟩) (by assumption) ?_
          rotate_left
          · (intro w hSw; (try dsimp only at hSw); go_simp; try with_reducible rfl)
          try simp only [Act.put, List.setIfInBounds_toArray, List.set_cons_zero, List.set_cons_succ]
          refine wpAnyH_take (i := 10) (oi := { dst := some 46, op := Go.Op.move (Go.Operand.tmp 0), type := 23, pos := "ref.go:60", after := #[], guard := none }) (v := ?_) rfl (by kernel_rfl) (by kernel_rfl) (by kernel_rfl) (fun _ _ _ h => h) (Or.inl ⟨by rfl, ?_⟩) (by assumption) ?_
          rotate_left
          · (intro w hSw; (try dsimp only at hSw); go_simp; try with_reducible rfl)
          try simp only [Act.put, List.setIfInBounds_toArray, List.set_cons_zero, List.set_cons_succ]
          refine wpAnyH_take (i := 11) (oi := { dst := some 47, op := Go.Op.move (Go.Operand.tmp 5), type := 3, pos := "ref.go:60", after := #[], guard := none }) (v := ?_) rfl (by kernel_rfl) (by kernel_rfl) (by kernel_rfl) (fun _ _ _ h => h) (Or.inl ⟨by rfl, ?_⟩) (by assumption) ?_
          rotate_left
          · (intro w hSw; (try dsimp only at hSw); go_simp; try with_reducible rfl)
          try simp only [Act.put, List.setIfInBounds_toArray, List.set_cons_zero, List.set_cons_succ]
          refine wpAnyH_take (i := 12) (oi := { dst := some 48, op := Go.Op.binOp Go.BinOp.add 3 (Go.Operand.tmp 47) (Go.Operand.const (Go.Value.int Go.IntKind.i64 1)) 3, type := 3, pos := "ref.go:60", after := #[{ on := 11, ground := Go.Ground.data }], guard := none }) (v := ?_) rfl (by kernel_rfl) (by kernel_rfl) (by kernel_rfl) (fun _ _ _ h => h) (Or.inl ⟨by rfl, ?_⟩) (by assumption) ?_
          rotate_left
          · (intro w hSw; (try dsimp only at hSw); go_simp; try with_reducible rfl)
          try simp only [Act.put, List.setIfInBounds_toArray, List.set_cons_zero, List.set_cons_succ]
          refine wpAnyH_take (i := 13) (oi := { dst := some 49, op := Go.Op.move (Go.Operand.tmp 7), type := 3, pos := "ref.go:60", after := #[], guard := none }) (v := ?_) rfl (by kernel_rfl) (by kernel_rfl) (by kernel_rfl) (fun _ _ _ h => h) (Or.inl ⟨by rfl, ?_⟩) (by assumption) ?_
          rotate_left
          · (intro w hSw; (try dsimp only at hSw); go_simp; try with_reducible rfl)
          try simp only [Act.put, List.setIfInBounds_toArray, List.set_cons_zero, List.set_cons_succ]
          refine wpAnyH_take (i := 14) (oi := { dst := some 50, op := Go.Op.binOp Go.BinOp.add 3 (Go.Operand.tmp 48) (Go.Operand.tmp 49) 3, type := 3, pos := "ref.go:60", after := #[{ on := 12, ground := Go.Ground.data }, { on := 13, ground := Go.Ground.data }], guard := none }) (v := ?_) rfl (by kernel_rfl) (by kernel_rfl) (by kernel_rfl) (fun _ _ _ h => h) (Or.inl ⟨by rfl, ?_⟩) (by assumption) ?_
          rotate_left
          · (intro w hSw; (try dsimp only at hSw); go_simp; try with_reducible rfl)
          try simp only [Act.put, List.setIfInBounds_toArray, List.set_cons_zero, List.set_cons_succ]
          refine wpAnyH_take (i := 15) (oi := { dst := some 51, op := Go.Op.slice 23 (Go.Operand.tmp 46) (some (Go.Operand.tmp 50)) none none, type := 23, pos := "ref.go:60", after := #[{ on := 10, ground := Go.Ground.data }, { on := 14, ground := Go.Ground.data }], guard := none }) (v := ?_) rfl (by kernel_rfl) (by kernel_rfl) (by kernel_rfl) (fun _ _ _ h => h) (Or.inl ⟨by rfl, ?_⟩) (by assumption) ?_
          rotate_left
          · (intro w hSw; (try dsimp only at hSw); go_simp; try with_reducible rfl)
          try simp only [Act.put, List.setIfInBounds_toArray, List.set_cons_zero, List.set_cons_succ]
          refine wpAnyH_take (i := 18) (oi := { dst := some 54, op := Go.Op.move (Go.Operand.tmp 0), type := 23, pos := "ref.go:60", after := #[], guard := none }) (v := ?_) rfl (by kernel_rfl) (by kernel_rfl) (by kernel_rfl) (fun _ _ _ h => h) (Or.inl ⟨by rfl, ?_⟩) (by assumption) ?_
          rotate_left
          · (intro w hSw; (try dsimp only at hSw); go_simp; try with_reducible rfl)
          try simp only [Act.put, List.setIfInBounds_toArray, List.set_cons_zero, List.set_cons_succ]
          refine wpAnyH_take (i := 19) (oi := { dst := some 55, op := Go.Op.move (Go.Operand.tmp 5), type := 3, pos := "ref.go:60", after := #[], guard := none }) (v := ?_) rfl (by kernel_rfl) (by kernel_rfl) (by kernel_rfl) (fun _ _ _ h => h) (Or.inl ⟨by rfl, ?_⟩) (by assumption) ?_
          rotate_left
          · (intro w hSw; (try dsimp only at hSw); go_simp; try with_reducible rfl)
          try simp only [Act.put, List.setIfInBounds_toArray, List.set_cons_zero, List.set_cons_succ]
          refine wpAnyH_take (i := 20) (oi := { dst := some 56, op := Go.Op.binOp Go.BinOp.add 3 (Go.Operand.tmp 55) (Go.Operand.const (Go.Value.int Go.IntKind.i64 5)) 3, type := 3, pos := "ref.go:60", after := #[{ on := 19, ground := Go.Ground.data }], guard := none }) (v := ?_) rfl (by kernel_rfl) (by kernel_rfl) (by kernel_rfl) (fun _ _ _ h => h) (Or.inl ⟨by rfl, ?_⟩) (by assumption) ?_
          rotate_left
          · (intro w hSw; (try dsimp only at hSw); go_simp; try with_reducible rfl)
          try simp only [Act.put, List.setIfInBounds_toArray, List.set_cons_zero, List.set_cons_succ]
          refine wpAnyH_take (i := 21) (oi := { dst := some 57, op := Go.Op.move (Go.Operand.tmp 7), type := 3, pos := "ref.go:60", after := #[], guard := none }) (v := ?_) rfl (by kernel_rfl) (by kernel_rfl) (by kernel_rfl) (fun _ _ _ h => h) (Or.inl ⟨by rfl, ?_⟩) (by assumption) ?_
          rotate_left
          · (intro w hSw; (try dsimp only at hSw); go_simp; try with_reducible rfl)
          try simp only [Act.put, List.setIfInBounds_toArray, List.set_cons_zero, List.set_cons_succ]
          refine wpAnyH_take (i := 22) (oi := { dst := some 58, op := Go.Op.binOp Go.BinOp.add 3 (Go.Operand.tmp 56) (Go.Operand.tmp 57) 3, type := 3, pos := "ref.go:60", after := #[{ on := 20, ground := Go.Ground.data }, { on := 21, ground := Go.Ground.data }], guard := none }) (v := ?_) rfl (by kernel_rfl) (by kernel_rfl) (by kernel_rfl) (fun _ _ _ h => h) (Or.inl ⟨by rfl, ?_⟩) (by assumption) ?_
          rotate_left
          · (intro w hSw; (try dsimp only at hSw); go_simp; try with_reducible rfl)
          try simp only [Act.put, List.setIfInBounds_toArray, List.set_cons_zero, List.set_cons_succ]
          refine wpAnyH_take (i := 23) (oi := { dst := some 59, op := Go.Op.slice 23 (Go.Operand.tmp 54) (some (Go.Operand.tmp 58)) none none, type := 23, pos := "ref.go:60", after := #[{ on := 18, ground := Go.Ground.data }, { on := 22, ground := Go.Ground.data }], guard := none }) (v := ?_) rfl (by kernel_rfl) (by kernel_rfl) (by kernel_rfl) (fun _ _ _ h => h) (Or.inl ⟨by rfl, ?_⟩) (by assumption) ?_
          rotate_left
          · (intro w hSw; (try dsimp only at hSw); go_simp; try with_reducible rfl)
          try simp only [Act.put, List.setIfInBounds_toArray, List.set_cons_zero, List.set_cons_succ]
          have hct := (RN'.out wd BD.out).text (P := Try.prog) 23 9 5 Try.underlying23 Try.underlying5 Try.underlying9
          refine wpAnyH_ready (rs := [9, 16]) (by kernel_rfl) (by simp) ?_
          refine AllReadyH.cons (o := { dst := some 45, op := Go.Op.convert 23 9 (Go.Operand.tmp 44), type := 9, pos := "ref.go:60", after := #[{ on := 8, ground := Go.Ground.data }], guard := none }) rfl (fun K hK => ?_) (AllReadyH.cons (o := { dst := some 52, op := Go.Op.call { callee := Go.Callee.value (Go.Operand.func 25), args := #[Go.Operand.tmp 51], argTypes := #[23] }, type := 42, pos := "ref.go:60", after := #[{ on := 15, ground := Go.Ground.data }], guard := none }) rfl (fun K hK => ?_) AllReadyH.nil)
          · skip
            go_simp
            refine hK.out _ _ (by exact trivial) (fun hHeld => ?_)
            clear hK K
            try simp only [Act.put, List.setIfInBounds_toArray, List.set_cons_zero, List.set_cons_succ]
            refine wpAnyH_ready (rs := [16]) (by kernel_rfl) (by simp) ?_
            refine AllReadyH.cons (o := { dst := some 52, op := Go.Op.call { callee := Go.Callee.value (Go.Operand.func 25), args := #[Go.Operand.tmp 51], argTypes := #[23] }, type := 42, pos := "ref.go:60", after := #[{ on := 15, ground := Go.Ground.data }], guard := none }) rfl (fun K hK => ?_) AllReadyH.nil
            go_simp
            refine (CP.out wd BD.out).mono ?_
            rintro e w16 ⟨rfl, rfl⟩
            refine hK.out _ _ (by exact trivial) (fun hHeld => ?_)
            clear hK K
            try simp only [Act.put, List.setIfInBounds_toArray, List.set_cons_zero, List.set_cons_succ]
            refine wpAnyH_take (i := 17) (oi := { dst := some 53, op := Go.Op.convert 42 3 (Go.Operand.tmp 52), type := 3, pos := "ref.go:60", after := #[{ on := 16, ground := Go.Ground.data }], guard := none }) (v := ?_) rfl (by kernel_rfl) (by kernel_rfl) (by kernel_rfl) (fun _ _ _ h => h) (Or.inl ⟨by rfl, ?_⟩) (by assumption) ?_
            rotate_left
            · (intro w hSw; (try dsimp only at hSw); go_simp; try with_reducible rfl)
            try simp only [Act.put, List.setIfInBounds_toArray, List.set_cons_zero, List.set_cons_succ]
            refine wpAnyH_ready (rs := [24]) (by kernel_rfl) (by simp) ?_
            refine AllReadyH.cons (o := { dst := some 60, op := Go.Op.call { callee := Go.Callee.value (Go.Operand.func 25), args := #[Go.Operand.tmp 59], argTypes := #[23] }, type := 42, pos := "ref.go:60", after := #[{ on := 23, ground := Go.Ground.data }, { on := 16, ground := Go.Ground.chain }], guard := none }) rfl (fun K hK => ?_) AllReadyH.nil
            go_simp
            refine (CQ.out wd BD.out).mono ?_
            rintro e w24 ⟨rfl, rfl⟩
            refine hK.out _ _ (by exact trivial) (fun hHeld => ?_)
            clear hK K
            try simp only [Act.put, List.setIfInBounds_toArray, List.set_cons_zero, List.set_cons_succ]
            refine wpAnyH_take (i := 25) (oi := { dst := some 61, op := Go.Op.convert 42 3 (Go.Operand.tmp 60), type := 3, pos := "ref.go:60", after := #[{ on := 24, ground := Go.Ground.data }], guard := none }) (v := ?_) rfl (by kernel_rfl) (by kernel_rfl) (by kernel_rfl) (fun _ _ _ h => h) (Or.inl ⟨by rfl, ?_⟩) (by assumption) ?_
            rotate_left
            · (intro w hSw; (try dsimp only at hSw); go_simp; try with_reducible rfl)
            try simp only [Act.put, List.setIfInBounds_toArray, List.set_cons_zero, List.set_cons_succ]
            refine wpAnyH_take (i := 26) (oi := { dst := some 62, op := Go.Op.build 34 #[(0, Go.Operand.tmp 45), (1, Go.Operand.tmp 53), (2, Go.Operand.tmp 61)], type := 34, pos := "ref.go:60", after := #[{ on := 9, ground := Go.Ground.data }, { on := 17, ground := Go.Ground.data }, { on := 25, ground := Go.Ground.data }], guard := none }) (v := ?_) rfl (by kernel_rfl) (by kernel_rfl) (by kernel_rfl) (fun _ _ _ h => h) (Or.inl ⟨by rfl, ?_⟩) (by assumption) ?_
            rotate_left
            · (intro w hSw; (try dsimp only at hSw); go_simp; try with_reducible rfl)
            try simp only [Act.put, List.setIfInBounds_toArray, List.set_cons_zero, List.set_cons_succ]
            refine wpAnyH_ready (rs := [27]) (by kernel_rfl) (by simp) ?_
            refine AllReadyH.cons (o := { dst := some 63, op := Go.Op.buildSlice 22 1 #[(0, Go.Operand.tmp 62)], type := 22, pos := "ref.go:60", after := #[{ on := 26, ground := Go.Ground.data }], guard := none }) rfl (fun K hK => ?_) AllReadyH.nil
            go_simp
            have RL := rs_new wd ⟨N, (P : Int), (Q : Int)⟩ HIN.out
            have OL := OD.out.on ((Below.refl _ wd).alloc (Nat.le_refl _) (.cells #[.string (txt N), .int .i64 (P : Int), .int .i64 (Q : Int)] 34))
            simp only at RL
            generalize wd.alloc (.cells #[.string (txt N), .int .i64 (P : Int), .int .i64 (Q : Int)] 34) = wL at *
            refine hK.out _ _ (by exact trivial) (fun hHeld => ?_)
            clear hK K
            try simp only [Act.put, List.setIfInBounds_toArray, List.set_cons_zero, List.set_cons_succ]
            refine wpAnyH_ready (rs := [28]) (by kernel_rfl) (by simp) ?_
            refine AllReadyH.cons (o := { dst := some 64, op := Go.Op.call { callee := Go.Callee.builtin Go.Builtin.append, args := #[Go.Operand.tmp 36, Go.Operand.tmp 63], argTypes := #[22, 22] }, type := 22, pos := "ref.go:60", after := #[{ on := 0, ground := Go.Ground.data }, { on := 27, ground := Go.Ground.data }, { on := 24, ground := Go.Ground.chain }], guard := none }) rfl (fun K hK => ?_) AllReadyH.nil
            refine step_append_run rfl (.tmp 36) (.tmp 63) 22 22 rfl _ _ (by rfl) (by rfl) _ (run_append_rs wL w.heap.size _ _ L OL.own _ 1 1 [⟨N, (P : Int), (Q : Int)⟩] RL (by omega) OL.bel.size) ?_
            rintro v28 w28 ⟨O28, G28⟩
            have HO28 : Hid (Own w w28 v28 (L ++ [⟨N, (P : Int), (Q : Int)⟩])) := ⟨O28, below_own OL.bel OL.own G28 OL.bel.size (Nat.le_refl _), fun y hy => by rcases List.mem_append.1 hy with h1 | h1; exact OL.all y h1; simp at h1; subst h1; exact HIN.out⟩
            clear O28 G28 OL RL
            refine hK.out _ _ (by exact trivial) (fun hHeld => ?_)
            clear hK K
            try simp only [Act.put, List.setIfInBounds_toArray, List.set_cons_zero, List.set_cons_succ]
            refine wpAnyH_take (i := 29) (oi := { dst := some 4, op := Go.Op.assign (Go.Operand.tmp 64), type := 22, pos := "ref.go:60", after := #[{ on := 28, ground := Go.Ground.data }, { on := 28, ground := Go.Ground.chain }, { on := 0, ground := Go.Ground.phase }, { on := 1, ground := Go.Ground.phase }, { on := 2, ground := Go.Ground.phase }, { on := 3, ground := Go.Ground.phase }, { on := 4, ground := Go.Ground.phase }, { on := 5, ground := Go.Ground.phase }, { on := 6, ground := Go.Ground.phase }, { on := 7, ground := Go.Ground.phase }, { on := 8, ground := Go.Ground.phase }, { on := 9, ground := Go.Ground.phase }, { on := 10, ground := Go.Ground.phase }, { on := 11, ground := Go.Ground.phase }, { on := 12, ground := Go.Ground.phase }, { on := 13, ground := Go.Ground.phase }, { on := 14, ground := Go.Ground.phase }, { on := 15, ground := Go.Ground.phase }, { on := 16, ground := Go.Ground.phase }, { on := 17, ground := Go.Ground.phase }, { on := 18, ground := Go.Ground.phase }, { on := 19, ground := Go.Ground.phase }, { on := 20, ground := Go.Ground.phase }, { on := 21, ground := Go.Ground.phase }, { on := 22, ground := Go.Ground.phase }, { on := 23, ground := Go.Ground.phase }, { on := 24, ground := Go.Ground.phase }, { on := 25, ground := Go.Ground.phase }, { on := 26, ground := Go.Ground.phase }, { on := 27, ground := Go.Ground.phase }, { on := 28, ground := Go.Ground.phase }], guard := none }) (v := ?_) rfl (by kernel_rfl) (by kernel_rfl) (by kernel_rfl) (fun _ _ _ h => h) (Or.inl ⟨by rfl, ?_⟩) (by assumption) ?_
            rotate_left
            · (intro w hSw; (try dsimp only at hSw); go_simp; try with_reducible rfl)
            try simp only [Act.put, List.setIfInBounds_toArray, List.set_cons_zero, List.set_cons_succ]
            refine wpAnyH_done (by kernel_rfl) ?_ _
            refine NoPanic.normal ?_
            by_cases hend : 1016 ≤ e9
            · have hend' : (1016 : Int) ≤ (e9 : Int) := by omega
              have HN : Hid (¬ ∃ M, Rm.Says b M) := fun ⟨M, hM⟩ => by
                have := walked_before HWN.out hM HK.out (by omega)
                omega
              have HBEL := Lib.hid HO28.out.bel
              go_wp2
              go_ret2
              exact from_no HN.out HBEL.out
            · have hend' : ¬ (1016 : Int) ≤ (e9 : Int) := by omega
              go_wp2
              go_roundw
              case rel => exact ⟨j + 1, e9, _, _, rfl, by omega, by omega, by go_num, rfl, by omega, HO28, HWN⟩
              case measure => simp [intOf]; omega
          · skip
            go_simp
            refine (CP.out wd BD.out).mono ?_
            rintro e w16 ⟨rfl, rfl⟩
            refine hK.out _ _ (by exact trivial) (fun hHeld => ?_)
            clear hK K
            try simp only [Act.put, List.setIfInBounds_toArray, List.set_cons_zero, List.set_cons_succ]
            refine wpAnyH_take (i := 17) (oi := { dst := some 53, op := Go.Op.convert 42 3 (Go.Operand.tmp 52), type := 3, pos := "ref.go:60", after := #[{ on := 16, ground := Go.Ground.data }], guard := none }) (v := ?_) rfl (by kernel_rfl) (by kernel_rfl) (by kernel_rfl) (fun _ _ _ h => h) (Or.inl ⟨by rfl, ?_⟩) (by assumption) ?_
            rotate_left
            · (intro w hSw; (try dsimp only at hSw); go_simp; try with_reducible rfl)
            try simp only [Act.put, List.setIfInBounds_toArray, List.set_cons_zero, List.set_cons_succ]
            refine wpAnyH_ready (rs := [9, 24]) (by kernel_rfl) (by simp) ?_
            refine AllReadyH.cons (o := { dst := some 45, op := Go.Op.convert 23 9 (Go.Operand.tmp 44), type := 9, pos := "ref.go:60", after := #[{ on := 8, ground := Go.Ground.data }], guard := none }) rfl (fun K hK => ?_) (AllReadyH.cons (o := { dst := some 60, op := Go.Op.call { callee := Go.Callee.value (Go.Operand.func 25), args := #[Go.Operand.tmp 59], argTypes := #[23] }, type := 42, pos := "ref.go:60", after := #[{ on := 23, ground := Go.Ground.data }, { on := 16, ground := Go.Ground.chain }], guard := none }) rfl (fun K hK => ?_) AllReadyH.nil)
            · skip
              go_simp
              refine hK.out _ _ (by exact trivial) (fun hHeld => ?_)
              clear hK K
              try simp only [Act.put, List.setIfInBounds_toArray, List.set_cons_zero, List.set_cons_succ]
              refine wpAnyH_ready (rs := [24]) (by kernel_rfl) (by simp) ?_
              refine AllReadyH.cons (o := { dst := some 60, op := Go.Op.call { callee := Go.Callee.value (Go.Operand.func 25), args := #[Go.Operand.tmp 59], argTypes := #[23] }, type := 42, pos := "ref.go:60", after := #[{ on := 23, ground := Go.Ground.data }, { on := 16, ground := Go.Ground.chain }], guard := none }) rfl (fun K hK => ?_) AllReadyH.nil
              go_simp
              refine (CQ.out wd BD.out).mono ?_
              rintro e w24 ⟨rfl, rfl⟩
              refine hK.out _ _ (by exact trivial) (fun hHeld => ?_)
              clear hK K
              try simp only [Act.put, List.setIfInBounds_toArray, List.set_cons_zero, List.set_cons_succ]
              refine wpAnyH_take (i := 25) (oi := { dst := some 61, op := Go.Op.convert 42 3 (Go.Operand.tmp 60), type := 3, pos := "ref.go:60", after := #[{ on := 24, ground := Go.Ground.data }], guard := none }) (v := ?_) rfl (by kernel_rfl) (by kernel_rfl) (by kernel_rfl) (fun _ _ _ h => h) (Or.inl ⟨by rfl, ?_⟩) (by assumption) ?_
              rotate_left
              · (intro w hSw; (try dsimp only at hSw); go_simp; try with_reducible rfl)
              try simp only [Act.put, List.setIfInBounds_toArray, List.set_cons_zero, List.set_cons_succ]
              refine wpAnyH_take (i := 26) (oi := { dst := some 62, op := Go.Op.build 34 #[(0, Go.Operand.tmp 45), (1, Go.Operand.tmp 53), (2, Go.Operand.tmp 61)], type := 34, pos := "ref.go:60", after := #[{ on := 9, ground := Go.Ground.data }, { on := 17, ground := Go.Ground.data }, { on := 25, ground := Go.Ground.data }], guard := none }) (v := ?_) rfl (by kernel_rfl) (by kernel_rfl) (by kernel_rfl) (fun _ _ _ h => h) (Or.inl ⟨by rfl, ?_⟩) (by assumption) ?_
              rotate_left
              · (intro w hSw; (try dsimp only at hSw); go_simp; try with_reducible rfl)
              try simp only [Act.put, List.setIfInBounds_toArray, List.set_cons_zero, List.set_cons_succ]
              refine wpAnyH_ready (rs := [27]) (by kernel_rfl) (by simp) ?_
              refine AllReadyH.cons (o := { dst := some 63, op := Go.Op.buildSlice 22 1 #[(0, Go.Operand.tmp 62)], type := 22, pos := "ref.go:60", after := #[{ on := 26, ground := Go.Ground.data }], guard := none }) rfl (fun K hK => ?_) AllReadyH.nil
              go_simp
              have RL := rs_new wd ⟨N, (P : Int), (Q : Int)⟩ HIN.out
              have OL := OD.out.on ((Below.refl _ wd).alloc (Nat.le_refl _) (.cells #[.string (txt N), .int .i64 (P : Int), .int .i64 (Q : Int)] 34))
              simp only at RL
              generalize wd.alloc (.cells #[.string (txt N), .int .i64 (P : Int), .int .i64 (Q : Int)] 34) = wL at *
              refine hK.out _ _ (by exact trivial) (fun hHeld => ?_)
              clear hK K
              try simp only [Act.put, List.setIfInBounds_toArray, List.set_cons_zero, List.set_cons_succ]
              refine wpAnyH_ready (rs := [28]) (by kernel_rfl) (by simp) ?_
              refine AllReadyH.cons (o := { dst := some 64, op := Go.Op.call { callee := Go.Callee.builtin Go.Builtin.append, args := #[Go.Operand.tmp 36, Go.Operand.tmp 63], argTypes := #[22, 22] }, type := 22, pos := "ref.go:60", after := #[{ on := 0, ground := Go.Ground.data }, { on := 27, ground := Go.Ground.data }, { on := 24, ground := Go.Ground.chain }], guard := none }) rfl (fun K hK => ?_) AllReadyH.nil
              refine step_append_run rfl (.tmp 36) (.tmp 63) 22 22 rfl _ _ (by rfl) (by rfl) _ (run_append_rs wL w.heap.size _ _ L OL.own _ 1 1 [⟨N, (P : Int), (Q : Int)⟩] RL (by omega) OL.bel.size) ?_
              rintro v28 w28 ⟨O28, G28⟩
              have HO28 : Hid (Own w w28 v28 (L ++ [⟨N, (P : Int), (Q : Int)⟩])) := ⟨O28, below_own OL.bel OL.own G28 OL.bel.size (Nat.le_refl _), fun y hy => by rcases List.mem_append.1 hy with h1 | h1; exact OL.all y h1; simp at h1; subst h1; exact HIN.out⟩
              clear O28 G28 OL RL
              refine hK.out _ _ (by exact trivial) (fun hHeld => ?_)
              clear hK K
              try simp only [Act.put, List.setIfInBounds_toArray, List.set_cons_zero, List.set_cons_succ]
              refine wpAnyH_take (i := 29) (oi := { dst := some 4, op := Go.Op.assign (Go.Operand.tmp 64), type := 22, pos := "ref.go:60", after := #[{ on := 28, ground := Go.Ground.data }, { on := 28, ground := Go.Ground.chain }, { on := 0, ground := Go.Ground.phase }, { on := 1, ground := Go.Ground.phase }, { on := 2, ground := Go.Ground.phase }, { on := 3, ground := Go.Ground.phase }, { on := 4, ground := Go.Ground.phase }, { on := 5, ground := Go.Ground.phase }, { on := 6, ground := Go.Ground.phase }, { on := 7, ground := Go.Ground.phase }, { on := 8, ground := Go.Ground.phase }, { on := 9, ground := Go.Ground.phase }, { on := 10, ground := Go.Ground.phase }, { on := 11, ground := Go.Ground.phase }, { on := 12, ground := Go.Ground.phase }, { on := 13, ground := Go.Ground.phase }, { on := 14, ground := Go.Ground.phase }, { on := 15, ground := Go.Ground.phase }, { on := 16, ground := Go.Ground.phase }, { on := 17, ground := Go.Ground.phase }, { on := 18, ground := Go.Ground.phase }, { on := 19, ground := Go.Ground.phase }, { on := 20, ground := Go.Ground.phase }, { on := 21, ground := Go.Ground.phase }, { on := 22, ground := Go.Ground.phase }, { on := 23, ground := Go.Ground.phase }, { on := 24, ground := Go.Ground.phase }, { on := 25, ground := Go.Ground.phase }, { on := 26, ground := Go.Ground.phase }, { on := 27, ground := Go.Ground.phase }, { on := 28, ground := Go.Ground.phase }], guard := none }) (v := ?_) rfl (by kernel_rfl) (by kernel_rfl) (by kernel_rfl) (fun _ _ _ h => h) (Or.inl ⟨by rfl, ?_⟩) (by assumption) ?_
              rotate_left
              · (intro w hSw; (try dsimp only at hSw); go_simp; try with_reducible rfl)
              try simp only [Act.put, List.setIfInBounds_toArray, List.set_cons_zero, List.set_cons_succ]
              refine wpAnyH_done (by kernel_rfl) ?_ _
              refine NoPanic.normal ?_
              by_cases hend : 1016 ≤ e9
              · have hend' : (1016 : Int) ≤ (e9 : Int) := by omega
                have HN : Hid (¬ ∃ M, Rm.Says b M) := fun ⟨M, hM⟩ => by
                  have := walked_before HWN.out hM HK.out (by omega)
                  omega
                have HBEL := Lib.hid HO28.out.bel
                go_wp2
                go_ret2
                exact from_no HN.out HBEL.out
              · have hend' : ¬ (1016 : Int) ≤ (e9 : Int) := by omega
                go_wp2
                go_roundw
                case rel => exact ⟨j + 1, e9, _, _, rfl, by omega, by omega, by go_num, rfl, by omega, HO28, HWN⟩
                case measure => simp [intOf]; omega
            · skip
              go_simp
              refine (CQ.out wd BD.out).mono ?_
              rintro e w24 ⟨rfl, rfl⟩
              refine hK.out _ _ (by exact trivial) (fun hHeld => ?_)
              clear hK K
              try simp only [Act.put, List.setIfInBounds_toArray, List.set_cons_zero, List.set_cons_succ]
              refine wpAnyH_take (i := 25) (oi := { dst := some 61, op := Go.Op.convert 42 3 (Go.Operand.tmp 60), type := 3, pos := "ref.go:60", after := #[{ on := 24, ground := Go.Ground.data }], guard := none }) (v := ?_) rfl (by kernel_rfl) (by kernel_rfl) (by kernel_rfl) (fun _ _ _ h => h) (Or.inl ⟨by rfl, ?_⟩) (by assumption) ?_
              rotate_left
              · (intro w hSw; (try dsimp only at hSw); go_simp; try with_reducible rfl)
              try simp only [Act.put, List.setIfInBounds_toArray, List.set_cons_zero, List.set_cons_succ]
              refine wpAnyH_ready (rs := [9]) (by kernel_rfl) (by simp) ?_
              refine AllReadyH.cons (o := { dst := some 45, op := Go.Op.convert 23 9 (Go.Operand.tmp 44), type := 9, pos := "ref.go:60", after := #[{ on := 8, ground := Go.Ground.data }], guard := none }) rfl (fun K hK => ?_) AllReadyH.nil
              go_simp
              refine hK.out _ _ (by exact trivial) (fun hHeld => ?_)
              clear hK K
              try simp only [Act.put, List.setIfInBounds_toArray, List.set_cons_zero, List.set_cons_succ]
              refine wpAnyH_take (i := 26) (oi := { dst := some 62, op := Go.Op.build 34 #[(0, Go.Operand.tmp 45), (1, Go.Operand.tmp 53), (2, Go.Operand.tmp 61)], type := 34, pos := "ref.go:60", after := #[{ on := 9, ground := Go.Ground.data }, { on := 17, ground := Go.Ground.data }, { on := 25, ground := Go.Ground.data }], guard := none }) (v := ?_) rfl (by kernel_rfl) (by kernel_rfl) (by kernel_rfl) (fun _ _ _ h => h) (Or.inl ⟨by rfl, ?_⟩) (by assumption) ?_
              rotate_left
              · (intro w hSw; (try dsimp only at hSw); go_simp; try with_reducible rfl)
              try simp only [Act.put, List.setIfInBounds_toArray, List.set_cons_zero, List.set_cons_succ]
              refine wpAnyH_ready (rs := [27]) (by kernel_rfl) (by simp) ?_
              refine AllReadyH.cons (o := { dst := some 63, op := Go.Op.buildSlice 22 1 #[(0, Go.Operand.tmp 62)], type := 22, pos := "ref.go:60", after := #[{ on := 26, ground := Go.Ground.data }], guard := none }) rfl (fun K hK => ?_) AllReadyH.nil
              go_simp
              have RL := rs_new wd ⟨N, (P : Int), (Q : Int)⟩ HIN.out
              have OL := OD.out.on ((Below.refl _ wd).alloc (Nat.le_refl _) (.cells #[.string (txt N), .int .i64 (P : Int), .int .i64 (Q : Int)] 34))
              simp only at RL
              generalize wd.alloc (.cells #[.string (txt N), .int .i64 (P : Int), .int .i64 (Q : Int)] 34) = wL at *
              refine hK.out _ _ (by exact trivial) (fun hHeld => ?_)
              clear hK K
              try simp only [Act.put, List.setIfInBounds_toArray, List.set_cons_zero, List.set_cons_succ]
              refine wpAnyH_ready (rs := [28]) (by kernel_rfl) (by simp) ?_
              refine AllReadyH.cons (o := { dst := some 64, op := Go.Op.call { callee := Go.Callee.builtin Go.Builtin.append, args := #[Go.Operand.tmp 36, Go.Operand.tmp 63], argTypes := #[22, 22] }, type := 22, pos := "ref.go:60", after := #[{ on := 0, ground := Go.Ground.data }, { on := 27, ground := Go.Ground.data }, { on := 24, ground := Go.Ground.chain }], guard := none }) rfl (fun K hK => ?_) AllReadyH.nil
              refine step_append_run rfl (.tmp 36) (.tmp 63) 22 22 rfl _ _ (by rfl) (by rfl) _ (run_append_rs wL w.heap.size _ _ L OL.own _ 1 1 [⟨N, (P : Int), (Q : Int)⟩] RL (by omega) OL.bel.size) ?_
              rintro v28 w28 ⟨O28, G28⟩
              have HO28 : Hid (Own w w28 v28 (L ++ [⟨N, (P : Int), (Q : Int)⟩])) := ⟨O28, below_own OL.bel OL.own G28 OL.bel.size (Nat.le_refl _), fun y hy => by rcases List.mem_append.1 hy with h1 | h1; exact OL.all y h1; simp at h1; subst h1; exact HIN.out⟩
              clear O28 G28 OL RL
              refine hK.out _ _ (by exact trivial) (fun hHeld => ?_)
              clear hK K
              try simp only [Act.put, List.setIfInBounds_toArray, List.set_cons_zero, List.set_cons_succ]
              refine wpAnyH_take (i := 29) (oi := { dst := some 4, op := Go.Op.assign (Go.Operand.tmp 64), type := 22, pos := "ref.go:60", after := #[{ on := 28, ground := Go.Ground.data }, { on := 28, ground := Go.Ground.chain }, { on := 0, ground := Go.Ground.phase }, { on := 1, ground := Go.Ground.phase }, { on := 2, ground := Go.Ground.phase }, { on := 3, ground := Go.Ground.phase }, { on := 4, ground := Go.Ground.phase }, { on := 5, ground := Go.Ground.phase }, { on := 6, ground := Go.Ground.phase }, { on := 7, ground := Go.Ground.phase }, { on := 8, ground := Go.Ground.phase }, { on := 9, ground := Go.Ground.phase }, { on := 10, ground := Go.Ground.phase }, { on := 11, ground := Go.Ground.phase }, { on := 12, ground := Go.Ground.phase }, { on := 13, ground := Go.Ground.phase }, { on := 14, ground := Go.Ground.phase }, { on := 15, ground := Go.Ground.phase }, { on := 16, ground := Go.Ground.phase }, { on := 17, ground := Go.Ground.phase }, { on := 18, ground := Go.Ground.phase }, { on := 19, ground := Go.Ground.phase }, { on := 20, ground := Go.Ground.phase }, { on := 21, ground := Go.Ground.phase }, { on := 22, ground := Go.Ground.phase }, { on := 23, ground := Go.Ground.phase }, { on := 24, ground := Go.Ground.phase }, { on := 25, ground := Go.Ground.phase }, { on := 26, ground := Go.Ground.phase }, { on := 27, ground := Go.Ground.phase }, { on := 28, ground := Go.Ground.phase }], guard := none }) (v := ?_) rfl (by kernel_rfl) (by kernel_rfl) (by kernel_rfl) (fun _ _ _ h => h) (Or.inl ⟨by rfl, ?_⟩) (by assumption) ?_
              rotate_left
              · (intro w hSw; (try dsimp only at hSw); go_simp; try with_reducible rfl)
              try simp only [Act.put, List.setIfInBounds_toArray, List.set_cons_zero, List.set_cons_succ]
              refine wpAnyH_done (by kernel_rfl) ?_ _
              refine NoPanic.normal ?_
              by_cases hend : 1016 ≤ e9
              · have hend' : (1016 : Int) ≤ (e9 : Int) := by omega
                have HN : Hid (¬ ∃ M, Rm.Says b M) := fun ⟨M, hM⟩ => by
                  have := walked_before HWN.out hM HK.out (by omega)
                  omega
                have HBEL := Lib.hid HO28.out.bel
                go_wp2
                go_ret2
                exact from_no HN.out HBEL.out
              · have hend' : ¬ (1016 : Int) ≤ (e9 : Int) := by omega
                go_wp2
                go_roundw
                case rel => exact ⟨j + 1, e9, _, _, rfl, by omega, by omega, by go_num, rfl, by omega, HO28, HWN⟩
                case measure => simp [intOf]; omega
      · by_cases hjk : j < k
        · have hltb : (j : Int) < (k : Int) := by omega
          have hltc : ¬ (j : Int) < 13 := by omega
          have HEX : Hid (∀ M, Rm.Says b M → M = L) := fun M hM => by
            have := (says_toRead hM HK.out).1
            omega
          clear hlt hjk
          obtain ⟨wo, rfl⟩ : ∃ wo, wo = wr := ⟨_, rfl⟩
          obtain ⟨A1, c1, rfl, R1⟩ := rs_own HO.out.own HO.out.all
          have HR1 := Lib.hid R1
          have HBEL := Lib.hid HO.out.bel
          have C7 := Lib.hid (rfPay_any wo A1 L.length c1 L R1)
          clear R1 HO HW
          generalize L.length = lm at *
          cases hmay : Rm.may L with
          | false =>
            have hp : payL L = [] := by unfold payL; rw [hmay]; rfl
            rw [hp] at C7
            have HN : Hid (¬ ∃ M, Rm.Says b M) := fun ⟨M, hM⟩ => by
              have := HEX.out M hM
              subst this
              rw [hM.1] at hmay; cases hmay
            clear hmay hp
            go_wp2_with fail
            refine C7.out.mono ?_
            rintro e w7 ⟨A7, c7, rfl, _, b7, _⟩
            have HB7 := Lib.hid (onto HBEL.out b7)
            clear b7 C7
            simp only [List.length_nil]
            go_wp2
            go_ret2
            exact from_no HN.out HB7.out
          | true =>
            have hp : payL L = Rm.pay L := by unfold payL; rw [hmay]; rfl
            rw [hp] at C7
            have hT1 := Rm.pay_le hmay
            have hT2 : 5 ≤ (Rm.pay L).length := by rw [Rm.pay_len]; omega
            have HPL := Lib.hid (Rm.pay_lt hmay)
            have HFL : Hid (Rm.full L = Rm.pay L ++ List.replicate (1016 - (Rm.pay L).length) 0) := rfl
            have HMAY := Lib.hid hmay
            go_wp2_with fail
            refine C7.out.mono ?_
            rintro e w7 ⟨A7, c7, rfl, _, b7, hown⟩
            have HOB : Hid (OwnB wo w7 (.slice A7 (Rm.pay L).length c7) (Rm.pay L)) := ⟨hown hmay, b7, HPL.out⟩
            have HR7 := HR1
            clear b7 C7 hown hmay hp
            obtain ⟨T, hT⟩ : ∃ T, T = (Rm.pay L).length := ⟨_, rfl⟩
            rw [← hT] at HOB HFL hT1 hT2
            rw [← hT]
            have HT := Lib.hid hT
            clear hT
            have hT0 : ((T : Int) == 0) = false := by simp; omega
            go_wp2_with fail
            go_loopw [8] (fun v wr => ∃ (i : Nat) (A2 : Option Addr) (c2 : Nat), v = .slice A2 (T + i) c2 ∧ T + i ≤ 1016 ∧ Hid (OwnB wo wr (.slice A2 (T + i) c2) (Rm.pay L ++ List.replicate i 0))) (fun v _ => 1016 - lenV v)
            case atStart => exact ⟨0, A7, c7, rfl, by omega, by rw [List.replicate_zero, List.append_nil]; exact HOB⟩
            case round =>
              obtain ⟨i, A2, c2, rfl, hi, HQ⟩ := hrel
              obtain ⟨V, hV⟩ : ∃ V, V = T + i := ⟨_, rfl⟩
              have HV := Lib.hid hV
              rw [← hV] at hi HQ ⊢
              clear hV
              by_cases hlt : V < 1016
              · have hltb : (V : Int) < 1016 := by omega
                have bA : Below _ _ (wr.alloc (.cells #[.int .u8 0] 5)) := (Below.refl _ _).alloc (Nat.le_refl _) _
                have AP := Lib.hid (fun ty => run_addB wo _ _ _ (HQ.out.on bA) _ 1 1 _ (bs_zero wr) (by rw [List.length_append, List.length_replicate, ← HT.out]; have := HV.out; omega) ty)
                clear bA
                go_wp2_with (at_builtin; refine wpList_append_ran _ rfl _ _ 23 23 rfl _ _ rfl rfl _ (AP.out _) ?_; rintro v8 w8 ⟨O8, G8⟩)
                rw [List.append_assoc, ← List.replicate_succ'] at O8
                obtain ⟨A8, c8, rfl, _⟩ := O8.bs
                have hl8 : (Rm.pay L ++ List.replicate (i + 1) 0).length = T + (i + 1) := by rw [List.length_append, List.length_replicate, ← HT.out]
                rw [hl8] at O8
                simp only [hl8]
                have HO8 := Lib.hid O8
                clear O8 G8 AP
                go_wp2_with fail
                go_roundw
                case rel => exact ⟨i + 1, A8, c8, rfl, by have := HV.out; omega, HO8⟩
                case measure => simp [lenV]; have := HV.out; omega
              · have hltb : ¬ (V : Int) < 1016 := by omega
                have hz : i = 1016 - T := by have := HV.out; omega
                have hQ := HQ.out
                rw [hz, ← HFL.out] at hQ
                obtain ⟨A9, c9, e9, R9⟩ := hQ.bs
                obtain ⟨rfl, hV9, rfl⟩ : A2 = A9 ∧ V = (Rm.full L).length ∧ c2 = c9 := by
                  injection e9 with e9 e10 e11
                  exact ⟨e9, e10, e11⟩
                rw [← hV9] at R9
                clear e9 hV9
                have HB2 := Lib.hid (onto HBEL.out hQ.bel)
                have HR2 := Lib.hid (HR1.out.on hQ.bel)
                have C9 := Lib.hid (_root_.Go.Proofs.Ytbhahihgojhcmaa.same_any _ _ _ _ _ _ _ _ _ R9 (H.out.on HB2.out))
                clear hQ R9 HQ hz
                by_cases hsm : Rm.full L = b
                · rw [decide_eq_true hsm] at C9
                  have HS : Hid (Rm.Says b L) := ⟨HMAY.out, hsm⟩
                  clear hsm
                  go_wp2_with fail
                  refine C9.out.mono ?_
                  rintro e w9 ⟨rfl, m9, rfl⟩
                  go_wp2
                  go_ret2
                  exact ⟨A1, _, c1, 0, L, rfl, below_drewN HB2.out m9, .inl ⟨rfl, HS.out⟩, HR2.out.drewN m9⟩
                · rw [decide_eq_false hsm] at C9
                  have HN : Hid (¬ ∃ M, Rm.Says b M) := fun ⟨M, hM⟩ => by
                    have := HEX.out M hM
                    subst this
                    exact hsm hM.2
                  clear hsm
                  go_wp2_with fail
                  refine C9.out.mono ?_
                  rintro e w9 ⟨rfl, m9, rfl⟩
                  go_wp2
                  go_ret2
                  exact from_no HN.out (below_drewN HB2.out m9)
        · have hltb : ¬ (j : Int) < (k : Int) := by omega
          have HEX : Hid (∀ M, Rm.Says b M → M = L) := fun M hM => by
            obtain rfl : j = k := by omega
            exact walked_all HW.out hM HK.out
          clear hlt hjk
          obtain ⟨wo, rfl⟩ : ∃ wo, wo = wr := ⟨_, rfl⟩
          obtain ⟨A1, c1, rfl, R1⟩ := rs_own HO.out.own HO.out.all
          have HR1 := Lib.hid R1
          have HBEL := Lib.hid HO.out.bel
          have C7 := Lib.hid (rfPay_any wo A1 L.length c1 L R1)
          clear R1 HO HW
          generalize L.length = lm at *
          cases hmay : Rm.may L with
          | false =>
            have hp : payL L = [] := by unfold payL; rw [hmay]; rfl
            rw [hp] at C7
            have HN : Hid (¬ ∃ M, Rm.Says b M) := fun ⟨M, hM⟩ => by
              have := HEX.out M hM
              subst this
              rw [hM.1] at hmay; cases hmay
            clear hmay hp
            go_wp2_with fail
            refine C7.out.mono ?_
            rintro e w7 ⟨A7, c7, rfl, _, b7, _⟩
            have HB7 := Lib.hid (onto HBEL.out b7)
            clear b7 C7
            simp only [List.length_nil]
            go_wp2
            go_ret2
            exact from_no HN.out HB7.out
          | true =>
            have hp : payL L = Rm.pay L := by unfold payL; rw [hmay]; rfl
            rw [hp] at C7
            have hT1 := Rm.pay_le hmay
            have hT2 : 5 ≤ (Rm.pay L).length := by rw [Rm.pay_len]; omega
            have HPL := Lib.hid (Rm.pay_lt hmay)
            have HFL : Hid (Rm.full L = Rm.pay L ++ List.replicate (1016 - (Rm.pay L).length) 0) := rfl
            have HMAY := Lib.hid hmay
            go_wp2_with fail
            refine C7.out.mono ?_
            rintro e w7 ⟨A7, c7, rfl, _, b7, hown⟩
            have HOB : Hid (OwnB wo w7 (.slice A7 (Rm.pay L).length c7) (Rm.pay L)) := ⟨hown hmay, b7, HPL.out⟩
            have HR7 := HR1
            clear b7 C7 hown hmay hp
            obtain ⟨T, hT⟩ : ∃ T, T = (Rm.pay L).length := ⟨_, rfl⟩
            rw [← hT] at HOB HFL hT1 hT2
            rw [← hT]
            have HT := Lib.hid hT
            clear hT
            have hT0 : ((T : Int) == 0) = false := by simp; omega
            go_wp2_with fail
            go_loopw [8] (fun v wr => ∃ (i : Nat) (A2 : Option Addr) (c2 : Nat), v = .slice A2 (T + i) c2 ∧ T + i ≤ 1016 ∧ Hid (OwnB wo wr (.slice A2 (T + i) c2) (Rm.pay L ++ List.replicate i 0))) (fun v _ => 1016 - lenV v)
            case atStart => exact ⟨0, A7, c7, rfl, by omega, by rw [List.replicate_zero, List.append_nil]; exact HOB⟩
            case round =>
              obtain ⟨i, A2, c2, rfl, hi, HQ⟩ := hrel
              obtain ⟨V, hV⟩ : ∃ V, V = T + i := ⟨_, rfl⟩
              have HV := Lib.hid hV
              rw [← hV] at hi HQ ⊢
              clear hV
              by_cases hlt : V < 1016
              · have hltb : (V : Int) < 1016 := by omega
                have bA : Below _ _ (wr.alloc (.cells #[.int .u8 0] 5)) := (Below.refl _ _).alloc (Nat.le_refl _) _
                have AP := Lib.hid (fun ty => run_addB wo _ _ _ (HQ.out.on bA) _ 1 1 _ (bs_zero wr) (by rw [List.length_append, List.length_replicate, ← HT.out]; have := HV.out; omega) ty)
                clear bA
                go_wp2_with (at_builtin; refine wpList_append_ran _ rfl _ _ 23 23 rfl _ _ rfl rfl _ (AP.out _) ?_; rintro v8 w8 ⟨O8, G8⟩)
                rw [List.append_assoc, ← List.replicate_succ'] at O8
                obtain ⟨A8, c8, rfl, _⟩ := O8.bs
                have hl8 : (Rm.pay L ++ List.replicate (i + 1) 0).length = T + (i + 1) := by rw [List.length_append, List.length_replicate, ← HT.out]
                rw [hl8] at O8
                simp only [hl8]
                have HO8 := Lib.hid O8
                clear O8 G8 AP
                go_wp2_with fail
                go_roundw
                case rel => exact ⟨i + 1, A8, c8, rfl, by have := HV.out; omega, HO8⟩
                case measure => simp [lenV]; have := HV.out; omega
              · have hltb : ¬ (V : Int) < 1016 := by omega
                have hz : i = 1016 - T := by have := HV.out; omega
                have hQ := HQ.out
                rw [hz, ← HFL.out] at hQ
                obtain ⟨A9, c9, e9, R9⟩ := hQ.bs
                obtain ⟨rfl, hV9, rfl⟩ : A2 = A9 ∧ V = (Rm.full L).length ∧ c2 = c9 := by
                  injection e9 with e9 e10 e11
                  exact ⟨e9, e10, e11⟩
                rw [← hV9] at R9
                clear e9 hV9
                have HB2 := Lib.hid (onto HBEL.out hQ.bel)
                have HR2 := Lib.hid (HR1.out.on hQ.bel)
                have C9 := Lib.hid (_root_.Go.Proofs.Ytbhahihgojhcmaa.same_any _ _ _ _ _ _ _ _ _ R9 (H.out.on HB2.out))
                clear hQ R9 HQ hz
                by_cases hsm : Rm.full L = b
                · rw [decide_eq_true hsm] at C9
                  have HS : Hid (Rm.Says b L) := ⟨HMAY.out, hsm⟩
                  clear hsm
                  go_wp2_with fail
                  refine C9.out.mono ?_
                  rintro e w9 ⟨rfl, m9, rfl⟩
                  go_wp2
                  go_ret2
                  exact ⟨A1, _, c1, 0, L, rfl, below_drewN HB2.out m9, .inl ⟨rfl, HS.out⟩, HR2.out.drewN m9⟩
                · rw [decide_eq_false hsm] at C9
                  have HN : Hid (¬ ∃ M, Rm.Says b M) := fun ⟨M, hM⟩ => by
                    have := HEX.out M hM
                    subst this
                    exact hsm hM.2
                  clear hsm
                  go_wp2_with fail
                  refine C9.out.mono ?_
                  rintro e w9 ⟨rfl, m9, rfl⟩
                  go_wp2
                  go_ret2
                  exact from_no HN.out (below_drewN HB2.out m9)
  · have h1 : ((n : Int) != 1016) = true := by simp; omega
    have HN : Hid (¬ ∃ M, Rm.Says b M) := fun ⟨M, hM⟩ => hn (H.out.1.symm.trans (Rm.says_read hM).1)
    go_enter Try.func10, Try.ntmps10
    go_wp2
    go_ret2
    exact from_no HN.out (Below.refl _ _)

end Go.Proofs.Ytbhahihgojhcmaa.Rt
