/-
  The roots that a page's bytes begin with: the program's read; allZero. Laid by gen_rtread.py SEAT.
-/
import Derived.Test.YtbhahihgojhcmaaRtPay
import Derived.Test.YtbhahihgojhcmaaRtConv
import Derived.Test.YtbhahihgojhcmaaRtWith
import Derived.Test.YtbhahihgojhcmaaNbFour
namespace Go.Proofs.Ytbhahihgojhcmaa.Rt
open Go.RowKit
set_option linter.unusedVariables false

theorem be_fromBe : ∀ (n : Nat) (l : List Nat), l.length = n → (∀ x ∈ l, x < 256) → Nm.be n (Nm.fromBe l) = l
  | 0, l, h, _ => by rw [List.eq_nil_of_length_eq_zero h]; rfl
  | n + 1, l, h, hb => by
    have hne : l ≠ [] := fun e => by rw [e] at h; simp at h
    obtain ⟨l', b, rfl⟩ : ∃ l' b, l = l' ++ [b] := ⟨l.dropLast, l.getLast hne, (List.dropLast_concat_getLast hne).symm⟩
    have hb' := hb b (by simp)
    have ih := be_fromBe n l' (by simpa using h) fun x hx => hb x (by simp [hx])
    rw [Nm.fromBe_snoc]
    simp only [Nm.be]
    rw [show (Nm.fromBe l' * 256 + b) / 256 = Nm.fromBe l' by omega, show (Nm.fromBe l' * 256 + b) % 256 = b by omega, ih]
/-- The root with which bytes begin, its name x bytes long. -/
def rootAt (l : List Nat) (x : Nat) : Rm.R := ⟨(l.drop 1).take x, (Nm.fromBe ((l.drop (1 + x)).take 4) : Int), (Nm.fromBe ((l.drop (5 + x)).take 4) : Int)⟩
theorem from4_lt {l : List Nat} (h : ∀ x ∈ l, x < 256) (k : Nat) : Nm.fromBe ((l.drop k).take 4) < 4294967296 := by
  have h1 := Nm.fromBe_lt ((l.drop k).take 4) fun x hx => h x (List.mem_of_mem_drop (List.mem_of_mem_take hx))
  have h2 : ((l.drop k).take 4).length ≤ 4 := by rw [List.length_take]; omega
  have h3 : (256 : Nat) ^ ((l.drop k).take 4).length ≤ 256 ^ 4 := Nat.pow_le_pow_right (by omega) h2
  have h4 : (256 : Nat) ^ 4 = 4294967296 := by decide
  omega
theorem enc_rootAt {l : List Nat} {x : Nat} (hx : l[0]? = some x) (hl : 9 + x ≤ l.length) (hb : ∀ y ∈ l, y < 256) : l = Rm.enc (rootAt l x) ++ l.drop (9 + x) := by
  cases l with
  | nil => simp at hx
  | cons a t =>
    simp at hx
    subst hx
    have ht : a + 8 ≤ t.length := by simp at hl; omega
    have hbt : ∀ y ∈ t, y < 256 := fun y hy => hb y (by simp [hy])
    unfold Rm.enc rootAt
    simp only [Int.toNat_natCast, List.drop_succ_cons, List.drop_zero, Nat.add_comm 1 a, show 5 + a = (a + 4) + 1 by omega, show 9 + a = (a + 8) + 1 by omega]
    have e1 : Nm.be 4 (Nm.fromBe ((t.drop a).take 4)) = (t.drop a).take 4 := be_fromBe 4 _ (by rw [List.length_take, List.length_drop]; omega) fun y hy => hbt y (List.mem_of_mem_drop (List.mem_of_mem_take hy))
    have e2 : Nm.be 4 (Nm.fromBe ((t.drop (a + 4)).take 4)) = (t.drop (a + 4)).take 4 := be_fromBe 4 _ (by rw [List.length_take, List.length_drop]; omega) fun y hy => hbt y (List.mem_of_mem_drop (List.mem_of_mem_take hy))
    have e0 : (t.take a).length = a := by rw [List.length_take]; omega
    rw [e1, e2, e0, List.cons_append]
    congr 1
    have f1 : t = t.take a ++ t.drop a := (List.take_append_drop a t).symm
    have f2 : t.drop a = (t.drop a).take 4 ++ t.drop (a + 4) := by rw [← List.drop_drop]; exact (List.take_append_drop 4 _).symm
    have f3 : t.drop (a + 4) = (t.drop (a + 4)).take 4 ++ t.drop (a + 8) := by
      have : t.drop (a + 8) = (t.drop (a + 4)).drop 4 := by rw [List.drop_drop]
      rw [this]; exact (List.take_append_drop 4 _).symm
    rw [List.append_assoc, List.append_assoc, ← f3, ← f2, ← f1]
theorem read_next {j : Nat} {b : List Nat} {L : List Rm.R} {l : List Nat} {x : Nat} (h : Rm.Read j b L l) (hx : l[0]? = some x) (h24 : x ≤ 24) (hl : 9 + x ≤ l.length) (hb : ∀ y ∈ l, y < 256) : Rm.Read (j + 1) b (L ++ [rootAt l x]) (l.drop (9 + x)) := by
  refine ⟨by simp [h.len], ?_, ?_, ?_⟩
  · rw [Rm.encs_app, Rm.encs_one, List.append_assoc, ← enc_rootAt hx hl hb]; exact h.eq
  · intro r hr
    rcases List.mem_append.1 hr with h1 | h1
    · exact h.nm r h1
    · simp at h1; subst h1
      show ((l.drop 1).take x).length ≤ 24
      rw [List.length_take]; omega
  · intro r hr
    rcases List.mem_append.1 hr with h1 | h1
    · exact h.in32 r h1
    · simp at h1; subst h1
      have p := from4_lt hb (1 + x)
      have q := from4_lt hb (5 + x)
      unfold Rm.In32 rootAt
      simp only
      omega
theorem read_end {k : Nat} {b : List Nat} {L M : List Rm.R} {l t : List Nat} {j : Nat} (h : Rm.Read j b L l) (hM : Rm.Read k b M t) (hj : j < k) : ∃ x, l[0]? = some x ∧ x ≤ 24 := by
  obtain ⟨L2, h1, h2⟩ := Rm.encs_split L M l t h.in32 hM.in32 (by rw [← h.eq, ← hM.eq]) (by rw [h.len, hM.len]; omega)
  cases L2 with
  | nil => rw [List.append_nil] at h1; have a := hM.len; have b := h.len; rw [h1] at a; omega
  | cons s u =>
    refine ⟨s.name.length, ?_, hM.nm s (by rw [h1]; simp)⟩
    rw [h2]; rfl
theorem read_len {j : Nat} {b : List Nat} {L : List Rm.R} {l : List Nat} (h : Rm.Read j b L l) : b.length ≤ l.length + j * 33 := by
  have h1 := Rm.encs_len L h.nm
  have h2 : b.length = (Rm.encs L).length + l.length := by rw [h.eq]; simp
  rw [h.len] at h1
  omega
theorem in_rootAt {l : List Nat} {x : Nat} (hb : ∀ y ∈ l, y < 256) (h24 : x ≤ 24) : In (rootAt l x) := by
  refine ⟨fun y hy => hb y (List.mem_of_mem_drop (List.mem_of_mem_take hy)), ?_, ?_, ?_⟩
  · show ((l.drop 1).take x).length ≤ _
    rw [List.length_take]; omega
  · have p := from4_lt hb (1 + x)
    unfold I64 rootAt
    simp only
    omega
  · have q := from4_lt hb (5 + x)
    unfold I64 rootAt
    simp only
    omega
theorem _root_.Go.Proofs.Ytbhahihgojhcmaa.Bs.sub {w : World} {b off n c : Nat} {l : List Nat} (h : Bs w (some ⟨b, off, none⟩) n c l) (i k : Nat) (hk : i + k ≤ n) (hi : i < n) : Bs w (some ⟨b, off + i, none⟩) k (c - i) ((l.drop i).take k) := by
  have h1 := h.cut_far i hi
  exact h1.first k (by omega)
theorem pad4_four {l : List Nat} (h : l.length = 4) : pad4 l = l := by
  unfold pad4
  rw [h, List.take_of_length_le (by omega)]; simp
/-- What read answers. -/
def ReadSays (w : World) (k : Nat) (b : List Nat) (e : Ending) (w' : World) : Prop :=
  ∃ A1 m c1 A2 m2 c2 ok, e = .returned (.tuple #[.slice A1 m c1, .slice A2 m2 c2, .bool ok]) ∧ Below w.heap.size w w' ∧
    ((ok = false ∧ (12 < k ∨ ¬ ∃ L t, Rm.Read k b L t)) ∨ (ok = true ∧ k ≤ 12 ∧ ∃ L t, Rm.Read k b L t ∧ Rs w' A1 m c1 L ∧ Bs w' A2 m2 c2 t))

set_option maxRecDepth 100000 in
set_option maxHeartbeats 2000000 in
theorem read_any (w : World) (k : Nat) (hk8 : k < 256) (A : Option Addr) (c : Nat) (b : List Nat) (h : Bs w A 1011 c b) :
    Calls Try.prog 23 #[.int .i64 (k : Int), .slice A 1011 c] w fun e w' => ReadSays w k b e w' := by
  have H := Lib.hid h
  have hc0 := h.2.2.1
  have hc1 := h.2.1
  unfold maxLen at hc0
  have hbl := h.1
  clear h
  by_cases h12 : 12 < k
  · have h12' : (12 : Int) < (k : Int) := by omega
    go_enter Try.func23, Try.ntmps23
    go_wp2
    exact bodyPost_ret (v := .tuple #[.slice none 0 0, .slice none 0 0, .bool false]) (by simp [results, Try.results23, go_sem]) rfl ⟨none, 0, 0, none, 0, 0, false, rfl, Below.refl _ _, .inl ⟨rfl, .inl h12⟩⟩
  · have h12' : ¬ (12 : Int) < (k : Int) := by omega
    go_enter Try.func23, Try.ntmps23
    go_wp2_with fail
    go_loopw [1, 7, 14] (fun bv out i wr => ∃ (j : Nat) (L : List Rm.R) (l : List Nat) (A2 : Option Addr) (m2 c2 : Nat) (ov : Value), ov = out ∧ j ≤ k ∧ i = .int .i64 (j : Int) ∧ bv = .slice A2 m2 c2 ∧ Hid (Own w wr ov L) ∧ Hid (Bs w A2 m2 c2 l) ∧ Hid (Rm.Read j b L l)) (fun _ _ i _ => k - (intOf i).toNat)
    case atStart => exact ⟨0, [], b, A, 1011, c, _, rfl, Nat.zero_le _, rfl, rfl, ⟨own_none w _, Below.refl _ _, by simp⟩, H.out, ⟨rfl, rfl, by simp, by simp⟩⟩
    case round =>
      obtain ⟨j, L, l, A2, m2, c2, ov, rfl, hj, rfl, rfl, HO, HB, HR⟩ := hrel
      by_cases hlt : j < k
      · have hlen := read_len HR.out
        have hml := HB.out.1
        have hmc := HB.out.2.1
        have hcm := HB.out.2.2.1
        have hlb := HB.out.2.2.2.1
        unfold maxLen at hcm
        have hm : 600 ≤ m2 := by omega
        obtain ⟨bb, off, rfl⟩ := HB.out.some_ (by omega)
        obtain ⟨b', off', e0, hbb, hcell⟩ := HB.out.2.2.2.2 (by omega)
        injection e0 with e0
        injection e0 with e1 e2
        subst e1 e2
        obtain ⟨x, hx⟩ : ∃ x, l[0]? = some x := ⟨_, List.getElem?_eq_getElem (by omega)⟩
        have d0 : wr.cell? ⟨bb, off, none⟩ = some (.int .u8 (x : Int)) := (HO.out.bel.cell (p := ⟨bb, off, none⟩) hbb).trans (hcell 0 x hx)
        have hx8 := hlb x (List.mem_of_getElem? hx)
        have wx : IntKind.i64.wrap (x : Int) = (x : Int) := by rw [IntKind.wrap_i64]; omega
        obtain ⟨pa, hpa⟩ : ∃ pa, pa = 1 + x := ⟨_, rfl⟩
        have e1 : (1 : Int) + (x : Int) = (pa : Int) := by omega
        have wpa : IntKind.i64.wrap (pa : Int) = (pa : Int) := by rw [IntKind.wrap_i64]; omega
        have hm0 : (0 : Int) < (m2 : Int) := by omega
        have HX := Lib.hid hx
        have HPA := Lib.hid hpa
        clear hx hcell hpa hlen
        by_cases h25 : 25 < pa
        · have h25' : (25 : Int) < (pa : Int) := by omega
          have HN : Hid (¬ ∃ M t, Rm.Read k b M t) := fun ⟨M, t, hM⟩ => by
            obtain ⟨y, hy, hy24⟩ := read_end HR.out hM hlt
            rw [HX.out] at hy
            injection hy with hy
            have := HPA.out
            omega
          have HBEL := Lib.hid HO.out.bel
          go_wp2
          exact bodyPost_ret (v := .tuple #[.slice none 0 0, .slice none 0 0, .bool false]) (by simp [results, Try.results23, go_sem]) rfl ⟨none, 0, 0, none, 0, 0, false, rfl, HBEL.out, .inl ⟨rfl, .inr HN.out⟩⟩
        · have h25' : ¬ (25 : Int) < (pa : Int) := by omega
          have hx24 : x ≤ 24 := by have := HPA.out; omega
          obtain ⟨ca, hca⟩ : ∃ ca, ca = pa + 4 := ⟨_, rfl⟩
          obtain ⟨en, hen⟩ : ∃ en, en = ca + 4 := ⟨_, rfl⟩
          have e2 : (pa : Int) + 4 = (ca : Int) := by omega
          have e3 : (ca : Int) + 4 = (en : Int) := by omega
          have wca : IntKind.i64.wrap (ca : Int) = (ca : Int) := by rw [IntKind.wrap_i64]; omega
          have wen : IntKind.i64.wrap (en : Int) = (en : Int) := by rw [IntKind.wrap_i64]; omega
          have RN := Lib.hid (fun (W : World) (hW : Below w.heap.size w W) => (HB.out.on hW).sub 1 x (by omega) (by omega))
          have RP := Lib.hid (fun (W : World) (hW : Below w.heap.size w W) => (HB.out.on hW).sub (1 + x) 4 (by omega) (by omega))
          have RQ := Lib.hid (fun (W : World) (hW : Below w.heap.size w W) => (HB.out.on hW).sub (5 + x) 4 (by omega) (by omega))
          have HE := Lib.hid (fun (W : World) (hW : Below w.heap.size w W) => (HB.out.on hW).cut_far (9 + x) (by omega))
          have HRN := Lib.hid (read_next HR.out HX.out hx24 (by omega) hlb)
          have HIN := Lib.hid (in_rootAt hlb hx24)
          obtain ⟨P, hP⟩ : ∃ P : Nat, P = Nm.fromBe ((l.drop (1 + x)).take 4) := ⟨_, rfl⟩
          obtain ⟨Q, hQ⟩ : ∃ Q : Nat, Q = Nm.fromBe ((l.drop (5 + x)).take 4) := ⟨_, rfl⟩
          obtain ⟨N, hN⟩ : ∃ N : List Nat, N = (l.drop 1).take x := ⟨_, rfl⟩
          have hra : rootAt l x = ⟨N, (P : Int), (Q : Int)⟩ := by unfold rootAt; rw [hP, hQ, hN]
          have hP4 : P < 4294967296 := by rw [hP]; exact from4_lt hlb _
          have hQ4 : Q < 4294967296 := by rw [hQ]; exact from4_lt hlb _
          have hPp : Nm.fromBe (pad4 ((l.drop (1 + x)).take 4)) = P := by rw [pad4_four (by rw [List.length_take, List.length_drop]; omega), hP]
          have hQp : Nm.fromBe (pad4 ((l.drop (5 + x)).take 4)) = Q := by rw [pad4_four (by rw [List.length_take, List.length_drop]; omega), hQ]
          have hax : 1 + x = pa := HPA.out.symm
          have hac : 5 + x = ca := by omega
          have hae : 9 + x = en := by omega
          have hxp : x = pa - 1 := by omega
          rw [hra] at HRN HIN
          rw [← hN] at RN
          have wP : IntKind.i64.wrap (P : Int) = (P : Int) := by rw [IntKind.wrap_i64]; omega
          have wQ : IntKind.i64.wrap (Q : Int) = (Q : Int) := by rw [IntKind.wrap_i64]; omega
          have CP := Lib.hid (fun (W : World) (hW : Below w.heap.size w W) => get32_any W _ _ _ _ (RP.out W hW))
          have CQ := Lib.hid (fun (W : World) (hW : Below w.heap.size w W) => get32_any W _ _ _ _ (RQ.out W hW))
          rw [hPp] at CP
          rw [hQp] at CQ
          rw [hax] at CP
          rw [hac] at CQ
          rw [hae] at HE HRN
          rw [hxp] at RN
          have k0 : ¬ c2 = 1 := by omega
          have k1 : ¬ c2 = pa := by omega
          have k2 : ¬ c2 = ca := by omega
          have k3 : ¬ c2 = en := by omega
          have i1 : (1 : Int) ≤ (pa : Int) := by omega
          have i2 : (pa : Int) ≤ (ca : Int) := by omega
          have i3 : (ca : Int) ≤ (en : Int) := by omega
          have i4 : (en : Int) ≤ (c2 : Int) := by omega
          have i5 : (ca : Int) ≤ (c2 : Int) := by omega
          have i6 : (pa : Int) ≤ (c2 : Int) := by omega
          have i7 : (en : Int) ≤ (m2 : Int) := by omega
          have l1 : ca - pa = 4 := by omega
          have l2 : en - ca = 4 := by omega
          have HL := Lib.hid HR.out.len
          have hL12 : L.length ≤ 12 := by rw [HL.out]; omega
          clear hP hQ hN hra hPp hQp hax hac hae hca hen hxp RP RQ hml hlb
          go_wp2_with fail
          have BD := Lib.hid HO.out.bel.drew
          have OD : Hid (Own w wr.drew ov L) := ⟨HO.out.own, HO.out.bel.drew, HO.out.all⟩
          refine wp_region_noPanic ?_
          refine wp_region_held_drew (S := (fun _ : World => True)) (by kernel_rfl) (by exact trivial) (fun hHeld => ?_)
          generalize wr.drew = wd at *
          refine wpAnyH_take (i := 0) (oi := { dst := some 27, op := Go.Op.move (Go.Operand.tmp 7), type := 22, pos := "roots.go:133", after := #[], guard := none }) (v := ?_) rfl (by kernel_rfl) (by kernel_rfl) (by kernel_rfl) (fun _ _ _ h => h) (Or.inl ⟨by rfl, ?_⟩) (by assumption) ?_
          rotate_left
          · (intro w hSw; (try dsimp only at hSw); go_simp; try with_reducible rfl)
          try simp only [Act.put, List.setIfInBounds_toArray, List.set_cons_zero, List.set_cons_succ]
          refine wpAnyH_take (i := 1) (oi := { dst := some 28, op := Go.Op.move (Go.Operand.tmp 1), type := 23, pos := "roots.go:133", after := #[], guard := none }) (v := ?_) rfl (by kernel_rfl) (by kernel_rfl) (by kernel_rfl) (fun _ _ _ h => h) (Or.inl ⟨by rfl, ?_⟩) (by assumption) ?_
          rotate_left
          · (intro w hSw; (try dsimp only at hSw); go_simp; try with_reducible rfl)
          try simp only [Act.put, List.setIfInBounds_toArray, List.set_cons_zero, List.set_cons_succ]
          refine wpAnyH_take (i := 2) (oi := { dst := some 29, op := Go.Op.move (Go.Operand.tmp 8), type := 3, pos := "roots.go:133", after := #[], guard := none }) (v := ?_) rfl (by kernel_rfl) (by kernel_rfl) (by kernel_rfl) (fun _ _ _ h => h) (Or.inl ⟨by rfl, ?_⟩) (by assumption) ?_
          rotate_left
          · (intro w hSw; (try dsimp only at hSw); go_simp; try with_reducible rfl)
          try simp only [Act.put, List.setIfInBounds_toArray, List.set_cons_zero, List.set_cons_succ]
          refine wpAnyH_take (i := 3) (oi := { dst := some 30, op := Go.Op.slice 23 (Go.Operand.tmp 28) (some (Go.Operand.const (Go.Value.int Go.IntKind.i64 1))) (some (Go.Operand.tmp 29)) none, type := 23, pos := "roots.go:133", after := #[{ on := 1, ground := Go.Ground.data }, { on := 2, ground := Go.Ground.data }], guard := none }) (v := ?_) rfl (by kernel_rfl) (by kernel_rfl) (by kernel_rfl) (fun _ _ _ h => h) (Or.inl ⟨by rfl, ?_⟩) (by assumption) ?_
          rotate_left
          · (intro w hSw; (try dsimp only at hSw); go_simp; try with_reducible rfl)
          try simp only [Act.put, List.setIfInBounds_toArray, List.set_cons_zero, List.set_cons_succ]
          refine wpAnyH_take (i := 5) (oi := { dst := some 32, op := Go.Op.move (Go.Operand.tmp 1), type := 23, pos := "roots.go:133", after := #[], guard := none }) (v := ?_) rfl (by kernel_rfl) (by kernel_rfl) (by kernel_rfl) (fun _ _ _ h => h) (Or.inl ⟨by rfl, ?_⟩) (by assumption) ?_
          rotate_left
          · (intro w hSw; (try dsimp only at hSw); go_simp; try with_reducible rfl)
          try simp only [Act.put, List.setIfInBounds_toArray, List.set_cons_zero, List.set_cons_succ]
          refine wpAnyH_take (i := 6) (oi := { dst := some 33, op := Go.Op.move (Go.Operand.tmp 8), type := 3, pos := "roots.go:133", after := #[], guard := none }) (v := ?_) rfl (by kernel_rfl) (by kernel_rfl) (by kernel_rfl) (fun _ _ _ h => h) (Or.inl ⟨by rfl, ?_⟩) (by assumption) ?_
          rotate_left
          · (intro w hSw; (try dsimp only at hSw); go_simp; try with_reducible rfl)
          try simp only [Act.put, List.setIfInBounds_toArray, List.set_cons_zero, List.set_cons_succ]
          refine wpAnyH_take (i := 7) (oi := { dst := some 34, op := Go.Op.move (Go.Operand.tmp 9), type := 3, pos := "roots.go:133", after := #[], guard := none }) (v := ?_) rfl (by kernel_rfl) (by kernel_rfl) (by kernel_rfl) (fun _ _ _ h => h) (Or.inl ⟨by rfl, ?_⟩) (by assumption) ?_
          rotate_left
          · (intro w hSw; (try dsimp only at hSw); go_simp; try with_reducible rfl)
          try simp only [Act.put, List.setIfInBounds_toArray, List.set_cons_zero, List.set_cons_succ]
          refine wpAnyH_take (i := 8) (oi := { dst := some 35, op := Go.Op.slice 23 (Go.Operand.tmp 32) (some (Go.Operand.tmp 33)) (some (Go.Operand.tmp 34)) none, type := 23, pos := "roots.go:133", after := #[{ on := 5, ground := Go.Ground.data }, { on := 6, ground := Go.Ground.data }, { on := 7, ground := Go.Ground.data }], guard := none }) (v := ?_) rfl (by kernel_rfl) (by kernel_rfl) (by kernel_rfl) (fun _ _ _ h => h) (Or.inl ⟨by rfl, ?_⟩) (by assumption) ?_
          rotate_left
          · (intro w hSw; (try dsimp only at hSw); go_simp; try with_reducible rfl)
          try simp only [Act.put, List.setIfInBounds_toArray, List.set_cons_zero, List.set_cons_succ]
          refine wpAnyH_take (i := 11) (oi := { dst := some 38, op := Go.Op.move (Go.Operand.tmp 1), type := 23, pos := "roots.go:133", after := #[], guard := none }) (v := ?_) rfl (by kernel_rfl) (by kernel_rfl) (by kernel_rfl) (fun _ _ _ h => h) (Or.inl ⟨by rfl, ?_⟩) (by assumption) ?_
          rotate_left
          · (intro w hSw; (try dsimp only at hSw); go_simp; try with_reducible rfl)
          try simp only [Act.put, List.setIfInBounds_toArray, List.set_cons_zero, List.set_cons_succ]
          refine wpAnyH_take (i := 12) (oi := { dst := some 39, op := Go.Op.move (Go.Operand.tmp 9), type := 3, pos := "roots.go:133", after := #[], guard := none }) (v := ?_) rfl (by kernel_rfl) (by kernel_rfl) (by kernel_rfl) (fun _ _ _ h => h) (Or.inl ⟨by rfl, ?_⟩) (by assumption) ?_
          rotate_left
          · (intro w hSw; (try dsimp only at hSw); go_simp; try with_reducible rfl)
          try simp only [Act.put, List.setIfInBounds_toArray, List.set_cons_zero, List.set_cons_succ]
          refine wpAnyH_take (i := 13) (oi := { dst := some 40, op := Go.Op.move (Go.Operand.tmp 10), type := 3, pos := "roots.go:133", after := #[], guard := none }) (v := ?_) rfl (by kernel_rfl) (by kernel_rfl) (by kernel_rfl) (fun _ _ _ h => h) (Or.inl ⟨by rfl, ?_⟩) (by assumption) ?_
          rotate_left
          · (intro w hSw; (try dsimp only at hSw); go_simp; try with_reducible rfl)
          try simp only [Act.put, List.setIfInBounds_toArray, List.set_cons_zero, List.set_cons_succ]
          refine wpAnyH_take (i := 14) (oi := { dst := some 41, op := Go.Op.slice 23 (Go.Operand.tmp 38) (some (Go.Operand.tmp 39)) (some (Go.Operand.tmp 40)) none, type := 23, pos := "roots.go:133", after := #[{ on := 11, ground := Go.Ground.data }, { on := 12, ground := Go.Ground.data }, { on := 13, ground := Go.Ground.data }], guard := none }) (v := ?_) rfl (by kernel_rfl) (by kernel_rfl) (by kernel_rfl) (fun _ _ _ h => h) (Or.inl ⟨by rfl, ?_⟩) (by assumption) ?_
          rotate_left
          · (intro w hSw; (try dsimp only at hSw); go_simp; try with_reducible rfl)
          try simp only [Act.put, List.setIfInBounds_toArray, List.set_cons_zero, List.set_cons_succ]
          have hct := (RN.out wd BD.out).text (P := Try.prog) 23 9 5 Try.underlying23 Try.underlying5 Try.underlying9
          refine wpAnyH_ready (rs := [4, 9]) (by kernel_rfl) (by simp) ?_
          refine AllReadyH.cons (o := { dst := some 31, op := Go.Op.convert 23 9 (Go.Operand.tmp 30), type := 9, pos := "roots.go:133", after := #[{ on := 3, ground := Go.Ground.data }], guard := none }) rfl (fun K hK => ?_) (AllReadyH.cons (o := { dst := some 36, op := Go.Op.call { callee := Go.Callee.value (Go.Operand.func 35), args := #[Go.Operand.tmp 35], argTypes := #[23] }, type := 42, pos := "roots.go:135", after := #[{ on := 8, ground := Go.Ground.data }], guard := none }) rfl (fun K hK => ?_) AllReadyH.nil)
          · skip
            go_simp
            refine hK.out _ _ (by exact trivial) (fun hHeld => ?_)
            clear hK K
            try simp only [Act.put, List.setIfInBounds_toArray, List.set_cons_zero, List.set_cons_succ]
            refine wpAnyH_ready (rs := [9]) (by kernel_rfl) (by simp) ?_
            refine AllReadyH.cons (o := { dst := some 36, op := Go.Op.call { callee := Go.Callee.value (Go.Operand.func 35), args := #[Go.Operand.tmp 35], argTypes := #[23] }, type := 42, pos := "roots.go:135", after := #[{ on := 8, ground := Go.Ground.data }], guard := none }) rfl (fun K hK => ?_) AllReadyH.nil
            go_simp
            refine (CP.out wd BD.out).mono ?_
            rintro e w9 ⟨rfl, b9⟩
            have B9 := Lib.hid (onto BD.out b9)
            have O9 := Lib.hid (OD.out.on b9)
            clear b9
            refine hK.out _ _ (by exact trivial) (fun hHeld => ?_)
            clear hK K
            try simp only [Act.put, List.setIfInBounds_toArray, List.set_cons_zero, List.set_cons_succ]
            refine wpAnyH_take (i := 10) (oi := { dst := some 37, op := Go.Op.convert 42 3 (Go.Operand.tmp 36), type := 3, pos := "roots.go:133", after := #[{ on := 9, ground := Go.Ground.data }], guard := none }) (v := ?_) rfl (by kernel_rfl) (by kernel_rfl) (by kernel_rfl) (fun _ _ _ h => h) (Or.inl ⟨by rfl, ?_⟩) (by assumption) ?_
            rotate_left
            · (intro w hSw; (try dsimp only at hSw); go_simp; try with_reducible rfl)
            try simp only [Act.put, List.setIfInBounds_toArray, List.set_cons_zero, List.set_cons_succ]
            refine wpAnyH_ready (rs := [15]) (by kernel_rfl) (by simp) ?_
            refine AllReadyH.cons (o := { dst := some 42, op := Go.Op.call { callee := Go.Callee.value (Go.Operand.func 35), args := #[Go.Operand.tmp 41], argTypes := #[23] }, type := 42, pos := "roots.go:136", after := #[{ on := 14, ground := Go.Ground.data }, { on := 9, ground := Go.Ground.chain }], guard := none }) rfl (fun K hK => ?_) AllReadyH.nil
            go_simp
            refine (CQ.out w9 B9.out).mono ?_
            rintro e w15 ⟨rfl, b15⟩
            have B15 := Lib.hid (onto B9.out b15)
            have O15 := Lib.hid (O9.out.on b15)
            clear b15
            refine hK.out _ _ (by exact trivial) (fun hHeld => ?_)
            clear hK K
            try simp only [Act.put, List.setIfInBounds_toArray, List.set_cons_zero, List.set_cons_succ]
            refine wpAnyH_take (i := 16) (oi := { dst := some 43, op := Go.Op.convert 42 3 (Go.Operand.tmp 42), type := 3, pos := "roots.go:133", after := #[{ on := 15, ground := Go.Ground.data }], guard := none }) (v := ?_) rfl (by kernel_rfl) (by kernel_rfl) (by kernel_rfl) (fun _ _ _ h => h) (Or.inl ⟨by rfl, ?_⟩) (by assumption) ?_
            rotate_left
            · (intro w hSw; (try dsimp only at hSw); go_simp; try with_reducible rfl)
            try simp only [Act.put, List.setIfInBounds_toArray, List.set_cons_zero, List.set_cons_succ]
            refine wpAnyH_take (i := 17) (oi := { dst := some 44, op := Go.Op.build 34 #[(0, Go.Operand.tmp 31), (1, Go.Operand.tmp 37), (2, Go.Operand.tmp 43)], type := 34, pos := "roots.go:133", after := #[{ on := 4, ground := Go.Ground.data }, { on := 10, ground := Go.Ground.data }, { on := 16, ground := Go.Ground.data }], guard := none }) (v := ?_) rfl (by kernel_rfl) (by kernel_rfl) (by kernel_rfl) (fun _ _ _ h => h) (Or.inl ⟨by rfl, ?_⟩) (by assumption) ?_
            rotate_left
            · (intro w hSw; (try dsimp only at hSw); go_simp; try with_reducible rfl)
            try simp only [Act.put, List.setIfInBounds_toArray, List.set_cons_zero, List.set_cons_succ]
            refine wpAnyH_ready (rs := [18]) (by kernel_rfl) (by simp) ?_
            refine AllReadyH.cons (o := { dst := some 45, op := Go.Op.buildSlice 22 1 #[(0, Go.Operand.tmp 44)], type := 22, pos := "roots.go:133", after := #[{ on := 17, ground := Go.Ground.data }], guard := none }) rfl (fun K hK => ?_) AllReadyH.nil
            go_simp
            have RL := rs_new w15 ⟨N, (P : Int), (Q : Int)⟩ HIN.out
            have OL := O15.out.on ((Below.refl _ w15).alloc (Nat.le_refl _) (.cells #[.string (txt N), .int .i64 (P : Int), .int .i64 (Q : Int)] 34))
            simp only at RL
            generalize w15.alloc (.cells #[.string (txt N), .int .i64 (P : Int), .int .i64 (Q : Int)] 34) = wL at *
            refine hK.out _ _ (by exact trivial) (fun hHeld => ?_)
            clear hK K
            try simp only [Act.put, List.setIfInBounds_toArray, List.set_cons_zero, List.set_cons_succ]
            refine wpAnyH_ready (rs := [19]) (by kernel_rfl) (by simp) ?_
            refine AllReadyH.cons (o := { dst := some 46, op := Go.Op.call { callee := Go.Callee.builtin Go.Builtin.append, args := #[Go.Operand.tmp 27, Go.Operand.tmp 45], argTypes := #[22, 22] }, type := 22, pos := "roots.go:133", after := #[{ on := 0, ground := Go.Ground.data }, { on := 18, ground := Go.Ground.data }, { on := 15, ground := Go.Ground.chain }], guard := none }) rfl (fun K hK => ?_) AllReadyH.nil
            refine step_append_run rfl (.tmp 27) (.tmp 45) 22 22 rfl _ _ (by rfl) (by rfl) _ (run_append_rs wL w.heap.size _ _ L OL.own _ 1 1 [⟨N, (P : Int), (Q : Int)⟩] RL (by omega) OL.bel.size) ?_
            rintro v19 w19 ⟨O19, G19⟩
            have HO19 : Hid (Own w w19 v19 (L ++ [⟨N, (P : Int), (Q : Int)⟩])) := ⟨O19, below_own OL.bel OL.own G19 OL.bel.size (Nat.le_refl _), fun y hy => by rcases List.mem_append.1 hy with h1 | h1; exact OL.all y h1; simp at h1; subst h1; exact HIN.out⟩
            clear O19 G19 OL RL
            refine hK.out _ _ (by exact trivial) (fun hHeld => ?_)
            clear hK K
            try simp only [Act.put, List.setIfInBounds_toArray, List.set_cons_zero, List.set_cons_succ]
            refine wpAnyH_take (i := 20) (oi := { dst := some 7, op := Go.Op.assign (Go.Operand.tmp 46), type := 22, pos := "roots.go:133", after := #[{ on := 19, ground := Go.Ground.data }, { on := 19, ground := Go.Ground.chain }, { on := 0, ground := Go.Ground.phase }, { on := 1, ground := Go.Ground.phase }, { on := 2, ground := Go.Ground.phase }, { on := 3, ground := Go.Ground.phase }, { on := 4, ground := Go.Ground.phase }, { on := 5, ground := Go.Ground.phase }, { on := 6, ground := Go.Ground.phase }, { on := 7, ground := Go.Ground.phase }, { on := 8, ground := Go.Ground.phase }, { on := 9, ground := Go.Ground.phase }, { on := 10, ground := Go.Ground.phase }, { on := 11, ground := Go.Ground.phase }, { on := 12, ground := Go.Ground.phase }, { on := 13, ground := Go.Ground.phase }, { on := 14, ground := Go.Ground.phase }, { on := 15, ground := Go.Ground.phase }, { on := 16, ground := Go.Ground.phase }, { on := 17, ground := Go.Ground.phase }, { on := 18, ground := Go.Ground.phase }, { on := 19, ground := Go.Ground.phase }], guard := none }) (v := ?_) rfl (by kernel_rfl) (by kernel_rfl) (by kernel_rfl) (fun _ _ _ h => h) (Or.inl ⟨by rfl, ?_⟩) (by assumption) ?_
            rotate_left
            · (intro w hSw; (try dsimp only at hSw); go_simp; try with_reducible rfl)
            try simp only [Act.put, List.setIfInBounds_toArray, List.set_cons_zero, List.set_cons_succ]
            refine wpAnyH_done (by kernel_rfl) ?_ _
            refine NoPanic.normal ?_
            have HE2 := Lib.hid (HE.out w (Below.refl _ _))
            go_wp2
            go_roundw
            case rel => exact ⟨j + 1, _, _, _, _, _, _, rfl, by omega, by go_num, rfl, HO19, HE2, HRN⟩
            case measure => simp [intOf]; omega
          · skip
            clear hct
            go_simp
            refine (CP.out wd BD.out).mono ?_
            rintro e w9 ⟨rfl, b9⟩
            have B9 := Lib.hid (onto BD.out b9)
            have O9 := Lib.hid (OD.out.on b9)
            clear b9
            refine hK.out _ _ (by exact trivial) (fun hHeld => ?_)
            clear hK K
            try simp only [Act.put, List.setIfInBounds_toArray, List.set_cons_zero, List.set_cons_succ]
            refine wpAnyH_take (i := 10) (oi := { dst := some 37, op := Go.Op.convert 42 3 (Go.Operand.tmp 36), type := 3, pos := "roots.go:133", after := #[{ on := 9, ground := Go.Ground.data }], guard := none }) (v := ?_) rfl (by kernel_rfl) (by kernel_rfl) (by kernel_rfl) (fun _ _ _ h => h) (Or.inl ⟨by rfl, ?_⟩) (by assumption) ?_
            rotate_left
            · (intro w hSw; (try dsimp only at hSw); go_simp; try with_reducible rfl)
            try simp only [Act.put, List.setIfInBounds_toArray, List.set_cons_zero, List.set_cons_succ]
            have hct := (RN.out w9 B9.out).text (P := Try.prog) 23 9 5 Try.underlying23 Try.underlying5 Try.underlying9
            refine wpAnyH_ready (rs := [4, 15]) (by kernel_rfl) (by simp) ?_
            refine AllReadyH.cons (o := { dst := some 31, op := Go.Op.convert 23 9 (Go.Operand.tmp 30), type := 9, pos := "roots.go:133", after := #[{ on := 3, ground := Go.Ground.data }], guard := none }) rfl (fun K hK => ?_) (AllReadyH.cons (o := { dst := some 42, op := Go.Op.call { callee := Go.Callee.value (Go.Operand.func 35), args := #[Go.Operand.tmp 41], argTypes := #[23] }, type := 42, pos := "roots.go:136", after := #[{ on := 14, ground := Go.Ground.data }, { on := 9, ground := Go.Ground.chain }], guard := none }) rfl (fun K hK => ?_) AllReadyH.nil)
            · skip
              go_simp
              refine hK.out _ _ (by exact trivial) (fun hHeld => ?_)
              clear hK K
              try simp only [Act.put, List.setIfInBounds_toArray, List.set_cons_zero, List.set_cons_succ]
              refine wpAnyH_ready (rs := [15]) (by kernel_rfl) (by simp) ?_
              refine AllReadyH.cons (o := { dst := some 42, op := Go.Op.call { callee := Go.Callee.value (Go.Operand.func 35), args := #[Go.Operand.tmp 41], argTypes := #[23] }, type := 42, pos := "roots.go:136", after := #[{ on := 14, ground := Go.Ground.data }, { on := 9, ground := Go.Ground.chain }], guard := none }) rfl (fun K hK => ?_) AllReadyH.nil
              go_simp
              refine (CQ.out w9 B9.out).mono ?_
              rintro e w15 ⟨rfl, b15⟩
              have B15 := Lib.hid (onto B9.out b15)
              have O15 := Lib.hid (O9.out.on b15)
              clear b15
              refine hK.out _ _ (by exact trivial) (fun hHeld => ?_)
              clear hK K
              try simp only [Act.put, List.setIfInBounds_toArray, List.set_cons_zero, List.set_cons_succ]
              refine wpAnyH_take (i := 16) (oi := { dst := some 43, op := Go.Op.convert 42 3 (Go.Operand.tmp 42), type := 3, pos := "roots.go:133", after := #[{ on := 15, ground := Go.Ground.data }], guard := none }) (v := ?_) rfl (by kernel_rfl) (by kernel_rfl) (by kernel_rfl) (fun _ _ _ h => h) (Or.inl ⟨by rfl, ?_⟩) (by assumption) ?_
              rotate_left
              · (intro w hSw; (try dsimp only at hSw); go_simp; try with_reducible rfl)
              try simp only [Act.put, List.setIfInBounds_toArray, List.set_cons_zero, List.set_cons_succ]
              refine wpAnyH_take (i := 17) (oi := { dst := some 44, op := Go.Op.build 34 #[(0, Go.Operand.tmp 31), (1, Go.Operand.tmp 37), (2, Go.Operand.tmp 43)], type := 34, pos := "roots.go:133", after := #[{ on := 4, ground := Go.Ground.data }, { on := 10, ground := Go.Ground.data }, { on := 16, ground := Go.Ground.data }], guard := none }) (v := ?_) rfl (by kernel_rfl) (by kernel_rfl) (by kernel_rfl) (fun _ _ _ h => h) (Or.inl ⟨by rfl, ?_⟩) (by assumption) ?_
              rotate_left
              · (intro w hSw; (try dsimp only at hSw); go_simp; try with_reducible rfl)
              try simp only [Act.put, List.setIfInBounds_toArray, List.set_cons_zero, List.set_cons_succ]
              refine wpAnyH_ready (rs := [18]) (by kernel_rfl) (by simp) ?_
              refine AllReadyH.cons (o := { dst := some 45, op := Go.Op.buildSlice 22 1 #[(0, Go.Operand.tmp 44)], type := 22, pos := "roots.go:133", after := #[{ on := 17, ground := Go.Ground.data }], guard := none }) rfl (fun K hK => ?_) AllReadyH.nil
              go_simp
              have RL := rs_new w15 ⟨N, (P : Int), (Q : Int)⟩ HIN.out
              have OL := O15.out.on ((Below.refl _ w15).alloc (Nat.le_refl _) (.cells #[.string (txt N), .int .i64 (P : Int), .int .i64 (Q : Int)] 34))
              simp only at RL
              generalize w15.alloc (.cells #[.string (txt N), .int .i64 (P : Int), .int .i64 (Q : Int)] 34) = wL at *
              refine hK.out _ _ (by exact trivial) (fun hHeld => ?_)
              clear hK K
              try simp only [Act.put, List.setIfInBounds_toArray, List.set_cons_zero, List.set_cons_succ]
              refine wpAnyH_ready (rs := [19]) (by kernel_rfl) (by simp) ?_
              refine AllReadyH.cons (o := { dst := some 46, op := Go.Op.call { callee := Go.Callee.builtin Go.Builtin.append, args := #[Go.Operand.tmp 27, Go.Operand.tmp 45], argTypes := #[22, 22] }, type := 22, pos := "roots.go:133", after := #[{ on := 0, ground := Go.Ground.data }, { on := 18, ground := Go.Ground.data }, { on := 15, ground := Go.Ground.chain }], guard := none }) rfl (fun K hK => ?_) AllReadyH.nil
              refine step_append_run rfl (.tmp 27) (.tmp 45) 22 22 rfl _ _ (by rfl) (by rfl) _ (run_append_rs wL w.heap.size _ _ L OL.own _ 1 1 [⟨N, (P : Int), (Q : Int)⟩] RL (by omega) OL.bel.size) ?_
              rintro v19 w19 ⟨O19, G19⟩
              have HO19 : Hid (Own w w19 v19 (L ++ [⟨N, (P : Int), (Q : Int)⟩])) := ⟨O19, below_own OL.bel OL.own G19 OL.bel.size (Nat.le_refl _), fun y hy => by rcases List.mem_append.1 hy with h1 | h1; exact OL.all y h1; simp at h1; subst h1; exact HIN.out⟩
              clear O19 G19 OL RL
              refine hK.out _ _ (by exact trivial) (fun hHeld => ?_)
              clear hK K
              try simp only [Act.put, List.setIfInBounds_toArray, List.set_cons_zero, List.set_cons_succ]
              refine wpAnyH_take (i := 20) (oi := { dst := some 7, op := Go.Op.assign (Go.Operand.tmp 46), type := 22, pos := "roots.go:133", after := #[{ on := 19, ground := Go.Ground.data }, { on := 19, ground := Go.Ground.chain }, { on := 0, ground := Go.Ground.phase }, { on := 1, ground := Go.Ground.phase }, { on := 2, ground := Go.Ground.phase }, { on := 3, ground := Go.Ground.phase }, { on := 4, ground := Go.Ground.phase }, { on := 5, ground := Go.Ground.phase }, { on := 6, ground := Go.Ground.phase }, { on := 7, ground := Go.Ground.phase }, { on := 8, ground := Go.Ground.phase }, { on := 9, ground := Go.Ground.phase }, { on := 10, ground := Go.Ground.phase }, { on := 11, ground := Go.Ground.phase }, { on := 12, ground := Go.Ground.phase }, { on := 13, ground := Go.Ground.phase }, { on := 14, ground := Go.Ground.phase }, { on := 15, ground := Go.Ground.phase }, { on := 16, ground := Go.Ground.phase }, { on := 17, ground := Go.Ground.phase }, { on := 18, ground := Go.Ground.phase }, { on := 19, ground := Go.Ground.phase }], guard := none }) (v := ?_) rfl (by kernel_rfl) (by kernel_rfl) (by kernel_rfl) (fun _ _ _ h => h) (Or.inl ⟨by rfl, ?_⟩) (by assumption) ?_
              rotate_left
              · (intro w hSw; (try dsimp only at hSw); go_simp; try with_reducible rfl)
              try simp only [Act.put, List.setIfInBounds_toArray, List.set_cons_zero, List.set_cons_succ]
              refine wpAnyH_done (by kernel_rfl) ?_ _
              refine NoPanic.normal ?_
              have HE2 := Lib.hid (HE.out w (Below.refl _ _))
              go_wp2
              go_roundw
              case rel => exact ⟨j + 1, _, _, _, _, _, _, rfl, by omega, by go_num, rfl, HO19, HE2, HRN⟩
              case measure => simp [intOf]; omega
            · skip
              clear hct
              go_simp
              refine (CQ.out w9 B9.out).mono ?_
              rintro e w15 ⟨rfl, b15⟩
              have B15 := Lib.hid (onto B9.out b15)
              have O15 := Lib.hid (O9.out.on b15)
              clear b15
              refine hK.out _ _ (by exact trivial) (fun hHeld => ?_)
              clear hK K
              try simp only [Act.put, List.setIfInBounds_toArray, List.set_cons_zero, List.set_cons_succ]
              refine wpAnyH_take (i := 16) (oi := { dst := some 43, op := Go.Op.convert 42 3 (Go.Operand.tmp 42), type := 3, pos := "roots.go:133", after := #[{ on := 15, ground := Go.Ground.data }], guard := none }) (v := ?_) rfl (by kernel_rfl) (by kernel_rfl) (by kernel_rfl) (fun _ _ _ h => h) (Or.inl ⟨by rfl, ?_⟩) (by assumption) ?_
              rotate_left
              · (intro w hSw; (try dsimp only at hSw); go_simp; try with_reducible rfl)
              try simp only [Act.put, List.setIfInBounds_toArray, List.set_cons_zero, List.set_cons_succ]
              have hct := (RN.out w15 B15.out).text (P := Try.prog) 23 9 5 Try.underlying23 Try.underlying5 Try.underlying9
              refine wpAnyH_ready (rs := [4]) (by kernel_rfl) (by simp) ?_
              refine AllReadyH.cons (o := { dst := some 31, op := Go.Op.convert 23 9 (Go.Operand.tmp 30), type := 9, pos := "roots.go:133", after := #[{ on := 3, ground := Go.Ground.data }], guard := none }) rfl (fun K hK => ?_) AllReadyH.nil
              go_simp
              refine hK.out _ _ (by exact trivial) (fun hHeld => ?_)
              clear hK K
              try simp only [Act.put, List.setIfInBounds_toArray, List.set_cons_zero, List.set_cons_succ]
              refine wpAnyH_take (i := 17) (oi := { dst := some 44, op := Go.Op.build 34 #[(0, Go.Operand.tmp 31), (1, Go.Operand.tmp 37), (2, Go.Operand.tmp 43)], type := 34, pos := "roots.go:133", after := #[{ on := 4, ground := Go.Ground.data }, { on := 10, ground := Go.Ground.data }, { on := 16, ground := Go.Ground.data }], guard := none }) (v := ?_) rfl (by kernel_rfl) (by kernel_rfl) (by kernel_rfl) (fun _ _ _ h => h) (Or.inl ⟨by rfl, ?_⟩) (by assumption) ?_
              rotate_left
              · (intro w hSw; (try dsimp only at hSw); go_simp; try with_reducible rfl)
              try simp only [Act.put, List.setIfInBounds_toArray, List.set_cons_zero, List.set_cons_succ]
              refine wpAnyH_ready (rs := [18]) (by kernel_rfl) (by simp) ?_
              refine AllReadyH.cons (o := { dst := some 45, op := Go.Op.buildSlice 22 1 #[(0, Go.Operand.tmp 44)], type := 22, pos := "roots.go:133", after := #[{ on := 17, ground := Go.Ground.data }], guard := none }) rfl (fun K hK => ?_) AllReadyH.nil
              go_simp
              have RL := rs_new w15 ⟨N, (P : Int), (Q : Int)⟩ HIN.out
              have OL := O15.out.on ((Below.refl _ w15).alloc (Nat.le_refl _) (.cells #[.string (txt N), .int .i64 (P : Int), .int .i64 (Q : Int)] 34))
              simp only at RL
              generalize w15.alloc (.cells #[.string (txt N), .int .i64 (P : Int), .int .i64 (Q : Int)] 34) = wL at *
              refine hK.out _ _ (by exact trivial) (fun hHeld => ?_)
              clear hK K
              try simp only [Act.put, List.setIfInBounds_toArray, List.set_cons_zero, List.set_cons_succ]
              refine wpAnyH_ready (rs := [19]) (by kernel_rfl) (by simp) ?_
              refine AllReadyH.cons (o := { dst := some 46, op := Go.Op.call { callee := Go.Callee.builtin Go.Builtin.append, args := #[Go.Operand.tmp 27, Go.Operand.tmp 45], argTypes := #[22, 22] }, type := 22, pos := "roots.go:133", after := #[{ on := 0, ground := Go.Ground.data }, { on := 18, ground := Go.Ground.data }, { on := 15, ground := Go.Ground.chain }], guard := none }) rfl (fun K hK => ?_) AllReadyH.nil
              refine step_append_run rfl (.tmp 27) (.tmp 45) 22 22 rfl _ _ (by rfl) (by rfl) _ (run_append_rs wL w.heap.size _ _ L OL.own _ 1 1 [⟨N, (P : Int), (Q : Int)⟩] RL (by omega) OL.bel.size) ?_
              rintro v19 w19 ⟨O19, G19⟩
              have HO19 : Hid (Own w w19 v19 (L ++ [⟨N, (P : Int), (Q : Int)⟩])) := ⟨O19, below_own OL.bel OL.own G19 OL.bel.size (Nat.le_refl _), fun y hy => by rcases List.mem_append.1 hy with h1 | h1; exact OL.all y h1; simp at h1; subst h1; exact HIN.out⟩
              clear O19 G19 OL RL
              refine hK.out _ _ (by exact trivial) (fun hHeld => ?_)
              clear hK K
              try simp only [Act.put, List.setIfInBounds_toArray, List.set_cons_zero, List.set_cons_succ]
              refine wpAnyH_take (i := 20) (oi := { dst := some 7, op := Go.Op.assign (Go.Operand.tmp 46), type := 22, pos := "roots.go:133", after := #[{ on := 19, ground := Go.Ground.data }, { on := 19, ground := Go.Ground.chain }, { on := 0, ground := Go.Ground.phase }, { on := 1, ground := Go.Ground.phase }, { on := 2, ground := Go.Ground.phase }, { on := 3, ground := Go.Ground.phase }, { on := 4, ground := Go.Ground.phase }, { on := 5, ground := Go.Ground.phase }, { on := 6, ground := Go.Ground.phase }, { on := 7, ground := Go.Ground.phase }, { on := 8, ground := Go.Ground.phase }, { on := 9, ground := Go.Ground.phase }, { on := 10, ground := Go.Ground.phase }, { on := 11, ground := Go.Ground.phase }, { on := 12, ground := Go.Ground.phase }, { on := 13, ground := Go.Ground.phase }, { on := 14, ground := Go.Ground.phase }, { on := 15, ground := Go.Ground.phase }, { on := 16, ground := Go.Ground.phase }, { on := 17, ground := Go.Ground.phase }, { on := 18, ground := Go.Ground.phase }, { on := 19, ground := Go.Ground.phase }], guard := none }) (v := ?_) rfl (by kernel_rfl) (by kernel_rfl) (by kernel_rfl) (fun _ _ _ h => h) (Or.inl ⟨by rfl, ?_⟩) (by assumption) ?_
              rotate_left
              · (intro w hSw; (try dsimp only at hSw); go_simp; try with_reducible rfl)
              try simp only [Act.put, List.setIfInBounds_toArray, List.set_cons_zero, List.set_cons_succ]
              refine wpAnyH_done (by kernel_rfl) ?_ _
              refine NoPanic.normal ?_
              have HE2 := Lib.hid (HE.out w (Below.refl _ _))
              go_wp2
              go_roundw
              case rel => exact ⟨j + 1, _, _, _, _, _, _, rfl, by omega, by go_num, rfl, HO19, HE2, HRN⟩
              case measure => simp [intOf]; omega
      · have hjk : j = k := by omega
        subst hjk
        have hO := HO.out
        have hin := hO.all
        obtain ⟨A1, c1, rfl, R1⟩ := rs_own hO.own hO.all
        have HR1 := Lib.hid R1
        clear hO hin R1
        go_wp2_with fail
        exact bodyPost_ret (v := .tuple #[.slice A1 L.length c1, .slice A2 m2 c2, .bool true]) (by simp [results, Try.results23, go_sem]) rfl ⟨A1, L.length, c1, A2, m2, c2, true, rfl, HO.out.bel, .inr ⟨rfl, by omega, L, l, HR.out, HR1.out, HB.out.on HO.out.bel⟩⟩

end Go.Proofs.Ytbhahihgojhcmaa.Rt
