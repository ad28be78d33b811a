/-
  Without: the program's, the document's.
-/
import Derived.Test.YtbhahihgojhcmaaRtMay
import Derived.Test.YtbhahihgojhcmaaRtRow
namespace Go.Proofs.Ytbhahihgojhcmaa.Rt
open Go.RowKit
set_option linter.unusedVariables false

theorem neq_names {a b : List Nat} (ha : ∀ x ∈ a, x < 256) (hb : ∀ x ∈ b, x < 256) : (!((txt a).toList == (txt b).toList)) = !decide (a = b) := by rw [txt_eq ha hb]
theorem without_yes {r : Rm.R} {t : List Rm.R} {nm : List Nat} (h : r.name ≠ nm) : Rm.without (r :: t) nm = r :: Rm.without t nm := by simp [Rm.without, h]
theorem without_no {r : Rm.R} {t : List Rm.R} {nm : List Nat} (h : r.name = nm) : Rm.without (r :: t) nm = Rm.without t nm := by simp [Rm.without, h]
theorem own_none (w : World) (base : Nat) : w.ownsRow base 34 3 (.slice none 0 0) ([] : List Rm.R).length (rcs []) := World.ownsRow_nil w base _ _
/-- A row of the call's own, its length within reach, in a later world with one root beside. -/
structure Own (w0 w : World) (v : Value) (xs : List Rm.R) : Prop where
  own : w.ownsRow w0.heap.size 34 3 v xs.length (rcs xs)
  bel : Below w0.heap.size w0 w
  all : ∀ x ∈ xs, In x

set_option maxRecDepth 100000 in
set_option maxHeartbeats 2000000 in
theorem without_any (w : World) (A : Option Addr) (n c : Nat) (L : List Rm.R) (nm : List Nat) (h : Rs w A n c L) (hn : ∀ z ∈ nm, z < 256) (hm : n ≤ 1000) :
    Calls Try.prog 20 #[.slice A n c, .string (txt nm)] w fun e w' => ∃ v, e = .returned v ∧ Own w w' v (Rm.without L nm) := by
  have H := Lib.hid h
  have hl := h.1
  have hcm := h.2.2.1
  have hnc := h.2.1
  unfold maxLen at hcm
  clear h
  obtain ⟨M, hM⟩ : ∃ M, Rm.without L nm = M := ⟨_, rfl⟩
  have HM := Lib.hid hM
  rw [hM]
  clear hM
  go_enter Try.func20, Try.ntmps20
  go_wp2_with fail
  go_loopw [5, 10] (fun out i wr => ∃ (k : Nat) (xs : List Rm.R) (ov : Value), ov = out ∧ k ≤ n ∧ i = .int .i64 (k : Int) ∧ xs.length ≤ k ∧ Hid (M = xs ++ Rm.without (L.drop k) nm) ∧ Hid (Own w wr out xs)) (fun _ i _ => n - (intOf i).toNat)
  case atStart => exact ⟨0, [], _, rfl, Nat.zero_le _, rfl, Nat.le_refl _, by show _ = _; rw [← HM.out]; rfl, ⟨own_none w _, Below.refl _ _, by simp⟩⟩
  case round =>
    obtain ⟨k, xs, ov, rfl, hk, rfl, hxl, HX, HO⟩ := hrel
    by_cases hlt : k < n
    · obtain ⟨bb, off, x, rfl, hbb, hx, hin, c0, c1, c2⟩ := (H.out.on HO.out.bel).get hlt
      have hX := HX.out
      rw [drop_at hx] at hX
      have hE := neq_names hin.nm hn
      have HIN := Lib.hid hin
      have hws := HO.out.bel.size
      have g0 := HO.out.own
      have Q := Lib.hid (Rb.new wr x)
      have HB1 := Lib.hid (HO.out.bel.alloc hws (.cells #[.string (txt x.name), .int .i64 x.page, .int .i64 x.count] 34))
      obtain ⟨d0, d1, d2⟩ := Q.out.at_
      have g1 := Lib.hid (own_on3 g0 ((Below.refl _ wr).alloc (Nat.le_refl _) (.cells #[.string (txt x.name), .int .i64 x.page, .int .i64 x.count] 34)))
      have HB2 := Lib.hid (HB1.out.alloc (by have := hws; simp; omega) (.cells #[.string (txt x.name), .int .i64 x.page, .int .i64 x.count] 34))
      clear hx hin HX
      by_cases hq : x.name = nm
      · rw [decide_eq_true hq] at hE
        rw [without_no hq] at hX
        have HX2 := Lib.hid hX
        simp only [Bool.not_true] at hE
        clear hX hq g0
        go_wp2_with fail
        go_roundw
        case rel => exact ⟨k + 1, xs, _, rfl, by omega, by go_num, by omega, HX2.out, ⟨g1.out, HB1.out, HO.out.all⟩⟩
        case measure => simp [intOf]; omega
      · rw [decide_eq_false hq] at hE
        rw [without_yes hq, List.append_cons] at hX
        have HX2 := Lib.hid hX
        simp only [Bool.not_false] at hE
        have hr1 := rs_new (wr.alloc (.cells #[.string (txt x.name), .int .i64 x.page, .int .i64 x.count] 34)) x HIN.out
        rw [show (wr.alloc (.cells #[.string (txt x.name), .int .i64 x.page, .int .i64 x.count] 34)).heap.size = wr.heap.size + 1 from by simp] at hr1
        have HR1 := Lib.hid hr1
        clear hr1
        have g2 := Lib.hid (own_on3 g1.out ((Below.refl _ _).alloc (Nat.le_refl _) (.cells #[.string (txt x.name), .int .i64 x.page, .int .i64 x.count] 34)))
        have hb2 : w.heap.size ≤ ((wr.alloc (.cells #[.string (txt x.name), .int .i64 x.page, .int .i64 x.count] 34)).alloc (.cells #[.string (txt x.name), .int .i64 x.page, .int .i64 x.count] 34)).heap.size := by have := hws; simp; omega
        have AP := Lib.hid (fun ty => run_append_rs ((wr.alloc (.cells #[.string (txt x.name), .int .i64 x.page, .int .i64 x.count] 34)).alloc (.cells #[.string (txt x.name), .int .i64 x.page, .int .i64 x.count] 34)) w.heap.size ty ov xs g2.out _ 1 1 [x] HR1.out (by omega) hb2)
        clear hX hq g0
        go_wp2_with (at_builtin; refine wpList_append_ran _ rfl _ _ 22 22 rfl _ _ rfl rfl _ (AP.out _) ?_; rintro v5 w5 ⟨O5, G5⟩)
        have B5 := below_own HB2.out g2.out G5 hb2 (Nat.le_refl _)
        go_wp2_with fail
        go_roundw
        case rel => exact ⟨k + 1, xs ++ [x], _, rfl, by omega, by go_num, by simp; omega, HX2.out, ⟨O5, B5, by
          intro y hy
          rcases List.mem_append.1 hy with h1 | h1
          · exact HO.out.all y h1
          · simp at h1; subst h1; exact HIN.out⟩⟩
        case measure => simp [intOf]; omega
    · have hO : M = xs := by rw [HX.out, List.drop_eq_nil_of_le (by omega)]; simp [Rm.without]
      subst hO
      go_wp2_with fail
      go_ret
      exact ⟨_, rfl, HO.out⟩

set_option maxRecDepth 100000 in
set_option maxHeartbeats 2000000 in
theorem rfWithout_any (w : World) (A : Option Addr) (n c : Nat) (L : List Rm.R) (nm : List Nat) (h : Rs w A n c L) (hn : ∀ z ∈ nm, z < 256) (hm : n ≤ 1000) :
    Calls Try.prog 21 #[.slice A n c, .string (txt nm)] w fun e w' => ∃ v, e = .returned v ∧ Own w w' v (Rm.without L nm) := by
  have H := Lib.hid h
  have hl := h.1
  have hcm := h.2.2.1
  have hnc := h.2.1
  unfold maxLen at hcm
  clear h
  obtain ⟨M, hM⟩ : ∃ M, Rm.without L nm = M := ⟨_, rfl⟩
  have HM := Lib.hid hM
  rw [hM]
  clear hM
  go_enter Try.func21, Try.ntmps21
  go_wp2_with fail
  go_loopw [5, 6] (fun out i wr => ∃ (k : Nat) (xs : List Rm.R) (ov : Value), ov = out ∧ k ≤ n ∧ i = .int .i64 (k : Int) ∧ xs.length ≤ k ∧ Hid (M = xs ++ Rm.without (L.drop k) nm) ∧ Hid (Own w wr out xs)) (fun _ i _ => n - (intOf i).toNat)
  case atStart => exact ⟨0, [], _, rfl, Nat.zero_le _, rfl, Nat.le_refl _, by show _ = _; rw [← HM.out]; rfl, ⟨own_none w _, Below.refl _ _, by simp⟩⟩
  case round =>
    obtain ⟨k, xs, ov, rfl, hk, rfl, hxl, HX, HO⟩ := hrel
    by_cases hlt : k < n
    · obtain ⟨bb, off, x, rfl, hbb, hx, hin, c0, c1, c2⟩ := (H.out.on HO.out.bel).get hlt
      have hX := HX.out
      rw [drop_at hx] at hX
      have hE := neq_names hin.nm hn
      have HIN := Lib.hid hin
      have hws := HO.out.bel.size
      have g0 := HO.out.own
      have HB1 := Lib.hid HO.out.bel
      have HB2 := Lib.hid (HO.out.bel.alloc hws (.cells #[.string (txt x.name), .int .i64 x.page, .int .i64 x.count] 34))
      clear hx hin HX
      by_cases hq : x.name = nm
      · rw [decide_eq_true hq] at hE
        rw [without_no hq] at hX
        have HX2 := Lib.hid hX
        simp only [Bool.not_true] at hE
        clear hX hq g0
        go_wp2_with fail
        go_roundw
        case rel => exact ⟨k + 1, xs, _, rfl, by omega, by go_num, by omega, HX2.out, ⟨HO.out.own, HB1.out, HO.out.all⟩⟩
        case measure => simp [intOf]; omega
      · rw [decide_eq_false hq] at hE
        rw [without_yes hq, List.append_cons] at hX
        have HX2 := Lib.hid hX
        simp only [Bool.not_false] at hE
        have hr1 := rs_new wr x HIN.out
        have HR1 := Lib.hid hr1
        clear hr1
        have g2 := Lib.hid (own_on3 g0 ((Below.refl _ wr).alloc (Nat.le_refl _) (.cells #[.string (txt x.name), .int .i64 x.page, .int .i64 x.count] 34)))
        have hb2 : w.heap.size ≤ (wr.alloc (.cells #[.string (txt x.name), .int .i64 x.page, .int .i64 x.count] 34)).heap.size := by have := hws; simp; omega
        have AP := Lib.hid (fun ty => run_append_rs (wr.alloc (.cells #[.string (txt x.name), .int .i64 x.page, .int .i64 x.count] 34)) w.heap.size ty ov xs g2.out _ 1 1 [x] HR1.out (by omega) hb2)
        clear hX hq g0
        go_wp2_with (at_builtin; refine wpList_append_ran _ rfl _ _ 22 22 rfl _ _ rfl rfl _ (AP.out _) ?_; rintro v5 w5 ⟨O5, G5⟩)
        have B5 := below_own HB2.out g2.out G5 hb2 (Nat.le_refl _)
        go_wp2_with fail
        go_roundw
        case rel => exact ⟨k + 1, xs ++ [x], _, rfl, by omega, by go_num, by simp; omega, HX2.out, ⟨O5, B5, by
          intro y hy
          rcases List.mem_append.1 hy with h1 | h1
          · exact HO.out.all y h1
          · simp at h1; subst h1; exact HIN.out⟩⟩
        case measure => simp [intOf]; omega
    · have hO : M = xs := by rw [HX.out, List.drop_eq_nil_of_le (by omega)]; simp [Rm.without]
      subst hO
      go_wp2_with fail
      go_ret
      exact ⟨_, rfl, HO.out⟩

end Go.Proofs.Ytbhahihgojhcmaa.Rt
