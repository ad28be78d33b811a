/-
  Whether they are roots: the program's May.
-/
import Derived.Test.YtbhahihgojhcmaaRtOne
namespace Go.Proofs.Ytbhahihgojhcmaa.Rt
open Go.RowKit
set_option linter.unusedVariables false

theorem drop_at {α : Type} {l : List α} {k : Nat} {x : α} (h : l[k]? = some x) : l.drop k = x :: l.drop (k + 1) := by
  obtain ⟨hk, e⟩ := List.getElem?_eq_some_iff.1 h
  rw [List.drop_eq_getElem_cons hk, e]
theorem rise_no {b : List Nat} {r : Rm.R} {t : List Rm.R} (h : ¬ (Rm.One r ∧ Nm.lexLess b r.name = true)) : Rm.rise b (r :: t) = false := by
  cases hh : Rm.rise b (r :: t) with
  | false => rfl
  | true => exact absurd ⟨(Rm.rise_cons.1 hh).1, (Rm.rise_cons.1 hh).2.1⟩ h
theorem rise_yes {b : List Nat} {r : Rm.R} {t : List Rm.R} (h : Rm.One r) (h2 : Nm.lexLess b r.name = true) : Rm.rise b (r :: t) = Rm.rise r.name t := by
  simp [Rm.rise, h, h2]
/-- 'a <= b' of names, where b is the elder. -/
theorem leq_names {a b : List Nat} (ha : ∀ x ∈ a, x < 256) (hb : ∀ x ∈ b, x < 256) : (Op.bytesLess (txt a).toList (txt b).toList || ((txt a).toList == (txt b).toList)) = !Nm.lexLess b a := by
  rw [txt_less ha hb, txt_eq ha hb]
  by_cases h : a = b
  · subst h; simp [Rm.less_self]
  · rw [Rm.less_other a b h]; simp [h]

set_option maxRecDepth 100000 in
set_option maxHeartbeats 2000000 in
theorem may_any (w : World) (A : Option Addr) (n c : Nat) (L : List Rm.R) (h : Rs w A n c L) :
    Calls Try.prog 11 #[.slice A n c] w fun e w' => e = .returned (.bool (Rm.may L)) ∧ Below w.heap.size w w' := by
  have H := Lib.hid h
  have hl := h.1
  have hcm := h.2.2.1
  have hnc := h.2.1
  unfold maxLen at hcm
  clear h
  generalize hD : Rm.may L = D
  have HD := Lib.hid hD
  clear hD
  by_cases h12 : (12 : Int) < (n : Int)
  · have e : D = false := by rw [← HD.out]; unfold Rm.may; rw [decide_eq_false (by omega)]; rfl
    subst e
    go_enter Try.func11, Try.ntmps11
    go_wp2
    go_ret
    exact ⟨rfl, Below.refl _ _⟩
  · have HD2 : Hid (Rm.rise [] L = D) := by
      show _ = _
      rw [← HD.out]; unfold Rm.may; rw [decide_eq_true (by omega)]; rfl
    have HO := Lib.hid mayBe_any
    clear HD
    go_enter Try.func11, Try.ntmps11
    go_wp2_with fail
    go_loopw [3, 11] (fun before i wr => ∃ (k : Nat) (b : List Nat), k ≤ n ∧ i = .int .i64 (k : Int) ∧ before = .string (txt b) ∧ Hid (∀ x ∈ b, x < 256) ∧ Hid (Rm.rise b (L.drop k) = D) ∧ Below w.heap.size w wr) (fun _ i _ => n - (intOf i).toNat)
    case atStart => exact ⟨0, [], Nat.zero_le _, rfl, rfl, by show ∀ x ∈ ([] : List Nat), _; simp, by show _ = _; rw [List.drop_zero]; exact HD2.out, Below.refl _ _⟩
    case round =>
      obtain ⟨k, b, hk, rfl, rfl, HB, HR, hbel⟩ := hrel
      by_cases hlt : k < n
      · obtain ⟨bb, off, x, rfl, hbb, hx, hin, hat⟩ := (H.out.on hbel).get hlt
        obtain ⟨c0, c1, c2⟩ := hat
        have hR := HR.out
        rw [drop_at hx] at hR
        have Q := Lib.hid (Rb.new wr x)
        have HB1 := Lib.hid (hbel.alloc (Nat.le_of_lt_succ (by have := hbel.size; omega)) (.cells #[.string (txt x.name), .int .i64 x.page, .int .i64 x.count] 34))
        have HIN := Lib.hid hin
        have HO1 := Lib.hid (fun W => HO.out W x HIN.out)
        have HLN := Lib.hid (leq_names HIN.out.nm HB.out)
        clear hx hin
        go_wp2_with fail
        refine (HO1.out _).mono ?_
        rintro e w1 ⟨rfl, B1⟩
        have kb := Lib.hid (Q.out.on B1)
        have HB2 := Lib.hid (HB1.out.trans (B1.mono (by have := hbel.size; simp; omega)))
        clear c0 c1 c2 HO1 B1 HB1 Q
        obtain ⟨c0, c1, c2⟩ := kb.out.at_
        clear kb
        by_cases hone : Rm.One x
        · rw [decide_eq_true hone]
          have hL := HLN.out
          by_cases hless : Nm.lexLess b x.name = true
          · rw [hless] at hL
            rw [rise_yes hone hless] at hR
            have HR2 := Lib.hid hR
            clear hone hR hless HLN
            simp only [Bool.not_true] at hL
            go_wp2_with fail
            go_roundw
            case rel => exact ⟨k + 1, x.name, by omega, by go_num, rfl, HIN.out.nm, HR2.out, HB2.out⟩
            case measure => simp [intOf]; omega
          · rw [rise_no (fun h => hless h.2)] at hR
            subst hR
            have hless' : Nm.lexLess b x.name = false := by simpa using hless
            rw [hless'] at hL
            clear hone hless HLN hless'
            simp only [Bool.not_false] at hL
            go_wp2_with fail
            go_ret
            exact ⟨rfl, HB2.out⟩
        · rw [decide_eq_false hone]
          rw [rise_no (fun h => hone h.1)] at hR
          subst hR
          go_wp2_with fail
          go_ret
          exact ⟨rfl, HB2.out⟩
      · have e : D = true := by
          rw [← HR.out, List.drop_eq_nil_of_le (by omega)]; rfl
        subst e
        go_wp2_with fail
        go_ret
        exact ⟨rfl, hbel⟩

end Go.Proofs.Ytbhahihgojhcmaa.Rt
