/-
  Whether a root may be: the program's mayBe, the document's one. Laid by gen_rtone.py.
-/
import Derived.Test.YtbhahihgojhcmaaRtName
namespace Go.Proofs.Ytbhahihgojhcmaa.Rt
open Go.RowKit
set_option linter.unusedVariables false

set_option maxRecDepth 100000 in
set_option maxHeartbeats 1000000 in
theorem mayBe_any (w : World) (r : Rm.R) (hr : In r) :
    Calls Try.prog 26 #[rv r] w fun e w' => e = .returned (.bool (decide (Rm.One r))) ∧ Below w.heap.size w w' := by
  obtain ⟨nm, p, c⟩ := r
  generalize hD : decide (Rm.One ⟨nm, p, c⟩) = D
  have HD := Lib.hid hD
  have hM := Lib.hid (fun W => mayName_any W nm hr.nm)
  have Q := Lib.hid (Rb.new w ⟨nm, p, c⟩)
  have HB0 := Lib.hid ((Below.refl w.heap.size w).alloc (Nat.le_refl _) (.cells #[.string (txt nm), .int .i64 p, .int .i64 c] 34))
  unfold rv
  clear hD hr
  simp only at Q
  go_enter Try.func26, Try.ntmps26
  go_wp2_with fail
  refine (hM.out _).mono ?_
  rintro e w1 ⟨rfl, B1⟩
  have kb := Lib.hid (Q.out.on B1)
  have HB := Lib.hid (HB0.out.trans (B1.mono (by simp)))
  obtain ⟨c0, c1, c2⟩ := kb.out.at_
  clear B1 Q hM
  by_cases hN : Rm.NameOk nm
  · rw [decide_eq_true hN]
    have HN := Lib.hid hN
    clear hN
    by_cases p0 : p = 0
    · subst p0
      by_cases k0 : c = 0
      · subst k0
        have e : D = true := by rw [← HD.out]; exact decide_eq_true (⟨HN.out, .inl ⟨rfl, rfl⟩⟩)
        subst e
        go_wp2
        go_ret
        exact ⟨rfl, HB.out⟩
      · have k0' : (c == 0) = false := by simpa using k0
        have e : D = false := by rw [← HD.out]; exact decide_eq_false (fun h => by have h2 := h.2; unfold Rm.Nums at h2; simp only at h2; omega)
        subst e
        go_wp2
        go_ret
        exact ⟨rfl, HB.out⟩
    · have p0' : (p == 0) = false := by simpa using p0
      by_cases a1 : 2 ≤ p
      · have a1' : decide (2 ≤ p) = true := by simpa using a1
        by_cases a2 : p ≤ 2147483647
        · have a2' : decide (p ≤ 2147483647) = true := by simpa using a2
          by_cases a3 : 1 ≤ c
          · have a3' : decide (1 ≤ c) = true := by simpa using a3
            by_cases a4 : c ≤ 2147483647
            · have a4' : decide (c ≤ 2147483647) = true := by simpa using a4
              have e : D = true := by rw [← HD.out]; exact decide_eq_true (⟨HN.out, .inr ⟨⟨a1, a2⟩, a3, a4⟩⟩)
              subst e
              go_wp2
              go_ret
              exact ⟨rfl, HB.out⟩
            · have a4' : decide (c ≤ 2147483647) = false := by simpa using a4
              have e : D = false := by rw [← HD.out]; exact decide_eq_false (fun h => by have h2 := h.2; unfold Rm.Nums at h2; simp only at h2; omega)
              subst e
              go_wp2
              go_ret
              exact ⟨rfl, HB.out⟩
          · have a3' : decide (1 ≤ c) = false := by simpa using a3
            have e : D = false := by rw [← HD.out]; exact decide_eq_false (fun h => by have h2 := h.2; unfold Rm.Nums at h2; simp only at h2; omega)
            subst e
            go_wp2
            go_ret
            exact ⟨rfl, HB.out⟩
        · have a2' : decide (p ≤ 2147483647) = false := by simpa using a2
          have e : D = false := by rw [← HD.out]; exact decide_eq_false (fun h => by have h2 := h.2; unfold Rm.Nums at h2; simp only at h2; omega)
          subst e
          go_wp2
          go_ret
          exact ⟨rfl, HB.out⟩
      · have a1' : decide (2 ≤ p) = false := by simpa using a1
        have e : D = false := by rw [← HD.out]; exact decide_eq_false (fun h => by have h2 := h.2; unfold Rm.Nums at h2; simp only at h2; omega)
        subst e
        go_wp2
        go_ret
        exact ⟨rfl, HB.out⟩
  · rw [decide_eq_false hN]
    have e : D = false := by rw [← HD.out]; exact decide_eq_false (fun h => hN h.1)
    subst e
    go_wp2
    go_ret
    exact ⟨rfl, HB.out⟩

set_option maxRecDepth 100000 in
set_option maxHeartbeats 2000000 in
theorem one_any (w : World) (r : Rm.R) (hr : In r) :
    Calls Try.prog 27 #[rv r] w fun e w' => e = .returned (.bool (decide (Rm.One r))) ∧ Below w.heap.size w w' := by
  obtain ⟨nm, p, c⟩ := r
  generalize hD : decide (Rm.One ⟨nm, p, c⟩) = D
  have HD := Lib.hid hD
  have HS := Lib.hid (txt_size nm)
  have HG := Lib.hid (fun k x => txt_at (k := k) (x := x) hr.nm)
  have hlen := hr.len
  simp only at HG HS hlen
  have Q := Lib.hid (Rb.new w ⟨nm, p, c⟩)
  have HB := Lib.hid ((Below.refl w.heap.size w).alloc (Nat.le_refl _) (.cells #[.string (txt nm), .int .i64 p, .int .i64 c] 34))
  obtain ⟨c0, c1, c2⟩ := Q.out.at_
  simp only at c0 c1 c2
  unfold rv
  simp only
  clear hD hr Q
  generalize txt nm = s at *
  have hsz : s.size ≤ 9223372036854775807 := by rw [HS.out]; exact hlen
  clear hlen
  go_enter Try.func27, Try.ntmps27
  go_wp2
  go_loop [3] (fun i => ∃ (k : Nat), i = .int .i64 k ∧ k ≤ s.size ∧ Hid (∀ y ∈ nm.take k, Rm.Low y)) (fun i => s.size - (intOf i).toNat)
  case atStart => exact ⟨0, rfl, Nat.zero_le _, by show ∀ y ∈ nm.take 0, _; simp⟩
  case round =>
    obtain ⟨k, rfl, hk, H⟩ := hrel
    by_cases hlt : k < s.size
    · obtain ⟨x, hx⟩ : ∃ x, nm[k]? = some x := ⟨_, List.getElem?_eq_getElem (by have := HS.out; omega)⟩
      have hgx := HG.out k x hx hlt
      have hci : (((s[k]'hlt).toNat : Nat) : Int) = (x : Int) := by rw [hgx]
      clear hgx
      by_cases hlow : Rm.Low x
      · have H2 := Lib.hid (take_low hx H.out hlow)
        clear hx
        by_cases x97 : (x : Int) < 97
        · have x45 : (x : Int) = 45 := by unfold Rm.Low at hlow; omega
          go_wp2
          go_round
          case rel => exact ⟨k + 1, by go_num, by omega, H2⟩
          case measure => simp [intOf]; omega
        · have x122 : ¬ (x : Int) > 122 := by unfold Rm.Low at hlow; omega
          go_wp2
          go_round
          case rel => exact ⟨k + 1, by go_num, by omega, H2⟩
          case measure => simp [intOf]; omega
      · have HN : Hid (¬ Rm.NameOk nm) := fun h => hlow (h.2 x (List.mem_of_getElem? hx))
        have e : D = false := by rw [← HD.out]; exact decide_eq_false (fun h => HN.out h.1)
        subst e
        have x45 : ¬ (x : Int) = 45 := by unfold Rm.Low at hlow; omega
        clear hx
        by_cases x97 : (x : Int) < 97
        · go_wp2
          go_ret
          exact ⟨rfl, HB.out⟩
        · have x122 : (x : Int) > 122 := by unfold Rm.Low at hlow; omega
          go_wp2
          go_ret
          exact ⟨rfl, HB.out⟩
    · have HL : Hid (∀ y ∈ nm, Rm.Low y) := by
        have e := H.out
        rw [List.take_of_length_le (by have := HS.out; omega)] at e
        exact e
      clear H
      by_cases l1 : (s.size : Int) < 1
      · have l1' : decide ((s.size : Int) < 1) = true := by simpa using l1
        have e : D = false := by rw [← HD.out]; exact decide_eq_false (fun h => by have := h.1.1.1; have := HS.out; simp only at *; omega)
        subst e
        go_wp2
        go_ret
        exact ⟨rfl, HB.out⟩
      · have l1' : decide ((s.size : Int) < 1) = false := by simpa using l1
        by_cases l2 : (24 : Int) < (s.size : Int)
        · have l2' : decide ((24 : Int) < (s.size : Int)) = true := by simpa using l2
          have e : D = false := by rw [← HD.out]; exact decide_eq_false (fun h => by have := h.1.1.2; have := HS.out; simp only at *; omega)
          subst e
          go_wp2
          go_ret
          exact ⟨rfl, HB.out⟩
        · have l2' : decide ((24 : Int) < (s.size : Int)) = false := by simpa using l2
          have HN : Hid (Rm.NameOk nm) := ⟨by have := HS.out; omega, HL.out⟩
          by_cases n1 : c < 0
          · have n1' : decide (c < 0) = true := by simpa using n1
            have e : D = false := by rw [← HD.out]; exact decide_eq_false (fun h => by have h2 := h.2; unfold Rm.Nums at h2; simp only at h2; omega)
            subst e
            go_wp2
            go_ret
            exact ⟨rfl, HB.out⟩
          · have n1' : decide (c < 0) = false := by simpa using n1
            by_cases n2 : 2147483647 < c
            · have n2' : decide (2147483647 < c) = true := by simpa using n2
              have e : D = false := by rw [← HD.out]; exact decide_eq_false (fun h => by have h2 := h.2; unfold Rm.Nums at h2; simp only at h2; omega)
              subst e
              go_wp2
              go_ret
              exact ⟨rfl, HB.out⟩
            · have n2' : decide (2147483647 < c) = false := by simpa using n2
              by_cases p0 : p = 0
              · subst p0
                by_cases k0 : c = 0
                · subst k0
                  have e : D = true := by rw [← HD.out]; exact decide_eq_true (⟨HN.out, .inl ⟨rfl, rfl⟩⟩)
                  subst e
                  go_wp2
                  go_ret
                  exact ⟨rfl, HB.out⟩
                · have k0' : (c == 0) = false := by simpa using k0
                  have e : D = false := by rw [← HD.out]; exact decide_eq_false (fun h => by have h2 := h.2; unfold Rm.Nums at h2; simp only at h2; omega)
                  subst e
                  go_wp2
                  go_ret
                  exact ⟨rfl, HB.out⟩
              · have p0' : (p == 0) = false := by simpa using p0
                by_cases a1 : 2 ≤ p
                · have a1' : decide (2 ≤ p) = true := by simpa using a1
                  by_cases a2 : p ≤ 2147483647
                  · have a2' : decide (p ≤ 2147483647) = true := by simpa using a2
                    by_cases a3 : 0 < c
                    · have a3' : decide (0 < c) = true := by simpa using a3
                      have e : D = true := by rw [← HD.out]; exact decide_eq_true (⟨HN.out, .inr ⟨⟨a1, a2⟩, by simp only; omega⟩⟩)
                      subst e
                      go_wp2
                      go_ret
                      exact ⟨rfl, HB.out⟩
                    · have a3' : decide (0 < c) = false := by simpa using a3
                      have e : D = false := by rw [← HD.out]; exact decide_eq_false (fun h => by have h2 := h.2; unfold Rm.Nums at h2; simp only at h2; omega)
                      subst e
                      go_wp2
                      go_ret
                      exact ⟨rfl, HB.out⟩
                  · have a2' : decide (p ≤ 2147483647) = false := by simpa using a2
                    have e : D = false := by rw [← HD.out]; exact decide_eq_false (fun h => by have h2 := h.2; unfold Rm.Nums at h2; simp only at h2; omega)
                    subst e
                    go_wp2
                    go_ret
                    exact ⟨rfl, HB.out⟩
                · have a1' : decide (2 ≤ p) = false := by simpa using a1
                  have e : D = false := by rw [← HD.out]; exact decide_eq_false (fun h => by have h2 := h.2; unfold Rm.Nums at h2; simp only at h2; omega)
                  subst e
                  go_wp2
                  go_ret
                  exact ⟨rfl, HB.out⟩

end Go.Proofs.Ytbhahihgojhcmaa.Rt
