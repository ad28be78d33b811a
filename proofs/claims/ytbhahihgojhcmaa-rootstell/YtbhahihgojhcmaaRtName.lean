/-
  Whether a root may be: the program's mayName and mayBe, the document's one.
-/
import Derived.Test.YtbhahihgojhcmaaRtBase
namespace Go.Proofs.Ytbhahihgojhcmaa.Rt
open Go.RowKit
set_option linter.unusedVariables false

theorem take_low {l : List Nat} {k x : Nat} (h : l[k]? = some x) (ht : ∀ y ∈ l.take k, Rm.Low y) (hx : Rm.Low x) : ∀ y ∈ l.take (k + 1), Rm.Low y := by
  intro y hy
  rw [List.take_add_one, h] at hy
  rcases List.mem_append.1 hy with h1 | h1
  · exact ht y h1
  · simp at h1; subst h1; exact hx

set_option maxRecDepth 100000 in
set_option maxHeartbeats 1000000 in
theorem mayName_any (w : World) (l : List Nat) (hl : ∀ x ∈ l, x < 256) :
    Calls Try.prog 36 #[.string (txt l)] w fun e w' => e = .returned (.bool (decide (Rm.NameOk l))) ∧ Below w.heap.size w w' := by
  generalize hD : decide (Rm.NameOk l) = D
  have HS := Lib.hid (txt_size l)
  have HG := Lib.hid (fun k x => txt_get (k := k) (x := x) hl)
  generalize txt l = s at *
  by_cases h1 : (s.size : Int) < 1
  · have e : D = false := by rw [← hD]; exact decide_eq_false (fun h => by have := h.1.1; have := HS.out; omega)
    subst e
    go_enter Try.func36, Try.ntmps36
    go_wp2
    go_ret
    exact ⟨rfl, Below.refl _ _⟩
  · by_cases h2 : (s.size : Int) > 24
    · have e : D = false := by rw [← hD]; exact decide_eq_false (fun h => by have := h.1.2; have := HS.out; omega)
      subst e
      go_enter Try.func36, Try.ntmps36
      go_wp2
      go_ret
      exact ⟨rfl, Below.refl _ _⟩
    · have HD := Lib.hid hD
      clear hD
      have h1' := h1
      have h2' := h2
      go_enter Try.func36, Try.ntmps36
      go_wp2
      go_loopw [] (fun wr => ∃ (pos : Nat), wr = w.iter s pos ∧ pos ≤ s.size ∧ Hid (∀ y ∈ l.take pos, Rm.Low y)) (fun wr => s.size - wr.iterPos w.heap.size)
      case atStart => exact ⟨0, rfl, Nat.zero_le _, by show ∀ y ∈ l.take 0, _; simp⟩
      case round =>
        obtain ⟨pos, rfl, hps, H⟩ := hrel
        by_cases hp : pos < s.size
        · have hnx : ∀ ty, (Instr.next (.pointer (some ⟨w.heap.size, 0, none⟩)) true ty).run Try.prog (w.iter s pos) = _ := fun ty => run_next_any w s pos ty hp
          obtain ⟨x, hx⟩ : ∃ x, l[pos]? = some x := ⟨_, List.getElem?_eq_getElem (by have := HS.out; omega)⟩
          have hgx := HG.out pos x hx
          by_cases hlow : Rm.Low x
          · have hdec : Utf8.decode s pos = (x, 1) := by
              have := decode_low s pos (by rw [hgx]; unfold Rm.Low at hlow; omega)
              rw [hgx] at this; exact this
            have H2 := Lib.hid (take_low hx H.out hlow)
            rw [hdec] at hnx
            clear hgx hx
            by_cases h45 : (x : Int) = 45
            · go_wp2
              go_roundw
              case rel => exact ⟨pos + 1, rfl, by omega, H2⟩
              case measure => simp; omega
            · have h97 : ¬ (x : Int) < 97 := by unfold Rm.Low at hlow; omega
              have h122 : ¬ (x : Int) > 122 := by unfold Rm.Low at hlow; omega
              go_wp2
              go_roundw
              case rel => exact ⟨pos + 1, rfl, by omega, H2⟩
              case measure => simp; omega
          · obtain ⟨r, wd, hdec, hr⟩ : ∃ r wd, Utf8.decode s pos = (r, wd) ∧ ¬ Rm.Low r := by
              by_cases h8 : (s.get! pos).toNat < 128
              · exact ⟨_, _, decode_low s pos h8, by rw [hgx]; exact hlow⟩
              · have hh := decode_high s pos h8
                refine ⟨(Utf8.decode s pos).1, (Utf8.decode s pos).2, rfl, fun hL => ?_⟩
                unfold Rm.Low at hL
                omega
            have HN : Hid (¬ Rm.NameOk l) := fun h => hlow (h.2 x (List.mem_of_getElem? hx))
            rw [hdec] at hnx
            have e : D = false := by rw [← HD.out]; exact decide_eq_false HN.out
            subst e
            have h45 : ¬ (r : Int) = 45 := by unfold Rm.Low at hr; omega
            clear hgx hx
            by_cases h97 : (r : Int) < 97
            · go_wp2
              go_ret
              exact ⟨rfl, (Below.refl _ _).alloc (Nat.le_refl _) _⟩
            · have h122 : (r : Int) > 122 := by unfold Rm.Low at hr; omega
              go_wp2
              go_ret
              exact ⟨rfl, (Below.refl _ _).alloc (Nat.le_refl _) _⟩
        · have hnx : ∀ ty, (Instr.next (.pointer (some ⟨w.heap.size, 0, none⟩)) true ty).run Try.prog (w.iter s pos) = _ := fun ty => run_next_end w s pos ty hp
          have hok : Rm.NameOk l := by
            have e := H.out
            rw [List.take_of_length_le (by have := HS.out; omega)] at e
            exact ⟨by have := HS.out; omega, e⟩
          have e : D = true := by rw [← HD.out]; exact decide_eq_true hok
          subst e
          go_wp2
          go_ret
          exact ⟨rfl, (Below.refl _ _).alloc (Nat.le_refl _) _⟩

end Go.Proofs.Ytbhahihgojhcmaa.Rt
