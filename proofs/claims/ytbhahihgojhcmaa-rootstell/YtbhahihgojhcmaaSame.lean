/-
  The document's Same: two rows of bytes are the same ones.
-/
import Derived.Test.YtbhahihgojhcmaaBase
namespace Go.Proofs.Ytbhahihgojhcmaa
open Go.RowKit
set_option linter.unusedVariables false

theorem take_step {l : List Nat} {k x : Nat} (h : l[k]? = some x) : l.take (k + 1) = l.take k ++ [x] := by rw [List.take_add_one, h]; rfl

set_option maxHeartbeats 400000 in
theorem same_any (w : World) (A A' : Option Addr) (n c n' c' : Nat) (la lb : List Nat) (ha : Bs w A n c la) (hb : Bs w A' n' c' lb) :
    Calls Try.prog 13 #[.slice A n c, .slice A' n' c'] w fun e w' => e = .returned (.bool (decide (la = lb))) ∧ ∃ m, w' = w.drewN m := by
  obtain ⟨h1, h2, h3, h4, h5⟩ := ha
  obtain ⟨g1, g2, g3, g4, g5⟩ := hb
  unfold maxLen at h3 g3
  by_cases hn : n = n'
  · subst hn
    by_cases h0 : n = 0
    · subst h0
      have e1 : la = [] := List.eq_nil_of_length_eq_zero h1
      have e2 : lb = [] := List.eq_nil_of_length_eq_zero g1
      subst e1 e2
      clear h1 g1 h5 g5 h4 g4
      go_enter Try.func13, Try.ntmps13
      go_wp2
      refine wp_loop_rounds 1 ?_
      rw [rounds_succ]
      go_wp2
      go_ret
      exact ⟨rfl, 0, rfl⟩
    · obtain ⟨b, off, rfl, _, hc⟩ := h5 (by omega)
      obtain ⟨b', off', rfl, _, hc'⟩ := g5 (by omega)
      have hne : ((n : Int) != (n : Int)) = false := by simp
      have HC := Lib.hid hc
      have HC' := Lib.hid hc'
      have H1 := Lib.hid h1
      have G1 := Lib.hid g1
      clear hc hc' h1 g1 h5 g5 h4 g4
      go_enter Try.func13, Try.ntmps13
      go_wp2
      go_loopw [5] (fun i wr => ∃ k m : Nat, k ≤ n ∧ i = .int .i64 k ∧ la.take k = lb.take k ∧ wr = w.drewN m) (fun i _ => n - (intOf i).toNat)
      case atStart => exact ⟨0, 0, Nat.zero_le _, rfl, rfl, rfl⟩
      case round =>
        obtain ⟨k, m, hk, rfl, ht, rfl⟩ := hrel
        have HT := Lib.hid ht
        clear ht
        by_cases hlt : k < n
        · obtain ⟨x, hx⟩ : ∃ x, la[k]? = some x := ⟨_, List.getElem?_eq_getElem (by rw [H1.out]; exact hlt)⟩
          obtain ⟨y, hy⟩ : ∃ y, lb[k]? = some y := ⟨_, List.getElem?_eq_getElem (by rw [G1.out]; exact hlt)⟩
          have cx := HC.out k x hx
          have cy := HC'.out k y hy
          have HX := Lib.hid hx
          have HY := Lib.hid hy
          clear hx hy
          by_cases hxy : x = y
          · subst hxy
            have hd : ((x : Int) != (x : Int)) = false := by simp
            go_wp2
            go_quiet (fail)
            go_wp2
            go_roundw
            case rel => exact ⟨k + 1, _, by omega, by go_num, by rw [take_step HX.out, take_step HY.out, HT.out], rfl⟩
            case measure => simp [intOf]; omega
          · have hd : ((x : Int) != (y : Int)) = true := by simp; omega
            have HN : Hid (¬ la = lb) := by
              intro e; subst e
              have := HX.out.symm.trans HY.out
              injection this with this
              exact hxy this
            go_wp2
            go_quiet (fail)
            go_wp2
            go_ret
            exact ⟨by simp [HN.out], _, World.drewN_drewN _ _ _⟩
        · have HE : Hid (la = lb) := by
            show la = lb
            have := HT.out
            rwa [List.take_of_length_le (by rw [H1.out]; omega), List.take_of_length_le (by rw [G1.out]; omega)] at this
          go_wp2
          go_ret
          exact ⟨by simp [HE.out], m, rfl⟩
  · have hne : ((n : Int) != (n' : Int)) = true := by simp; omega
    have HN : Hid (¬ la = lb) := by intro e; subst e; exact hn (h1.symm.trans g1)
    clear h1 g1 h5 g5 h4 g4
    go_enter Try.func13, Try.ntmps13
    go_wp2
    go_ret
    exact ⟨by simp [HN.out], 0, rfl⟩

theorem same_eq (w : World) (A A' : Option Addr) (n c n' c' : Nat) (l : List Nat) (ha : Bs w A n c l) (hb : Bs w A' n' c' l) :
    Calls Try.prog 13 #[.slice A n c, .slice A' n' c'] w fun e w' => e = .returned (.bool true) ∧ ∃ m, w' = w.drewN m := by
  have h := same_any w A A' n c n' c' l l ha hb
  rw [show decide (l = l) = true from by simp] at h
  exact h

end Go.Proofs.Ytbhahihgojhcmaa
