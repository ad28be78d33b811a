/-
  The program's metas: May and its closure, placeOf, allZero.
-/
import Derived.Test.YtcpgmglpgffhdaaMtCell
namespace Go.Proofs.Ytcpgmglpgffhdaa
open Go.RowKit
set_option linter.unusedVariables false

set_option maxRecDepth 100000 in
theorem mayTell_any (w : World) (b : Nat) (m : Mt.M) (z : Int) (h : Mb w b m) :
    Calls Try.prog 32 #[.int .i64 z, .pointer (some ⟨b, 0, none⟩)] w fun e w' => e = .returned (.bool (decide (Mt.At m.high z))) ∧ w = w' := by
  obtain ⟨c0, c1, c2, c3⟩ := h.cells
  generalize hD : decide (Mt.At m.high z) = D
  generalize m.high = hi at *
  clear h c0 c2 c3
  by_cases r0 : z = 0
  · subst r0
    have e : D = true := by rw [← hD]; exact decide_eq_true (by unfold Mt.At; omega)
    subst e; clear hD
    go_enter Try.func32, Try.ntmps32
    go_wp2
    go_ret
    exact ⟨rfl, rfl⟩
  · have r0' : (z == 0) = false := by simpa using r0
    by_cases r1 : 2 ≤ z
    · have r1' : decide (2 ≤ z) = true := by simpa using r1
      by_cases r2 : z < hi
      · have r2' : decide (z < hi) = true := by simpa using r2
        have e : D = true := by rw [← hD]; exact decide_eq_true (by unfold Mt.At; omega)
        subst e; clear hD
        go_enter Try.func32, Try.ntmps32
        go_wp2
        go_ret
        exact ⟨rfl, rfl⟩
      · have r2' : decide (z < hi) = false := by simpa using r2
        have e : D = false := by rw [← hD]; exact decide_eq_false (by unfold Mt.At; omega)
        subst e; clear hD
        go_enter Try.func32, Try.ntmps32
        go_wp2
        go_ret
        exact ⟨rfl, rfl⟩
    · have r1' : decide (2 ≤ z) = false := by simpa using r1
      have e : D = false := by rw [← hD]; exact decide_eq_false (by unfold Mt.At; omega)
      subst e; clear hD
      go_enter Try.func32, Try.ntmps32
      go_wp2
      go_ret
      exact ⟨rfl, rfl⟩

set_option maxRecDepth 100000 in
set_option maxHeartbeats 1000000 in
theorem may_any (w : World) (m : Mt.M) :
    Calls Try.prog 10 #[mv m] w fun e w' => e = .returned (.bool (decide (Mt.May m))) ∧ Below w.heap.size w w' := by
  obtain ⟨g, hi, ro, fr⟩ := m
  generalize hD : decide (Mt.May ⟨g, hi, ro, fr⟩) = D
  unfold mv
  simp only
  have hmf : ∀ (fn : Fn) (first cap : Array Value) (w : World), (Instr.makeFunc fn first cap).run Try.prog w = .ok (.func fn first cap) w := fun _ _ _ _ => rfl
  have M := Mb.new w ⟨g, hi, ro, fr⟩
  have HB := Lib.hid ((Below.refl w.heap.size w).alloc (Nat.le_refl _) (.cells #[.int .u64 (g : Int), .int .i64 hi, .int .i64 ro, .int .i64 fr] 24))
  have C := Lib.hid (fun z => mayTell_any _ _ _ z M)
  simp only at C
  obtain ⟨c0, c1, c2, c3⟩ := M.cells
  simp only at c0 c1 c2 c3
  clear M
  go_enter Try.func10, Try.ntmps10
  by_cases g1 : (1 : Int) ≤ (g : Int)
  · have g1' : decide ((1 : Int) ≤ (g : Int)) = true := by simpa using g1
    by_cases g2 : (g : Int) ≤ 1152921504606846976
    · have g2' : decide ((g : Int) ≤ 1152921504606846976) = true := by simpa using g2
      by_cases h1 : 2 ≤ hi
      · have h1' : decide (2 ≤ hi) = true := by simpa using h1
        by_cases h2 : hi ≤ 2048
        · have h2' : decide (hi ≤ 2048) = true := by simpa using h2
          by_cases r : Mt.At hi ro
          · rw [show D = decide (Mt.At hi fr) from by rw [← hD, decide_eq_decide]; exact ⟨fun h => h.2.2.2, fun h => ⟨⟨by simp only; omega, by simp only; omega⟩, ⟨h1, h2⟩, r, h⟩⟩]
            clear hD
            go_wp2_with fail
            refine (C.out ro).mono ?_
            rintro e w1 ⟨rfl, rfl⟩
            rw [decide_eq_true r]
            go_wp2_with fail
            refine (C.out fr).mono ?_
            rintro e w1 ⟨rfl, rfl⟩
            go_wp2
            go_ret
            exact ⟨rfl, HB.out⟩
          · have e : D = false := by rw [← hD]; exact decide_eq_false (fun h => r h.2.2.1)
            subst e; clear hD
            go_wp2_with fail
            refine (C.out ro).mono ?_
            rintro e w1 ⟨rfl, rfl⟩
            rw [decide_eq_false r]
            go_wp2
            go_ret
            exact ⟨rfl, HB.out⟩
        · have h2' : decide (hi ≤ 2048) = false := by simpa using h2
          have e : D = false := by rw [← hD]; exact decide_eq_false (fun h => by obtain ⟨⟨x1, x2⟩, ⟨x3, x4⟩, _⟩ := h; simp only at x1 x2 x3 x4; omega)
          subst e; clear hD
          go_wp2
          go_ret
          exact ⟨rfl, HB.out⟩
      · have h1' : decide (2 ≤ hi) = false := by simpa using h1
        have e : D = false := by rw [← hD]; exact decide_eq_false (fun h => by obtain ⟨⟨x1, x2⟩, ⟨x3, x4⟩, _⟩ := h; simp only at x1 x2 x3 x4; omega)
        subst e; clear hD
        go_wp2
        go_ret
        exact ⟨rfl, HB.out⟩
    · have g2' : decide ((g : Int) ≤ 1152921504606846976) = false := by simpa using g2
      have e : D = false := by rw [← hD]; exact decide_eq_false (fun h => by obtain ⟨⟨x1, x2⟩, ⟨x3, x4⟩, _⟩ := h; simp only at x1 x2 x3 x4; omega)
      subst e; clear hD
      go_wp2
      go_ret
      exact ⟨rfl, HB.out⟩
  · have g1' : decide ((1 : Int) ≤ (g : Int)) = false := by simpa using g1
    have e : D = false := by rw [← hD]; exact decide_eq_false (fun h => by obtain ⟨⟨x1, x2⟩, ⟨x3, x4⟩, _⟩ := h; simp only at x1 x2 x3 x4; omega)
    subst e; clear hD
    go_wp2
    go_ret
    exact ⟨rfl, HB.out⟩

set_option maxRecDepth 100000 in
theorem placeOf_any (w : World) (m : Mt.M) (hm : m.gen < 18446744073709551616) :
    Calls Try.prog 39 #[mv m] w fun e w' => e = .returned (.int .i64 ((m.gen % 2 : Nat) : Int)) ∧ Below w.heap.size w w' := by
  obtain ⟨g, hi, ro, fr⟩ := m
  have HB := Lib.hid ((Below.refl w.heap.size w).alloc (Nat.le_refl _) (.cells #[.int .u64 (g : Int), .int .i64 hi, .int .i64 ro, .int .i64 fr] 24))
  have M := Mb.new w ⟨g, hi, ro, fr⟩
  obtain ⟨c0, c1, c2, c3⟩ := M.cells
  simp only at c0 c1 c2 c3 hm
  unfold mv
  simp only
  clear M c1 c2 c3
  obtain ⟨r, hr, hr2⟩ : ∃ r : Nat, g % 2 = r ∧ r < 2 := ⟨_, rfl, Nat.mod_lt _ (by omega)⟩
  have k : (g : Int).tmod 2 = (r : Int) := by
    have : (g : Int).tmod 2 = (g : Int) % 2 := Int.tmod_eq_emod_of_nonneg (by omega)
    rw [this]; omega
  have k2 : IntKind.i64.wrap (r : Int) = (r : Int) := IntWalk.i64_in _ ⟨by omega, by omega⟩
  rw [hr]
  go_enter Try.func39, Try.ntmps39
  go_wp2
  go_ret
  exact ⟨rfl, HB.out⟩

set_option maxRecDepth 100000 in
theorem allZero_any (w : World) (A : Option Addr) (n c : Nat) (l : List Nat) (hb : Bs w A n c l) :
    Calls Try.prog 34 #[.slice A n c] w fun e w' => e = .returned (.bool (decide (l = List.replicate n 0))) ∧ w = w' := by
  obtain ⟨h1, h2, h3, h4, h5⟩ := hb
  unfold maxLen at h3
  have H1 := Lib.hid h1
  have H4 := Lib.hid h4
  have H5 := Lib.hid h5
  clear h1 h4 h5
  generalize hD : decide (l = List.replicate n 0) = D
  have HD := Lib.hid hD
  clear hD
  go_enter Try.func34, Try.ntmps34
  go_wp2
  go_loop [4, 7] (fun _ i => ∃ k : Nat, k ≤ n ∧ i = .int .i64 k ∧ l.take k = List.replicate k 0) (fun _ i => n - (intOf i).toNat)
  case atStart => exact ⟨0, Nat.zero_le _, rfl, rfl⟩
  case round =>
    obtain ⟨k, hk, rfl, ht⟩ := hrel
    have HT := Lib.hid ht
    clear ht
    by_cases hlt : k < n
    · obtain ⟨b, off, rfl, hbl, hcell⟩ := H5.out (by omega)
      obtain ⟨x, hx⟩ : ∃ x, l[k]? = some x := ⟨_, List.getElem?_eq_getElem (by rw [H1.out]; omega)⟩
      have hx256 := H4.out x (List.mem_of_getElem? hx)
      have hcx := hcell k x hx
      have HX := Lib.hid hx
      clear hx hcell
      by_cases h0 : x = 0
      · subst h0
        go_wp2
        go_round
        case rel => exact ⟨k + 1, by omega, by go_num, by rw [List.take_add_one, HX.out, HT.out, List.replicate_succ']; rfl⟩
        case measure => simp [intOf]; omega
      · have e : D = false := by
          rw [← HD.out]
          simp only [decide_eq_false_iff_not]
          intro e
          have := HX.out
          rw [e, List.getElem?_replicate] at this
          simp [hlt] at this
          exact h0 this.symm
        subst e
        have hxx : ((x : Int) != 0) = true := by rw [bne_iff_ne]; omega
        go_wp2
        go_ret
        exact ⟨rfl, rfl⟩
    · have e : D = true := by
        rw [← HD.out, decide_eq_true_iff, ← List.take_of_length_le (l := l) (i := k) (by rw [H1.out]; omega), HT.out, show k = n by omega]
      subst e
      go_wp2
      go_ret
      exact ⟨rfl, rfl⟩

end Go.Proofs.Ytcpgmglpgffhdaa
