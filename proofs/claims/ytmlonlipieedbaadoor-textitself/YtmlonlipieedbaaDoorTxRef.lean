/-
  The document's Right and Cut.
-/
import Derived.Test.YtmlonlipieedbaaDoorTxRunes
namespace Go.Proofs.YtmlonlipieedbaaDoor
open Go.RowKit Go.Lib
set_option linter.unusedVariables false

theorem all_take {l : List Nat} {p : Nat → Bool} {k x : Nat} (h : (l.take k).all p = true) (hx : l[k]? = some x) (hp : p x = true) : (l.take (k + 1)).all p = true := by
  rw [List.take_add_one, hx, List.all_append, h]; simp [hp]
theorem all_not {l : List Nat} {p : Nat → Bool} {k x : Nat} (hx : l[k]? = some x) (hp : p x = false) : l.all p = false := by
  rw [List.all_eq_false]; exact ⟨x, List.mem_of_getElem? hx, by rw [hp]; decide⟩

set_option maxRecDepth 100000 in
set_option maxHeartbeats 1000000 in
theorem refRight_any (s : ByteArray) (w : World) (hs : s.size ≤ 1000000) :
    Calls Tryd.prog 12 #[.string s] w fun e w' => e = .returned (.bool (rightB s.data.toList)) ∧ Below w.heap.size w w' := by
  obtain ⟨N, hN⟩ : ∃ N, (Tx.P s.data.toList).length = N := ⟨_, rfl⟩
  have hNs : N ≤ 1000000 := by have := Tx.P_len s.data.toList; rw [← size_eq] at this; omega
  have C := Lib.hid (refRunes_any s w hs)
  rw [hN] at C
  have HN := Lib.hid hN
  clear hN
  go_enter Tryd.func12, Tryd.ntmps12
  go_wp2_with (go_at_call 10; refine C.out.mono ?_; rintro e w1 ⟨A1, c1, A2, c2, rfl, V1, V2, hb⟩)
  go_loop [5] (fun i => ∃ (k : Nat), i = .int .i64 (k : Int) ∧ k ≤ N ∧ Hid (((Tx.rns s.data.toList).take k).all (fun (r : Nat) => !stB (r : Int)) = true)) (fun i => N - (RowKit.intOf i).toNat)
  case atStart => exact ⟨0, rfl, Nat.zero_le _, by show _ = _; rw [List.take_zero]; rfl⟩
  case round =>
    obtain ⟨k, rfl, hk, H⟩ := hrel
    by_cases hlt : k < N
    · obtain ⟨b, off, x, rfl, hx, hc⟩ := nv_at V1 hlt
      have HX := Lib.hid hx
      clear hx
      cases hst : stB (x : Int) with
      | true =>
        have HF : Hid (rightB s.data.toList = false) := by
          show _ = _
          unfold rightB
          rw [all_not HX.out (by simp [hst]), Bool.and_false]
        have h' : (x : Int) < 32 ∨ (127 ≤ (x : Int) ∧ (x : Int) ≤ 159) := by simpa [stB] using hst
        clear hst
        by_cases y1 : (x : Int) < 32
        · clear h'
          go_wp2
          go_ret
          exact ⟨by rw [HF.out]; rfl, hb⟩
        · have y2 : 127 ≤ (x : Int) := by omega
          have y3 : (x : Int) ≤ 159 := by omega
          clear h'
          go_wp2
          go_ret
          exact ⟨by rw [HF.out]; rfl, hb⟩
      | false =>
        have H2 := Lib.hid (all_take H.out HX.out (by simp [hst]))
        have h' : ¬ ((x : Int) < 32 ∨ (127 ≤ (x : Int) ∧ (x : Int) ≤ 159)) := by simpa [stB] using hst
        have y1 : ¬ (x : Int) < 32 := by omega
        by_cases y2 : 127 ≤ (x : Int)
        · have y3 : ¬ (x : Int) ≤ 159 := by omega
          clear h' hst
          go_wp2
          go_round
          case rel => exact ⟨k + 1, by go_num, by omega, H2⟩
          case measure => simp [RowKit.intOf]; omega
        · clear h' hst
          go_wp2
          go_round
          case rel => exact ⟨k + 1, by go_num, by omega, H2⟩
          case measure => simp [RowKit.intOf]; omega
    · have HF : Hid (rightB s.data.toList = validD s.data.toList) := by
        show _ = _
        have := H.out
        rw [List.take_of_length_le (by rw [Tx.rns_len, HN.out]; omega)] at this
        unfold rightB
        rw [this, Bool.and_true]
      go_wp2_with (go_at_call 27; refine (refUtf_any _ _ hs).mono ?_; rintro e w' ⟨rfl, rfl⟩)
      go_ret
      exact ⟨by rw [HF.out]; rfl, hb⟩

set_option maxRecDepth 100000 in
set_option maxHeartbeats 1000000 in
theorem refCut_any (s : ByteArray) (n : Int) (w : World) (hs : s.size ≤ 1000000) (hn : n ≤ 9223372036854775807) :
    Calls Tryd.prog 15 #[.string s, .int .i64 n] w fun e w' => e = .returned (.string (ba (Tx.cut s.data.toList n.toNat))) ∧ Below w.heap.size w w' := by
  obtain ⟨N, hN⟩ : ∃ N, (Tx.P s.data.toList).length = N := ⟨_, rfl⟩
  have hNs : N ≤ 1000000 := by have := Tx.P_len s.data.toList; rw [← size_eq] at this; omega
  have C := Lib.hid (refRunes_any s w hs)
  rw [hN] at C
  have HN := Lib.hid hN
  clear hN
  by_cases h1 : n < 1
  · have HE : Hid (⟨#[]⟩ = ba (Tx.cut s.data.toList n.toNat)) := by
      show _ = _
      rw [show n.toNat = 0 from by omega, Tx.cut, Tx.cutW_zero, List.take_zero]; rfl
    go_enter Tryd.func15, Tryd.ntmps15
    go_wp2_with (go_at_call 10; refine C.out.mono ?_; rintro e w1 ⟨A1, c1, A2, c2, rfl, V1, V2, hb⟩)
    go_ret
    exact ⟨ret_str HE.out, hb⟩
  · by_cases h2 : (N : Int) ≤ n
    · have HE : Hid (s = ba (Tx.cut s.data.toList n.toNat)) := by
        show _ = _
        rw [Tx.cut_full _ _ (by rw [HN.out]; omega), ba_list]
      go_enter Tryd.func15, Tryd.ntmps15
      go_wp2_with (go_at_call 10; refine C.out.mono ?_; rintro e w1 ⟨A1, c1, A2, c2, rfl, V1, V2, hb⟩)
      go_ret
      exact ⟨ret_str HE.out, hb⟩
    · obtain ⟨m, rfl⟩ := Int.eq_ofNat_of_zero_le (show (0 : Int) ≤ n by omega)
      have hm : m < N := by omega
      have h1' : ¬ (m : Int) < 1 := h1
      have h2' : ¬ (N : Int) ≤ (m : Int) := h2
      clear h1 h2
      have HA : Hid ((Tx.ats 0 (Tx.P s.data.toList))[m]? = some (Tx.cutW s.data.toList m)) := by
        show _ = _
        rw [Tx.ats_at _ _ _ (by rw [HN.out]; exact hm), Nat.zero_add]; rfl
      have hw := Tx.cutW_le s.data.toList m
      rw [← size_eq] at hw
      obtain ⟨q, hq⟩ : ∃ q, Tx.cutW s.data.toList m = q := ⟨_, rfl⟩
      have HE : Hid (s.extract 0 q = ba (Tx.cut s.data.toList (m : Int).toNat)) := by
        show _ = _
        rw [ext_ba, Int.toNat_natCast, Tx.cut, hq]; rfl
      rw [hq] at HA hw
      clear hq
      go_enter Tryd.func15, Tryd.ntmps15
      go_wp2_with (go_at_call 10; refine C.out.mono ?_; rintro e w1 ⟨A1, c1, A2, c2, rfl, V1, V2, hb⟩; obtain ⟨b, off, x, rfl, hx, hc⟩ := nv_at V2 hm; obtain rfl : x = q := (Option.some.inj (hx.symm.trans HA.out)); clear hx)
      go_ret
      exact ⟨ret_str HE.out, hb⟩

end Go.Proofs.YtmlonlipieedbaaDoor
