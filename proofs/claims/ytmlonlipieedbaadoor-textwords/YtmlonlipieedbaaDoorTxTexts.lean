/-
  Texts, and small letters: the document's Texts and Lower, and Lower.
-/
import Derived.Test.YtmlonlipieedbaaDoorTxBase
import Derived.Laws.IdiomStrings
import Derived.Laws.Concat
namespace Go.Proofs.YtmlonlipieedbaaDoor
open Go.RowKit Go.Lib
set_option linter.unusedVariables false

theorem ba_inj {a b : List UInt8} (h : ba a = ba b) : a = b := by
  have := congrArg (fun x : ByteArray => x.data.toList) h
  exact this
theorem ba_neq (a b : List UInt8) : (!((ba a).toList == (ba b).toList)) = !decide (a = b) := by
  rw [ByteArray.toList_eq, ByteArray.toList_eq, ba_data, ba_data]
  by_cases h : a = b
  · subst h; simp
  · simp [h]
theorem take_snoc {α : Type} {l : List α} {k : Nat} {x : α} (h : l[k]? = some x) : l.take (k + 1) = l.take k ++ [x] := by rw [List.take_add_one, h]; rfl
set_option maxRecDepth 100000 in
set_option maxHeartbeats 400000 in
theorem refTexts_any (w : World) (A A' : Option Addr) (n c n' c' : Nat) (la lb : List (List UInt8)) (ha : Vs w A n c (sv la)) (hb : Vs w A' n' c' (sv lb)) :
    Calls Tryd.prog 16 #[.slice A n c, .slice A' n' c'] w fun e w' => e = .returned (.bool (decide (la = lb))) ∧ ∃ m, w' = w.drewN m := by
  have h1 : la.length = n := by have := ha.1; rwa [sv_len] at this
  have g1 : lb.length = n' := by have := hb.1; rwa [sv_len] at this
  have h3 : n ≤ maxLen := Nat.le_trans ha.2.1 ha.2.2.1
  have g3 : n' ≤ maxLen := Nat.le_trans hb.2.1 hb.2.2.1
  unfold maxLen at h3 g3
  have HA := Lib.hid ha
  have HB := Lib.hid hb
  have H1 := Lib.hid h1
  have G1 := Lib.hid g1
  clear ha hb
  by_cases hn : n = n'
  · subst hn
    have hne : ((n : Int) != (n : Int)) = false := by simp
    clear h1 g1
    go_enter Tryd.func16, Tryd.ntmps16
    go_wp2
    go_loopw [5] (fun i wr => ∃ k m : Nat, k ≤ n ∧ i = .int .i64 k ∧ Hid (la.take k = lb.take k) ∧ wr = w.drewN m) (fun i _ => n - (RowKit.intOf i).toNat)
    case atStart => exact ⟨0, 0, Nat.zero_le _, rfl, rfl, rfl⟩
    case round =>
      obtain ⟨k, m, hk, rfl, HT, rfl⟩ := hrel
      by_cases hlt : k < n
      · obtain ⟨b, off, x, rfl, hx, cx⟩ := sv_at HA.out hlt
        obtain ⟨b', off', y, rfl, hy, cy⟩ := sv_at HB.out hlt
        have HX := Lib.hid hx
        have HY := Lib.hid hy
        clear hx hy
        have hd := ba_neq x y
        by_cases hxy : x = y
        · subst hxy
          have hd' : (!((ba x).toList == (ba x).toList)) = false := by simp
          clear hd
          go_wp2
          go_quiet (fail)
          go_wp2
          go_roundw
          case rel => exact ⟨k + 1, _, by omega, by go_num, by show _ = _; rw [take_snoc HX.out, take_snoc HY.out, HT.out], rfl⟩
          case measure => simp [RowKit.intOf]; omega
        · have hd' : (!((ba x).toList == (ba y).toList)) = true := by rw [hd]; simp [hxy]
          have hd2 : ((ba x).toList == (ba y).toList) = false := by simpa using hd'
          have HN : Hid (¬ la = lb) := by
            intro e; subst e
            have := HX.out.symm.trans HY.out
            injection this with this
            exact hxy this
          clear hd hxy
          go_wp2
          go_quiet (fail)
          go_wp2
          go_ret
          exact ⟨by simp [HN.out], _, World.drewN_drewN _ _ _⟩
      · have HE : Hid (la = lb) := by
          show la = lb
          have := HT.out
          rwa [List.take_of_length_le (by rw [H1.out]; omega), List.take_of_length_le (by rw [G1.out]; omega)] at this
        go_wp2
        go_ret
        exact ⟨by simp [HE.out], m, rfl⟩
  · have hne : ((n : Int) != (n' : Int)) = true := by simp; omega
    have HN : Hid (¬ la = lb) := by intro e; subst e; exact hn (h1.symm.trans g1)
    clear h1 g1
    go_enter Tryd.func16, Tryd.ntmps16
    go_wp2
    go_ret
    exact ⟨by simp [HN.out], 0, rfl⟩

end Go.Proofs.YtmlonlipieedbaaDoor
