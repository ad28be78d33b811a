/-
  CrcEach: a row's sum is that of its bytes added one by one; adding nothing changes nothing.
-/
import Derived.Test.YteiacbpidgdidaaCrMore
namespace Go.Proofs.Yteiacbpidgdidaa
open Go.RowKit
set_option linter.unusedVariables false

set_option maxRecDepth 100000 in
set_option maxHeartbeats 1000000 in
theorem crcEach_walk (w : World) (A : Option Addr) (n c : Nat) (l : List Nat) (s : Nat) (hb : Bs w A n c l) (hs : L32 s) :
    Calls Try.prog 6 #[.slice A n c, .int .u32 (s : Int)] w fun e w' => e = .returned (.bool true) ∧ Below w.heap.size w w' := by
  have hcm := hb.2.2.1
  have hnc := hb.2.1
  unfold maxLen at hcm
  go_enter Try.func6, Try.ntmps6
  go_wp2_with fail
  refine (awake_any _).mono ?_
  rintro e w1 ⟨rfl, b1⟩
  have s1 := hb.on b1
  by_cases h600 : n ≤ 600
  · go_wp2_with fail
    go_loopw [5, 6] (fun v i wr => ∃ k x : Nat, k ≤ n ∧ i = .int .i64 k ∧ v = .int .u32 (x : Int) ∧ L32 x ∧ Hid (x = Cr.sum (l.take k)) ∧ Below w1.heap.size w1 wr) (fun _ i _ => n - (intOf i).toNat)
    case atStart => exact ⟨0, 0, Nat.zero_le _, rfl, rfl, by unfold L32; omega, (by show _ = _; rw [List.take_zero, Cr.sum_nil]), Below.refl _ _⟩
    case round =>
      obtain ⟨k, x, hk, rfl, rfl, hx, HX, hbel⟩ := hrel
      have s2 := s1.on hbel
      by_cases hlt : k < n
      · obtain ⟨y, hy⟩ : ∃ y, l[k]? = some y := ⟨_, List.getElem?_eq_getElem (by rw [s2.1]; omega)⟩
        obtain ⟨b, off, rfl, hbl, hcell⟩ := s2.2.2.2.2 (by omega)
        have F := (s2.cut_far k hlt).first 1 (by omega)
        have hd : (l.drop k).take 1 = [y] := by
          obtain ⟨h', e⟩ := List.getElem?_eq_some_iff.1 hy
          rw [List.drop_eq_getElem_cons h', e]; rfl
        rw [hd] at F
        have HT : Hid (Cr.more x [y] = Cr.sum (l.take (k + 1))) := by
          show _ = _
          rw [HX.out, Cr.sum_more _ _ (fun z hz => s2.2.2.2.1 z (List.mem_of_mem_take hz)), List.take_add_one, hy]; rfl
        clear hd hy hcell
        go_wp2_with fail
        refine (more_any _ x hx _ _ _ [y] (by exact F)).mono ?_
        rintro e w2 ⟨rfl, b2⟩
        have hbel2 := hbel.trans (b2.mono hbel.size)
        clear hbel b2 F s2
        have hm := Cr.more_lt x [y]
        generalize Cr.more x [y] = q at *
        go_wp2
        go_roundw
        case rel => exact ⟨k + 1, q, by omega, by go_num, rfl, hm, HT, hbel2⟩
        case measure => simp [intOf]; omega
      · have HE : Hid (x = Cr.sum l) := by show _ = _; rw [HX.out, List.take_of_length_le (by rw [s2.1]; omega)]
        go_wp2_with fail
        refine (refSum_any _ _ _ _ _ s2).mono ?_
        rintro e w2 ⟨rfl, rfl⟩
        rw [← HE.out]
        have hq : ((x : Int) == (x : Int)) = true := by simp
        go_wp2_with fail
        refine (more_any _ s hs none 0 0 [] (Bs.nil_ _ _ _ (Nat.zero_le _))).mono ?_
        rintro e w2 ⟨rfl, b2⟩
        rw [Cr.more_nil hs]
        have hq2 : ((s : Int) == (s : Int)) = true := by simp
        have B2 := onto (onto b1 hbel) b2
        go_wp2
        go_ret
        exact ⟨rfl, B2⟩
  · go_wp2
    go_ret
    exact ⟨rfl, b1⟩

end Go.Proofs.Yteiacbpidgdidaa
