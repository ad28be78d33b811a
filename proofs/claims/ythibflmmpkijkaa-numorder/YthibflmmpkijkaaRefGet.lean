/-
  The document's Get: the short number with which bytes begin.
-/
import Derived.Test.YthibflmmpkijkaaPut
import Derived.Test.YthibflmmpkijkaaSame
import Derived.Deep.RegionWith
import Derived.Deep.RegionHeld3
namespace Go.Proofs.Ythibflmmpkijkaa
open Go.RowKit
set_option linter.unusedVariables false

/-- The number that the bytes from place j to place k say, within 64 bits. -/
def upTo (l : List Nat) (k j : Nat) : Nat := Nm.val ((l.take (k + 1)).drop j) % 18446744073709551616
theorem upTo_end (l : List Nat) (k : Nat) : upTo l k (k + 1) = 0 := by
  unfold upTo; rw [List.drop_eq_nil_of_le (by simp; omega)]; rfl
theorem upTo_step (l : List Nat) (k j x : Nat) (hj : j ≤ k) (hx : l[j]? = some x) :
    IntKind.u64.wrap (IntKind.u64.wrap ((upTo l k (j + 1) : Int) * 128) + (x : Int) % 128) = (upTo l k j : Int) := by
  have h : (l.take (k + 1))[j]? = some x := by rw [List.getElem?_take, if_pos (by omega)]; exact hx
  obtain ⟨hj', e⟩ := List.getElem?_eq_some_iff.1 h
  have hd : (l.take (k + 1)).drop j = x :: (l.take (k + 1)).drop (j + 1) := by rw [List.drop_eq_getElem_cons hj', e]
  unfold upTo
  rw [hd]
  simp only [Nm.val, IntKind.wrap_u64]
  omega
theorem upTo_lt (l : List Nat) (k j : Nat) : L64 (upTo l k j) := Nat.mod_lt _ (by omega)

set_option maxRecDepth 100000 in
set_option maxHeartbeats 400000 in
theorem refGet_any (w : World) (A : Option Addr) (n c : Nat) (l : List Nat) (hb : Bs w A n c l) :
    Calls Try.prog 18 #[.slice A n c] w fun e w' => e = .returned (.tuple #[.int .u64 ((Nm.get l).1 : Int), .int .i64 ((Nm.get l).2 : Int)]) ∧ Below w.heap.size w w' := by
  have HB := Lib.hid hb
  obtain ⟨h1, h2, h3, h4, h5⟩ := hb
  unfold maxLen at h3
  have H1 := Lib.hid h1
  have H4 := Lib.hid h4
  have H5 := Lib.hid h5
  clear h1 h4 h5
  go_enter Try.func18, Try.ntmps18
  go_wp2
  go_loop [4] (fun i => ∃ k : Nat, k ≤ n ∧ k ≤ 10 ∧ i = .int .i64 k ∧ Hid (∀ j, j < k → ∀ x, l[j]? = some x → 128 ≤ x)) (fun i => 10 - (intOf i).toNat)
  case atStart => exact ⟨0, Nat.zero_le _, Nat.zero_le _, rfl, fun j hj => absurd hj (by omega)⟩
  case round =>
    obtain ⟨k, hk, hk10, rfl, HK⟩ := hrel
    by_cases hlt : k < n
    · by_cases hlt10 : k < 10
      · obtain ⟨b, off, rfl, hbl, hcell⟩ := H5.out (by omega)
        obtain ⟨x, hx⟩ : ∃ x, l[k]? = some x := ⟨_, List.getElem?_eq_getElem (by rw [H1.out]; omega)⟩
        have hx256 := H4.out x (List.mem_of_getElem? hx)
        have hcx := hcell k x hx
        have HX := Lib.hid hx
        have HCE := Lib.hid hcell
        clear hx hcell
        by_cases h128 : 128 ≤ x
        · have hd : decide ((128 : Int) ≤ (x : Int)) = true := by simp; omega
          go_wp2
          go_round
          case rel => exact ⟨k + 1, by omega, by omega, by go_num, fun j hj y hy => by
            rcases Nat.lt_or_ge j k with h | h
            · exact HK.out j h y hy
            · have : j = k := by omega
              subst this
              have := hy.symm.trans HX.out
              injection this with this
              omega⟩
          case measure => simp [intOf]; omega
        · have hd : decide ((128 : Int) ≤ (x : Int)) = false := by simp; omega
          have hg1 : decide ((n : Int) ≤ (k : Int)) = false := by simp; omega
          have hg2 : decide ((10 : Int) ≤ (k : Int)) = false := by simp; omega
          go_wp2
          go_loop [5, 6] (fun v i => ∃ (j : Nat) (iv : Int), j ≤ k + 1 ∧ Hid (iv = (j : Int) - 1) ∧ i = .int .i64 iv ∧ v = .int .u64 (upTo l k j : Int)) (fun _ i => (intOf i + 1).toNat)
          case atStart => exact ⟨k + 1, k, Nat.le_refl _, by show (k : Int) = _; omega, rfl, by rw [upTo_end]; rfl⟩
          case round =>
            obtain ⟨j, iv, hj, Hiv, rfl, rfl⟩ := hrel
            rcases Nat.eq_zero_or_pos j with h0 | h0
            · subst h0
              obtain rfl : iv = -1 := by have := Hiv.out; omega
              clear Hiv
              have HG : Hid (Nm.get l = if Nm.put (upTo l k 0) = l.take (k + 1) then (upTo l k 0, k + 1) else (0, 0)) :=
                Nm.get_at l k x hlt10 (fun j hj y hy => ⟨HK.out j hj y hy, H4.out y (List.mem_of_getElem? hy)⟩) HX.out (by omega)
              go_wp2_with fail
              have q0 : (k : Int) + 1 ≤ (c : Int) := by omega
              have q3 : k + 1 ≤ c := by omega
              have q1 : (0 : Int) ≤ (k : Int) + 1 := by omega
              have q2 : ((k : Int) + 1).toNat = k + 1 := by omega
              have q4 : IntKind.i64.wrap ((k : Int) + 1) = (k : Int) + 1 := IntWalk.i64_in _ (by omega)
              have q5 : k + 1 ≤ n := by omega
              go_region_with (first | (go_at_call 14; refine (refPut_any _ _ (upTo_lt l k 0)).mono ?_; rintro e w1 ⟨A1, n1, c1, rfl, hbs, hbel⟩; have hbs2 := ((Bs.drew HB.out).below hbel (Nat.le_refl _)).first (k + 1) q5; have hbel0 : Below w.heap.size w w1 := ((Below.refl w.heap.size w).drew).trans hbel; clear hbel) | (go_at_call 13; refine (same_any _ _ _ _ _ _ _ _ _ (by assumption) (by assumption)).mono ?_; rintro e w2 ⟨rfl, m, rfl⟩))
              rename_i w1 A1 n1 c1 _ _ hbel0 m
              clear q4
              have hbel' : Below w.heap.size w (w1.drewN m) := below_drewN hbel0 m
              by_cases hs : Nm.put (upTo l k 0) = l.take (k + 1)
              · have HG' : Hid (Nm.get l = (upTo l k 0, k + 1)) := HG.out.trans (if_pos hs)
                have hd' : decide (Nm.put (upTo l k 0) = l.take (k + 1)) = true := by simpa using hs
                clear hs
                rw [hd']
                clear hd'
                go_wp2
                go_ret2
                exact ⟨by rw [HG'.out]; rfl, hbel'⟩
              · have HG' : Hid (Nm.get l = (0, 0)) := HG.out.trans (if_neg hs)
                have hd' : decide (Nm.put (upTo l k 0) = l.take (k + 1)) = false := by simpa using hs
                clear hs
                rw [hd']
                clear hd'
                go_wp2
                go_ret2
                exact ⟨by rw [HG'.out]; rfl, hbel'⟩
            · obtain ⟨j', rfl⟩ : ∃ j', j = j' + 1 := ⟨j - 1, by omega⟩
              obtain rfl : iv = (j' : Int) := by have := Hiv.out; omega
              clear Hiv
              obtain ⟨y, hy⟩ : ∃ x, l[j']? = some x := ⟨_, List.getElem?_eq_getElem (by rw [H1.out]; omega)⟩
              have hy256 := H4.out y (List.mem_of_getElem? hy)
              have hcy := HCE.out j' y hy
              have hst := upTo_step l k j' y (by omega) hy
              clear hy
              go_wp2
              go_round
              case rel => exact ⟨j', _, by omega, rfl, rfl, rfl⟩
              case measure => simp [intOf]
      · have hd : decide ((k : Int) < 10) = false := by simp; omega
        have hg1 : decide ((n : Int) ≤ (k : Int)) = false := by simp; omega
        have HG := Lib.hid (Nm.get_none l fun j hj => HK.out j (by omega))
        go_wp2
        go_ret2
        exact ⟨by rw [HG.out]; rfl, Below.refl _ _⟩
    · have HG : Hid (Nm.get l = (0, 0)) := Nm.get_none l fun j hj x hx => HK.out j (by
        have := (List.getElem?_eq_some_iff.1 hx).1
        have := H1.out
        omega) x hx
      go_wp2
      go_ret2
      exact ⟨by rw [HG.out]; rfl, Below.refl _ _⟩

end Go.Proofs.Ythibflmmpkijkaa
