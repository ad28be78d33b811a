/-
  Which of two rows of bytes comes first: the document's Less, bytes.Compare; which rows are one: bytes.Equal, bytes.HasPrefix; bytes.Clone.
-/
import Derived.Test.YtbhahihgojhcmaaBase
import Derived.Test.YtbhahihgojhcmaaCrText
import Derived.Test.YtbhahihgojhcmaaPgRow
import Derived.Lib.BytesEntry
import Derived.Laws.Externs
import Derived.Laws.Strings
namespace Go.Proofs.Ytbhahihgojhcmaa
open Go.RowKit
set_option linter.unusedVariables false

theorem drop_from {l : List Nat} {k x : Nat} (h : l[k]? = some x) : l.drop k = x :: l.drop (k + 1) := by
  obtain ⟨hk, rfl⟩ := List.getElem?_eq_some_iff.1 h
  exact List.drop_eq_getElem_cons hk
theorem lex_nil_left (l : List Nat) : Nm.lexLess [] l = decide (0 < l.length) := by cases l <;> simp [Nm.lexLess]
theorem lex_nil_right (l : List Nat) : Nm.lexLess l [] = false := by cases l <;> simp [Nm.lexLess]
theorem lex_cons_ne {x y : Nat} (r s : List Nat) (h : x ≠ y) : Nm.lexLess (x :: r) (y :: s) = decide (x < y) := by simp [Nm.lexLess, h]
theorem lex_cons_eq (x : Nat) (r s : List Nat) : Nm.lexLess (x :: r) (x :: s) = Nm.lexLess r s := by simp [Nm.lexLess]

set_option maxRecDepth 100000 in
set_option maxHeartbeats 400000 in
theorem less_any (w : World) (A A' : Option Addr) (n c n' c' : Nat) (la lb : List Nat) (ha : Bs w A n c la) (hb : Bs w A' n' c' lb) :
    Calls Try.prog 28 #[.slice A n c, .slice A' n' c'] w fun e w' => e = .returned (.bool (Nm.lexLess la lb)) ∧ ∃ m, w' = w.drewN m := by
  obtain ⟨h1, h2, h3, h4, h5⟩ := ha
  obtain ⟨g1, g2, g3, g4, g5⟩ := hb
  unfold maxLen at h3 g3
  have H1 := Lib.hid h1
  have H4 := Lib.hid h4
  have H5 := Lib.hid h5
  have G1 := Lib.hid g1
  have G4 := Lib.hid g4
  have G5 := Lib.hid g5
  clear h1 h4 h5 g1 g4 g5
  go_enter Try.func28, Try.ntmps28
  go_wp2
  go_loopw [5] (fun i wr => ∃ k m : Nat, k ≤ n ∧ k ≤ n' ∧ i = .int .i64 k ∧ Hid (Nm.lexLess (la.drop k) (lb.drop k) = Nm.lexLess la lb) ∧ wr = w.drewN m) (fun i _ => n - (intOf i).toNat)
  case atStart => exact ⟨0, 0, Nat.zero_le _, Nat.zero_le _, rfl, rfl, rfl⟩
  case round =>
    obtain ⟨k, m, hk, hk', rfl, HT, rfl⟩ := hrel
    by_cases hlt : k < n
    · by_cases hlt' : k < n'
      · obtain ⟨b, off, rfl, _, hc⟩ := H5.out (by omega)
        obtain ⟨b', off', rfl, _, hc'⟩ := G5.out (by omega)
        obtain ⟨x, hx⟩ : ∃ x, la[k]? = some x := ⟨_, List.getElem?_eq_getElem (by rw [H1.out]; exact hlt)⟩
        obtain ⟨y, hy⟩ : ∃ y, lb[k]? = some y := ⟨_, List.getElem?_eq_getElem (by rw [G1.out]; exact hlt')⟩
        have cx := hc k x hx
        have cy := hc' k y hy
        have HX := Lib.hid (drop_from hx)
        have HY := Lib.hid (drop_from hy)
        have j1 : (k : Int) < (n : Int) := by omega
        have j2 : (k : Int) < (n' : Int) := by omega
        clear hx hy hc hc'
        by_cases hxy : x = y
        · subst hxy
          have hd : ((x : Int) != (x : Int)) = false := by simp
          go_wp2
          go_quiet (fail)
          go_wp2
          go_roundw
          case rel => exact ⟨k + 1, _, by omega, by omega, by go_num, by show _ = _; rw [← HT.out, HX.out, HY.out, lex_cons_eq], rfl⟩
          case measure => simp [intOf]; omega
        · have hd : ((x : Int) != (y : Int)) = true := by simp; omega
          have HN : Hid (Nm.lexLess la lb = decide (x < y)) := by
            show _ = _
            rw [← HT.out, HX.out, HY.out, lex_cons_ne _ _ hxy]
          go_wp2
          go_quiet (fail)
          go_wp2
          go_quiet (fail)
          go_wp2
          go_ret
          exact ⟨by rw [HN.out]; rfl, _, by rw [World.drewN_drewN, World.drewN_drewN]⟩
      · have hf : decide ((k : Int) < (n' : Int)) = false := by simp; omega
        have HE : Hid (Nm.lexLess la lb = decide (n < n')) := by
          show _ = _
          rw [← HT.out, show lb.drop k = [] from List.drop_eq_nil_of_le (by rw [G1.out]; omega), lex_nil_right, Bool.eq_iff_iff]; simp; omega
        go_wp2
        go_ret
        exact ⟨by rw [HE.out]; rfl, m, rfl⟩
    · have hf : decide ((k : Int) < (n : Int)) = false := by simp; omega
      have HE : Hid (Nm.lexLess la lb = decide (n < n')) := by
        show _ = _
        rw [← HT.out, show la.drop k = [] from List.drop_eq_nil_of_le (by rw [H1.out]; omega), lex_nil_left, Bool.eq_iff_iff, List.length_drop, G1.out]; simp; omega
      go_wp2
      go_ret
      exact ⟨by rw [HE.out]; rfl, m, rfl⟩


theorem lex_cmp : ∀ (la lb : List Nat), (∀ x ∈ la, x < 256) → (∀ x ∈ lb, x < 256) → decide (Lib.compareBytes (Lib.bytesOf (la.map Int.ofNat)) (Lib.bytesOf (lb.map Int.ofNat)) < 0) = Nm.lexLess la lb
  | [], [], _, _ => by simp [Lib.bytesOf, Lib.compareBytes, Nm.lexLess]
  | [], y :: s, _, _ => by simp [Lib.bytesOf, Lib.compareBytes, Nm.lexLess]
  | x :: r, [], _, _ => by simp [Lib.bytesOf, Lib.compareBytes, Nm.lexLess]
  | x :: r, y :: s, h1, h2 => by
    have hx := h1 x (by simp)
    have hy := h2 y (by simp)
    have ih := lex_cmp r s (fun z hz => h1 z (by simp [hz])) (fun z hz => h2 z (by simp [hz]))
    have e : ∀ a b : Nat, a < 256 → b < 256 → ((Int.ofNat a).toNat.toUInt8 < (Int.ofNat b).toNat.toUInt8 ↔ a < b) := by
      intro a b ha hb
      rw [UInt8.lt_iff_toNat_lt]
      simp [Nat.toUInt8, UInt8.toNat_ofNat']
      omega
    have u : ∀ (z : Nat) (l : List Nat), Lib.bytesOf ((z :: l).map Int.ofNat) = (Int.ofNat z).toNat.toUInt8 :: Lib.bytesOf (l.map Int.ofNat) := fun z l => by simp [Lib.bytesOf]
    rw [u, u, Lib.compareBytes, Nm.lexLess]
    by_cases h : x < y
    · rw [if_pos ((e x y hx hy).2 h), if_neg (by omega)]
      simp [h]
    · rw [if_neg (fun h' => h ((e x y hx hy).1 h'))]
      by_cases h3 : y < x
      · rw [if_pos ((e y x hy hx).2 h3), if_neg (by omega)]
        simp [h]
      · rw [if_neg (fun h' => h3 ((e y x hy hx).1 h')), if_pos (by omega)]
        exact ih
theorem load_bs {P : Program} {w : World} {A : Option Addr} {n c : Nat} {l : List Nat} (h : Bs w A n c l) : (Extern.Bytes.bytesOf (.slice A n c)).run P w = .ok ⟨(Lib.bytesOf (l.map Int.ofNat)).toArray⟩ w := by
  obtain ⟨h1, h2, h3, h4, h5⟩ := h
  match A, h5 with
  | none, h5 =>
    have hn : n = 0 := by
      rcases Nat.eq_zero_or_pos n with h | h
      · exact h
      · obtain ⟨_, _, e, _⟩ := h5 h; cases e
    subst hn
    obtain rfl : l = [] := List.eq_nil_of_length_eq_zero h1
    rfl
  | some a, h5 =>
    have := Lib.run_loadBytesX (P := P) w (l.map Int.ofNat) a .empty (fun j v hj => by
      rw [List.getElem?_map] at hj
      cases hx : l[j]? with
      | none => rw [hx] at hj; cases hj
      | some x =>
        rw [hx] at hj
        simp only [Option.map_some, Option.some.injEq] at hj
        subst hj
        have hjl := (List.getElem?_eq_some_iff.1 hx).1
        obtain ⟨b, off, e, hlt, hc⟩ := h5 (by omega)
        injection e with e
        subst e
        have hplain : (⟨b, off, none⟩ : Addr).add j = ⟨b, off + j, none⟩ := by unfold Addr.add; split <;> simp_all
        rw [hplain]
        exact hc j x hx)
    rw [List.length_map, h1] at this
    show (Extern.Bytes.loadBytes a n .empty).run P w = _
    rw [this]
    congr 1
    apply ByteArray.ext
    simp [ByteArray.empty, ByteArray.emptyWithCapacity]
    rfl
end Go.Proofs.Ytbhahihgojhcmaa
