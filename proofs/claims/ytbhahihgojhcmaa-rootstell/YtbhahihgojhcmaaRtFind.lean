/-
  The first root that is so, and the closures that ask; Find.
-/
import Derived.Test.YtbhahihgojhcmaaRtMay
namespace Go.Proofs.Ytbhahihgojhcmaa.Rt
open Go.RowKit
set_option linter.unusedVariables false

theorem ret_nat {a b : Nat} (h : a = b) : Ending.returned (.int .i64 (a : Int)) = .returned (.int .i64 (b : Int)) := by rw [h]
/-- The place of the first that is so; behind all, if none is. -/
def idx (q : Rm.R → Bool) (L : List Rm.R) : Nat := (L.takeWhile fun x => !q x).length
theorem idx_le (q : Rm.R → Bool) (L : List Rm.R) : idx q L ≤ L.length := (List.takeWhile_prefix _).length_le
theorem idx_yes {q : Rm.R → Bool} {x : Rm.R} {t : List Rm.R} (h : q x = true) : idx q (x :: t) = 0 := by simp [idx, h]
theorem idx_no {q : Rm.R → Bool} {x : Rm.R} {t : List Rm.R} (h : q x = false) : idx q (x :: t) = idx q t + 1 := by simp [idx, h]

set_option maxRecDepth 100000 in
set_option maxHeartbeats 1000000 in
theorem findIs_any (w : World) (x : Rm.R) (nm : List Nat) (b : Nat) (hx : In x) (hn : ∀ z ∈ nm, z < 256) (hb : w.cell? ⟨b, 0, none⟩ = some (.string (txt nm))) (hlt : b < w.heap.size) :
    Calls Try.prog 33 #[rv x, .pointer (some ⟨b, 0, none⟩)] w fun e w' => e = .returned (.bool (decide (x.name = nm))) ∧ Below w.heap.size w w' := by
  have Q := Lib.hid (Rb.new w x)
  have HB0 := Lib.hid ((Below.refl w.heap.size w).alloc (Nat.le_refl _) (.cells #[.string (txt x.name), .int .i64 x.page, .int .i64 x.count] 34))
  have hE := txt_eq hx.nm hn
  have hb1 := (HB0.out.cell (p := ⟨b, 0, none⟩) hlt).trans hb
  obtain ⟨c0, c1, c2⟩ := Q.out.at_
  unfold rv
  clear Q hb
  generalize decide (x.name = nm) = D at *
  go_enter Try.func33, Try.ntmps33
  go_wp2
  go_ret
  exact ⟨rfl, HB0.out⟩
set_option maxRecDepth 100000 in
set_option maxHeartbeats 1000000 in
theorem withIs_any (w : World) (x r : Rm.R) (b : Nat) (hx : In x) (hn : In r) (hb : Rb w b r) :
    Calls Try.prog 31 #[rv x, .pointer (some ⟨b, 0, none⟩)] w fun e w' => e = .returned (.bool (Nm.lexLess r.name x.name)) ∧ Below w.heap.size w w' := by
  have Q := Lib.hid (Rb.new w x)
  have HB0 := Lib.hid ((Below.refl w.heap.size w).alloc (Nat.le_refl _) (.cells #[.string (txt x.name), .int .i64 x.page, .int .i64 x.count] 34))
  have hE : (!(Op.bytesLess (txt x.name).toList (txt r.name).toList || ((txt x.name).toList == (txt r.name).toList))) = Nm.lexLess r.name x.name := by
    rw [leq_names hx.nm hn.nm, Bool.not_not]
  obtain ⟨d0, d1, d2⟩ := (hb.alloc (.cells #[.string (txt x.name), .int .i64 x.page, .int .i64 x.count] 34)).at_
  obtain ⟨c0, c1, c2⟩ := Q.out.at_
  unfold rv
  clear Q hb
  generalize Nm.lexLess r.name x.name = D at *
  go_enter Try.func31, Try.ntmps31
  go_wp2
  go_ret
  exact ⟨by first | rw [hE] | (simp at hE; simp), HB0.out⟩

set_option maxRecDepth 100000 in
set_option maxHeartbeats 1000000 in
theorem firstF (b : Nat) (q : Rm.R → Bool) (w : World) (A : Option Addr) (n c : Nat) (L : List Rm.R) (h : Rs w A n c L)
    (hC : ∀ (W : World) (x : Rm.R), In x → Below w.heap.size w W → Calls Try.prog 33 #[rv x, .pointer (some ⟨b, 0, none⟩)] W fun e w' => e = .returned (.bool (q x)) ∧ Below W.heap.size W w') :
    Calls Try.prog 30 #[.slice A n c, .func (.func 33) #[] #[.pointer (some ⟨b, 0, none⟩)]] w fun e w' => e = .returned (.int .i64 (idx q L : Int)) ∧ Below w.heap.size w w' := by
  have H := Lib.hid h
  have hl := h.1
  have hcm := h.2.2.1
  have hnc := h.2.1
  unfold maxLen at hcm
  have HC := Lib.hid hC
  clear h hC
  go_enter Try.func30, Try.ntmps30
  go_wp2_with fail
  go_loopw [9] (fun i wr => ∃ (k : Nat), k ≤ n ∧ i = .int .i64 (k : Int) ∧ Hid (idx q L = k + idx q (L.drop k)) ∧ Below w.heap.size w wr) (fun i _ => n - (intOf i).toNat)
  case atStart => exact ⟨0, Nat.zero_le _, rfl, by show _ = _; simp, Below.refl _ _⟩
  case round =>
    obtain ⟨k, hk, rfl, HI, hbel⟩ := hrel
    by_cases hlt : k < n
    · obtain ⟨bb, off, x, rfl, hbb, hx, hin, hat⟩ := (H.out.on hbel).get hlt
      obtain ⟨c0, c1, c2⟩ := hat
      have hI := HI.out
      rw [drop_at hx] at hI
      have Q := Lib.hid (Rb.new wr x)
      have HB1 := Lib.hid (hbel.alloc (Nat.le_of_lt_succ (by have := hbel.size; omega)) (.cells #[.string (txt x.name), .int .i64 x.page, .int .i64 x.count] 34))
      have C := Lib.hid (HC.out _ x hin HB1.out)
      obtain ⟨d0, d1, d2⟩ := Q.out.at_
      clear hx hin HI
      unfold rv at C
      cases hq : q x with
      | true =>
        rw [hq] at C
        rw [idx_yes hq] at hI
        have HJ := Lib.hid hI
        clear hI hq
        go_wp2_with fail
        refine C.out.mono ?_
        rintro e w1 ⟨rfl, B1⟩
        have HB2 := Lib.hid (HB1.out.trans (B1.mono (by have := hbel.size; simp; omega)))
        clear c0 c1 c2 d0 d1 d2
        go_wp2_with fail
        go_ret
        exact ⟨ret_nat HJ.out.symm, HB2.out⟩
      | false =>
        rw [hq] at C
        rw [idx_no hq] at hI
        have HI2 : Hid (idx q L = (k + 1) + idx q (L.drop (k + 1))) := by show _ = _; omega
        clear hI hq
        go_wp2_with fail
        refine C.out.mono ?_
        rintro e w1 ⟨rfl, B1⟩
        have HB2 := Lib.hid (HB1.out.trans (B1.mono (by have := hbel.size; simp; omega)))
        clear c0 c1 c2 d0 d1 d2
        go_wp2_with fail
        go_roundw
        case rel => exact ⟨k + 1, by omega, by go_num, HI2.out, HB2.out⟩
        case measure => simp [intOf]; omega
    · have e : idx q L = n := by
        rw [HI.out, List.drop_eq_nil_of_le (by omega)]; simp [idx]; omega
      have HJ := Lib.hid e
      clear e
      go_wp2_with fail
      go_ret
      exact ⟨ret_nat HJ.out.symm, hbel⟩
set_option maxRecDepth 100000 in
set_option maxHeartbeats 1000000 in
theorem firstW (b : Nat) (q : Rm.R → Bool) (w : World) (A : Option Addr) (n c : Nat) (L : List Rm.R) (h : Rs w A n c L)
    (hC : ∀ (W : World) (x : Rm.R), In x → Below w.heap.size w W → Calls Try.prog 31 #[rv x, .pointer (some ⟨b, 0, none⟩)] W fun e w' => e = .returned (.bool (q x)) ∧ Below W.heap.size W w') :
    Calls Try.prog 30 #[.slice A n c, .func (.func 31) #[] #[.pointer (some ⟨b, 0, none⟩)]] w fun e w' => e = .returned (.int .i64 (idx q L : Int)) ∧ Below w.heap.size w w' := by
  have H := Lib.hid h
  have hl := h.1
  have hcm := h.2.2.1
  have hnc := h.2.1
  unfold maxLen at hcm
  have HC := Lib.hid hC
  clear h hC
  go_enter Try.func30, Try.ntmps30
  go_wp2_with fail
  go_loopw [9] (fun i wr => ∃ (k : Nat), k ≤ n ∧ i = .int .i64 (k : Int) ∧ Hid (idx q L = k + idx q (L.drop k)) ∧ Below w.heap.size w wr) (fun i _ => n - (intOf i).toNat)
  case atStart => exact ⟨0, Nat.zero_le _, rfl, by show _ = _; simp, Below.refl _ _⟩
  case round =>
    obtain ⟨k, hk, rfl, HI, hbel⟩ := hrel
    by_cases hlt : k < n
    · obtain ⟨bb, off, x, rfl, hbb, hx, hin, hat⟩ := (H.out.on hbel).get hlt
      obtain ⟨c0, c1, c2⟩ := hat
      have hI := HI.out
      rw [drop_at hx] at hI
      have Q := Lib.hid (Rb.new wr x)
      have HB1 := Lib.hid (hbel.alloc (Nat.le_of_lt_succ (by have := hbel.size; omega)) (.cells #[.string (txt x.name), .int .i64 x.page, .int .i64 x.count] 34))
      have C := Lib.hid (HC.out _ x hin HB1.out)
      obtain ⟨d0, d1, d2⟩ := Q.out.at_
      clear hx hin HI
      unfold rv at C
      cases hq : q x with
      | true =>
        rw [hq] at C
        rw [idx_yes hq] at hI
        have HJ := Lib.hid hI
        clear hI hq
        go_wp2_with fail
        refine C.out.mono ?_
        rintro e w1 ⟨rfl, B1⟩
        have HB2 := Lib.hid (HB1.out.trans (B1.mono (by have := hbel.size; simp; omega)))
        clear c0 c1 c2 d0 d1 d2
        go_wp2_with fail
        go_ret
        exact ⟨ret_nat HJ.out.symm, HB2.out⟩
      | false =>
        rw [hq] at C
        rw [idx_no hq] at hI
        have HI2 : Hid (idx q L = (k + 1) + idx q (L.drop (k + 1))) := by show _ = _; omega
        clear hI hq
        go_wp2_with fail
        refine C.out.mono ?_
        rintro e w1 ⟨rfl, B1⟩
        have HB2 := Lib.hid (HB1.out.trans (B1.mono (by have := hbel.size; simp; omega)))
        clear c0 c1 c2 d0 d1 d2
        go_wp2_with fail
        go_roundw
        case rel => exact ⟨k + 1, by omega, by go_num, HI2.out, HB2.out⟩
        case measure => simp [intOf]; omega
    · have e : idx q L = n := by
        rw [HI.out, List.drop_eq_nil_of_le (by omega)]; simp [idx]; omega
      have HJ := Lib.hid e
      clear e
      go_wp2_with fail
      go_ret
      exact ⟨ret_nat HJ.out.symm, hbel⟩

end Go.Proofs.Ytbhahihgojhcmaa.Rt
