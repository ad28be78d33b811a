/-
  The document's Read once more: what it tells lies in memory of its own.
-/
import Derived.Test.YtakoajbfkinlcaaDkPair
namespace Go.Proofs.Ytakoajbfkinlcaa
open Go.RowKit
set_option linter.unusedVariables false

set_option maxRecDepth 100000 in
set_option maxHeartbeats 1000000 in
theorem rread_anyG (w : World) (G : Gd) (d : Dk.Pd) (no : Nat) (h : Rfd w G d) (hn : no < d.pages.length) (hm : d.waits.length < 1000) :
    Calls Try.prog 27 #[.pointer (some ⟨G.q, 0, none⟩), .int .i64 (no : Int)] w fun e w' => ∃ A c, e = .returned (.tuple #[.slice A 1024 c, .int .i64 0]) ∧ Bs w' A 1024 c (Dk.seen d no) ∧ Below w.heap.size w w' ∧ ∀ b off, A = some ⟨b, off, none⟩ → w.heap.size ≤ b := by
  obtain ⟨b0, bi, bz0, bz1, bz2⟩ := info_parts Try.info5
  obtain ⟨vs, hs⟩ := h.safe
  obtain ⟨xs, hx⟩ := h.waits
  obtain ⟨A', cw, hwv, hwc, hwm⟩ := hx.form
  have c0 := h.c0
  have c1 := h.c1
  rw [hwv] at c1
  unfold maxLen at hwm
  obtain ⟨g, c, u, l, hv, hc, hl, hu, cu⟩ := hs.get hn
  rw [hv] at c0
  have hse : Dk.seenTo d no 0 = l := by
    show d.pages.getD no [] = l; rw [List.getD_eq_getElem?_getD, hl]; rfl
  rw [← hse] at hu
  have z1 : (no : Int) < (d.pages.length : Int) := by omega
  have g0 : decide ((no : Int) < 0) = false := by simp
  have g1 : decide ((no : Int) ≥ (d.pages.length : Int)) = false := by simp; omega
  have HU := Lib.hid hu
  have HX := Lib.hid hx
  have HW := Lib.hid hwv
  clear hs hx hwv hv hl hu h hse
  go_enter Try.func27, Try.ntmps27
  go_wp2_with fail
  go_loopw [6, 7] (fun v i wr => ∃ k : Nat, k ≤ d.waits.length ∧ i = .int .i64 (k : Int) ∧ PgV w v (Dk.seenTo d no k) ∧ wr = w) (fun _ i _ => d.waits.length - (intOf i).toNat)
  case atStart => exact ⟨0, Nat.zero_le _, rfl, HU.out, rfl⟩
  case round =>
    obtain ⟨k, hk, rfl, hV, rfl⟩ := hrel
    by_cases hlt : k < d.waits.length
    · obtain ⟨g', c', no', u', l', hv', hc', hw, hu', cn, cu'⟩ := HX.out.get hlt
      rw [HW.out] at hv'
      injection hv' with hv' _ hv2
      subst hv' hv2
      have z2 : (k : Int) < (d.waits.length : Int) := by omega
      have HS := Lib.hid (Dk.seen_step (no := no) hw)
      have HV := Lib.hid hV
      have HU' := Lib.hid hu'
      obtain ⟨gu, ku, rfl, _, _, _⟩ := hu'.form
      clear hV hu' hw
      by_cases he : no' = no
      · have he' : ((no' : Int) == (no : Int)) = true := by simp [he]
        have hN : PgV wr (.slice (some ⟨gu, 0, none⟩) 1024 ku) (Dk.seenTo d no (k + 1)) := by rw [HS.out, if_pos he]; exact HU'.out
        have HN := Lib.hid hN
        clear hN he HS HU' HV
        go_wp2
        go_roundw
        case rel => exact ⟨k + 1, by omega, by go_num, HN.out, trivial⟩
        case measure => simp [intOf]; omega
      · have he' : ((no' : Int) == (no : Int)) = false := by simp; omega
        have hN : PgV wr u6 (Dk.seenTo d no (k + 1)) := by rw [HS.out, if_neg he]; exact HV.out
        have HN := Lib.hid hN
        clear hN he HS HU' HV
        go_wp2
        go_roundw
        case rel => exact ⟨k + 1, by omega, by go_num, HN.out, trivial⟩
        case measure => simp [intOf]; omega
    · have hk' : k = d.waits.length := by omega
      have hf : ¬ ((k : Int) < (d.waits.length : Int)) := by omega
      obtain ⟨gu, ku, rfl, hbu, hcu, hmu⟩ := hV.form
      have HN := Lib.hid hV.len
      have HT := Lib.hid hV.lt
      have O4 := Lib.hid (World.ownsRow_made (base := wr.heap.size) (e := 5) (size := 1) wr #[] 0 (Nat.le_refl _) (Nat.zero_le _) rfl)
      have S4 := Lib.hid (hbu.alloc (.cells #[] 5))
      have B4 : Below wr.heap.size wr (wr.alloc (.cells #[] 5)) := (Below.refl _ _).alloc (Nat.le_refl _) _
      have HK := Lib.hid hk'
      clear hV hbu hk' hlt
      go_wp2_with (at_builtin; refine wpList_append_bs _ rfl _ _ 34 rfl wr.heap.size 5 b0 (.int .u8 0) Try.underlying34 bi bz0 bz1 bz2 rfl _ _ _ rfl O4.out _ _ _ _ rfl S4.out (by omega) (by simp) ?_; intro v5 w5 O5 g5)
      have b5 : Below wr.heap.size wr w5 := below_own B4 O4.out g5 (by simp) (Nat.le_refl _)
      rw [Nat.zero_add, List.nil_append] at O5
      obtain ⟨A5, c5, rfl, hc5, _⟩ := own_form O5
      have o5 := own_bs O5 HN.out HT.out
      rw [HK.out] at o5
      have HO := Lib.hid o5
      have HB := Lib.hid b5
      have HF := Lib.hid (fun b off (e : A5 = some ⟨b, off, none⟩) => (O5.lt b (by rw [e]; rfl)).1)
      clear O5 o5 b5 g5 O4 S4 B4
      go_wp2
      go_ret2
      exact ⟨A5, c5, rfl, HO.out, HB.out, HF.out⟩


theorem qreadG {wb : World} (w : World) (p q : Nat) (d e : Dk.Pd) (h : Pair wb w p q d e) (no : Nat) (hn : no < e.pages.length) (hm : e.waits.length < 1000) : Calls Try.prog 27 #[.pointer (some ⟨q, 0, none⟩), .int .i64 (no : Int)] w fun r w' => ∃ A c, r = .returned (.tuple #[.slice A 1024 c, .int .i64 0]) ∧ Bs w' A 1024 c (Dk.seen e no) ∧ Below w.heap.size w w' ∧ ∀ b off, A = some ⟨b, off, none⟩ → w.heap.size ≤ b := by
  obtain ⟨H, G, rfl, rfl, hD, hR, _⟩ := h
  exact rread_anyG w G e no hR hn hm

end Go.Proofs.Ytakoajbfkinlcaa
