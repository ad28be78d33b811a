/-
  The document's disk: Read, Waiting, Ints, New.
-/
import Derived.Test.YtakoajbfkinlcaaRfWrite
namespace Go.Proofs.Ytakoajbfkinlcaa
open Go.RowKit
set_option linter.unusedVariables false

theorem rread_no (w : World) (G : Gd) (d : Dk.Pd) (no : Int) (h : Rfd w G d) (hn : ¬ Dk.has d no) :
    Calls Try.prog 27 #[.pointer (some ⟨G.q, 0, none⟩), .int .i64 no] w fun e w' => e = .returned (.tuple #[.slice none 0 0, .int .i64 1]) ∧ w = w' := by
  have c0 := h.c0
  obtain ⟨vs, hs⟩ := h.safe
  obtain ⟨As, cs, hsv, _, _⟩ := hs.row.form
  rw [hsv] at c0
  unfold Dk.has at hn
  clear hs h hsv
  generalize d.pages.length = m at *
  by_cases h0 : no < 0
  · go_enter Try.func27, Try.ntmps27
    go_wp2
    go_ret2
    exact ⟨rfl, rfl⟩
  · have g0 : decide (no < 0) = false := by simp; omega
    have g1 : decide (no ≥ (m : Int)) = true := by simp; omega
    clear hn
    go_enter Try.func27, Try.ntmps27
    go_wp2
    go_ret2
    exact ⟨rfl, rfl⟩

set_option maxRecDepth 100000 in
set_option maxHeartbeats 1000000 in
theorem rread_any (w : World) (G : Gd) (d : Dk.Pd) (no : Nat) (h : Rfd w G d) (hn : no < d.pages.length) (hm : d.waits.length < 1000) :
    Calls Try.prog 27 #[.pointer (some ⟨G.q, 0, none⟩), .int .i64 (no : Int)] w fun e w' => ∃ A c, e = .returned (.tuple #[.slice A 1024 c, .int .i64 0]) ∧ Bs w' A 1024 c (Dk.seen d no) ∧ Below w.heap.size w w' := by
  obtain ⟨b0, bi, bz0, bz1, bz2⟩ := info_parts Try.info5
  obtain ⟨vs, hs⟩ := h.safe
  obtain ⟨xs, hx⟩ := h.waits
  obtain ⟨A', cw, hwv, hwc, hwm⟩ := hx.form
  have c0 := h.c0
  have c1 := h.c1
  rw [hwv] at c1
  unfold maxLen at hwm
  obtain ⟨g, c, u, l, hv, hc, hl, hu, cu⟩ := hs.get hn
  rw [hv] at c0
  have hse : Dk.seenTo d no 0 = l := by
    show d.pages.getD no [] = l; rw [List.getD_eq_getElem?_getD, hl]; rfl
  rw [← hse] at hu
  have z1 : (no : Int) < (d.pages.length : Int) := by omega
  have g0 : decide ((no : Int) < 0) = false := by simp
  have g1 : decide ((no : Int) ≥ (d.pages.length : Int)) = false := by simp; omega
  have HU := Lib.hid hu
  have HX := Lib.hid hx
  have HW := Lib.hid hwv
  clear hs hx hwv hv hl hu h hse
  go_enter Try.func27, Try.ntmps27
  go_wp2_with fail
  go_loopw [6, 7] (fun v i wr => ∃ k : Nat, k ≤ d.waits.length ∧ i = .int .i64 (k : Int) ∧ PgV w v (Dk.seenTo d no k) ∧ wr = w) (fun _ i _ => d.waits.length - (intOf i).toNat)
  case atStart => exact ⟨0, Nat.zero_le _, rfl, HU.out, rfl⟩
  case round =>
    obtain ⟨k, hk, rfl, hV, rfl⟩ := hrel
    by_cases hlt : k < d.waits.length
    · obtain ⟨g', c', no', u', l', hv', hc', hw, hu', cn, cu'⟩ := HX.out.get hlt
      rw [HW.out] at hv'
      injection hv' with hv' _ hv2
      subst hv' hv2
      have z2 : (k : Int) < (d.waits.length : Int) := by omega
      have HS := Lib.hid (Dk.seen_step (no := no) hw)
      have HV := Lib.hid hV
      have HU' := Lib.hid hu'
      obtain ⟨gu, ku, rfl, _, _, _⟩ := hu'.form
      clear hV hu' hw
      by_cases he : no' = no
      · have he' : ((no' : Int) == (no : Int)) = true := by simp [he]
        have hN : PgV wr (.slice (some ⟨gu, 0, none⟩) 1024 ku) (Dk.seenTo d no (k + 1)) := by rw [HS.out, if_pos he]; exact HU'.out
        have HN := Lib.hid hN
        clear hN he HS HU' HV
        go_wp2
        go_roundw
        case rel => exact ⟨k + 1, by omega, by go_num, HN.out, trivial⟩
        case measure => simp [intOf]; omega
      · have he' : ((no' : Int) == (no : Int)) = false := by simp; omega
        have hN : PgV wr u6 (Dk.seenTo d no (k + 1)) := by rw [HS.out, if_neg he]; exact HV.out
        have HN := Lib.hid hN
        clear hN he HS HU' HV
        go_wp2
        go_roundw
        case rel => exact ⟨k + 1, by omega, by go_num, HN.out, trivial⟩
        case measure => simp [intOf]; omega
    · have hk' : k = d.waits.length := by omega
      have hf : ¬ ((k : Int) < (d.waits.length : Int)) := by omega
      obtain ⟨gu, ku, rfl, hbu, hcu, hmu⟩ := hV.form
      have HN := Lib.hid hV.len
      have HT := Lib.hid hV.lt
      have O4 := Lib.hid (World.ownsRow_made (base := wr.heap.size) (e := 5) (size := 1) wr #[] 0 (Nat.le_refl _) (Nat.zero_le _) rfl)
      have S4 := Lib.hid (hbu.alloc (.cells #[] 5))
      have B4 : Below wr.heap.size wr (wr.alloc (.cells #[] 5)) := (Below.refl _ _).alloc (Nat.le_refl _) _
      have HK := Lib.hid hk'
      clear hV hbu hk' hlt
      go_wp2_with (at_builtin; refine wpList_append_bs _ rfl _ _ 34 rfl wr.heap.size 5 b0 (.int .u8 0) Try.underlying34 bi bz0 bz1 bz2 rfl _ _ _ rfl O4.out _ _ _ _ rfl S4.out (by omega) (by simp) ?_; intro v5 w5 O5 g5)
      have b5 : Below wr.heap.size wr w5 := below_own B4 O4.out g5 (by simp) (Nat.le_refl _)
      rw [Nat.zero_add, List.nil_append] at O5
      obtain ⟨A5, c5, rfl, hc5, _⟩ := own_form O5
      have o5 := own_bs O5 HN.out HT.out
      rw [HK.out] at o5
      have HO := Lib.hid o5
      have HB := Lib.hid b5
      clear O5 o5 b5 g5 O4 S4 B4
      go_wp2
      go_ret2
      exact ⟨A5, c5, rfl, HO.out, HB.out⟩

set_option maxRecDepth 100000 in
set_option maxHeartbeats 1000000 in
theorem rwaiting_any (w : World) (G : Gd) (d : Dk.Pd) (h : Rfd w G d) (hm : d.waits.length < 1000) :
    Calls Try.prog 24 #[.pointer (some ⟨G.q, 0, none⟩)] w fun e w' => ∃ A c, e = .returned (.slice A d.waits.length c) ∧ Rd w' A d.waits.length c (nv (Dk.nos d)) ∧ Below w.heap.size w w' := by
  obtain ⟨i0, hi, hz0, hz1, hz2⟩ := info_parts Try.info3
  obtain ⟨xs, hx⟩ := h.waits
  obtain ⟨A', cw, hwv, hwc, hwm⟩ := hx.form
  have c1 := h.c1
  rw [hwv] at c1
  have hq := h.lt (.inl rfl)
  unfold maxLen at hwm
  have HW := Lib.hid hwv
  have HX := Lib.hid hx
  clear hx hwv h
  go_enter Try.func24, Try.ntmps24
  go_wp2_with fail
  go_loopw [3, 4] (fun v i wr => ∃ k : Nat, k ≤ d.waits.length ∧ i = .int .i64 (k : Int) ∧ wr.ownsRow w.heap.size 3 1 v k (nv ((Dk.nos d).take k)) ∧ Below w.heap.size w wr) (fun _ i _ => d.waits.length - (intOf i).toNat)
  case atStart => exact ⟨0, Nat.zero_le _, rfl, World.ownsRow_nil _ _ _ _, Below.refl _ _⟩
  case round =>
    obtain ⟨k, hk, rfl, hO, hB⟩ := hrel
    have c1' := (hB.cell (p := ⟨G.q, 1, none⟩) hq).trans c1
    by_cases hlt : k < d.waits.length
    · obtain ⟨g, c', no, u, l, hv, hc', hw, hu, cn, cu⟩ := (HX.out.on hB).get hlt
      rw [HW.out] at hv
      injection hv with hv _ hv2
      subst hv hv2
      have z2 : (k : Int) < (d.waits.length : Int) := by omega
      obtain ⟨A1, cA, rfl, _, _⟩ := own_form hO
      have O2 := Lib.hid (hO.alloc (.cells #[.int .i64 (no : Int)] 3))
      have HB := Lib.hid hB
      have HS := Lib.hid (nos_step hw)
      have hsz := hB.size
      clear hO hB hw hu
      go_wp2_with (at_builtin; refine wpList_append_lies _ rfl _ _ 44 rfl w.heap.size 3 i0 (.int .i64 0) 1 8 Try.underlying44 hi hz0 hz1 hz2 rfl (by decide) _ _ _ rfl O2.out ⟨wr.heap.size, 0, none⟩ 1 1 [.int .i64 (no : Int)] rfl rfl (cell_one_new _ _ _) (by simp [Value.oneCell']) (by decide) (by unfold maxLen; omega) (by omega) (by simp; omega) _ rfl ?_; intro g' cap w3 O3 g3 hl3 hg3)
      have B3 : Below w.heap.size w w3 := below_own (HB.out.alloc HB.out.size _) O2.out g3 (by simp; omega) (Nat.le_refl _)
      rw [← nv_snoc, ← HS.out] at O3
      have HO3 := Lib.hid O3
      have HB3 := Lib.hid B3
      clear O3 B3 g3 hl3 hg3 O2 HB c1' cn cu
      go_wp2
      go_roundw
      case rel => exact ⟨k + 1, by omega, by go_num, HO3.out, HB3.out⟩
      case measure => simp [intOf]; omega
    · have hk' : k = d.waits.length := by omega
      have hf : ¬ ((k : Int) < (d.waits.length : Int)) := by omega
      have e : (Dk.nos d).take k = Dk.nos d := List.take_of_length_le (by rw [nos_len]; omega)
      rw [e] at hO
      obtain ⟨A1, cA, rfl, hR⟩ := Rd.of_own hO
      have HR := Lib.hid hR
      have HB := Lib.hid hB
      have HK := Lib.hid hk'
      clear hO hR hB e hlt hk'
      go_wp2
      go_ret
      have := HR.out
      rw [HK.out] at this
      exact ⟨A1, cA, by rw [HK.out]; rfl, this, HB.out⟩

set_option maxRecDepth 100000 in
theorem ints_same (w : World) (A A' : Option Addr) (n c c' : Nat) (l : List Nat) (ha : Rd w A n c (nv l)) (hb : Rd w A' n c' (nv l)) (hn : n < 1000) :
    Calls Try.prog 22 #[.slice A n c, .slice A' n c'] w fun e w' => e = .returned (.bool true) ∧ ∃ m, w' = w.drewN m := by
  have HA := Lib.hid ha
  have HB := Lib.hid hb
  have hne : ((n : Int) != (n : Int)) = false := by simp
  clear ha hb
  go_enter Try.func22, Try.ntmps22
  go_wp2_with fail
  go_loopw [5] (fun i wr => ∃ k m : Nat, k ≤ n ∧ i = .int .i64 (k : Int) ∧ wr = w.drewN m) (fun i _ => n - (intOf i).toNat)
  case atStart => exact ⟨0, 0, Nat.zero_le _, rfl, rfl⟩
  case round =>
    obtain ⟨k, m, hk, rfl, rfl⟩ := hrel
    by_cases hlt : k < n
    · obtain ⟨b, off, v, rfl, hv, cx⟩ := HA.out.at_ hlt
      obtain ⟨b', off', v', rfl, hv', cy⟩ := HB.out.at_ hlt
      rw [hv] at hv'
      injection hv' with hv'
      subst hv'
      unfold nv at hv
      rw [List.getElem?_map] at hv
      obtain ⟨x, rfl⟩ : ∃ x : Nat, v = .int .i64 (x : Int) := by
        cases hx : l[k]? with
        | none => rw [hx] at hv; cases hv
        | some x => rw [hx] at hv; injection hv with hv; exact ⟨x, hv.symm⟩
      have hd : ((x : Int) != (x : Int)) = false := by simp
      have z2 : (k : Int) < (n : Int) := by omega
      clear hv
      go_wp2_with fail
      go_quiet (fail)
      go_wp2
      go_roundw
      case rel => exact ⟨k + 1, _, by omega, by go_num, rfl⟩
      case measure => simp [intOf]; omega
    · have hf : ¬ ((k : Int) < (n : Int)) := by omega
      go_wp2
      go_ret
      exact ⟨rfl, m, rfl⟩

end Go.Proofs.Ytakoajbfkinlcaa
