/-
  The program's disk: Crash.
-/
import Derived.Test.YtcpgmglpgffhdaaDkSync
namespace Go.Proofs.Ytcpgmglpgffhdaa
open Go.RowKit
set_option linter.unusedVariables false

/-- The slice value '.slice A n c' reads as the values l. -/
def Rd (w : World) (A : Option Addr) (n c : Nat) (l : List Value) : Prop :=
  l.length = n ∧ n ≤ c ∧ c ≤ maxLen ∧
  (0 < n → ∃ b off, A = some ⟨b, off, none⟩ ∧ b < w.heap.size ∧ ∀ (j : Nat) (v : Value), l[j]? = some v → w.cell? ⟨b, off + j, none⟩ = some v)
section
variable {w w' : World} {A : Option Addr} {n c : Nat} {l : List Value}
theorem Rd.off {S : Nat → Prop} (h : Rd w A n c l) (ho : Off S w w') (hn : ∀ b off, A = some ⟨b, off, none⟩ → ¬ S b) : Rd w' A n c l := by
  obtain ⟨h1, h2, h3, h5⟩ := h
  refine ⟨h1, h2, h3, fun hp => ?_⟩
  obtain ⟨b, off, e, hlt, hc⟩ := h5 hp
  exact ⟨b, off, e, Nat.lt_of_lt_of_le hlt ho.size, fun j x hx => (World.cell?_of_block (a := ⟨b, off + j, none⟩) (ho.block b hlt (hn b off e))).trans (hc j x hx)⟩
theorem Rd.on (h : Rd w A n c l) (hb : Below w.heap.size w w') : Rd w' A n c l := h.off (S := fun _ => False) (Off.of_below hb) fun _ _ _ h => h
theorem Rd.nil_ (w : World) (A : Option Addr) (c : Nat) (hc : c ≤ maxLen) : Rd w A 0 c [] := ⟨rfl, Nat.zero_le _, hc, fun h => absurd h (by omega)⟩
theorem Rd.at_ (h : Rd w A n c l) {k : Nat} (hk : k < n) : ∃ b off v, A = some ⟨b, off, none⟩ ∧ l[k]? = some v ∧ w.cell? ⟨b, off + k, none⟩ = some v := by
  obtain ⟨h1, h2, h3, h5⟩ := h
  obtain ⟨b, off, e, hlt, hc⟩ := h5 (by omega)
  have hl : k < l.length := by omega
  exact ⟨b, off, l[k], e, List.getElem?_eq_getElem hl, hc k _ (List.getElem?_eq_getElem hl)⟩
end
/-- .. and no block of S is among what it leads to. -/
def Clear (A : Option Addr) (S : Nat → Prop) : Prop := ∀ b off, A = some ⟨b, off, none⟩ → ¬ S b

theorem tornV_any (w : World) (A : Option Addr) (n c : Nat) (l : List Nat) (hb : Bs w A n c l) (hn : n ≤ 1000000) :
    Calls Try.prog 45 #[.slice A n c] w fun e w' => ∃ g, e = .returned (.slice (some ⟨g, 0, none⟩) n n) ∧ w.heap.size ≤ g ∧ Row w' g (Pg.torn l) ∧ Below w.heap.size w w' := by
  refine (torn_any w A n c l hb hn).mono ?_
  rintro e w' ⟨rfl, h1, h2⟩
  exact ⟨_, rfl, Nat.le_refl _, h1, h2⟩

set_option maxRecDepth 100000 in
set_option maxHeartbeats 1000000 in
theorem crash_any (w : World) (H : Hd) (d : Dk.Pd) (A : Option Addr) (n c : Nat) (keep : List Bool) (torn : Int) (h : Dsk w H d) (hk : Rd w A n c (keep.map Value.bool)) (hkb : 0 < n → Clear A H.own) (hm : d.waits.length < 1000) :
    Calls Try.prog 24 #[.pointer (some ⟨H.p, 0, none⟩), .slice A n c, .int .i64 torn] w fun e w' => ∃ H', e = .returned (.tuple #[]) ∧ Dsk w' H' (Dk.crashed d keep torn) ∧ Step w H w' H' := by
  obtain ⟨xs, hx⟩ := h.waits
  obtain ⟨A', cw, hwv, hwc, hwm⟩ := hx.form
  have c1 := h.c1
  rw [hwv] at c1
  unfold maxLen at hwm
  have hkl : keep.length = n := by have := hk.1; simpa using this
  have hkm := hk.2.2.1
  have hkc := hk.2.1
  unfold maxLen at hkm
  have HW := Lib.hid hwv
  have HD := Lib.hid h
  have HK := Lib.hid hk
  have HKB := Lib.hid hkb
  have HE := Lib.hid (Dk.crTo_min d keep torn)
  obtain ⟨mu, hmu⟩ : ∃ mu, mu = min d.waits.length n := ⟨_, rfl⟩
  rw [hkl, ← hmu] at HE
  have e1 : (if n < d.waits.length then (n : Int) else (d.waits.length : Int)) = (mu : Int) := by split <;> omega
  have z1 : mu ≤ cw := by omega
  have z2 : (mu : Int) ≤ (cw : Int) := by omega
  have z3 : mu ≤ d.waits.length := by omega
  have z4 : mu ≤ n := by omega
  clear hx hwv h hk hkb hmu
  generalize hL : d.waits.length = m at *
  go_enter Try.func24, Try.ntmps24
  go_wp2_with fail
  go_region
  clear e1
  go_wp2_with fail
  go_loopw [23] (fun i wr => ∃ k : Nat, k ≤ mu ∧ i = .int .i64 (k : Int) ∧ Mid w wr H (Dk.crTo d keep torn k)) (fun i _ => mu - (intOf i).toNat)
  case atStart => exact ⟨0, Nat.zero_le _, rfl, HD.out.mid.below (Below.refl _ _).drew⟩
  case round =>
    obtain ⟨k, hk, rfl, hM⟩ := hrel
    by_cases hlt : k < mu
    · obtain ⟨xs, hx⟩ := hM.waits HD.out
      obtain ⟨g, c', no, u, l, hv, hc', hw, hu, cn, cu⟩ := hx.get (k := k) (by omega)
      rw [HW.out] at hv
      injection hv with hv _ hv2
      subst hv hv2
      obtain ⟨gu, ku, rfl, hbu, _, _⟩ := hu.form
      have hno : no < d.pages.length := HD.out.ins _ (List.mem_of_getElem? hw)
      obtain ⟨vs, hs⟩ := hM.safe
      have hno' : no < (Dk.crTo d keep torn k).length := by rw [Dk.crTo_len]; exact hno
      obtain ⟨gs, cs, us, ls, hsv, hcs, _, _, cus⟩ := hs.get hno'
      rw [Dk.crTo_len] at hsv hcs
      have c0 := cell_of_row wr _ 0 _ _ (0, 0) (hM.str HD.out)
      rw [hsv] at c0
      have hsf : wr.frozen? ⟨gs, no, none⟩ = false := by rw [hsv] at hs; exact hs.frozen no
      have hpl : H.p < wr.heap.size := hM.lt HD.out (.inl rfl)
      have hgl : gs < wr.heap.size := own_lt hs.own (by rw [hsv]; rfl)
      simp at c0
      obtain ⟨kb, ko, kv, rfl, hkv, ck⟩ := (HK.out.off hM.off fun b off e hb => HKB.out (by omega) b off e (.inr (.inr (.inl hb)))).at_ (k := k) (by omega)
      obtain ⟨b, hb, rfl⟩ : ∃ b, keep[k]? = some b ∧ kv = .bool b := by
        rw [List.getElem?_map] at hkv
        cases hq : keep[k]? with
        | none => rw [hq] at hkv; cases hkv
        | some b => rw [hq] at hkv; injection hkv with hkv; exact ⟨b, rfl, hkv.symm⟩
      have hkp : Dk.kept keep k = b := by unfold Dk.kept; rw [List.getD_eq_getElem?_getD, hb]; rfl
      have y1 : (no : Int) < (d.pages.length : Int) := by omega
      have y2 : (k : Int) < (mu : Int) := by omega
      have y3 : (k : Int) < (n : Int) := by omega
      have hkl' : kb < wr.heap.size := Nat.lt_of_lt_of_le ((HK.out.2.2.2 (by omega)).choose_spec.choose_spec.2.1 |> fun h => by
        have e := (HK.out.2.2.2 (by omega)).choose_spec.choose_spec.1
        injection e with e
        injection e with e
        rw [e]; exact h) hM.off.size
      cases b with
      | false =>
        have hN := (hM.below ((Below.refl _ _).alloc (Nat.le_refl _) (.cells #[.int .i64 (no : Int), .slice (some ⟨gu, 0, none⟩) 1024 ku] 76)))
        rw [← Dk.cr_stay hkp] at hN
        have HN := Lib.hid hN
        clear hx hs hN hw hM hbu hu hkv hb hkp
        go_wp2
        go_roundw
        case rel => exact ⟨k + 1, by omega, by go_num, HN.out⟩
        case measure => simp [intOf]; omega
      | true =>
        by_cases ht : (k : Int) = torn
        · have hl' : Dk.left_ torn k l = Pg.torn l := by unfold Dk.left_; rw [if_pos ht]
          have ht' : ((k : Int) == torn) = true := by simpa using ht
          subst ht
          have HU := Lib.hid hu
          have HBU := Lib.hid hbu
          have HMM := Lib.hid hM
          have HP := Lib.hid hw
          have HKP := Lib.hid hkp
          have HL' := Lib.hid hl'
          clear hx hs hw hM hbu hu hkv hb hkp hl'
          go_wp2_with fail
          refine (tornV_any _ _ _ _ _ (HBU.out.alloc _) (by omega)).mono ?_
          rintro e w2 ⟨gt, rfl, hgt, R2, B2⟩
          dsimp only
          have Ba : Below wr.heap.size wr (wr.alloc (.cells #[.int .i64 (no : Int), .slice (some ⟨gu, 0, none⟩) 1024 ku] 76)) := (Below.refl _ _).alloc (Nat.le_refl _) _
          have Bx : Below wr.heap.size wr w2 := Ba.trans (B2.mono (by simp))
          have v0 : w2.cell? ⟨wr.heap.size, 0, none⟩ = some (.int .i64 (no : Int)) := cell_of_row w2 _ 0 _ _ (0, 0) ((B2.block wr.heap.size (by simp)).trans (heap_alloc_new wr _))
          have c0' := (Bx.cell (p := ⟨H.p, 0, none⟩) hpl).trans c0
          have cus' := (Bx.cell (p := ⟨gs, no, none⟩) hgl).trans cus
          have hsf' := (World.frozen?_of_block (a := ⟨gs, no, none⟩) (Bx.block gs hgl)).trans hsf
          have hN := (((HMM.out.below Bx).put hsv no (.inr (PgV.of_row R2 (by rw [Pg.torn_len]; exact HU.out.len) (Pg.torn_lt HU.out.lt)))).below (Below.refl _ _).drew)
          rw [← HL'.out, ← Dk.cr_step HP.out HKP.out] at hN
          have HN := Lib.hid hN
          clear hN hgt R2 B2 Ba Bx HU HBU HMM HP HKP HL' c0 cus hsf hpl hgl cn cu ck hkl'
          go_wp2_with fail
          go_region
          go_wp2
          go_roundw
          case rel => exact ⟨k + 1, by omega, by go_num, HN.out⟩
          case measure => simp [intOf]; omega
        · have hl' : Dk.left_ torn k l = l := by unfold Dk.left_; rw [if_neg ht]
          have ht' : ((k : Int) == torn) = false := by simpa using ht
          have hN := (((hM.put hsv no (.inr hu)).below ((Below.refl _ _).alloc (Nat.le_refl _) (.cells #[.int .i64 (no : Int), .slice (some ⟨gu, 0, none⟩) 1024 ku] 76))).below (Below.refl _ _).drew)
          have hst := Dk.cr_step (torn := torn) hw hkp
          rw [hl'] at hst
          rw [← hst] at hN
          have HN := Lib.hid hN
          clear hx hs hw hM hbu hu hkv hb hkp hl' hst hN ht
          go_wp2_with fail
          go_region
          go_wp2
          go_roundw
          case rel => exact ⟨k + 1, by omega, by go_num, HN.out⟩
          case measure => simp [intOf]; omega
    · have hk' : k = mu := by omega
      have hf : ¬ ((k : Int) < (mu : Int)) := by omega
      have hst := hM.str (d := d) HD.out
      obtain ⟨vs, hs⟩ := hM.safe
      obtain ⟨M, hMM⟩ := hM.map HD.out
      have C := Lib.hid (forget_any wr H { d with pages := Dk.crTo d keep torn k } hst hs hMM (by rw [Dk.crTo_len]; exact HD.out.few) HD.out.low)
      have HO := Lib.hid hM.off
      have HKK := Lib.hid hk'
      clear hs hMM hM hlt hk' hst
      go_wp2_with fail
      refine C.out.mono ?_
      rintro e w3 ⟨rfl, h3, o3⟩
      have c3 := h3.c3
      have c4 := h3.c4
      have f3 := h3.frz 3
      have f4 := h3.frz 4
      have hs1 := (str_set h3.str (.int .i64 0)).2.1
      have hs2 := (str_set hs1 (.bool false)).2.2
      have ho : Off (fun k => k = H.p) w3 ((w3.setCell ⟨H.p, 3, none⟩ (.int .i64 0)).setCell ⟨H.p, 4, none⟩ (.bool false)) := ((Off.refl (fun k => k = H.p) w3).set _ rfl).set _ rfl
      have hF := h3.turn (e := { pages := Dk.crTo d keep torn k, waits := [], left := 0, down := false }) ho rfl rfl (by show 0 < _; omega) hs2
      have HF := Lib.hid hF
      have HO4 := Lib.hid ho
      clear C h3 hs1 hs2 ho hF
      simp only [] at c3 c4 f3 f4
      go_wp2
      go_end0
      have h4 := HF.out
      rw [HKK.out, HE.out, ← hL] at h4
      refine ⟨⟨H.p, H.mb, H.sv, .slice none 0 0⟩, rfl, h4, ⟨((HO.out.mono fun j hj => .inl (.inr (.inr (.inl hj)))).trans (o3.mono fun j hj => ?_)).trans (HO4.out.mono fun j hj => .inl (.inl hj)), rfl, fun j hj => ?_⟩⟩
      · rcases hj with hj | hj
        · exact .inl (.inl hj)
        · exact .inl (.inr (.inl hj))
      · rcases hj with hj | hj | hj | hj
        · exact .inl (.inl hj)
        · exact .inl (.inr (.inl hj))
        · exact .inl (.inr (.inr (.inl hj)))
        · cases hj

end Go.Proofs.Ytcpgmglpgffhdaa
