/-
  RootsTell, walked; a row of bytes that comes in.
-/
import Derived.Test.YtbhahihgojhcmaaRtRfFrom
import Derived.OpenShut
import Derived.Deep.Slices
import Derived.Deep.Fields
namespace Go.Proofs.Ytbhahihgojhcmaa.Rt
open Go.RowKit Go.ChangeShapes Go.WideShapes
set_option linter.unusedVariables false

set_option linter.unusedVariables false

/-- A slice of bytes, opened. -/
theorem open_bytes6 {H : Type} {enc : TypeId × Value → H} {P : Program} {w : World} {base : Nat} {spare : Nat → Bool} {held : Bool} {t e : TypeId} {fuel : Nat} {v : Value} {x : DataW H × List MemPlace}
    (ht : P.underlying t = some (.slice e)) (he : P.underlying e = some (.int .u8)) (ce : P.cellsOf e = 1) (h : DataW.trod enc P w base spare held fuel t [v] = some x) :
    ∃ A n c, v = .slice A n c ∧ ∃ l : List Nat, Bs w A n c l := by
  rcases Deep.open_slice1 ht ce h with ⟨hv, _⟩ | ⟨a, len, cap, m, n, V, D, Pl, hv, hb, hl, hm, hmm, _, hx⟩
  · simp at hv
    exact ⟨_, _, _, hv, [], Bs.nil_ _ _ _ (Nat.zero_le _)⟩
  · simp at hv
    have hx' : ∀ i, i < len → ∃ z : Nat, z < 256 ∧ w.cell? (a.add i) = some (.int .u8 (z : Int)) := by
      intro i hi
      obtain ⟨h1, h2⟩ := hx i (by rw [hmm]; split <;> omega)
      obtain ⟨b, hb, _, wf⟩ := DataW.trod_int he h2
      simp at hb
      have b2 := bounds_u8 wf
      obtain ⟨z, rfl⟩ := Int.eq_ofNat_of_zero_le b2.1
      exact ⟨z, by omega, by rw [h1, hb]⟩
    obtain ⟨f, hf⟩ := Deep.choose_lt hx'
    refine ⟨_, _, _, hv, (List.range len).map f, by simp, hl, hm, ?_, fun hn => ?_⟩
    · intro z hz
      obtain ⟨i, hi, rfl⟩ := List.mem_map.1 hz
      exact (hf i (List.mem_range.1 hi)).1
    · obtain ⟨b, off, spot⟩ := a
      have hc0 := (hf 0 hn).2
      have hspot : spot = none := by simpa [Addr.add] using World.cell?_spot hc0
      subst hspot
      refine ⟨b, off, rfl, ?_, fun j v hj => ?_⟩
      · rcases Nat.lt_or_ge b w.heap.size with h | h
        · exact h
        · have h' : w.cell? ⟨b, off, none⟩ = some (.int .u8 (f 0 : Int)) := by simpa [Addr.add] using hc0
          simp [World.cell?, Array.getElem?_eq_none h] at h'
      · rw [List.getElem?_map] at hj
        cases hr : (List.range len)[j]? with
        | none => rw [hr] at hj; cases hj
        | some i =>
          rw [hr] at hj
          obtain ⟨hi, e⟩ := List.getElem?_eq_some_iff.1 hr
          rw [List.getElem_range] at e
          subst e
          rw [List.length_range] at hi
          simp at hj
          subst hj
          rw [← WideShapes.add_plain]; exact (hf j hi).2

theorem opened_bytes {H : Type} {enc : TypeId × Value → H} {W : World} {base : Nat} {a0 : Option Addr} {len0 cap0 : Nat} {d0 : DataW H} {p0 : List MemPlace}
    (h0 : DataW.Trod enc Try.prog W base (fun _ => true) true 23 (.slice a0 len0 cap0) d0 p0) : ∃ L, Bs W a0 len0 cap0 L := by
  obtain ⟨fuel, hf⟩ := h0
  obtain ⟨A, n, c, e, l, hl⟩ := open_bytes6 Try.underlying23 Try.underlying5 (by kernel_rfl) (v := .slice a0 len0 cap0) hf
  injection e with e1 e2 e3
  subst e1 e2 e3
  exact ⟨l, hl⟩



theorem run_addZ (w0 w : World) (v : Value) (l : List Nat) (hv : OwnB w0 w v l) (k : IntKind) (m : Nat) (hsum : l.length + m ≤ 100000) (ty : TypeId) :
    ∃ v' w', (Builtin.append_ #[23, 3] ty #[v, .int k (m : Int)]).run Try.prog w = .ok v' w' ∧ (OwnB w0 w' v' (l ++ List.replicate m 0) ∧ w.grownBy w' v.ownBlock) := by
  obtain ⟨i0, hi, hz0, hz1, hz2⟩ := info_parts Try.info5
  obtain ⟨v', w', h1, h2, h3⟩ := run_append_zeros (P := Try.prog) w w0.heap.size 23 3 ty 5 i0 k .i64 Try.underlying23 Try.underlying3 hi hz0 hz1 hz2 v l.length (bv l) hv.own m (by omega) hv.bel.size
  refine ⟨v', w', h1, ⟨?_, below_own hv.bel hv.own h3 hv.bel.size (Nat.le_refl _), ?_⟩, h3⟩
  · rw [List.length_append, List.length_replicate, bv_app']; exact h2
  · intro x hx
    rcases List.mem_append.1 hx with h | h
    · exact hv.lt x h
    · have := (List.mem_replicate.1 h).2; omega
theorem own_emptyB (w : World) : OwnB w (w.alloc (.cells #[] 5)) (.slice (some ⟨w.heap.size, 0, none⟩) 0 0) [] :=
  ⟨World.ownsRow_made (base := w.heap.size) (e := 5) (size := 1) w #[] 0 (Nat.le_refl _) (Nat.zero_le _) rfl, (Below.refl _ _).alloc (Nat.le_refl _) _, by simp⟩

set_option maxRecDepth 100000 in
set_option maxHeartbeats 2000000 in
theorem rootsTell_walk (w : World) (A : Option Addr) (n c : Nat) (l : List Rm.R) (h : Rs w A n c l) (A' : Option Addr) (n' c' : Nat) (b : List Nat) (hb : Bs w A' n' c' b) :
    Calls Try.prog 3 #[.slice A n c, .slice A' n' c'] w fun e w' => e = .returned (.bool true) ∧ Below w.heap.size w w' := by
  have C0 := Lib.hid awake_any
  have hl := h.1
  have hcm := h.2.2.1
  have hnc := h.2.1
  have hcm' := hb.2.2.1
  have hnc' := hb.2.1
  unfold maxLen at hcm hcm'
  have H := Lib.hid h
  have HB := Lib.hid hb
  clear h hb
  go_enter Try.func3, Try.ntmps3
  go_wp2_with fail
  refine (C0.out _).mono ?_
  rintro e w1 ⟨rfl, b1⟩
  have B1 := Lib.hid b1
  clear C0 b1
  by_cases h40 : (40 : Int) < (n : Int)
  · go_wp2
    go_ret
    exact ⟨rfl, B1.out⟩
  · by_cases h20 : (2000 : Int) < (n' : Int)
    · go_wp2
      go_ret
      exact ⟨rfl, B1.out⟩
    · have C2 := Lib.hid (pay_any w1 A n c l (H.out.on B1.out))
      have hpl : (payL l).length ≤ 401 := by
        unfold payL
        split
        · rename_i hm; exact Rm.pay_le hm
        · simp
      have hpl5 : Rm.may l = true → 5 ≤ (payL l).length := fun hm => by
        unfold payL; rw [if_pos hm, Rm.pay_len]; omega
      have hpl0 : Rm.may l = false → (payL l).length = 0 := fun hm => by
        unfold payL; rw [hm]; rfl
      have HFL : Hid (Rm.may l = true → Rm.full l = payL l ++ List.replicate (1016 - (payL l).length) 0) := fun hm => by
        unfold payL; rw [if_pos hm]; rfl
      have H5 := Lib.hid hpl5
      have H0 := Lib.hid hpl0
      clear hpl5 hpl0
      go_wp2_with fail
      refine C2.out.mono ?_
      rintro e w2 ⟨A5, c5, rfl, S5, b2⟩
      have B2 := Lib.hid (onto B1.out b2)
      have HS5 := Lib.hid S5
      have C3 := Lib.hid (from_any w2 A' n' c' b (HB.out.on B2.out))
      clear C2 S5 b2 B1
      go_wp2_with fail
      refine C3.out.mono ?_
      rintro e w3 ⟨A6, m6, c6, z, M, rfl, b3, a3, R3⟩
      have B3 := Lib.hid (onto B2.out b3)
      have HP3 := Lib.hid (HS5.out.on b3)
      have HX3 := Lib.hid R3
      have HA3 := Lib.hid a3
      have C4 := Lib.hid (rfFrom_any w3 A' n' c' b (HB.out.on B3.out))
      clear C3 b3 a3 R3 B2 HS5
      go_wp2_with fail
      refine C4.out.mono ?_
      rintro e w4 ⟨A7, m7, c7, z', M', rfl, b4, a4, R4⟩
      obtain ⟨rfl, rfl⟩ := HA3.out.one a4
      have hm67 : m7 = m6 := R4.1.symm.trans HX3.out.1
      subst hm67
      have B4 := Lib.hid (onto B3.out b4)
      have HP4 := Lib.hid (HP3.out.on b4)
      have HX4 := Lib.hid (HX3.out.on b4)
      have HY4 := Lib.hid R4
      have C5 := Lib.hid (may_any w4 A n c l (H.out.on B4.out))
      clear C4 b4 a4 R4 B3 HP3 HX3 HA3
      have hzz : ((z : Int) != (z : Int)) = false := by simp
      obtain ⟨mb, hmb⟩ : ∃ mb, Rm.may l = mb := ⟨_, rfl⟩
      rw [hmb] at C5
      have hmm : (mb != mb) = false := by simp
      go_wp2_with fail
      refine C5.out.mono ?_
      rintro e w5 ⟨rfl, b5⟩
      have B5 := Lib.hid (onto B4.out b5)
      have HP5 := Lib.hid (HP4.out.on b5)
      have HX5 := Lib.hid (HX4.out.on b5)
      have HY5 := Lib.hid (HY4.out.on b5)
      have C6 := Lib.hid (rfMay_any w5 A n c l (H.out.on B5.out))
      rw [hmb] at C6
      clear C5 b5 B4 HP4 HX4 HY4
      go_wp2_with fail
      refine C6.out.mono ?_
      rintro e w6 ⟨rfl, b6⟩
      have B6 := Lib.hid (onto B5.out b6)
      have HP6 := Lib.hid (HP5.out.on b6)
      have HX6 := Lib.hid (HX5.out.on b6)
      have HY6 := Lib.hid (HY5.out.on b6)
      have C7 := Lib.hid (rfPay_any w6 A n c l (H.out.on B6.out))
      clear C6 b6 B5 HP5 HX5 HY5
      go_wp2_with fail
      refine C7.out.mono ?_
      rintro e w7 ⟨A8, c8, rfl, S7, b7, _⟩
      have B7 := Lib.hid (onto B6.out b7)
      have HP7 := Lib.hid (HP6.out.on b7)
      have HX7 := Lib.hid (HX6.out.on b7)
      have HY7 := Lib.hid (HY6.out.on b7)
      have C8 := Lib.hid (same_eq w7 _ _ _ _ _ _ (payL l) HP7.out S7)
      clear C7 b7 S7 B6 HP6 HX6 HY6
      obtain ⟨T, hT⟩ : ∃ T, T = (payL l).length := ⟨_, rfl⟩
      rw [← hT] at hpl H5 H0 HFL HP7 C8
      rw [← hT]
      have HT := Lib.hid hT
      clear hT
      go_wp2_with fail
      refine C8.out.mono ?_
      rintro e w8 ⟨rfl, m8, rfl⟩
      have B8 := Lib.hid (below_drewN B7.out m8)
      have HP8 := Lib.hid (HP7.out.drewN m8)
      have C9 := Lib.hid (same_any _ _ _ _ _ _ _ _ (HX7.out.drewN m8) (HY7.out.drewN m8))
      clear C8 B7 HP7 HX7 HY7
      generalize w7.drewN m8 = w9 at *
      go_wp2_with fail
      refine C9.out.mono ?_
      rintro e wa ⟨rfl, ma, rfl⟩
      have Ba := Lib.hid (below_drewN B8.out ma)
      have HPa := Lib.hid (HP8.out.drewN ma)
      clear C9 B8 HP8
      generalize w9.drewN ma = wb at *
      cases mb with
      | false =>
        have hT0 := H0.out hmb
        subst hT0
        have Cb := Lib.hid (rfMay_any wb A n c l (H.out.on Ba.out))
        rw [hmb] at Cb
        go_wp2_with fail
        refine Cb.out.mono ?_
        rintro e wc ⟨rfl, bc⟩
        have Bc := Lib.hid (onto Ba.out bc)
        clear Cb bc
        go_wp2
        go_ret
        exact ⟨rfl, Bc.out⟩
      | true =>
        have hT5 := H5.out hmb
        have hTn : ((T : Int) == 0) = false := by simp; omega
        have hF := HFL.out hmb
        have HMAY := Lib.hid hmb
        have OE := own_emptyB wb
        have bE := OE.bel
        have AP := Lib.hid (fun ty => run_addB wb _ _ _ OE _ _ _ _ (HPa.out.on bE) (by simp; omega) ty)
        obtain ⟨D, hD⟩ : ∃ D, D = 1016 - T := ⟨_, rfl⟩
        have e1 : (1016 : Int) - (T : Int) = (D : Int) := by omega
        have e2 : IntKind.i64.wrap (D : Int) = (D : Int) := by rw [IntKind.wrap_i64]; omega
        have e3 : IntKind.i64.wrap ((1016 : Int) - (T : Int)) = (D : Int) := by rw [IntKind.wrap_i64]; omega
        rw [← hD] at hF
        have HFF := Lib.hid hF
        have HD := Lib.hid hD
        clear OE bE hF hD hmb
        go_wp2_with (first
          | (at_builtin; refine wpList_append_ran _ rfl _ _ 23 23 rfl _ _ rfl rfl _ (AP.out _) ?_; rintro vc wc ⟨Oc, Gc⟩; rw [List.nil_append] at Oc; have AQ := Lib.hid (fun ty => run_addZ wb wc vc _ Oc .i64 D (by rw [← HT.out]; omega) ty))
          | (at_builtin; refine wpList_append_ran _ rfl _ _ 23 3 rfl _ _ rfl rfl _ (AQ.out _) ?_; rintro vd wd ⟨Od, Gd⟩; rw [← HFF.out] at Od; obtain ⟨Ad, cd, rfl, Rd⟩ := Od.bs; have Bd := Lib.hid (onto Ba.out Od.bel); have Ce := Lib.hid (from_any wd _ _ _ _ Rd); clear Rd Od Gd Oc Gc))
        refine Ce.out.mono ?_
        rintro e we ⟨Ae, me, ce, ze, Me, rfl, be, ae, Re⟩
        obtain ⟨rfl, rfl⟩ := FromAns.one ae (.inl ⟨rfl, HMAY.out, rfl⟩ : FromAns (Rm.full l) 0 l)
        have Be := Lib.hid (onto Bd.out be)
        have Cf := Lib.hid (same_any _ _ _ _ _ _ _ _ Re (H.out.on Be.out))
        clear Ce be ae Re AP AQ Bd
        go_wp2_with fail
        refine Cf.out.mono ?_
        rintro e wf ⟨rfl, mf, rfl⟩
        go_wp2
        go_ret
        exact ⟨rfl, below_drewN Be.out mf⟩

end Go.Proofs.Ytbhahihgojhcmaa.Rt
