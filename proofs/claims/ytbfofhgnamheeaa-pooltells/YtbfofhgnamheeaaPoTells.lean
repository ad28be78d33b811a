/-
  PoolTells: the walk.
-/
import Derived.Test.YtbfofhgnamheeaaPoPieces
import Derived.Test.YtbfofhgnamheeaaRpFromW
namespace Go.Proofs.Ytbfofhgnamheeaa.Pq
open Go.ChangeShapes Go.WideShapes Go.RowKit
set_option linter.unusedVariables false

/-- A slice of bytes, opened. -/
theorem open_bytes6 {H : Type} {enc : TypeId × Value → H} {P : Program} {w : World} {base : Nat} {spare : Nat → Bool} {held : Bool} {t e : TypeId} {fuel : Nat} {v : Value} {x : DataW H × List MemPlace}
    (ht : P.underlying t = some (.slice e)) (he : P.underlying e = some (.int .u8)) (ce : P.cellsOf e = 1) (h : DataW.trod enc P w base spare held fuel t [v] = some x) :
    ∃ A n c, v = .slice A n c ∧ ∃ l : List Nat, Bs w A n c l := by
  rcases Deep.open_slice1 ht ce h with ⟨hv, _⟩ | ⟨a, len, cap, m, n, V, D, Pl, hv, hb, hl, hm, hmm, _, hx⟩
  · simp at hv
    exact ⟨_, _, _, hv, [], Bs.nil_ _ _ _ (Nat.zero_le _)⟩
  · simp at hv
    have hx' : ∀ i, i < len → ∃ z : Nat, z < 256 ∧ w.cell? (a.add i) = some (.int .u8 (z : Int)) := by
      intro i hi
      obtain ⟨h1, h2⟩ := hx i (by rw [hmm]; split <;> omega)
      obtain ⟨b, hb, _, wf⟩ := DataW.trod_int he h2
      simp at hb
      have b2 := bounds_u8 wf
      obtain ⟨z, rfl⟩ := Int.eq_ofNat_of_zero_le b2.1
      exact ⟨z, by omega, by rw [h1, hb]⟩
    obtain ⟨f, hf⟩ := Deep.choose_lt hx'
    refine ⟨_, _, _, hv, (List.range len).map f, by simp, hl, hm, ?_, fun hn => ?_⟩
    · intro z hz
      obtain ⟨i, hi, rfl⟩ := List.mem_map.1 hz
      exact (hf i (List.mem_range.1 hi)).1
    · obtain ⟨b, off, spot⟩ := a
      have hc0 := (hf 0 hn).2
      have hspot : spot = none := by simpa [Addr.add] using World.cell?_spot hc0
      subst hspot
      refine ⟨b, off, rfl, ?_, fun j v hj => ?_⟩
      · rcases Nat.lt_or_ge b w.heap.size with h | h
        · exact h
        · have h' : w.cell? ⟨b, off, none⟩ = some (.int .u8 (f 0 : Int)) := by simpa [Addr.add] using hc0
          simp [World.cell?, Array.getElem?_eq_none h] at h'
      · rw [List.getElem?_map] at hj
        cases hr : (List.range len)[j]? with
        | none => rw [hr] at hj; cases hj
        | some i =>
          rw [hr] at hj
          obtain ⟨hi, e⟩ := List.getElem?_eq_some_iff.1 hr
          rw [List.getElem_range] at e
          subst e
          rw [List.length_range] at hi
          simp at hj
          subst hj
          rw [← WideShapes.add_plain]; exact (hf j hi).2

theorem opened_bytes {H : Type} {enc : TypeId × Value → H} {W : World} {base : Nat} {a0 : Option Addr} {len0 cap0 : Nat} {d0 : DataW H} {p0 : List MemPlace}
    (h0 : DataW.Trod enc Try.prog W base (fun _ => true) true 48 (.slice a0 len0 cap0) d0 p0) : ∃ L, Bs W a0 len0 cap0 L := by
  obtain ⟨fuel, hf⟩ := h0
  obtain ⟨A, n, c, e, l, hl⟩ := open_bytes6 Try.underlying48 Try.underlying5 (by kernel_rfl) (v := .slice a0 len0 cap0) hf
  injection e with e1 e2 e3
  subst e1 e2 e3
  exact ⟨l, hl⟩

theorem payOf_lt (l : List Pl.F) (next : Int) : ∀ x ∈ Pl.payOf l next, x < 256 := by
  by_cases h : Pl.May l next
  · rw [payOf_yes h]; exact Pl.pay_lt l next
  · rw [payOf_no h]; simp
/-- What both FromPays leave of the bytes t. -/
theorem from_form (t : List Nat) (ht : ∀ x ∈ t, x < 256) : ∃ (r : List Pl.F) (nx cd : Int), ∀ (w : World) (e : Ending) (w' : World), FromSays w t e w' →
    ∃ A c, e = .returned (.tuple #[.slice A r.length c, .int .i64 nx, .int .i64 cd]) ∧ Fs w' A r.length c r ∧ Below w.heap.size w w' := by
  by_cases hs : Pl.Says t
  · refine ⟨Pl.items t, Pl.nextOf t, 0, fun w e w' h => ?_⟩
    obtain ⟨v, hy, _, hb⟩ := h
    obtain ⟨rfl, hO⟩ := hy hs
    obtain ⟨A, c, rfl, hF⟩ := fs_own hO (fun f hf => by
      unfold Pl.items Pl.itemsTo at hf
      obtain ⟨i, _, rfl⟩ := List.mem_map.1 hf
      exact (item_row ht i).1)
    exact ⟨A, c, rfl, hF, hb⟩
  · refine ⟨[], 0, 5, fun w e w' h => ?_⟩
    obtain ⟨v, _, hn, hb⟩ := h
    exact ⟨none, 0, hn hs, Fs.nil_ _ _ _ (Nat.zero_le _), hb⟩

set_option maxRecDepth 100000 in
set_option maxHeartbeats 2000000 in
theorem poolTells_walk (w : World) (A : Option Addr) (n c : Nat) (l : List Pl.F) (h : Fs w A n c l) (next : Int) (hi : I64 next) (B : Option Addr) (m d : Nat) (t : List Nat) (ht : Bs w B m d t) :
    Calls Try.prog 4 #[.slice A n c, .int .i64 next, .slice B m d] w fun e w' => e = .returned (.bool true) ∧ Below w.heap.size w w' := by
  have H := Lib.hid h
  have HT := Lib.hid ht
  have HI := Lib.hid hi
  have HL := Lib.hid h.1
  have hnc := h.2.1
  have hcm := h.2.2.1
  have hmd := ht.2.1
  have hdm := ht.2.2.1
  unfold maxLen at hcm hdm
  clear h ht hi
  go_enter Try.func4, Try.ntmps4
  go_wp2_with fail
  refine (awake_any _).mono ?_
  rintro e v1 ⟨rfl, B1⟩
  have HB1 := Lib.hid B1
  clear B1
  by_cases hn : n ≤ 200
  · have z0 : ¬ ((200 : Int) < (n : Int)) := by omega
    by_cases hm : m ≤ 2000
    · have z1 : ¬ ((2000 : Int) < (m : Int)) := by omega
      have CP := Lib.hid (pay_any v1 A n c l next (H.out.on HB1.out) HI.out)
      go_wp2_with fail
      refine CP.out.mono ?_
      rintro e w2 ⟨v, rfl, O2, B2⟩
      obtain ⟨pA, pc, rfl, S2⟩ := Bs.of_own O2 (payOf_lt l next)
      have hb2 := onto HB1.out B2
      have CR := Lib.hid (rpay_any w2 A n c l next (H.out.on hb2) HI.out)
      have HB2 := Lib.hid hb2
      have HS2 := Lib.hid S2
      clear O2 B2 S2 hb2 CP
      obtain ⟨P, hP⟩ : ∃ P, P = Pl.payOf l next := ⟨_, rfl⟩
      unfold RPaySays at CR
      rw [← hP] at CR HS2 ⊢
      obtain ⟨pl, hpl⟩ : ∃ pl, pl = P.length := ⟨_, rfl⟩
      rw [← hpl] at CR HS2 ⊢
      have HP := Lib.hid (And.intro hP hpl)
      clear hP hpl
      go_wp2_with fail
      refine CR.out.mono ?_
      rintro e w3 ⟨rA, rc, rfl, S3, _, B3⟩
      have CS := Lib.hid (same_any w3 pA rA pl pc pl rc P P (HS2.out.on B3) S3)
      rw [show decide (P = P) = true from by simp] at CS
      have HB3 := Lib.hid (onto HB2.out B3)
      have HS3 := Lib.hid (HS2.out.on B3)
      clear S3 B3 CR HS2 HB2
      go_wp2_with fail
      refine CS.out.mono ?_
      rintro e w4 ⟨rfl, k4, rfl⟩
      have HB4 : Hid (Below w.heap.size w (w3.drewN k4)) := below_drewN HB3.out k4
      have HS4 : Hid (Bs (w3.drewN k4) pA pl pc P) := HS3.out.drewN k4
      generalize w3.drewN k4 = w4 at *
      have CP1 := Lib.hid (pieces_any w4 (n : Int) (by unfold I64; omega))
      have CP2 := Lib.hid (rpieces_any w4 n (by omega))
      obtain ⟨q, hq⟩ : ∃ q, q = Pl.pieces (n : Int) := ⟨_, rfl⟩
      rw [← hq] at CP1 CP2
      have eq1 : (q != q) = false := by simp
      clear CS HB3 HS3 hq
      go_wp2_with fail
      refine CP1.out.mono ?_
      rintro e w4' ⟨rfl, rfl⟩
      go_wp2_with fail
      refine CP2.out.mono ?_
      rintro e w4' ⟨rfl, rfl⟩
      clear CP1 CP2
      obtain ⟨r, nx, cd, hform⟩ := from_form t HT.out.2.2.2.1
      have HF := Lib.hid hform
      have en : (nx != nx) = false := by simp
      have ec : (cd != cd) = false := by simp
      have C5 := Lib.hid (fromPay_any w4 B m d t (HT.out.on HB4.out))
      clear hform
      go_wp2_with fail
      refine C5.out.mono ?_
      intro e w5 h5
      obtain ⟨xA, xc, rfl, F5, B5⟩ := HF.out _ _ _ h5
      have HB5 := Lib.hid (onto HB4.out B5)
      have HS5 := Lib.hid (HS4.out.on B5)
      have HF5 := Lib.hid F5
      have C6 := Lib.hid (rfrom_any w5 B m d t (HT.out.on HB5.out))
      clear F5 B5 h5 C5 HB4 HS4
      go_wp2_with fail
      refine C6.out.mono ?_
      intro e w6 h6
      obtain ⟨yA, yc, rfl, F6, B6⟩ := HF.out _ _ _ h6
      have HB6 := Lib.hid (onto HB5.out B6)
      have HS6 := Lib.hid (HS5.out.on B6)
      have CS := Lib.hid (sameF_any w6 xA yA r.length xc r.length yc r r (HF5.out.on B6) F6)
      rw [show decide (r = r) = true from by simp] at CS
      clear F6 B6 h6 C6 HB5 HS5 HF5 HF
      generalize r.length = rl at *
      go_wp2_with fail
      refine CS.out.mono ?_
      rintro e w7 ⟨rfl, k7, rfl⟩
      have HB7 : Hid (Below w.heap.size w (w6.drewN k7)) := below_drewN HB6.out k7
      have HS7 : Hid (Bs (w6.drewN k7) pA pl pc P) := HS6.out.drewN k7
      generalize w6.drewN k7 = w7 at *
      clear CS HB6 HS6
      by_cases hmay : Pl.May l next
      · obtain ⟨hP1, hP2⟩ := HP.out
        rw [payOf_yes hmay] at hP1
        have hl := HL.out
        have hpe := Pl.pay_len l next
        rw [← hP1, ← hP2, hl] at hpe
        have hn84 : n ≤ 84 := by have := hmay.1; omega
        have hfull : Pl.full l next = P ++ List.replicate (1016 - pl) 0 := by unfold Pl.full; rw [← hP1, ← hP2]
        have hgens : Pl.Gens l := fun f hf => (H.out.2.2.2.1 f hf).2
        have hof := Pl.of_full hmay hgens
        have hsay := Pl.says_full hmay hgens
        have hflt := Pl.full_lt l next
        have hfle := Pl.full_len (l := l) (next := next) (by omega)
        generalize Pl.full l next = U at *
        have hp0 : ((pl : Int) == 0) = false := by rw [beq_eq_false_iff_ne]; omega
        have OE := own_emptyB w7
        have AP1 := Lib.hid (fun ty => run_append_by _ w7.heap.size ty _ 0 [] OE pA pl pc P (HS7.out.alloc _) (by omega) (by simp))
        have r1 : IntKind.i64.wrap (1016 - (pl : Int)) = ((1016 - pl : Nat) : Int) := by rw [IntWalk.i64_in _ ⟨by omega, by omega⟩]; omega
        have hpl3 : pl ≤ 1014 := by omega
        have r1' : (1016 : Int) - (pl : Int) = ((1016 - pl : Nat) : Int) := by omega
        have HOE := Lib.hid OE
        have HU := Lib.hid (And.intro hfull (And.intro hof (And.intro hsay (And.intro hflt hfle))))
        clear hmay hP1 hP2 hl hpe hfull hgens hof hsay hflt hfle OE
        obtain ⟨zz, hzz⟩ : ∃ zz, zz = 1016 - pl := ⟨_, rfl⟩
        have HZZ := Lib.hid hzz
        rw [← hzz] at r1 r1'
        clear hzz
        go_wp2_with (first
          | (at_builtin; refine wpList_append_ran _ rfl _ _ 48 48 rfl (.slice (some ⟨w7.heap.size, 0, none⟩) 0 0) (.slice pA pl pc) rfl rfl _ (AP1.out _) ?_; rintro v8 w8 ⟨O8, g8⟩; have B8 := below_own ((Below.refl _ w7).alloc (Nat.le_refl _) (.cells #[] 5)) HOE.out g8 (by simp) (Nat.le_refl _); have HO8 := Lib.hid O8; have HB8 := Lib.hid B8; clear O8 g8 B8)
          | (at_builtin; refine wpList_append_ran _ rfl _ _ 48 3 rfl v8 (.int .i64 (zz : Int)) rfl rfl _ (run_zeros _ w7.heap.size _ _ (0 + pl) _ HO8.out zz (by have := HZZ.out; omega) HB8.out.size) ?_; rintro v9 w9 ⟨O9, g9⟩; have B9 := below_own HB8.out HO8.out g9 HB8.out.size (Nat.le_refl _); rw [show 0 + pl + zz = 1016 by have := HZZ.out; omega, List.nil_append, HZZ.out, ← HU.out.1] at O9; obtain ⟨fA, fcp, rfl, _, _⟩ := own_form O9; have HO9 := Lib.hid O9; have HB9 := Lib.hid B9; clear O9 g9 B9))
        obtain ⟨_, hof, hsay, hflt, hfle⟩ := HU.out
        have S9 := own_bs HO9.out hfle hflt
        have hb9 := onto HB7.out HB9.out
        refine (fromPay_any w9 fA 1016 fcp U S9).mono ?_
        rintro e w10 ⟨v10, hyes, _, B10⟩
        obtain ⟨rfl, O10⟩ := hyes hsay
        rw [hof.2.1]
        rw [hof.2.2] at O10
        have hb10 := onto hb9 B10
        have hF := H.out.on hb10
        obtain ⟨zA, zc, rfl, F10⟩ := fs_own O10 hF.2.2.2.1
        have CS := Lib.hid (sameF_any w10 zA A l.length zc n c l l F10 hF)
        rw [show decide (l = l) = true from by simp] at CS
        have HB10 := Lib.hid hb10
        have e1 : (next == next) = true := by simp
        clear hof hsay hflt hfle S9 hb9 O10 hb10 hF F10 B10 HO9 HB9 HOE AP1 HU HO8 HB8 HZZ
        generalize l.length = ll at *
        go_wp2_with fail
        refine CS.out.mono ?_
        rintro e w11 ⟨rfl, k11, rfl⟩
        go_wp2
        go_ret
        exact ⟨rfl, below_drewN HB10.out _⟩
      · have hp : pl = 0 := by rw [HP.out.2, HP.out.1, payOf_no hmay]; rfl
        have hp0 : ((pl : Int) == 0) = true := by simp; omega
        clear hp hmay
        go_wp2
        go_ret
        exact ⟨rfl, HB7.out⟩
    · have z1 : (2000 : Int) < (m : Int) := by omega
      go_wp2
      go_ret
      exact ⟨rfl, HB1.out⟩
  · have z0 : (200 : Int) < (n : Int) := by omega
    go_wp2
    go_ret
    exact ⟨rfl, HB1.out⟩

end Go.Proofs.Ytbfofhgnamheeaa.Pq
