/-
  NodeLinks.
-/
import Derived.Test.YtachclcpldnofaaNdRfFl
import Derived.Test.YtachclcpldnofaaNdAwake
namespace Go.Proofs.Ytachclcpldnofaa.Nn
open Go.RowKit
set_option linter.unusedVariables false

set_option maxRecDepth 100000 in
set_option maxHeartbeats 2000000 in
theorem nodeLinks_walk (w : World) (next : Int) (A : Option Addr) (n c : Nat) (b : List Nat) (h : Bs w A n c b) (A' : Option Addr) (n' c' : Nat) (raw : List Nat) (h' : Bs w A' n' c' raw) :
    Calls Try.prog 4 #[.int .i64 next, .slice A n c, .slice A' n' c'] w fun e w' => e = .returned (.bool true) ∧ Below w.heap.size w w' := by
  obtain ⟨i0, hi, hz0, hz1, hz2⟩ := info_parts Try.info5
  have hcm := h.2.2.1
  have hcm' := h'.2.2.1
  have hnc := h.2.1
  have hnc' := h'.2.1
  unfold maxLen at hcm hcm'
  go_enter Try.func4, Try.ntmps4
  go_wp2_with fail
  refine (awake_any _).mono ?_
  rintro e w1 ⟨rfl, b1⟩
  have s1 := h.on b1
  have t1 := h'.on b1
  clear h h'
  by_cases hn : 2000 < n
  · have d : decide ((n : Int) > 2000) = true := by simp; omega
    clear s1 t1
    go_wp2
    go_ret
    exact ⟨rfl, b1⟩
  · have d : decide ((n : Int) > 2000) = false := by simp; omega
    by_cases hn' : 2000 < n'
    · have d' : decide ((n' : Int) > 2000) = true := by simp; omega
      clear s1 t1
      go_wp2
      go_ret
      exact ⟨rfl, b1⟩
    · have d' : decide ((n' : Int) > 2000) = false := by simp; omega
      have hlb := s1.2.2.2.1
      have hll := s1.1
      have C2 := Lib.hid (plink_any w1 next A n c b s1)
      have HS1 := Lib.hid s1
      have HT1 := Lib.hid t1
      clear s1 t1
      go_wp2_with fail
      refine C2.out.mono ?_
      rintro e w2 ⟨⟨A2, n2, c2, rfl, r2⟩, b2⟩
      have B2 := onto b1 b2
      have HS2 := Lib.hid (HS1.out.on b2)
      have HT2 := Lib.hid (HT1.out.on b2)
      have C3 := Lib.hid (refLink_any w2 next A n c b HS2.out)
      have HR2 := Lib.hid r2
      clear C2 HS1 HT1 b1 b2 r2
      go_wp2_with fail
      refine C3.out.mono ?_
      rintro e w3 ⟨⟨A3, n3, c3, rfl, r3, _⟩, b3⟩
      have B3 := onto B2 b3
      have HS3 := Lib.hid (HS2.out.on b3)
      have HT3 := Lib.hid (HT2.out.on b3)
      have HR3 := Lib.hid (HR2.out.on b3)
      have C4 := Lib.hid (same_eq w3 _ _ _ _ _ _ _ HR3.out r3)
      clear C3 HS2 HT2 HR2 B2 b3 r3
      go_wp2_with fail
      refine C4.out.mono ?_
      rintro e w4 ⟨rfl, m4, rfl⟩
      have B4 := below_drewN B3 m4
      have HS4 := Lib.hid (Bs.drewN HS3.out m4)
      have HT4 := Lib.hid (Bs.drewN HT3.out m4)
      have HR4 := Lib.hid (Bs.drewN HR3.out m4)
      clear C4 HS3 HT3 HR3 B3
      generalize w3.drewN m4 = w4 at *
      have C5 := Lib.hid (fromLink_any w4 _ _ _ _ HT4.out)
      go_wp2_with fail
      refine C5.out.mono ?_
      rintro e w5 ⟨⟨A5, n5, c5, rfl, r5⟩, b5⟩
      have B5 := onto B4 b5
      have HS5 := Lib.hid (HS4.out.on b5)
      have HT5 := Lib.hid (HT4.out.on b5)
      have HR5 := Lib.hid (HR4.out.on b5)
      have HQ5 := Lib.hid r5
      have C6 := Lib.hid (refFromLink_any w5 _ _ _ _ HT5.out)
      clear C5 HS4 HT4 HR4 B4 b5 r5
      generalize lz raw = zz at *
      generalize lk raw = kk at *
      have z1 : ((zz : Int) != (zz : Int)) = false := by simp
      have z2 : ((kk : Int) != (kk : Int)) = false := by simp
      go_wp2_with fail
      refine C6.out.mono ?_
      rintro e w6 ⟨⟨A6, n6, c6, rfl, r6⟩, b6⟩
      have B6 := onto B5 b6
      have HS6 := Lib.hid (HS5.out.on b6)
      have HR6 := Lib.hid (HR5.out.on b6)
      have C7 := Lib.hid (same_eq w6 _ _ _ _ _ _ _ (HQ5.out.on b6) r6)
      clear C6 HS5 HT5 HR5 HQ5 B5 b6 r6
      go_wp2_with fail
      refine C7.out.mono ?_
      rintro e w7 ⟨rfl, m7, rfl⟩
      have B7 := below_drewN B6 m7
      have HS7 := Lib.hid (Bs.drewN HS6.out m7)
      have HR7 := Lib.hid (Bs.drewN HR6.out m7)
      clear C7 HS6 HR6 B6
      generalize w6.drewN m7 = w7 at *
      have hl2 := HR7.out.1
      by_cases hm : Nd.LMay next b
      · have hr := HR7.out
        rw [linkOf_yes hm] at hr hl2
        have hlk := Nd.link_len next b
        have hm2 := hm.1.2
        have hn2 : n2 = 6 + n := by omega
        have d2 : ((n2 : Int) == 0) = false := by simp; omega
        obtain ⟨zr, hzr⟩ : ∃ zr : Nat, zr = 1016 - n2 := ⟨_, rfl⟩
        have hz1' : (1016 : Int) - (n2 : Int) = (zr : Int) := by omega
        have hw : IntKind.i64.wrap (1016 - (n2 : Int)) = (zr : Int) := by rw [IntWalk.i64_in _ ⟨by omega, by omega⟩]; omega
        have hlf := Lib.hid (Nd.linkFull_lt (next := next) hlb)
        have hle := Lib.hid (Nd.linkFull_len (next := next) (b := b) hm2)
        have hfl : Hid (Nd.link next b ++ List.replicate zr 0 = Nd.linkFull next b) := by show _ = _; unfold Nd.linkFull; rw [hl2, hzr]
        have hof := Lib.hid (Nd.of_link hm)
        have hsy := Lib.hid (Nd.lsays_full hm)
        have S7 := Lib.hid (hr.alloc (.cells #[] 5))
        have O7 := Lib.hid (own_emptyB w7)
        have BA : Hid (Below w7.heap.size w7 (w7.alloc (.cells #[] 5))) := (Below.refl _ _).alloc (Nat.le_refl _) _
        have hsum : n2 + zr = 1016 := by omega
        have HSM := Lib.hid hsum
        have hn29 : n2 ≤ 1016 := by omega
        have hzr9 : zr ≤ 1016 := by omega
        clear hr HR7 hm hn2 hzr hlk hsum
        go_wp2_with (first
          | (at_builtin; refine wpList_append_bs _ rfl _ _ 22 rfl w7.heap.size 5 i0 (.int .u8 0) Try.underlying22 hi hz0 hz1 hz2 rfl _ _ _ rfl O7.out _ _ _ _ rfl S7.out (by omega) (by simp) ?_; intro v8 w8 O8 g8; have B8 := Lib.hid (below_own BA.out O7.out g8 (by simp) (Nat.le_refl _)); rw [bv_app, List.nil_append, Nat.zero_add] at O8; have HO8 := Lib.hid O8; clear O8 g8)
          | (at_builtin; refine wpList_append_ran _ rfl _ _ 22 3 rfl v8 (.int .i64 (zr : Int)) rfl rfl _ (run_zeros _ w7.heap.size _ _ n2 _ HO8.out zr (by omega) B8.out.size) ?_; rintro v9 w9 ⟨O9, g9⟩; have B9 := Lib.hid (below_own B8.out HO8.out g9 B8.out.size (Nat.le_refl _)); have HO9 := Lib.hid O9; clear O9 g9))
        have hO9 := HO9.out
        rw [hfl.out, HSM.out, ← hle.out] at hO9
        obtain ⟨A9, c9, rfl, r9⟩ := Bs.of_own hO9 hlf.out
        have C10 := Lib.hid (fromLink_any w9 _ _ _ _ r9)
        have e1 : lz (Nd.linkFull next b) = Nd.lnext (Nd.linkFull next b) := if_pos hsy.out
        have e2 : ll (Nd.linkFull next b) = b := by unfold ll; rw [if_pos hsy.out]; exact hof.out.2.2
        have e3 : lk (Nd.linkFull next b) = 0 := if_pos hsy.out
        rw [e1, e2, e3, hof.out.1] at C10
        have HS9 := Lib.hid (HS7.out.on B9.out)
        have D9 := onto B7 B9.out
        clear e1 e2 e3 hO9 r9 HO9 HO8 B8 B9 S7 O7 BA HS7 hof hsy hfl hlf B7
        refine C10.out.mono ?_
        rintro e w10 ⟨⟨A10, n10, c10, rfl, r10⟩, b10⟩
        have D10 := onto D9 b10
        have C11 := Lib.hid (same_eq w10 _ _ _ _ _ _ _ r10 (HS9.out.on b10))
        have z3 : (next == next) = true := by simp
        clear C10 D9 HS9 b10 r10
        go_wp2_with fail
        refine C11.out.mono ?_
        rintro e w11 ⟨rfl, m11, rfl⟩
        go_wp2
        go_ret
        exact ⟨rfl, below_drewN D10 _⟩
      · rw [linkOf_no hm] at hl2
        obtain rfl : n2 = 0 := hl2.symm
        clear HR7 hm
        go_wp2
        go_ret
        exact ⟨rfl, B7⟩
end Go.Proofs.Ytachclcpldnofaa.Nn
