/-
  MetaTells: of every meta it is told whether it is one, and what its page says; what is said is read.
-/
import Derived.Test.YtcpgmglpgffhdaaMtAwake
import Derived.Test.YtcpgmglpgffhdaaMtEq
import Derived.Test.YtcpgmglpgffhdaaAppZero
namespace Go.Proofs.Ytcpgmglpgffhdaa
open Go.RowKit
set_option linter.unusedVariables false

/-- An append of which the run is known. -/
theorem wpList_append_run {P : Program} (w : World) {ops : Array Oper} {rest : List Oper} {o : Oper} {a : Act} {Q : Exit → Act → World → Prop} (hgd : o.guard = none) (s x : Operand) (t tn : TypeId)
    (ho : o.op = .call { callee := .builtin .append, args := #[s, x], argTypes := #[t, tn] }) (vs vx : Value) (hs : a.eval s = vs) (hx : a.eval x = vx) (R : Value → World → Prop)
    (hr : ∃ v' w', (Builtin.append_ #[t, tn] o.type #[vs, vx]).run P w = .ok v' w' ∧ R v' w') (h : ∀ v' w', R v' w' → wpList P ops Q rest (a.put o.dst v') w') : wpList P ops Q (o :: rest) a w := by
  refine wpList_plain hgd fun K hK => ?_
  obtain ⟨v', w', hrun, hR⟩ := hr
  exact Lib.wp_append_run w s x t tn ho vs vx hs hx v' w' hrun (hK _ _ (h v' w' hR))
theorem says_of_full {m : Mt.M} (h : Mt.May m) : fromV (Mt.full m) = .tuple #[mv m, .int .i64 0] := by
  unfold fromV
  rw [if_pos (Mt.says_full m h), Mt.of_full m h]

set_option maxRecDepth 100000 in
set_option maxHeartbeats 2000000 in
theorem metaTells_walk (w : World) (m : Mt.M) (A : Option Addr) (n c : Nat) (l : List Nat) (hb : Bs w A n c l) :
    Calls Try.prog 3 #[mv m, .slice A n c] w fun e w' => e = .returned (.bool true) ∧ Below w.heap.size w w' := by
  obtain ⟨i0, hi, hz0, hz1, hz2⟩ := info_parts Try.info5
  have hcm := hb.2.2.1
  have hnc := hb.2.1
  unfold maxLen at hcm
  have B0 : Below w.heap.size w (w.alloc (.cells #[.int .u64 (m.gen : Int), .int .i64 m.high, .int .i64 m.root, .int .i64 m.free] 24)) := (Below.refl _ _).alloc (Nat.le_refl _) _
  have M0 := Mb.new w m
  have HL := Lib.hid hb
  clear hb
  unfold mv
  go_enter Try.func3, Try.ntmps3
  go_wp2_with fail
  refine (awake_any _).mono ?_
  rintro e w1 ⟨rfl, b1⟩
  have M1 := Lib.hid (M0.on b1)
  have B1 := Lib.hid (onto B0 b1)
  clear M0 B0 b1
  by_cases hM : n ≤ 2000
  · have hM1 : ¬ ((2000 : Int) < (n : Int)) := by omega
    -- FromPay of both, the same
    have fin : ∀ (W : World), Below w1.heap.size w1 W → True := fun _ _ => trivial
    obtain ⟨y, hy⟩ : ∃ y : Mt.M × Int, fromV l = .tuple #[.agg #[.int .u64 (y.1.gen : Int), .int .i64 y.1.high, .int .i64 y.1.root, .int .i64 y.1.free], .int .i64 y.2] := by
      unfold fromV
      by_cases hs : Mt.Says l
      · rw [if_pos hs]; exact ⟨(Mt.of l, 0), rfl⟩
      · rw [if_neg hs]; exact ⟨(m0, 5), rfl⟩
    have CF := Lib.hid (fun W (h : Below w1.heap.size w1 W) => mfrom_any W A n c l (HL.out.on (onto B1.out h)))
    have CR := Lib.hid (fun W (h : Below w1.heap.size w1 W) => refFrom_all W A n c l (HL.out.on (onto B1.out h)))
    rw [hy] at CF CR
    clear hy fin
    obtain ⟨x, ec⟩ := y
    simp only at CF CR
    have EQ := Lib.hid (fun W => mt_eq W x x)
    have EQm := Lib.hid (fun W => mt_eq W m m)
    simp only [decide_true] at EQ EQm
    obtain ⟨c0, c1, c2, c3⟩ := M1.out.cells
    have KS : Hid (∀ W, Below w1.heap.size w1 W → W.cell? ⟨w.heap.size, 0, none⟩ = some (.int .u64 (m.gen : Int)) ∧ W.cell? ⟨w.heap.size, 1, none⟩ = some (.int .i64 m.high) ∧ W.cell? ⟨w.heap.size, 2, none⟩ = some (.int .i64 m.root) ∧ W.cell? ⟨w.heap.size, 3, none⟩ = some (.int .i64 m.free)) := fun W hb => (M1.out.on hb).cells
    have CM := Lib.hid (fun W => may_any W m)
    have CN := Lib.hid (fun W => refMay_any W m)
    by_cases hy : Mt.May m
    · have CP := Lib.hid (fun W => pay_yes W m hy)
      have CQ := Lib.hid (fun W => refPay_yes W m hy)
      rw [decide_eq_true hy] at CM CN
      have QL := Lib.hid (Mt.pay_len m)
      have QT := Lib.hid (Mt.pay_lt m)
      have CE := Lib.hid (fun W A c (h : Bs W A 1016 c (Mt.full m)) => mfrom_any W A 1016 c _ h)
      rw [says_of_full hy] at CE
      have FL := Lib.hid (Mt.full_len m)
      have FT := Lib.hid (Mt.full_lt m)
      have FE : Hid (Mt.full m = Mt.pay m ++ List.replicate 992 0) := rfl
      unfold mv at *
      generalize Mt.full m = fu at *
      generalize Mt.pay m = pa at *
      clear hy
      go_wp2_with fail
      refine (CP.out w1).mono ?_
      rintro e w2 ⟨A2, k2, rfl, O2, b2⟩
      have s2 := own_bs O2 QL.out QT.out
      have run : Below w1.heap.size w1 w2 := b2
      have HO2 := Lib.hid O2
      clear c0 c1 c2 c3 CP O2 b2
      obtain ⟨c0, c1, c2, c3⟩ := KS.out w2 run
      go_wp2_with fail
      go_region_held3 (fun w' => w'.cell? ⟨w.heap.size, 0, none⟩ = some (.int .u64 (m.gen : Int)) ∧ w'.cell? ⟨w.heap.size, 1, none⟩ = some (.int .i64 m.high) ∧ w'.cell? ⟨w.heap.size, 2, none⟩ = some (.int .i64 m.root) ∧ w'.cell? ⟨w.heap.size, 3, none⟩ = some (.int .i64 m.free)) (first | assumption | exact ⟨c0, c1, c2, c3⟩ | exact KS.out _ run | go_keep) (first
        | (go_at_call 10; refine (CM.out _).mono ?_; rintro e w3 ⟨rfl, b3⟩; have s3 := s2.on (show Below w2.heap.size w2 w3 from onto (below_drewN (Below.refl _ _) 1) b3); replace run : Below w1.heap.size w1 w3 := onto (below_drewN run 1) b3)
        | (go_at_call 11; refine (CN.out _).mono ?_; rintro e w4 ⟨rfl, b4⟩; have s4 := s3.on b4; replace run := onto run b4)
        | (go_at_call 13; refine (CQ.out _).mono ?_; rintro e w5 ⟨A5, k5, rfl, O5, b5⟩; have s5 := s4.on b5; have t5 := own_bs O5 QL.out QT.out; replace run := onto run b5)
        | (go_at_call 12; refine (same_any _ _ _ _ _ _ _ _ _ s5 t5).mono ?_; rintro e w6 ⟨rfl, mm, rfl⟩; rw [decide_eq_true (rfl : pa = pa)]))
      replace run := below_drewN run mm
      have HS5 := Lib.hid (s5.drewN mm)
      have R6 := Lib.hid run
      clear run s2 s3 s4 s5 t5 O5 c0 c1 c2 c3
      generalize w5.drewN mm = w6 at *
      have CF' := Lib.hid (CF.out w6 R6.out)
      go_wp2_with fail
      refine CF'.out.mono ?_
      rintro e w7 ⟨rfl, b7⟩
      have R7 := onto R6.out b7
      have R7a := R7.alloc R7.size (.cells #[.int .u64 (x.gen : Int), .int .i64 x.high, .int .i64 x.root, .int .i64 x.free] 24)
      have K7 := Lib.hid (heap_alloc_new w7 (.cells #[.int .u64 (x.gen : Int), .int .i64 x.high, .int .i64 x.root, .int .i64 x.free] 24))
      have L7 := Lib.hid (alloc_lt w7 (.cells #[.int .u64 (x.gen : Int), .int .i64 x.high, .int .i64 x.root, .int .i64 x.free] 24))
      have CR' := Lib.hid (CR.out _ R7a)
      have HR7a := Lib.hid R7a
      have HB7 := Lib.hid (b7.alloc b7.size (.cells #[.int .u64 (x.gen : Int), .int .i64 x.high, .int .i64 x.root, .int .i64 x.free] 24))
      clear CF' CF CR R7 R7a b7
      go_wp2_with fail
      refine CR'.out.mono ?_
      rintro e w8 ⟨rfl, b8⟩
      have k8 := (b8.block _ L7.out).trans K7.out
      have R8 := onto HR7a.out b8
      have HB8 := Lib.hid (onto HB7.out b8)
      obtain ⟨q0, q1, q2, q3⟩ := mt_cells k8
      obtain ⟨c0, c1, c2, c3⟩ := KS.out w8 R8
      have l8 : w7.heap.size < w8.heap.size := (Array.getElem?_eq_some_iff.1 k8).1
      have lg : w.heap.size < w8.heap.size := Nat.lt_of_lt_of_le M1.out.lt R8.size
      have R8a := Lib.hid (R8.alloc R8.size (.cells #[.int .u64 (x.gen : Int), .int .i64 x.high, .int .i64 x.root, .int .i64 x.free] 24))
      have HB8a := Lib.hid (HB8.out.alloc HB8.out.size (.cells #[.int .u64 (x.gen : Int), .int .i64 x.high, .int .i64 x.root, .int .i64 x.free] 24))
      have EQ' := EQ.out
      have CN' := Lib.hid (CN.out (w8.alloc (.cells #[.int .u64 (x.gen : Int), .int .i64 x.high, .int .i64 x.root, .int .i64 x.free] 24)))
      clear CR' K7 L7 k8 b8 R8 HR7a HB7 HB8
      go_wp2_with fail
      refine CN'.out.mono ?_
      rintro e w9 ⟨rfl, b9⟩
      have R9 := Lib.hid (onto R8a.out b9)
      have HB9 := Lib.hid (onto HB8a.out b9)
      clear q0 q1 q2 q3 c0 c1 c2 c3 b9 EQ' CN' R8a HB8a l8 lg
      have s9 := HS5.out.on HB9.out
      have O9 := World.ownsRow_made (base := w9.heap.size) (e := 5) (size := 1) w9 #[] 0 (Nat.le_refl _) (Nat.zero_le _) rfl
      have S9 := Lib.hid (s9.alloc (.cells #[] 5))
      have HO9 := Lib.hid O9
      have B9 : Below w9.heap.size w9 (w9.alloc (.cells #[] 5)) := (Below.refl _ _).alloc (Nat.le_refl _) _
      clear s9 O9
      go_wp2_with (first
        | (at_builtin; refine wpList_append_bs _ rfl _ _ 25 rfl w9.heap.size 5 i0 (.int .u8 0) Try.underlying25 hi hz0 hz1 hz2 rfl _ _ _ rfl HO9.out _ _ _ _ rfl S9.out (by omega) (by simp) ?_; intro v10 w10 O10 g10; have B10 : Below w9.heap.size w9 w10 := below_own B9 HO9.out g10 (by simp) (Nat.le_refl _))
        | (at_builtin; refine wpList_append_run _ rfl _ _ 25 3 rfl v10 (.int .i64 ((992 : Nat) : Int)) rfl rfl _ (run_append_zeros _ w9.heap.size 25 3 _ 5 i0 .i64 .i64 Try.underlying25 Try.underlying3 hi hz0 hz1 hz2 v10 (0 + 24) _ O10 992 (by omega) B10.size) ?_; rintro v11 w11 ⟨O11, g11⟩))
      have B11 : Below w9.heap.size w9 w11 := below_own B10 O10 g11 B10.size (Nat.le_refl _)
      simp only [Nat.zero_add, List.nil_append, bv_app] at O11
      rw [← FE.out] at O11
      obtain ⟨A11, k11, rfl, _, _⟩ := own_form O11
      have CE' := Lib.hid (CE.out w11 A11 k11 (own_bs O11 FL.out FT.out))
      have R11 := Lib.hid (onto R9.out B11)
      clear O11 O10 g10 g11 B10 B11 B9
      refine CE'.out.mono ?_
      rintro e w12 ⟨rfl, b12⟩
      have R12 := onto R11.out b12
      obtain ⟨c0, c1, c2, c3⟩ := KS.out w12 R12
      have lg : w.heap.size < w12.heap.size := Nat.lt_of_lt_of_le M1.out.lt R12.size
      have RE := Lib.hid (onto B1.out (R12.alloc R12.size (.cells #[.int .u64 (m.gen : Int), .int .i64 m.high, .int .i64 m.root, .int .i64 m.free] 24)))
      have EQ' := EQm.out
      clear CE' b12 R12
      go_wp2
      go_ret
      exact ⟨rfl, RE.out⟩
    · have CP := Lib.hid (fun W => pay_no W m hy)
      have CQ := Lib.hid (fun W => refPay_no W m hy)
      rw [decide_eq_false hy] at CM CN
      unfold mv at *
      clear hy
      go_wp2_with fail
      refine (CP.out w1).mono ?_
      rintro e w2 ⟨rfl, b2⟩
      have run : Below w1.heap.size w1 w2 := b2
      clear c0 c1 c2 c3 CP b2
      obtain ⟨c0, c1, c2, c3⟩ := KS.out w2 run
      go_wp2_with fail
      go_region_held3 (fun w' => w'.cell? ⟨w.heap.size, 0, none⟩ = some (.int .u64 (m.gen : Int)) ∧ w'.cell? ⟨w.heap.size, 1, none⟩ = some (.int .i64 m.high) ∧ w'.cell? ⟨w.heap.size, 2, none⟩ = some (.int .i64 m.root) ∧ w'.cell? ⟨w.heap.size, 3, none⟩ = some (.int .i64 m.free)) (first | assumption | exact ⟨c0, c1, c2, c3⟩ | exact KS.out _ run | go_keep) (first
        | (go_at_call 10; refine (CM.out _).mono ?_; rintro e w3 ⟨rfl, b3⟩; replace run : Below w1.heap.size w1 w3 := onto (below_drewN run 1) b3)
        | (go_at_call 11; refine (CN.out _).mono ?_; rintro e w4 ⟨rfl, b4⟩; replace run := onto run b4)
        | (go_at_call 13; refine (CQ.out _).mono ?_; rintro e w5 ⟨rfl, b5⟩; replace run := onto run b5)
        | (go_at_call 12; refine (same_any _ none none 0 0 0 0 [] [] (Bs.nil_ _ _ _ (Nat.zero_le _)) (Bs.nil_ _ _ _ (Nat.zero_le _))).mono ?_; rintro e w6 ⟨rfl, mm, rfl⟩; rw [decide_eq_true (rfl : ([] : List Nat) = [])]))
      replace run := below_drewN run mm
      have R6 := Lib.hid run
      clear run c0 c1 c2 c3
      generalize w5.drewN mm = w6 at *
      have CF' := Lib.hid (CF.out w6 R6.out)
      go_wp2_with fail
      refine CF'.out.mono ?_
      rintro e w7 ⟨rfl, b7⟩
      have R7 := onto R6.out b7
      have R7a := R7.alloc R7.size (.cells #[.int .u64 (x.gen : Int), .int .i64 x.high, .int .i64 x.root, .int .i64 x.free] 24)
      have K7 := Lib.hid (heap_alloc_new w7 (.cells #[.int .u64 (x.gen : Int), .int .i64 x.high, .int .i64 x.root, .int .i64 x.free] 24))
      have L7 := Lib.hid (alloc_lt w7 (.cells #[.int .u64 (x.gen : Int), .int .i64 x.high, .int .i64 x.root, .int .i64 x.free] 24))
      have CR' := Lib.hid (CR.out _ R7a)
      have HR7a := Lib.hid R7a
      clear CF' CF CR R7 R7a b7
      go_wp2_with fail
      refine CR'.out.mono ?_
      rintro e w8 ⟨rfl, b8⟩
      have k8 := (b8.block _ L7.out).trans K7.out
      have R8 := onto HR7a.out b8
      obtain ⟨q0, q1, q2, q3⟩ := mt_cells k8
      obtain ⟨c0, c1, c2, c3⟩ := KS.out w8 R8
      have l8 : w7.heap.size < w8.heap.size := (Array.getElem?_eq_some_iff.1 k8).1
      have lg : w.heap.size < w8.heap.size := Nat.lt_of_lt_of_le M1.out.lt R8.size
      have R8a := Lib.hid (R8.alloc R8.size (.cells #[.int .u64 (x.gen : Int), .int .i64 x.high, .int .i64 x.root, .int .i64 x.free] 24))
      have EQ' := EQ.out
      have CN' := Lib.hid (CN.out (w8.alloc (.cells #[.int .u64 (x.gen : Int), .int .i64 x.high, .int .i64 x.root, .int .i64 x.free] 24)))
      go_wp2_with fail
      refine CN'.out.mono ?_
      rintro e w9 ⟨rfl, b9⟩
      have R9 := Lib.hid (onto R8a.out b9)
      go_wp2
      go_ret
      exact ⟨rfl, onto B1.out R9.out⟩
  · have hM1 : (2000 : Int) < (n : Int) := by omega
    go_wp2
    go_ret
    exact ⟨rfl, B1.out⟩

end Go.Proofs.Ytcpgmglpgffhdaa
