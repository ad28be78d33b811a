/-
  With.
-/
import Derived.Test.YtbhahihgojhcmaaRtInsC
import Derived.Test.YtbhahihgojhcmaaRtFindW
namespace Go.Proofs.Ytbhahihgojhcmaa.Rt
open Go.RowKit
set_option linter.unusedVariables false

/-- What With tells, and what it leaves. -/
def withCode (L : List Rm.R) (r : Rm.R) : Nat := if Rm.One r then (if 12 ≤ (Rm.without L r.name).length then 6 else 0) else 1
def withL (L : List Rm.R) (r : Rm.R) : List Rm.R := if withCode L r = 0 then Rm.ins (Rm.without L r.name) r else []
def WithSays (w : World) (L : List Rm.R) (r : Rm.R) (e : Ending) (w' : World) : Prop :=
  ∃ A m c, e = .returned (.tuple #[.slice A m c, .int .i64 (withCode L r : Int)]) ∧ Rs w' A m c (withL L r) ∧ Below w.heap.size w w'
theorem with_no {w w' : World} {L : List Rm.R} {r : Rm.R} {k : Nat} (hk : withCode L r = k) (h : k ≠ 0) (hb : Below w.heap.size w w') : WithSays w L r (.returned (.tuple #[.slice none 0 0, .int .i64 (k : Int)])) w' := by
  refine ⟨none, 0, 0, by rw [hk], ?_, hb⟩
  unfold withL
  rw [hk, if_neg h]
  exact Rs.nil_ _ _ _ (Nat.zero_le _)
theorem ins_idx (r : Rm.R) : ∀ (M : List Rm.R), M.take (idx (fun x => Nm.lexLess r.name x.name) M) ++ r :: M.drop (idx (fun x => Nm.lexLess r.name x.name) M) = Rm.ins M r
  | [] => rfl
  | x :: t => by
    have ih := ins_idx r t
    cases h : Nm.lexLess r.name x.name with
    | true => rw [idx_yes (by exact h)]; simp [Rm.ins, h]
    | false =>
      rw [idx_no (by exact h)]
      unfold Rm.ins at *
      simp only [List.take_succ_cons, List.drop_succ_cons, List.cons_append, h, Bool.not_false, List.takeWhile_cons_of_pos, List.dropWhile_cons_of_pos, ih]
theorem Own.on {w0 w w' : World} {v : Value} {xs : List Rm.R} (h : Own w0 w v xs) (hb : Below w.heap.size w w') : Own w0 w' v xs :=
  ⟨own_on3 h.own hb, h.bel.trans (hb.mono h.bel.size), h.all⟩

set_option maxRecDepth 100000 in
set_option maxHeartbeats 1000000 in
theorem with_any (w : World) (A : Option Addr) (n c : Nat) (L : List Rm.R) (r : Rm.R) (h : Rs w A n c L) (hr : In r) (hm : n ≤ 1000) :
    Calls Try.prog 16 #[.slice A n c, rv r] w fun e w' => WithSays w L r e w' := by
  have hmf : ∀ (fn : Fn) (first cap : Array Value) (w : World), (Instr.makeFunc fn first cap).run Try.prog w = .ok (.func fn first cap) w := fun _ _ _ _ => rfl
  have B0 : Below w.heap.size w (w.alloc (.cells #[.string (txt r.name), .int .i64 r.page, .int .i64 r.count] 34)) := (Below.refl _ _).alloc (Nat.le_refl _) _
  have K0 := Rb.new w r
  have s0 : w.heap.size < (w.alloc (.cells #[.string (txt r.name), .int .i64 r.page, .int .i64 r.count] 34)).heap.size := by simp
  have R0 := h.on B0
  have C0 := Lib.hid (mayBe_any (w.alloc (.cells #[.string (txt r.name), .int .i64 r.page, .int .i64 r.count] 34)) r hr)
  obtain ⟨c0, c1, c2⟩ := K0.at_
  have HIN := Lib.hid hr
  have HB0 := Lib.hid B0
  have HK0 := Lib.hid K0
  have HR0 := Lib.hid R0
  clear h hr B0 K0 R0
  unfold rv at *
  go_enter Try.func16, Try.ntmps16
  go_wp2_with fail
  generalize w.alloc (.cells #[.string (txt r.name), .int .i64 r.page, .int .i64 r.count] 34) = w0 at *
  refine C0.out.mono ?_
  rintro e w1 ⟨rfl, b1⟩
  have HB1 := Lib.hid (onto HB0.out b1)
  have HK1 := Lib.hid (HK0.out.on b1)
  have HR1 := Lib.hid (HR0.out.on b1)
  have hs1 := b1.size
  clear c0 c1 c2 C0 HB0 HR0 HK0 b1
  by_cases hone : Rm.One r
  · rw [decide_eq_true hone]
    obtain ⟨c0, c1, c2⟩ := HK1.out.at_
    have C1 := Lib.hid (without_any w1 A n c L r.name HR1.out HIN.out.nm hm)
    have HC : Hid (withCode L r = if 12 ≤ (Rm.without L r.name).length then 6 else 0) := if_pos hone
    have hwl := Rm.without_len L r.name
    have hLn := HR1.out.1
    go_wp2_with fail
    refine C1.out.mono ?_
    rintro e w2 ⟨v2, rfl, O2⟩
    have b2 := O2.bel
    have HK2 := Lib.hid (HK1.out.on b2)
    have HB2 := Lib.hid (onto HB1.out b2)
    have HO2 := Lib.hid O2
    obtain ⟨A2, c2', rfl, R2⟩ := rs_own O2.own O2.all
    have HR2 := Lib.hid R2
    have hcm := R2.2.2.1
    unfold maxLen at hcm
    generalize hM : Rm.without L r.name = M at *
    have HM := Lib.hid hM
    have hs2 := b2.size
    obtain ⟨m, hml⟩ : ∃ m, m = M.length := ⟨_, rfl⟩
    rw [← hml] at HO2 HR2 hwl
    have HML := Lib.hid hml
    clear c0 c1 c2 C1 O2 b2 HR1 hone hM R2
    rw [← hml]
    clear hml
    by_cases h12 : (12 : Int) ≤ (m : Int)
    · have hc6 : withCode L r = 6 := by rw [HC.out, if_pos (by rw [← HML.out]; omega)]
      have HC6 := Lib.hid hc6
      clear hc6
      go_wp2_with fail
      go_ret2
      exact with_no (k := 6) HC6.out (by decide) HB2.out
    · have hc0 : withCode L r = 0 := by rw [HC.out, if_neg (by rw [← HML.out]; omega)]
      have HC0 := Lib.hid hc0
      have C3 := Lib.hid (firstW w.heap.size (fun x => Nm.lexLess r.name x.name) w2 A2 m c2' M HR2.out (fun W x hx hW => withIs_any W x r w.heap.size hx HIN.out (HK2.out.on hW)))
      have hile := idx_le (fun x => Nm.lexLess r.name x.name) M
      have HII := Lib.hid (ins_idx r M)
      generalize idx (fun x => Nm.lexLess r.name x.name) M = i at *
      clear hc0
      go_wp2_with fail
      refine C3.out.mono ?_
      rintro e w3 ⟨rfl, b3⟩
      have HK3 := Lib.hid (HK2.out.on b3)
      obtain ⟨c0, c1, c2⟩ := HK3.out.at_
      have O3 := HO2.out.on b3
      have bA : Below w3.heap.size w3 (w3.alloc (.cells #[.string (txt r.name), .int .i64 r.page, .int .i64 r.count] 34)) := (Below.refl _ _).alloc (Nat.le_refl _) _
      have hne : (Value.slice A2 m c2').ownBlock ≠ some w3.heap.size := fun e => by
        have := O3.own.lt _ e
        omega
      have C4 := Lib.hid (insert_any w1 (w3.alloc (.cells #[.string (txt r.name), .int .i64 r.page, .int .i64 r.count] 34)) _ i M r w3.heap.size (O3.on bA) HIN.out (Rb.new w3 r) hne hile (by rw [← HML.out]; omega))
      clear C3 O3 bA hne b3
      go_wp2_with fail
      refine C4.out.mono ?_
      rintro e w5 ⟨⟨A5, c5, rfl, R5⟩, b5⟩
      rw [HII.out] at R5
      have HR5 := Lib.hid R5
      have HB5 := Lib.hid b5
      clear C4 R5 b5 c0 c1 c2
      go_wp2_with fail
      go_ret2
      refine ⟨A5, M.length + 1, c5, by rw [HC0.out]; rfl, ?_, ?_⟩
      · unfold withL
        rw [if_pos HC0.out, HM.out]
        exact HR5.out
      · exact HB1.out.trans (HB5.out.mono HB1.out.size)
  · rw [decide_eq_false hone]
    have HC : Hid (withCode L r = 1) := if_neg hone
    go_wp2_with fail
    go_ret2
    exact with_no (k := 1) HC.out (by decide) HB1.out

end Go.Proofs.Ytbhahihgojhcmaa.Rt
