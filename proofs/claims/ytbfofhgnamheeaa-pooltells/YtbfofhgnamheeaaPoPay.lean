/-
  The program's Pay.
-/
import Derived.Test.YtbfofhgnamheeaaPoRow
import Derived.Test.YtbfofhgnamheeaaPlPay
import Derived.Test.YtbfofhgnamheeaaMtNum
namespace Go.Proofs.Ytbfofhgnamheeaa.Pq
open Go.RowKit
set_option linter.unusedVariables false

/-- Bytes are appended to a row of the call's own. -/
theorem run_append_by (w : World) (base : Nat) (ty : TypeId) (v : Value) (n : Nat) (xs : List Nat) (hown : w.ownsRow base 5 1 v n (bv xs)) (A : Option Addr) (m c : Nat) (l : List Nat) (hr : Bs w A m c l) (hsum : n + m ≤ 1000000) (hbase : base ≤ w.heap.size) :
    ∃ v' w', (Builtin.append_ #[48, 48] ty #[v, .slice A m c]).run Try.prog w = .ok v' w' ∧ w'.ownsRow base 5 1 v' (n + m) (bv (xs ++ l)) ∧ w.grownBy w' v.ownBlock := by
  obtain ⟨i0, hi, hz0, hz1, hz2⟩ := info_parts Try.info5
  obtain ⟨v', w', h1, h2, h3⟩ := run_append_bs (P := Try.prog) w base 48 ty 5 i0 (.int .u8 0) Try.underlying48 hi hz0 hz1 hz2 rfl v n (bv xs) hown A m c l hr hsum hbase
  exact ⟨v', w', h1, by rw [← bv_app]; exact h2, h3⟩
instance (z : Int) : Decidable (Pl.Page z) := inferInstanceAs (Decidable (0 ≤ z ∧ z ≤ 2147483647))
theorem mayTell_any (w : World) (z : Int) : Calls Try.prog 36 #[.int .i64 z] w fun e w' => e = .returned (.bool (decide (Pl.Page z))) ∧ w = w' := by
  by_cases h0 : 0 ≤ z
  · by_cases h1 : z ≤ 2147483647
    · have hd : decide (Pl.Page z) = true := decide_eq_true ⟨h0, h1⟩
      rw [hd]
      clear hd
      go_enter Try.func36, Try.ntmps36
      go_wp2
      go_ret
      exact ⟨rfl, rfl⟩
    · have hd : decide (Pl.Page z) = false := decide_eq_false fun h => h1 h.2
      have hf : decide (z ≤ 2147483647) = false := decide_eq_false h1
      rw [hd]
      clear hd
      go_enter Try.func36, Try.ntmps36
      go_wp2
      go_ret
      exact ⟨rfl, rfl⟩
  · have hd : decide (Pl.Page z) = false := decide_eq_false fun h => h0 h.1
    have hf : decide (0 ≤ z) = false := decide_eq_false h0
    rw [hd]
    clear hd
    go_enter Try.func36, Try.ntmps36
    go_wp2
    go_ret
    exact ⟨rfl, rfl⟩

/-- What is told of the first k. -/
def told (l : List Pl.F) (next : Int) (k : Nat) : List Nat := Nm.be 2 l.length ++ (Nm.be 4 next.toNat ++ Pl.all (l.take k))
theorem told_all (l : List Pl.F) (next : Int) {k : Nat} (hk : l.length ≤ k) : told l next k = Pl.pay l next := by unfold told Pl.pay; rw [List.take_of_length_le hk]
theorem told_step {l : List Pl.F} {next : Int} {k : Nat} {f : Pl.F} (hf : l[k]? = some f) : told l next k ++ Nm.be 4 f.1.toNat ++ Nm.be 8 f.2 = told l next (k + 1) := by
  unfold told
  rw [List.take_add_one, hf]
  show _ = _ ++ (_ ++ Pl.all (l.take k ++ [f]))
  rw [Pl.all_snoc]
  unfold Pl.one
  simp [List.append_assoc]
theorem payOf_no {l : List Pl.F} {next : Int} (h : ¬ Pl.May l next) : Pl.payOf l next = [] := if_neg h
theorem payOf_yes {l : List Pl.F} {next : Int} (h : Pl.May l next) : Pl.payOf l next = Pl.pay l next := if_pos h
theorem own_nil (w : World) (base : Nat) : w.ownsRow base 5 1 (.slice none 0 0) ([] : List Nat).length (bv []) := World.ownsRow_nil _ _ _ _
/-- Two bytes that a literal lays. -/
theorem own_two (w : World) (b : Nat) : (w.alloc (.cells #[.int .u8 0, .int .u8 (b : Int)] 5)).ownsRow w.heap.size 5 1 (.slice (some ⟨w.heap.size, 0, none⟩) 2 2) 2 (bv [0, b]) :=
  Row.own (l := [0, b]) (heap_alloc_new w _) (Nat.le_refl _) rfl (by unfold maxLen; omega)
theorem be2_small {n : Nat} (h : n ≤ 84) : Nm.be 2 n = [0, n] := by
  rw [be_cons, be_cons]
  show [n / 256 ^ 1 % 256, n / 256 ^ 0 % 256] = _
  simp
  omega
/-- What Pay leaves. -/
def PaySays (w : World) (l : List Pl.F) (next : Int) (e : Ending) (w' : World) : Prop := ∃ v, e = .returned v ∧ w'.ownsRow w.heap.size 5 1 v (Pl.payOf l next).length (bv (Pl.payOf l next)) ∧ Below w.heap.size w w'
theorem pay_none {w w' : World} {l : List Pl.F} {next : Int} (h : ¬ Pl.May l next) (hb : Below w.heap.size w w') : PaySays w l next (.returned (.slice none 0 0)) w' :=
  ⟨_, rfl, by rw [payOf_no h]; exact own_nil _ _, hb⟩

set_option maxRecDepth 100000 in
set_option maxHeartbeats 1000000 in
theorem pay_any (w : World) (A : Option Addr) (n c : Nat) (l : List Pl.F) (next : Int) (h : Fs w A n c l) (hi : I64 next) :
    Calls Try.prog 22 #[.slice A n c, .int .i64 next] w (PaySays w l next) := by
  have H := Lib.hid h
  have hl := h.1
  have hnc := h.2.1
  have hcm := h.2.2.1
  unfold maxLen at hcm
  unfold I64 at hi
  obtain ⟨hi1, hi2⟩ := hi
  clear h
  by_cases h84 : n ≤ 84
  · have z1 : ¬ ((84 : Int) < (n : Int)) := by omega
    have CM := Lib.hid (mayTell_any w next)
    by_cases hp : Pl.Page next
    · obtain ⟨x, rfl⟩ : ∃ x : Nat, next = (x : Int) := ⟨next.toNat, by have := hp.1; omega⟩
      have hx : x ≤ 2147483647 := by have := hp.2; omega
      rw [decide_eq_true hp] at CM
      have s8 : IntKind.i64.wrap ((n : Int) / 256) = 0 := by rw [IntWalk.i64_in _ ⟨by omega, by omega⟩]; omega
      have s8' : (n : Int) / 256 = 0 := by omega
      have s8'' : (n : Int) >>> 8 = 0 := by rw [Int.shiftRight_eq_div_pow]; show (n : Int) / 256 = 0; omega
      have u8 : IntKind.u8.wrap (n : Int) = (n : Int) := by rw [IntKind.wrap_u8]; omega
      have u32 : IntKind.u32.wrap (x : Int) = (x : Int) := by rw [IntKind.wrap_u32]; omega
      have HP := Lib.hid hp
      clear hp
      go_enter Try.func22, Try.ntmps22
      go_wp2_with fail
      refine CM.out.mono ?_
      rintro e w0 ⟨rfl, rfl⟩
      have HO1 := Lib.hid (own_two w n)
      have HB1 := Lib.hid ((Below.refl _ w).alloc (Nat.le_refl _) (.cells #[.int .u8 0, .int .u8 (n : Int)] 5))
      go_wp2_with fail
      refine (put32_any _ x (by omega)).mono ?_
      rintro e w2 ⟨A2, k2, rfl, s2, B2⟩
      have hb2 : Below w.heap.size w w2 := onto HB1.out B2
      have O2 := own_on HO1.out B2
      have AP := Lib.hid (fun ty => run_append_by w2 w.heap.size ty _ 2 [0, n] O2 A2 4 k2 (Nm.be 4 x) s2 (by omega) hb2.size)
      have HB2 := Lib.hid hb2
      have HO2 := Lib.hid O2
      clear s2 B2 hb2 O2 HO1 HB1 CM
      go_wp2_with (first
        | (at_builtin; refine wpList_append_ran _ rfl _ _ 48 48 rfl (.slice (some ⟨w.heap.size, 0, none⟩) 2 2) (.slice A2 4 k2) rfl rfl _ (AP.out _) ?_; rintro v3 w3 ⟨O3, g3⟩))
      have hb3 := below_own HB2.out HO2.out g3 HB2.out.size (Nat.le_refl _)
      have hO3 : w3.ownsRow w.heap.size 5 1 v3 (6 + 12 * 0) (bv (told l (x : Int) 0)) := by
        have e : told l (x : Int) 0 = [0, n] ++ Nm.be 4 x := by unfold told; rw [hl, be2_small h84]; simp [Pl.all]
        rw [e]; exact O3
      have S3 := Lib.hid (And.intro hO3 hb3)
      clear O3 g3 hb3 hO3 AP HB2 HO2
      go_loopw [5, 31] (fun o i wr => ∃ (k : Nat) (ov : Value), ov = o ∧ k ≤ n ∧ i = .int .i64 (k : Int) ∧ wr.ownsRow w.heap.size 5 1 ov (6 + 12 * k) (bv (told l (x : Int) k)) ∧ (∀ f ∈ l.take k, Pl.Page f.1) ∧ Below w.heap.size w wr) (fun _ i _ => n - (intOf i).toNat)
      case atStart => exact ⟨0, _, rfl, Nat.zero_le _, rfl, S3.out.1, by simp, S3.out.2⟩
      case round =>
        obtain ⟨k, ov, rfl, hk, rfl, hO, hall, hb⟩ := hrel
        by_cases hlt : k < n
        · have z5 : (k : Int) < (n : Int) := by omega
          obtain ⟨b, off, f, rfl, hbl, hf, hin, q0, q1⟩ := (H.out.on hb).get hlt
          have hbs := hb.size
          have hb4 := hb.alloc (by omega) (.cells #[.int .i64 f.1, .int .u64 (f.2 : Int)] 57)
          have CT := Lib.hid (fun W => mayTell_any W f.1)
          by_cases hpf : Pl.Page f.1
          · obtain ⟨y, hy⟩ : ∃ y : Nat, f.1 = (y : Int) := ⟨f.1.toNat, by have := hpf.1; omega⟩
            have hy2 : y ≤ 2147483647 := by have := hpf.2; omega
            rw [decide_eq_true hpf] at CT
            have hst := told_step (next := (x : Int)) hf
            have hall2 : ∀ f' ∈ l.take (k + 1), Pl.Page f'.1 := fun f' hf' => by
              rw [List.take_add_one, hf] at hf'
              rcases List.mem_append.1 hf' with h1 | h1
              · exact hall f' h1
              · simp at h1; subst h1; exact hpf
            have hyt : f.1.toNat = y := by omega
            rw [hyt] at hst
            have hg := hin.2
            rw [hy] at q0 CT hb4
            have bx := heap_alloc_new wr (.cells #[.int .i64 (y : Int), .int .u64 (f.2 : Int)] 57)
            have u33 : IntKind.u32.wrap (y : Int) = (y : Int) := by rw [IntKind.wrap_u32]; omega
            have HH := Lib.hid (And.intro hst (And.intro hall2 (And.intro hb4 (And.intro (hO.alloc (.cells #[.int .i64 (y : Int), .int .u64 (f.2 : Int)] 57)) bx))))
            have HW : Hid (wr.heap.size < (wr.alloc (.cells #[.int .i64 (y : Int), .int .u64 (f.2 : Int)] 57)).heap.size) := by show _ < _; simp
            have HOL : Hid (∀ j, ov.ownBlock = some j → j < wr.heap.size) := fun j hj => own_lt hO hj
            clear hst hall2 hall hb4 hO hb hf hin hpf hbl bx hyt
            go_wp2_with fail
            refine (CT.out _).mono ?_
            rintro e w5 ⟨rfl, rfl⟩
            generalize hW : wr.alloc (.cells #[.int .i64 (y : Int), .int .u64 (f.2 : Int)] 57) = W at *
            have hWs : wr.heap.size ≤ W.heap.size := Nat.le_of_lt HW.out
            clear q0 q1 hW
            have b0 := cell_of_row W _ 0 _ _ (0, 0) HH.out.2.2.2.2
            simp at b0
            go_wp2_with fail
            refine (put32_any W y (by omega)).mono ?_
            rintro e w6 ⟨A6, k6, rfl, s6, B6⟩
            obtain ⟨hst, hall2, hb4, hO4, bx⟩ := HH.out
            have hb6 := onto hb4 B6
            have O6 := own_on hO4 B6
            have bx6 := (B6.block _ HW.out).trans bx
            have AP6 := Lib.hid (fun ty => run_append_by w6 w.heap.size ty _ _ _ O6 A6 4 k6 (Nm.be 4 y) s6 (by omega) hb6.size)
            have H6 := Lib.hid (And.intro hb6 (And.intro O6 bx6))
            clear hst hall2 hb4 hO4 bx s6 B6 hb6 O6 bx6 b0 CT
            go_wp2_with (first
              | (at_builtin; refine wpList_append_ran _ rfl _ _ 48 48 rfl ov (.slice A6 4 k6) rfl rfl _ (AP6.out _) ?_; rintro v7 w7 ⟨O7, g7⟩; obtain ⟨hb6, O6, bx6⟩ := H6.out; have b71 := cell_of_row w7 wr.heap.size 1 _ _ (0, 0) ((g7.block wr.heap.size (Array.getElem?_eq_some_iff.1 bx6).1 (fun e => by have := HOL.out _ e.symm; omega)).trans bx6); have HB7 := Lib.hid (below_own hb6 O6 g7 hb6.size (Nat.le_refl _)); have HO7 := Lib.hid O7; clear hb6 O6 bx6 g7 O7; simp at b71))
            refine (key_any w7 f.2 hg).mono ?_
            rintro e w8 ⟨A8, k8, rfl, s8, B8⟩
            have hb8 := onto HB7.out B8
            have O8 := own_on HO7.out B8
            have AP8 := Lib.hid (fun ty => run_append_by w8 w.heap.size ty _ _ _ O8 A8 8 k8 (Nm.be 8 f.2) s8 (by omega) hb8.size)
            have H8 := Lib.hid (And.intro hb8 O8)
            clear hb8 O8 B8 s8 HB7 HO7 b71 AP6 H6
            go_wp2_with (first
              | (at_builtin; refine wpList_append_ran _ rfl _ _ 48 48 rfl v7 (.slice A8 8 k8) rfl rfl _ (AP8.out _) ?_; rintro v9 w9 ⟨O9, g9⟩))
            obtain ⟨hb8, O8⟩ := H8.out
            have hb9 := below_own hb8 O8 g9 hb8.size (Nat.le_refl _)
            obtain ⟨hst, hall2, _⟩ := HH.out
            rw [hst, show 6 + 12 * k + 4 + 8 = 6 + 12 * (k + 1) by omega] at O9
            go_roundw
            case rel => exact ⟨k + 1, _, rfl, by omega, by go_num, O9, hall2, hb9⟩
            case measure => simp [intOf]; omega
          · rw [decide_eq_false hpf] at CT
            have HN : Hid (¬ Pl.May l (x : Int)) := fun hm => hpf (hm.2.2 f (List.mem_of_getElem? hf))
            have HB4 := Lib.hid hb4
            clear hf hin hO hall hb hb4 hpf hbl
            go_wp2_with fail
            refine (CT.out _).mono ?_
            rintro e w5 ⟨rfl, rfl⟩
            go_wp2
            go_ret
            exact pay_none HN.out HB4.out
        · have z5 : ¬ ((k : Int) < (n : Int)) := by omega
          have hm : Pl.May l (x : Int) := ⟨by omega, HP.out, fun f hf => hall f (by rw [List.take_of_length_le (by omega)]; exact hf)⟩
          have hkn : k = n := by omega
          subst hkn
          rw [told_all l _ (by omega)] at hO
          have HX := Lib.hid (And.intro hm (And.intro hO hb))
          clear hm hO hb hall
          go_wp2
          go_ret
          obtain ⟨hm, hO, hb⟩ := HX.out
          refine ⟨_, rfl, ?_, hb⟩
          rw [payOf_yes hm]
          have e := Pl.pay_len l (x : Int)
          rw [e, hl]; exact hO
    · rw [decide_eq_false hp] at CM
      have HN : Hid (¬ Pl.May l next) := fun hm => hp hm.2.1
      go_enter Try.func22, Try.ntmps22
      go_wp2_with fail
      refine CM.out.mono ?_
      rintro e w0 ⟨rfl, rfl⟩
      go_wp2
      go_ret
      exact pay_none HN.out (Below.refl _ _)
  · have z1 : (84 : Int) < (n : Int) := by omega
    have HN : Hid (¬ Pl.May l next) := fun hm => by have := hm.1; omega
    go_enter Try.func22, Try.ntmps22
    go_wp2
    go_ret
    exact pay_none HN.out (Below.refl _ _)

end Go.Proofs.Ytbfofhgnamheeaa.Pq
