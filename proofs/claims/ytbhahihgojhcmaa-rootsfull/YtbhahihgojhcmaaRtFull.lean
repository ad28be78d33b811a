/-
  RootsFull, walked.
-/
import Derived.Test.YtbhahihgojhcmaaRtAwake
import Derived.Test.YtbhahihgojhcmaaRtRfWith
namespace Go.Proofs.Ytbhahihgojhcmaa.Rt
open Go.RowKit
set_option linter.unusedVariables false

def rOf (i : Nat) : Rm.R := ⟨[109, 97 + i], ((2 + i : Nat) : Int), 1⟩
def row (k : Nat) : List Rm.R := (List.range k).map rOf
theorem row_next (k : Nat) : row (k + 1) = row k ++ [rOf k] := by simp [row, List.range_succ]
theorem row_len (k : Nat) : (row k).length = k := by simp [row]
theorem row_may : Rm.may (row 12) = true := by decide
def rMa : Rm.R := ⟨[109, 97], 99, 5⟩
theorem ma_txt : txt [109, 97] = ⟨#[109, 97]⟩ := rfl
theorem in_rMa : In rMa := ⟨by simp [rMa], by simp [rMa], ⟨by decide, by decide⟩, ⟨by decide, by decide⟩⟩
theorem ma_code : withCode (row 12) rMa = 0 := by decide
theorem ma_len : (withL (row 12) rMa).length = 12 := by
  unfold withL; rw [if_pos ma_code, Rm.ins_len]; decide
theorem ma_find : Rm.find (withL (row 12) rMa) [109, 97] = some rMa := by
  unfold withL; rw [if_pos ma_code]; exact Rm.find_with (row 12) rMa
theorem bs_lit2 (w : World) (x y : Nat) (hx : x < 256) (hy : y < 256) : Bs (w.alloc (.cells #[.int .u8 (x : Int), .int .u8 (y : Int)] 5)) (some ⟨w.heap.size, 0, none⟩) 2 2 [x, y] := by
  have hn := heap_alloc_new w (.cells #[.int .u8 (x : Int), .int .u8 (y : Int)] 5)
  refine ⟨rfl, Nat.le_refl _, by unfold maxLen; omega, by simp; omega, fun _ => ⟨w.heap.size, 0, rfl, by simp, fun j z hz => ?_⟩⟩
  have c0 := cell_of_row _ _ j _ _ (0, 0) hn
  rw [Nat.zero_add, c0]
  match j, hz with
  | 0, hz => injection hz with hz; subst hz; rfl
  | 1, hz => injection hz with hz; subst hz; rfl
theorem bs_ma (w : World) (c : Nat) (hc : c < 256) : Bs (w.alloc (.cells #[.int .u8 109, .int .u8 (c : Int)] 5)) (some ⟨w.heap.size, 0, none⟩) 2 2 [109, c] := bs_lit2 w 109 c (by omega) hc

set_option maxRecDepth 100000 in
set_option maxHeartbeats 2000000 in
theorem rootsFull_walk (w : World) (r : Rm.R) (hr : In r) :
    Calls Try.prog 6 #[rv r] w fun e w' => e = .returned (.bool true) ∧ Below w.heap.size w w' := by
  have B0 : Below w.heap.size w (w.alloc (.cells #[.string (txt r.name), .int .i64 r.page, .int .i64 r.count] 34)) := (Below.refl _ _).alloc (Nat.le_refl _) _
  have K0 := Rb.new w r
  have C0 := Lib.hid awake_any
  have HIN := Lib.hid hr
  have HSZ := Lib.hid (txt_size r.name)
  have HB0 := Lib.hid B0
  have HK0 := Lib.hid K0
  have hmf : ∀ (fn : Fn) (first cap : Array Value) (w : World), (Instr.makeFunc fn first cap).run Try.prog w = .ok (.func fn first cap) w := fun _ _ _ _ => rfl
  clear hr B0 K0
  unfold rv at *
  go_enter Try.func6, Try.ntmps6
  go_wp2_with fail
  generalize w.alloc (.cells #[.string (txt r.name), .int .i64 r.page, .int .i64 r.count] 34) = w0 at *
  refine (C0.out _).mono ?_
  rintro e w1 ⟨rfl, b1⟩
  have HB1 := Lib.hid (onto HB0.out b1)
  have HK1 := Lib.hid (HK0.out.on b1)
  clear C0 b1 HB0 HK0
  go_wp2_with fail
  go_loopw [3, 4] (fun out i wr => ∃ (k : Nat) (ov : Value), ov = out ∧ k ≤ 12 ∧ i = .int .i64 (k : Int) ∧ Hid (Own w1 wr ov (row k))) (fun _ i _ => 12 - (intOf i).toNat)
  case atStart => exact ⟨0, _, rfl, Nat.zero_le _, rfl, ⟨own_none w1 _, Below.refl _ _, by simp [row]⟩⟩
  case round =>
    obtain ⟨k, ov, rfl, hk, rfl, HO⟩ := hrel
    by_cases hlt : k < 12
    · obtain ⟨c, hc⟩ : ∃ c, c = 97 + k := ⟨_, rfl⟩
      obtain ⟨p, hp⟩ : ∃ p, p = 2 + k := ⟨_, rfl⟩
      have e1 : (97 : Int) + (k : Int) = (c : Int) := by omega
      have e2 : IntKind.i64.wrap ((97 : Int) + (k : Int)) = (c : Int) := by rw [IntKind.wrap_i64]; omega
      have e3 : (c : Int) % 256 = (c : Int) := by omega
      have e6 : IntKind.i64.wrap (c : Int) = (c : Int) := by rw [IntKind.wrap_i64]; omega
      have e4 : (2 : Int) + (k : Int) = (p : Int) := by omega
      have e5 : IntKind.i64.wrap ((2 : Int) + (k : Int)) = (p : Int) := by rw [IntKind.wrap_i64]; omega
      have e7 : IntKind.i64.wrap (p : Int) = (p : Int) := by rw [IntKind.wrap_i64]; omega
      have hrk : rOf k = ⟨[109, c], (p : Int), 1⟩ := by unfold rOf; rw [hc, hp]
      have L2 := bs_ma wr c (by omega)
      have hct := L2.text (P := Try.prog) 23 9 5 Try.underlying23 Try.underlying5 Try.underlying9
      have O1 := HO.out.on ((Below.refl _ wr).alloc (Nat.le_refl _) (.cells #[.int .u8 109, .int .u8 (c : Int)] 5))
      have hin : In ⟨[109, c], (p : Int), 1⟩ := ⟨by simp; omega, by simp, ⟨by simp only; omega, by simp only; omega⟩, ⟨by simp only; omega, by simp only; omega⟩⟩
      have hrn := rs_new (wr.alloc (.cells #[.int .u8 109, .int .u8 (c : Int)] 5)) ⟨[109, c], (p : Int), 1⟩ hin
      have O2 := O1.on ((Below.refl _ _).alloc (Nat.le_refl _) (.cells #[.string (txt [109, c]), .int .i64 (p : Int), .int .i64 1] 34))
      simp only at hrn
      rw [show (wr.alloc (.cells #[.int .u8 109, .int .u8 (c : Int)] 5)).heap.size = wr.heap.size + 1 by simp] at hrn
      have hlk := row_len k
      have AP := Lib.hid (fun ty => run_append_rs _ w1.heap.size ty ov _ O2.own _ 1 1 [⟨[109, c], (p : Int), 1⟩] hrn (by omega) O2.bel.size)
      have HO2 := Lib.hid O2
      have HRN := Lib.hid (row_next k)
      have HHI := Lib.hid hin
      rw [hrk] at HRN
      have Hc := Lib.hid hc
      have Hp := Lib.hid hp
      clear hc hp hrk L2 O1 O2 hin hrn hlk
      go_wp2_with (at_builtin; refine wpList_append_ran _ rfl _ _ 22 22 rfl _ _ rfl rfl _ (AP.out _) ?_; rintro v5 w5 ⟨O5, G5⟩)
      have B5 := below_own HO2.out.bel HO2.out.own G5 HO2.out.bel.size (Nat.le_refl _)
      rw [← HRN.out] at O5
      have HO5 : Hid (Own w1 w5 v5 (row (k + 1))) := ⟨O5, B5, by
        rw [HRN.out]
        intro y hy
        rcases List.mem_append.1 hy with h1 | h1
        · exact HO2.out.all y h1
        · simp at h1; subst h1; exact HHI.out⟩
      clear O5 G5 B5 AP
      go_wp2_with fail
      go_roundw
      case rel => exact ⟨k + 1, _, rfl, by omega, by go_num, HO5⟩
      case measure => simp [intOf]; omega
    · obtain rfl : k = 12 := by omega
      have hall := HO.out.all
      obtain ⟨A2, c2, rfl, R2⟩ := rs_own HO.out.own hall
      rw [row_len] at R2
      simp only [row_len]
      have bO := HO.out.bel
      have HBR := Lib.hid (onto HB1.out bO)
      have HKR := Lib.hid (HK1.out.on bO)
      have HM := Lib.hid row_may
      have HMC := Lib.hid ma_code
      have HML := Lib.hid ma_len
      have HMF := Lib.hid ma_find
      generalize row 12 = M at *
      have HR := Lib.hid R2
      have CM := Lib.hid (may_any _ _ _ _ _ R2)
      rw [HM.out] at CM
      clear R2 hall bO HO HB1 HK1
      obtain ⟨d0, d1, d2⟩ := HKR.out.at_
      go_wp2_with fail
      refine CM.out.mono ?_
      rintro e w3 ⟨rfl, b3⟩
      have CN := Lib.hid (rfMay_any _ _ _ _ _ (HR.out.on b3))
      rw [HM.out] at CN
      clear d0 d1 d2 CM
      go_wp2_with fail
      refine CN.out.mono ?_
      rintro e w4 ⟨rfl, b4⟩
      have HB4 := Lib.hid (onto HBR.out (onto b3 b4))
      have HK4 := Lib.hid ((HKR.out.on b3).on b4)
      have HR4 := Lib.hid ((HR.out.on b3).on b4)
      clear b3 b4 CN HBR HKR HR
      obtain ⟨d0, d1, d2⟩ := HK4.out.at_
      by_cases hbig : 100 < (txt r.name).size
      · have hb1 : (100 : Int) < ((txt r.name).size : Int) := by omega
        go_wp2
        go_ret
        exact ⟨rfl, HB4.out⟩
      · have hb1 : ¬ (100 : Int) < ((txt r.name).size : Int) := by omega
        have C5 := Lib.hid (with_any w4 A2 12 c2 M r HR4.out HIN.out (by omega))
        unfold WithSays rv at C5
        have hz : Hid (∀ a b : Nat, a = b → (((a : Nat) : Int) == ((b : Nat) : Int)) = true) := fun a b h => by subst h; simp
        go_wp2_with fail
        refine C5.out.mono ?_
        rintro e w5 ⟨A5, m5, c5, rfl, R5, b5⟩
        have HK5 := Lib.hid (HK4.out.on b5)
        have HR5 := Lib.hid (HR4.out.on b5)
        have HX5 := Lib.hid R5
        have HB5 := Lib.hid (onto HB4.out b5)
        clear d0 d1 d2 C5 R5 b5 HK4 HR4 HB4
        obtain ⟨d0, d1, d2⟩ := HK5.out.at_
        have C6 := Lib.hid (rfWith_any w5 A2 12 c2 M r HR5.out HIN.out (by omega))
        unfold WithSays rv at C6
        go_wp2_with fail
        refine C6.out.mono ?_
        rintro e w6 ⟨A6, m6, c6, rfl, R6, b6⟩
        have HR6 := Lib.hid (HR5.out.on b6)
        have HX6 := Lib.hid (HX5.out.on b6)
        have HY6 := Lib.hid R6
        have HB6 := Lib.hid (onto HB5.out b6)
        clear d0 d1 d2 C6 R6 b6 HK5 HR5 HX5 HB5
        have C7 := Lib.hid (with_any w6 A2 12 c2 M rMa HR6.out in_rMa (by omega))
        unfold WithSays rv rMa at C7
        simp only [ma_txt] at C7
        change Hid (Calls _ _ _ _ fun e w' => ∃ A m c, e = Ending.returned (.tuple #[.slice A m c, .int .i64 (withCode M rMa : Int)]) ∧ Rs w' A m c (withL M rMa) ∧ Below w6.heap.size w6 w') at C7
        rw [HMC.out] at C7
        generalize withCode M r = z at *
        go_wp2_with fail
        refine C7.out.mono ?_
        rintro e w7 ⟨A7, m7, c7, rfl, R7, b7⟩
        have hm7 : m7 = 12 := by rw [← R7.1, HML.out]
        subst hm7
        have HX7 := Lib.hid (HX6.out.on b7)
        have HY7 := Lib.hid (HY6.out.on b7)
        have HB7 := Lib.hid (onto HB6.out b7)
        have C8 := Lib.hid (find_any w7 A7 12 c7 (withL M rMa) [109, 97] R7 (by simp))
        rw [HMF.out] at C8
        unfold findV rv rMa at C8
        simp only [ma_txt, Option.getD_some, Option.isSome_some] at C8
        clear C7 R7 b7 HX6 HY6 HB6
        go_wp2_with fail
        refine C8.out.mono ?_
        rintro e w8 ⟨rfl, b8⟩
        have bA : Below w8.heap.size w8 (w8.alloc (.cells #[.string ⟨#[109, 97]⟩, .int .i64 99, .int .i64 5] 34)) := (Below.refl _ _).alloc (Nat.le_refl _) _
        have kb := heap_alloc_new w8 (.cells #[.string ⟨#[109, 97]⟩, .int .i64 99, .int .i64 5] 34)
        have f1 := cell_of_row _ _ 1 _ _ (0, 0) kb
        have HB8 := Lib.hid (onto (onto HB7.out b8) bA)
        have C9 := Lib.hid (same_any _ _ _ _ _ _ _ _ ((HX7.out.on b8).on bA) ((HY7.out.on b8).on bA))
        have hzz := hz.out z z rfl
        clear C8 b8 bA kb HX7 HY7 HB7 hz
        go_wp2_with fail
        generalize w8.alloc (.cells #[.string ⟨#[109, 97]⟩, .int .i64 99, .int .i64 5] 34) = w9 at *
        refine C9.out.mono ?_
        rintro e w10 ⟨rfl, m10, rfl⟩
        go_wp2
        go_ret
        exact ⟨rfl, below_drewN HB8.out m10⟩

end Go.Proofs.Ytbhahihgojhcmaa.Rt
