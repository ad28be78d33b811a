/-
  Put, the program's and the document's: a short number's bytes.
-/
import Derived.Test.YthibflmmpkijkaaBase
namespace Go.Proofs.Ythibflmmpkijkaa
open Go.RowKit
set_option linter.unusedVariables false

theorem Try.info5 : (Try.prog.info? 5).map (fun i => (i.zero, i.size, i.bytes)) = some (some (.int .u8 0), 1, 1) := by kernel_rfl


theorem start (v : Nat) (hv : L64 v) : Hid (v < 128 ^ 10 ∧ ([] : List Nat).length + 10 = 10 ∧ (([] : List Nat).length = 0 ∨ 0 < v) ∧ [] ++ Nm.putN 10 v = Nm.put v) :=
  ⟨by rw [Nm.pow_128_10]; unfold L64 at hv; omega, rfl, .inl rfl, rfl⟩
theorem or_128 (y : Nat) : bits .or .u8 ((y : Int) % 256) 128 = (y : Int) % 128 + 128 := by
  have h := u8_or_nat (y % 256) 128 (by omega) (by omega)
  have e : (((y % 256 : Nat) : Int)) = (y : Int) % 256 := by omega
  rw [e] at h
  rw [show (128 : Int) = ((128 : Nat) : Int) from rfl, h]
  have key : ∀ x : Nat, x < 256 → x ||| 128 = x % 128 + 128 := by decide +kernel
  rw [key _ (by omega)]
  omega
theorem finish (v f y : Nat) (o : List Nat) (H : Hid (y < 128 ^ f ∧ o.length + f = 10 ∧ (o.length = 0 ∨ 0 < y) ∧ o ++ Nm.putN f y = Nm.put v)) (hlt : y < 128) {w' : World} {base e : Nat} {v' : Value}
    (hown : w'.ownsRow base e 1 v' (o.length + 1) (bv o ++ [.int .u8 (y : Int)])) : ∃ A c, v' = .slice A (Nm.put v).length c ∧ Bs w' A (Nm.put v).length c (Nm.put v) := by
  obtain ⟨h1, h2, h4, h3⟩ := H.out
  match f, h1, h2, h3 with
  | 0, h1, h2, h3 =>
    simp at h1; omega
  | f + 1, h1, h2, h3 =>
    rw [Nm.putN_small f y hlt] at h3
    rw [← bv_snoc, h3] at hown
    have hl : o.length + 1 = (Nm.put v).length := by rw [← h3]; simp
    rw [hl] at hown
    exact Bs.of_own hown (Nm.put_lt v)
theorem step (v f y : Nat) (o : List Nat) (H : Hid (y < 128 ^ f ∧ o.length + f = 10 ∧ (o.length = 0 ∨ 0 < y) ∧ o ++ Nm.putN f y = Nm.put v)) (hlt : ¬ y < 128) {w' : World} {base e : Nat} {v' : Value}
    (hown : w'.ownsRow base e 1 v' (o.length + 1) (bv o ++ [.int .u8 ((y : Int) % 128 + 128)])) :
    ∃ f', f' ≤ 10 ∧ Hid (y / 128 < 128 ^ f' ∧ (o ++ [y % 128 + 128]).length + f' = 10 ∧ ((o ++ [y % 128 + 128]).length = 0 ∨ 0 < y / 128) ∧ (o ++ [y % 128 + 128]) ++ Nm.putN f' (y / 128) = Nm.put v) ∧
      w'.ownsRow base e 1 v' (o ++ [y % 128 + 128]).length (bv (o ++ [y % 128 + 128])) := by
  obtain ⟨h1, h2, h4, h3⟩ := H.out
  match f, h1, h2, h3 with
  | 0, h1, h2, h3 => simp at h1; omega
  | f + 1, h1, h2, h3 =>
    refine ⟨f, by omega, ⟨?_, ?_, .inr (by omega), ?_⟩, ?_⟩
    · rw [Nat.pow_succ] at h1; exact Nat.div_lt_of_lt_mul (by rw [Nat.mul_comm]; exact h1)
    · simp; omega
    · rw [← h3, Nm.putN_great f y hlt]; simp
    · rw [bv_snoc, List.length_append, List.length_singleton]
      have e : ((y % 128 + 128 : Nat) : Int) = (y : Int) % 128 + 128 := by omega
      rw [e]; exact hown
theorem L64.wrap_ {y : Nat} (h : L64 y) : IntKind.u64.wrap ((y : Int) / 128) = (y : Int) / 128 := by unfold L64 at h; exact IntWalk.u64_in _ ⟨by omega, by omega⟩
theorem L64.div {y : Nat} (h : L64 y) : L64 (y / 128) := by unfold L64 at *; omega

set_option maxRecDepth 100000 in
set_option maxHeartbeats 400000 in
theorem put_any (w : World) (v : Nat) (hv : L64 v) :
    Calls Try.prog 11 #[.int .u64 (v : Int)] w fun e w' => ∃ A n c, e = .returned (.slice A n c) ∧ Bs w' A n c (Nm.put v) ∧ Below w.heap.size w w' := by
  obtain ⟨i0, hi, hz0, hz1, hz2⟩ := info_parts Try.info5
  go_enter Try.func11, Try.ntmps11
  go_wp2
  go_loopw [0, 3] (fun x out wr => ∃ (f y : Nat) (o : List Nat), x = .int .u64 (y : Int) ∧ L64 y ∧ f ≤ 10 ∧ Hid (y < 128 ^ f ∧ o.length + f = 10 ∧ (o.length = 0 ∨ 0 < y) ∧ o ++ Nm.putN f y = Nm.put v) ∧
      wr.ownsRow w.heap.size 5 1 out o.length (bv o) ∧ Below w.heap.size w wr) (fun x _ _ => (intOf x).toNat)
  case atStart => exact ⟨10, v, [], rfl, hv, Nat.le_refl _, start v hv, World.ownsRow_nil _ _ _ _, Below.refl _ _⟩
  case round =>
    obtain ⟨f, y, o, rfl, hy, hf, H, hown, hbel⟩ := hrel
    have hol : o.length ≤ 10 := by have := H.out.2.1; omega
    have hsz := hbel.size
    by_cases hlt : y < 128
    · have h8 : ((y : Int) % 256) = (y : Int) := by omega
      go_wp2_with (at_builtin; refine wpList_append_own _ rfl _ _ 23 rfl w.heap.size 5 i0 (.int .u8 0) 1 1 Try.underlying23 hi hz0 hz1 hz2 rfl (by decide) _ _ _ rfl (hown.alloc _) ⟨wr.heap.size, 0, none⟩ 1 1 [.int .u8 (y : Int)] rfl rfl ?c1 ?c2 ?c3 ?c4 ?c5 ?_)
      case c1 => exact cell_one_new _ _ _
      case c2 => intro u hu; simp at hu; subst hu; rfl
      case c3 => unfold maxLen; omega
      case c4 => omega
      case c5 => simp; omega
      · intro v' w1 hown' hgrow _
        have hbel' := below_own (hbel.alloc hsz _) (hown.alloc _) hgrow (by simp; omega) (Nat.le_refl _)
        have R := finish v f y o H hlt hown'
        clear hown' hgrow hown hbel h8
        go_wp2
        go_ret
        obtain ⟨A, c, rfl, hbs⟩ := R
        exact ⟨A, _, c, rfl, hbs, hbel'⟩
    · have hge : 128 ≤ (y : Int) := by omega
      have hor := or_128 y
      go_wp2_with (at_builtin; refine wpList_append_own _ rfl _ _ 23 rfl w.heap.size 5 i0 (.int .u8 0) 1 1 Try.underlying23 hi hz0 hz1 hz2 rfl (by decide) _ _ _ rfl (hown.alloc _) ⟨wr.heap.size, 0, none⟩ 1 1 [.int .u8 ((y : Int) % 128 + 128)] rfl rfl ?c1 ?c2 ?c3 ?c4 ?c5 ?_)
      case c1 => exact cell_one_new _ _ _
      case c2 => intro u hu; simp at hu; subst hu; rfl
      case c3 => unfold maxLen; omega
      case c4 => omega
      case c5 => simp; omega
      · intro v' w1 hown' hgrow _
        have hbel' := below_own (hbel.alloc hsz _) (hown.alloc _) hgrow (by simp; omega) (Nat.le_refl _)
        obtain ⟨f', hf', H', hown''⟩ := step v f y o H hlt hown'
        have hy' := L64.div hy
        clear hown' hgrow hown hbel hor
        go_wp2
        go_roundw
        case rel => exact ⟨f', y / 128, o ++ [y % 128 + 128], by go_num, hy', hf', H', hown'', hbel'⟩
        case measure => simp [intOf]; omega

set_option maxRecDepth 100000 in
set_option maxHeartbeats 400000 in
theorem refPut_any (w : World) (v : Nat) (hv : L64 v) :
    Calls Try.prog 14 #[.int .u64 (v : Int)] w fun e w' => ∃ A n c, e = .returned (.slice A n c) ∧ Bs w' A n c (Nm.put v) ∧ Below w.heap.size w w' := by
  obtain ⟨i0, hi, hz0, hz1, hz2⟩ := info_parts Try.info5
  go_enter Try.func14, Try.ntmps14
  go_wp2
  go_loopw [0, 3] (fun x out wr => ∃ (f y : Nat) (o : List Nat), x = .int .u64 (y : Int) ∧ L64 y ∧ f ≤ 10 ∧ Hid (y < 128 ^ f ∧ o.length + f = 10 ∧ (o.length = 0 ∨ 0 < y) ∧ o ++ Nm.putN f y = Nm.put v) ∧
      wr.ownsRow w.heap.size 5 1 out o.length (bv o) ∧ Below w.heap.size w wr) (fun x _ _ => (intOf x).toNat)
  case atStart => exact ⟨10, v, [], rfl, hv, Nat.le_refl _, start v hv, World.ownsRow_nil _ _ _ _, Below.refl _ _⟩
  case round =>
    obtain ⟨f, y, o, rfl, hy, hf, H, hown, hbel⟩ := hrel
    have hol : o.length ≤ 10 := by have := H.out.2.1; omega
    have hsz := hbel.size
    by_cases hlt : y < 128
    · have h8 : ((y : Int) % 256) = (y : Int) := by omega
      go_wp2_with (at_builtin; refine wpList_append_own _ rfl _ _ 23 rfl w.heap.size 5 i0 (.int .u8 0) 1 1 Try.underlying23 hi hz0 hz1 hz2 rfl (by decide) _ _ _ rfl (hown.alloc _) ⟨wr.heap.size, 0, none⟩ 1 1 [.int .u8 (y : Int)] rfl rfl ?c1 ?c2 ?c3 ?c4 ?c5 ?_)
      case c1 => exact cell_one_new _ _ _
      case c2 => intro u hu; simp at hu; subst hu; rfl
      case c3 => unfold maxLen; omega
      case c4 => omega
      case c5 => simp; omega
      · intro v' w1 hown' hgrow _
        have hbel' := below_own (hbel.alloc hsz _) (hown.alloc _) hgrow (by simp; omega) (Nat.le_refl _)
        have R := finish v f y o H hlt hown'
        clear hown' hgrow hown hbel h8
        go_wp2
        go_ret
        obtain ⟨A, c, rfl, hbs⟩ := R
        exact ⟨A, _, c, rfl, hbs, hbel'⟩
    · have hge : 128 ≤ (y : Int) := by omega
      have hor : ((y : Int) % 128 + 128) % 256 = (y : Int) % 128 + 128 := by omega
      go_wp2_with (at_builtin; refine wpList_append_own _ rfl _ _ 23 rfl w.heap.size 5 i0 (.int .u8 0) 1 1 Try.underlying23 hi hz0 hz1 hz2 rfl (by decide) _ _ _ rfl (hown.alloc _) ⟨wr.heap.size, 0, none⟩ 1 1 [.int .u8 ((y : Int) % 128 + 128)] rfl rfl ?c1 ?c2 ?c3 ?c4 ?c5 ?_)
      case c1 => exact cell_one_new _ _ _
      case c2 => intro u hu; simp at hu; subst hu; rfl
      case c3 => unfold maxLen; omega
      case c4 => omega
      case c5 => simp; omega
      · intro v' w1 hown' hgrow _
        have hbel' := below_own (hbel.alloc hsz _) (hown.alloc _) hgrow (by simp; omega) (Nat.le_refl _)
        obtain ⟨f', hf', H', hown''⟩ := step v f y o H hlt hown'
        have hy' := L64.div hy
        have hyw := L64.wrap_ hy
        clear hown' hgrow hown hbel hor
        go_wp2
        go_roundw
        case rel => exact ⟨f', y / 128, o ++ [y % 128 + 128], by go_num, hy', hf', H', hown'', hbel'⟩
        case measure => simp [intOf]; omega

end Go.Proofs.Ythibflmmpkijkaa
