/-
  FromPay of too few bytes or too many; what each law asks first: layer 12's awake.
-/
import Derived.Test.YtbhahihgojhcmaaRtPay
import Derived.Test.YtbhahihgojhcmaaRtWith
import Derived.Test.YtbhahihgojhcmaaRtSame
namespace Go.Proofs.Ytbhahihgojhcmaa.Rt
open Go.RowKit
set_option linter.unusedVariables false

set_option maxRecDepth 100000 in
theorem from_short (w : World) (A : Option Addr) (n c : Nat) (hn : n ≠ 1016) :
    Calls Try.prog 9 #[.slice A n c] w fun e w' => e = .returned (.tuple #[.slice none 0 0, .int .i64 5]) ∧ w = w' := by
  have h1 : ((n : Int) != 1016) = true := by simp; omega
  go_enter Try.func9, Try.ntmps9
  go_wp2
  go_ret2
  exact ⟨rfl, rfl⟩

def rSp : Rm.R := ⟨[115, 112, 97, 110, 115], 9, 1⟩
theorem spans_txt : txt [115, 112, 97, 110, 115] = ⟨#[115, 112, 97, 110, 115]⟩ := rfl
theorem in_rSp : In rSp := ⟨by simp [rSp], by simp [rSp], ⟨by decide, by decide⟩, ⟨by decide, by decide⟩⟩
theorem sp_code : withCode [] rSp = 0 := by decide
theorem sp_with : withL [] rSp = [rSp] := by
  unfold withL; rw [if_pos sp_code]; rfl
theorem sp_find : Rm.find [rSp] [115, 112, 97, 110, 115] = some rSp := by simp [Rm.find, rSp]
theorem sp_without : Rm.without [rSp] [115, 112, 97, 110, 115] = [] := by simp [Rm.without, rSp]
theorem pay_none : payL [] = [67, 82, 79, 79, 0] := by decide

set_option maxRecDepth 100000 in
set_option maxHeartbeats 1000000 in
theorem awake_any (w : World) : Calls Try.prog 7 #[] w fun e w' => e = .returned (.bool true) ∧ Below w.heap.size w w' := by
  have C1 := Lib.hid (pay_any w none 0 0 [] (Rs.nil_ _ _ _ (Nat.zero_le _)))
  rw [pay_none] at C1
  have C2 := Lib.hid (fun W => with_any W none 0 0 [] rSp (Rs.nil_ _ _ _ (Nat.zero_le _)) in_rSp (by omega))
  unfold WithSays at C2
  rw [sp_with, sp_code] at C2
  unfold rv rSp at C2
  simp only [spans_txt] at C2
  go_enter Try.func7, Try.ntmps7
  go_wp2_with fail
  refine C1.out.mono ?_
  rintro e w1 ⟨A1, c1, rfl, S1, B1⟩
  have HB1 := Lib.hid B1
  obtain ⟨b1, o1, rfl⟩ := S1.some_ (by decide)
  have p0 := S1.2.2.2.2 (by decide)
  obtain ⟨b1', o1', e1, hb1, hc1⟩ := p0
  injection e1 with e1
  injection e1 with e1 e2
  subst e1 e2
  have q0 := hc1 0 67 rfl
  have KQ : Hid (∀ W : World, Below w1.heap.size w1 W → W.cell? ⟨b1, o1, none⟩ = some (.int .u8 67)) := fun W hW => (hW.cell (p := ⟨b1, o1 + 0, none⟩) hb1).trans q0
  clear C1 B1 S1 hc1 q0
  simp only [List.length_cons, List.length_nil]
  go_wp2_with fail
  refine (C2.out w1).mono ?_
  rintro e w2 ⟨A2, m2, c2, rfl, R2, B2⟩
  have hm2 : m2 = 1 := R2.1.symm
  subst hm2
  have C3 := Lib.hid (fun W (hW : Below w2.heap.size w2 W) => find_any W A2 1 c2 [rSp] [115, 112, 97, 110, 115] (R2.on hW) (by simp))
  have C5 := Lib.hid (fun W (hW : Below w2.heap.size w2 W) => without_any W A2 1 c2 [rSp] [115, 112, 97, 110, 115] (R2.on hW) (by simp) (by omega))
  rw [sp_find] at C3
  unfold findV rv rSp at C3
  simp only [spans_txt, Option.getD_some, Option.isSome_some] at C3 C5
  rw [show ([rSp] : List Rm.R) = [rSp] from rfl] at C5
  rw [sp_without] at C5
  have HB2 := Lib.hid B2
  clear C2 R2 B2
  go_wp2_with fail
  refine (C3.out w2 (Below.refl _ _)).mono ?_
  rintro e w3 ⟨rfl, B3⟩
  have bA : Below w3.heap.size w3 (w3.alloc (.cells #[.string ⟨#[115, 112, 97, 110, 115]⟩, .int .i64 9, .int .i64 1] 34)) := (Below.refl _ _).alloc (Nat.le_refl _) _
  have kb := heap_alloc_new w3 (.cells #[.string ⟨#[115, 112, 97, 110, 115]⟩, .int .i64 9, .int .i64 1] 34)
  have d1 := cell_of_row _ _ 1 _ _ (0, 0) kb
  have HB3 := Lib.hid (onto B3 bA)
  have HB4 := Lib.hid (onto HB1.out (onto HB2.out HB3.out))
  have q1 := KQ.out _ (onto HB2.out HB3.out)
  have C5' := Lib.hid (C5.out _ HB3.out)
  clear C3 C5 B3 bA kb HB1 HB2 HB3 KQ
  go_wp2_with fail
  generalize w3.alloc (.cells #[.string ⟨#[115, 112, 97, 110, 115]⟩, .int .i64 9, .int .i64 1] 34) = w4 at *
  refine (from_short w4 none 0 0 (by omega)).mono ?_
  rintro e w5 ⟨rfl, rfl⟩
  go_wp2_with fail
  refine C5'.out.mono ?_
  rintro e w6 ⟨v6, rfl, O6⟩
  obtain ⟨A6, c6, rfl, _, _⟩ := own_form3 O6.own
  have HB6 := Lib.hid (onto HB4.out O6.bel)
  clear O6 C5'
  go_wp2
  go_ret
  exact ⟨rfl, HB6.out⟩

end Go.Proofs.Ytbhahihgojhcmaa.Rt
