/-
  The statements' common beginning: answers that the document fixes.
-/
import Derived.Test.YtmlonlipieedbaaDoorTxRefMatch
import Derived.Test.YtmlonlipieedbaaDoorTxWdW
import Derived.Test.YtmlonlipieedbaaDoorTxRef
import Derived.Test.YtmlonlipieedbaaDoorTxLower2
namespace Go.Proofs.YtmlonlipieedbaaDoor
open Go.RowKit Go.Lib
set_option linter.unusedVariables false

theorem aw1 : mtB [97, 42, 63, 99] [97, 98, 98, 99] = true := by decide +kernel
theorem aw2 : mtB [92, 42] [42] = true := by decide +kernel
theorem aw3 : mtB [92, 42] [120] = false := by decide +kernel
theorem aw4 : (Tx.P [195, 169, 255]).length = 2 := by decide +kernel
theorem aw5 : rightB [97, 10] = false := by decide +kernel
theorem aw6 : ltB 122 = true := by decide +kernel
theorem aw7 : bkB 32 = true := by decide +kernel
theorem aw8 : (Tx.words [32, 97, 32, 98, 32]).length = 2 := by decide +kernel

set_option maxRecDepth 100000 in
set_option maxHeartbeats 1000000 in
theorem awake_any (w : World) (hT : Tabs w) : Calls Tryd.prog 9 #[] w fun e w' => e = .returned (.bool true) ∧ Below w.heap.size w w' := by
  have HT := Lib.hid hT
  clear hT
  go_enter Tryd.func9, Tryd.ntmps9
  go_wp2_with fail
  refine (match_any ⟨#[97, 42, 63, 99]⟩ ⟨#[97, 98, 98, 99]⟩ _ (by decide) (by decide)).mono ?_
  rintro e w1 ⟨rfl, hb1⟩
  rw [show mtB (ByteArray.mk #[97, 42, 63, 99]).data.toList (ByteArray.mk #[97, 98, 98, 99]).data.toList = true from aw1]
  go_wp2_with fail
  refine (match_any ⟨#[92, 42]⟩ ⟨#[42]⟩ _ (by decide) (by decide)).mono ?_
  rintro e w2 ⟨rfl, hb2⟩
  rw [show mtB (ByteArray.mk #[92, 42]).data.toList (ByteArray.mk #[42]).data.toList = true from aw2]
  go_wp2_with fail
  refine (match_any ⟨#[92, 42]⟩ ⟨#[120]⟩ _ (by decide) (by decide)).mono ?_
  rintro e w3 ⟨rfl, hb3⟩
  rw [show mtB (ByteArray.mk #[92, 42]).data.toList (ByteArray.mk #[120]).data.toList = false from aw3]
  go_wp2_with fail
  refine (len_any ⟨#[195, 169, 255]⟩ _ (by decide)).mono ?_
  rintro e w4 ⟨rfl, hb4⟩
  rw [show (Tx.P (ByteArray.mk #[195, 169, 255]).data.toList).length = 2 from aw4]
  have b4 : Below w.heap.size w w4 := onto (onto (onto hb1 hb2) hb3) hb4
  have HT4 := Lib.hid (HT.out.below b4)
  clear hb1 hb2 hb3 hb4 HT
  go_wp2_with fail
  refine (right_any ⟨#[97, 10]⟩ _ (by decide) HT4.out).mono ?_
  rintro e w5 ⟨rfl, hb5⟩
  rw [show rightB (ByteArray.mk #[97, 10]).data.toList = false from aw5]
  go_wp2_with fail
  refine (letter_any 122 _).mono ?_
  rintro e w6 ⟨rfl, hb6⟩
  rw [aw6]
  go_wp2_with fail
  refine (blank_any 32 _).mono ?_
  rintro e w7 ⟨rfl, hb7⟩
  rw [aw7]
  go_wp2_with fail
  refine (words_any ⟨#[32, 97, 32, 98, 32]⟩ _ (by decide)).mono ?_
  rintro e w8 ⟨A, c, rfl, V, hb8⟩
  rw [show (Tx.words (ByteArray.mk #[32, 97, 32, 98, 32]).data.toList).length = 2 from aw8]
  have b8 : Below w.heap.size w w8 := onto (onto (onto (onto b4 hb5) hb6) hb7) hb8
  clear hb5 hb6 hb7 hb8 V b4
  go_wp2
  go_ret
  exact ⟨rfl, b8⟩

end Go.Proofs.YtmlonlipieedbaaDoor
