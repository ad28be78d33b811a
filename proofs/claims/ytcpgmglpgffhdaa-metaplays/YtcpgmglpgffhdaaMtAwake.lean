/-
  awake of layer 6's statements.
-/
import Derived.Test.YtcpgmglpgffhdaaMtFromA
import Derived.Test.YtcpgmglpgffhdaaMtNewP
import Derived.Test.YtcpgmglpgffhdaaMtWr
import Derived.Test.YtcpgmglpgffhdaaGrPlain
namespace Go.Proofs.Ytcpgmglpgffhdaa
open Go.RowKit
set_option linter.unusedVariables false

section
variable {S : Nat → Prop} {wb : World} (w : World) (p : Nat) (d : Dk.Pd) (h : Has S wb w p d)
include h
theorem hnewest : Calls Try.prog 28 #[.pointer (some ⟨p, 0, none⟩)] w fun e w' => e = .returned (.tuple #[mv (Mt.newest d), .int .i64 (Mt.newestCode d)]) ∧ Below w.heap.size w w' := by
  obtain ⟨H, rfl, hD, ho, hO⟩ := h
  exact newest_any from_c w H d hD
end
theorem awake_math : Mt.writeCode (Dk.fresh 2) (Mt.ver 1) = 0 ∧ Mt.writeCode (Mt.write (Dk.fresh 2) (Mt.ver 1)) (Mt.ver 2) = 0 ∧ Mt.newest (Mt.write (Mt.write (Dk.fresh 2) (Mt.ver 1)) (Mt.ver 2)) = Mt.ver 2 ∧
    (Mt.write (Mt.write (Dk.fresh 2) (Mt.ver 1)) (Mt.ver 2)).waits.length = 2 ∧ (Mt.write (Dk.fresh 2) (Mt.ver 1)).waits.length = 1 := by
  obtain ⟨h1, h2, _, _, h5, h6, h7⟩ := Mt.newest_two (Mt.ver_may (g := 1) (by omega) (by omega)) (Mt.ver_may (g := 2) (by omega) (by omega))
  refine ⟨h1, h2, ?_, h6, h7⟩
  rw [h5, if_neg]
  rintro ⟨_, h⟩
  exact absurd (show (2 : Nat) < 1 from h) (by omega)
theorem write_zero (d : Dk.Pd) : Mt.write d Mt.zero = d ∧ Mt.writeCode d Mt.zero = 1 := by
  have h : ¬ Mt.May Mt.zero := fun h => absurd h.1.1 (by decide)
  unfold Mt.write Mt.writeCode
  rw [if_neg h, if_neg h]
  exact ⟨rfl, rfl⟩

set_option maxRecDepth 100000 in
set_option maxHeartbeats 2000000 in
theorem awake_any (w : World) :
    Calls Try.prog 8 #[] w fun e w' => e = .returned (.bool true) ∧ Below w.heap.size w w' := by
  have C0 := Lib.hid (hnew w 2 2 (by decide))
  obtain ⟨a1, a2, a3, a4, a5⟩ := awake_math
  have C1 := Lib.hid (fun W p (h : Has (fun _ => False) w W p (Dk.fresh 2)) => hmwrite W p _ h (Mt.ver 1) (by decide))
  have C2 := Lib.hid (fun W p (h : Has (fun _ => False) w W p (Mt.write (Dk.fresh 2) (Mt.ver 1))) => hmwrite W p _ h (Mt.ver 2) (by omega))
  have C3 := Lib.hid (fun W p (h : Has (fun _ => False) w W p (Mt.write (Mt.write (Dk.fresh 2) (Mt.ver 1)) (Mt.ver 2))) => hmwrite W p _ h Mt.zero (by omega))
  have C4 := Lib.hid (fun W p (h : Has (fun _ => False) w W p (Mt.write (Mt.write (Dk.fresh 2) (Mt.ver 1)) (Mt.ver 2))) => hnewest W p _ h)
  have C5 := Lib.hid (fun W => mfrom_any W none 0 0 [] (Bs.nil_ W none 0 (by unfold maxLen; omega)))
  rw [(write_zero _).1, (write_zero _).2] at C3
  rw [a1] at C1
  rw [a2] at C2
  unfold Mt.newestCode at C4
  rw [a3] at C4
  generalize Mt.write (Mt.write (Dk.fresh 2) (Mt.ver 1)) (Mt.ver 2) = d2 at *
  generalize Mt.write (Dk.fresh 2) (Mt.ver 1) = d1 at *
  rw [show fromV [] = .tuple #[mv m0, .int .i64 5] from if_neg (fun h => absurd h.1 (by decide))] at C5
  rw [if_neg (show ¬ (Mt.ver 2).gen = 0 by decide)] at C4
  unfold mv Mt.ver at *
  unfold Mt.zero at C3
  unfold m0 at C5
  simp only [Int.cast_ofNat_Int] at C1 C2 C3 C4 C5
  clear a1 a2 a3 a4 a5
  go_enter Try.func8, Try.ntmps8
  go_wp2_with fail
  refine C0.out.mono ?_
  rintro e w1 ⟨p, rfl, h1⟩
  have H1 := Lib.hid h1
  clear h1 C0
  go_wp2_with fail
  refine (C1.out w1 p H1.out).mono ?_
  rintro e w2 ⟨rfl, h2⟩
  have H2 := Lib.hid h2
  clear h2 C1 H1
  go_wp2_with fail
  refine (C2.out w2 p H2.out).mono ?_
  rintro e w3 ⟨rfl, h3⟩
  have H3 := Lib.hid h3
  clear h3 C2 H2
  go_wp2_with fail
  refine (C3.out w3 p H3.out).mono ?_
  rintro e w4 ⟨rfl, h4⟩
  have H4 := Lib.hid h4
  clear h4 C3 H3
  go_wp2_with fail
  refine (C4.out w4 p H4.out).mono ?_
  rintro e w5 ⟨rfl, b5⟩
  have B5 := Lib.hid (onto H4.out.below b5)
  clear b5 C4 H4
  have K6 := heap_alloc_new w5 (.cells #[.int .u64 2, .int .i64 2, .int .i64 0, .int .i64 0] 24)
  have L6 := alloc_lt w5 (.cells #[.int .u64 2, .int .i64 2, .int .i64 0, .int .i64 0] 24)
  have B6 := Lib.hid (B5.out.alloc B5.out.size (.cells #[.int .u64 2, .int .i64 2, .int .i64 0, .int .i64 0] 24))
  have HK6 := Lib.hid K6
  clear K6
  go_wp2_with fail
  refine (C5.out _).mono ?_
  rintro e w6 ⟨rfl, b6⟩
  have K7 := (b6.block _ L6).trans HK6.out
  obtain ⟨q0, q1, q2, q3⟩ := mt_cells K7
  have B7 := onto B6.out b6
  have B8 := Lib.hid (B7.alloc B7.size (.cells #[.int .u64 0, .int .i64 0, .int .i64 0, .int .i64 0] 24))
  have L7 : w5.heap.size < w6.heap.size := (Array.getElem?_eq_some_iff.1 K7).1
  clear K7 B7 b6 C5 q1 q2 q3 HK6 L6
  go_wp2
  go_ret
  exact ⟨rfl, B8.out⟩

end Go.Proofs.Ytcpgmglpgffhdaa
