/-
  NumFour: four bytes are a number of 32 bits, and it is them; of fewer bytes those that there aren't are 0.
-/
import Derived.Test.YthibflmmpkijkaaAwake
import Derived.Test.YthibflmmpkijkaaFour
namespace Go.Proofs.Ythibflmmpkijkaa
open Go.RowKit
set_option linter.unusedVariables false

theorem be4_from {v : Nat} (hv : L32 v) : Nm.fromBe (pad4 (Nm.be 4 v)) = v := by
  rw [pad4_be, Nm.fromBe_be 4 v (by unfold L32 at hv; have e : (256 : Nat) ^ 4 = 4294967296 := by decide
                                    omega)]
theorem be4_head (v : Nat) : (Nm.be 4 v)[0]? = some (v / 16777216 % 256) := by
  rw [be_cons 3 v]; rfl

set_option maxRecDepth 100000 in
set_option maxHeartbeats 1000000 in
theorem numFour_walk (w : World) (v : Nat) (A : Option Addr) (n c : Nat) (l : List Nat) (hv : L32 v) (hb : Bs w A n c l) :
    Calls Try.prog 6 #[.int .u32 (v : Int), .slice A n c] w fun e w' => e = .returned (.bool true) ∧ Below w.heap.size w w' := by
  go_enter Try.func6, Try.ntmps6
  go_wp2_with fail
  refine (awake_any _).mono ?_
  rintro e w1 ⟨rfl, b1⟩
  have s1 := hb.on b1
  go_wp2_with fail
  refine (put32_any _ _ hv).mono ?_
  rintro e w2 ⟨A2, c2, rfl, p2, b2⟩
  have s2 := s1.on b2
  have B2 := onto b1 b2
  clear s1 b1 b2
  go_wp2_with fail
  refine (get32_any _ _ _ _ _ p2).mono ?_
  rintro e w3 ⟨rfl, b3⟩
  rw [be4_from hv]
  have s3 := s2.on b3
  have B3 := onto B2 b3
  clear s2 B2 b3 p2
  go_wp2_with fail
  refine (put32_any _ _ hv).mono ?_
  rintro e w4 ⟨A4, c4, rfl, p4, b4⟩
  have s4 := s3.on b4
  have B4 := onto B3 b4
  clear s3 B3 b4 p4
  go_wp2_with fail
  refine (get32_any _ _ _ _ _ s4).mono ?_
  rintro e w5 ⟨rfl, b5⟩
  have s5 := s4.on b5
  have B5 := onto B4 b5
  clear s4 B4 b5
  go_wp2_with fail
  refine (refGet32_any _ _ _ _ _ s5).mono ?_
  rintro e w6 ⟨rfl, rfl⟩
  go_wp2_with fail
  refine (put32_any _ _ hv).mono ?_
  rintro e w7 ⟨A7, c7, rfl, p7, b7⟩
  have B7 := onto B5 b7
  clear B5 b7 s5
  obtain ⟨b, off, rfl, _, hcell⟩ := p7.2.2.2.2 (by omega)
  have c0 : w7.cell? ⟨b, off, none⟩ = some (.int .u8 ((v / 16777216 % 256 : Nat) : Int)) := hcell 0 _ (be4_head v)
  clear hcell p7
  go_wp2
  go_ret
  exact ⟨rfl, B7⟩

end Go.Proofs.Ythibflmmpkijkaa
