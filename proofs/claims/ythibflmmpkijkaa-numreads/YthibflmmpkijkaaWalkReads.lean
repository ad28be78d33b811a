/-
  NumReads: for every row of bytes both ways of reading tell the same.
-/
import Derived.Test.YthibflmmpkijkaaAwake
namespace Go.Proofs.Ythibflmmpkijkaa
open Go.RowKit
set_option linter.unusedVariables false

set_option maxRecDepth 100000 in
set_option maxHeartbeats 400000 in
theorem numReads_walk (w : World) (A : Option Addr) (n c : Nat) (l : List Nat) (hb : Bs w A n c l) :
    Calls Try.prog 4 #[.slice A n c] w fun e w' => e = .returned (.bool true) ∧ Below w.heap.size w w' := by
  have hn := hb.2.1
  have hm := hb.2.2.1
  unfold maxLen at hm
  by_cases hbig : 4096 < n
  · have hd : (4096 : Int) < (n : Int) := by omega
    go_enter Try.func4, Try.ntmps4
    go_wp2_with fail
    refine (awake_any _).mono ?_
    rintro e w1 ⟨rfl, b1⟩
    go_wp2
    go_ret
    exact ⟨rfl, b1⟩
  · have hd : ¬ (4096 : Int) < (n : Int) := by omega
    go_enter Try.func4, Try.ntmps4
    go_wp2_with fail
    refine (awake_any _).mono ?_
    rintro e w1 ⟨rfl, b1⟩
    have s1 := hb.on b1
    go_wp2_with fail
    refine (get_any _ _ _ _ _ s1).mono ?_
    rintro e w2 ⟨rfl, b2⟩
    have s2 := s1.on b2
    have B2 := onto b1 b2
    clear b1 b2 s1
    go_wp2_with fail
    refine (refGet_any _ _ _ _ _ s2).mono ?_
    rintro e w3 ⟨rfl, b3⟩
    have s3 := s2.on b3
    have B3 := onto B2 b3
    clear b3 s2 B2
    go_wp2_with fail
    refine (getInt_any _ _ _ _ _ s3).mono ?_
    rintro e w4 ⟨rfl, b4⟩
    have s4 := s3.on b4
    have B4 := onto B3 b4
    clear b4 s3 B3
    go_wp2_with fail
    refine (refGetInt_any _ _ _ _ _ s4).mono ?_
    rintro e w5 ⟨rfl, b5⟩
    have B5 := onto B4 b5
    clear b5 s4 B4
    go_wp2
    go_ret
    exact ⟨rfl, B5⟩

end Go.Proofs.Ythibflmmpkijkaa
