/-
  The document's Key: a number's eight bytes, the greatest first.
-/
import Derived.Test.YtmcldkcmialfeaaNbFour
namespace Go.Proofs.Ytmcldkcmialfeaa
open Go.RowKit
set_option linter.unusedVariables false

theorem lit_reads {w : World} {base e k : Nat} {v : Value} {x v0 : Nat} (hx : x = v0 / 256 ^ k) (h : w.ownsRow base e 1 v (1 + k) ([Value.int .u8 ((x : Int) % 256)] ++ bv (Nm.be k v0))) :
    ∃ A c, v = .slice A (k + 1) c ∧ Bs w A (k + 1) c (Nm.be (k + 1) v0) := by
  have e1 : [Value.int .u8 ((x : Int) % 256)] ++ bv (Nm.be k v0) = bv (Nm.be (k + 1) v0) := by
    rw [be_cons, ← hx]; simp [bv]
  rw [e1, Nat.add_comm 1 k] at h
  have := Bs.of_own (l := Nm.be (k + 1) v0) (by rw [Nm.be_len]; exact h) (Nm.be_lt _ _)
  rwa [Nm.be_len] at this



end Go.Proofs.Ytmcldkcmialfeaa
