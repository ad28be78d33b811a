/-
  The program's pager: what a chain's page tells.
-/
import Derived.Test.YtmcldkcmialfeaaPrChain
namespace Go.Proofs.Ytmcldkcmialfeaa.Pr
open Go.RowKit
set_option linter.unusedVariables false

/-- What a chain's page is answered as. -/
def LinkSays (w : World) (o : Option (List Nat)) (e : Ending) (w' : World) : Prop := Below w.heap.size w w' ∧ match o with
  | some b => ∃ A n c, e = .returned (.tuple #[.int .i64 (Nn.lz b : Int), .slice A n c, .int .i64 (Nn.lk b : Int)]) ∧ Bs w' A n c (Nn.ll b)
  | none => e = .returned (.tuple #[.int .i64 0, .slice none 0 0, .int .i64 4])
theorem link_says {w w' : World} {b : List Nat} {A : Option Addr} {n c : Nat} (hB : Below w.heap.size w w') (h : Bs w' A n c (Nn.ll b)) :
    LinkSays w (some b) (.returned (.tuple #[.int .i64 (Nn.lz b : Int), .slice A n c, .int .i64 (Nn.lk b : Int)])) w' := ⟨hB, A, n, c, rfl, h⟩
theorem link_none {w w' : World} (hB : Below w.heap.size w w') : LinkSays w none (.returned (.tuple #[.int .i64 0, .slice none 0 0, .int .i64 4])) w' := ⟨hB, rfl⟩

set_option maxRecDepth 100000 in
theorem glink {S : Nat → Prop} {wb : World} (w : World) (x pp dp : Nat) (a : Pa) (h : HasG S wb w x pp dp a) (no : Int) (hi : I64 no) :
    Calls Try.prog 34 #[.pointer (some ⟨x, 0, none⟩), .int .i64 no] w (LinkSays w (says a no)) := by
  have C := gread w x pp dp a h no hi
  generalize says a no = o at C ⊢
  have HC := Lib.hid C
  clear C h
  cases o with
  | none =>
    go_enter Try.func34, Try.ntmps34
    go_wp2_with fail
    refine HC.out.mono ?_
    rintro e w1 hs
    obtain ⟨rfl, B1⟩ := hs.of_none
    have HB := Lib.hid B1
    clear hs B1 HC
    go_wp2
    go_ret3
    exact link_none HB.out
  | some b =>
    go_enter Try.func34, Try.ntmps34
    go_wp2_with fail
    refine HC.out.mono ?_
    rintro e w1 hs
    obtain ⟨g, rfl, hg, R1, hl, B1⟩ := hs.of_some
    have CF := Lib.hid (Nn.fromLink_any w1 _ 1016 1016 b (R1.bs' hl.2 hl.1 (by omega)))
    have HB := Lib.hid B1
    clear hs B1 HC R1 hl hg
    go_wp2_with fail
    refine CF.out.mono ?_
    rintro e w2 ⟨⟨A, n, c, rfl, r2⟩, B2⟩
    have HR := Lib.hid (And.intro (onto HB.out B2) r2)
    clear CF HB B2 r2
    go_wp2
    go_ret3
    exact link_says HR.out.1 HR.out.2

end Go.Proofs.Ytmcldkcmialfeaa.Pr
