/-
  The program's pager: nodes read through a call that is handed on.
-/
import Derived.Test.YtmcldkcmialfeaaGreatPrHas
import Derived.Test.YtmcldkcmialfeaaGreatNdFrom
namespace Go.Proofs.YtmcldkcmialfeaaGreat.Pr
open Go.RowKit
set_option linter.unusedVariables false

/-- What a page's node is answered as. -/
def NodeSays (w : World) (o : Option (List Nat)) (e : Ending) (w' : World) : Prop := Below w.heap.size w w' ∧ match o with
  | some b => (∃ cs q, e = .returned (.tuple #[.iface 130 (.pointer (some ⟨q, 0, none⟩)), .int .i64 0]) ∧ Nn.LeafOver w.heap.size w' q cs ∧ Nn.IsLeaf b cs) ∨
      (∃ ks p ps q, e = .returned (.tuple #[.iface 74 (.pointer (some ⟨q, 0, none⟩)), .int .i64 0]) ∧ Nn.BranchOver w.heap.size w' q ks (p :: ps) ∧ Nn.IsBranch b ks p ps) ∨
      (e = .returned (.tuple #[.nilIface, .int .i64 5]) ∧ Nn.NoNode b)
  | none => e = .returned (.tuple #[.nilIface, .int .i64 4])
theorem node_leaf {w w' : World} {b : List Nat} {cs : List Nd.Cell} {q : Nat} (hB : Below w.heap.size w w') (h : Nn.LeafOver w.heap.size w' q cs) (hi : Nn.IsLeaf b cs) :
    NodeSays w (some b) (.returned (.tuple #[.iface 130 (.pointer (some ⟨q, 0, none⟩)), .int .i64 0])) w' := ⟨hB, .inl ⟨cs, q, rfl, h, hi⟩⟩
theorem node_branch {w w' : World} {b : List Nat} {ks : List (List Nat)} {p : Int} {ps : List Int} {q : Nat} (hB : Below w.heap.size w w') (h : Nn.BranchOver w.heap.size w' q ks (p :: ps)) (hi : Nn.IsBranch b ks p ps) :
    NodeSays w (some b) (.returned (.tuple #[.iface 74 (.pointer (some ⟨q, 0, none⟩)), .int .i64 0])) w' := ⟨hB, .inr (.inl ⟨ks, p, ps, q, rfl, h, hi⟩)⟩
theorem node_no {w w' : World} {b : List Nat} (hB : Below w.heap.size w w') (hi : Nn.NoNode b) : NodeSays w (some b) (.returned (.tuple #[.nilIface, .int .i64 5])) w' := ⟨hB, .inr (.inr ⟨rfl, hi⟩)⟩
theorem node_shut {w w' : World} (hB : Below w.heap.size w w') : NodeSays w none (.returned (.tuple #[.nilIface, .int .i64 4])) w' := ⟨hB, rfl⟩
set_option maxRecDepth 100000 in
set_option maxHeartbeats 1000000 in
theorem nodeBy_page (w : World) (a0 : Value) (no : Int) (o : Option (List Nat)) (C0 : Calls Tryz.prog 40 #[a0, .int .i64 no] w (ReadSays w o)) :
    Calls Tryz.prog 72 #[.func (.func 40) #[a0] #[], .int .i64 no] w (NodeSays w o) := by
  have C0 := Lib.hid C0
  cases o with
  | none =>
    go_enter Tryz.func72, Tryz.ntmps72
    go_wp2_with fail
    refine C0.out.mono ?_
    rintro e w1 hs1
    obtain ⟨rfl, B1⟩ := hs1.of_none
    have HB := Lib.hid B1
    clear hs1 B1 C0
    go_wp2
    go_ret2
    exact node_shut HB.out
  | some b =>
    go_enter Tryz.func72, Tryz.ntmps72
    go_wp2_with fail
    refine C0.out.mono ?_
    rintro e w1 hs1
    obtain ⟨g, rfl, hg, R1, hl, B1⟩ := hs1.of_some
    have CF := Lib.hid (Nn.fromPay_new w1 _ 1016 1016 b (R1.bs' hl.2 hl.1 (by omega)))
    have HB := Lib.hid B1
    have HBS := Lib.hid B1.size
    clear hs1 B1 C0 R1 hl hg
    go_wp2_with fail
    refine CF.out.mono ?_
    rintro e w2 ⟨hh, B2⟩
    have HB2 := Lib.hid (onto HB.out B2)
    clear CF HB B2
    rcases hh with ⟨cs, q, rfl, h1, h2⟩ | ⟨ks, p, ps, q, rfl, h1, h2⟩ | ⟨rfl, h1⟩
    · have HH := Lib.hid (And.intro (h1.low HBS.out) h2)
      clear h1 h2
      go_wp2
      go_ret2
      exact node_leaf HB2.out HH.out.1 HH.out.2
    · have HH := Lib.hid (And.intro (h1.low HBS.out) h2)
      clear h1 h2
      go_wp2
      go_ret2
      exact node_branch HB2.out HH.out.1 HH.out.2
    · have HH := Lib.hid h1
      clear h1
      go_wp2
      go_ret2
      exact node_no HB2.out HH.out

set_option maxRecDepth 100000 in
set_option maxHeartbeats 1000000 in
theorem nodeBy_disk (w : World) (a0 : Value) (no : Int) (o : Option (List Nat)) (C0 : Calls Tryz.prog 73 #[a0, .int .i64 no] w (ReadSays w o)) :
    Calls Tryz.prog 72 #[.func (.func 73) #[a0] #[], .int .i64 no] w (NodeSays w o) := by
  have C0 := Lib.hid C0
  cases o with
  | none =>
    go_enter Tryz.func72, Tryz.ntmps72
    go_wp2_with fail
    refine C0.out.mono ?_
    rintro e w1 hs1
    obtain ⟨rfl, B1⟩ := hs1.of_none
    have HB := Lib.hid B1
    clear hs1 B1 C0
    go_wp2
    go_ret2
    exact node_shut HB.out
  | some b =>
    go_enter Tryz.func72, Tryz.ntmps72
    go_wp2_with fail
    refine C0.out.mono ?_
    rintro e w1 hs1
    obtain ⟨g, rfl, hg, R1, hl, B1⟩ := hs1.of_some
    have CF := Lib.hid (Nn.fromPay_new w1 _ 1016 1016 b (R1.bs' hl.2 hl.1 (by omega)))
    have HB := Lib.hid B1
    have HBS := Lib.hid B1.size
    clear hs1 B1 C0 R1 hl hg
    go_wp2_with fail
    refine CF.out.mono ?_
    rintro e w2 ⟨hh, B2⟩
    have HB2 := Lib.hid (onto HB.out B2)
    clear CF HB B2
    rcases hh with ⟨cs, q, rfl, h1, h2⟩ | ⟨ks, p, ps, q, rfl, h1, h2⟩ | ⟨rfl, h1⟩
    · have HH := Lib.hid (And.intro (h1.low HBS.out) h2)
      clear h1 h2
      go_wp2
      go_ret2
      exact node_leaf HB2.out HH.out.1 HH.out.2
    · have HH := Lib.hid (And.intro (h1.low HBS.out) h2)
      clear h1 h2
      go_wp2
      go_ret2
      exact node_branch HB2.out HH.out.1 HH.out.2
    · have HH := Lib.hid h1
      clear h1
      go_wp2
      go_ret2
      exact node_no HB2.out HH.out


set_option maxRecDepth 100000 in
theorem gnode {S : Nat → Prop} {wb : World} (w : World) (x pp dp : Nat) (a : Pa) (h : HasG S wb w x pp dp a) (no : Int) (hi : I64 no) :
    Calls Tryz.prog 37 #[.pointer (some ⟨x, 0, none⟩), .int .i64 no] w (NodeSays w (says a no)) := by
  have C := nodeBy_page w (.pointer (some ⟨x, 0, none⟩)) no _ (gread w x pp dp a h no hi)
  generalize says a no = o at C ⊢
  have C := Lib.hid C
  clear h
  go_enter Tryz.func37, Tryz.ntmps37
  go_wp2_with fail
  refine C.out.mono ?_
  rintro e w1 hs
  clear C
  cases o with
  | none =>
    obtain ⟨B1, rfl⟩ := hs
    have HB := Lib.hid B1
    clear B1
    go_wp2
    go_ret2
    exact node_shut HB.out
  | some b =>
    obtain ⟨B1, ⟨cs, q, rfl, h1, h2⟩ | ⟨ks, p, ps, q, rfl, h1, h2⟩ | ⟨rfl, h1⟩⟩ := hs
    · have HH := Lib.hid (And.intro B1 (And.intro h1 h2))
      clear B1 h1 h2
      go_wp2
      go_ret2
      exact node_leaf HH.out.1 HH.out.2.1 HH.out.2.2
    · have HH := Lib.hid (And.intro B1 (And.intro h1 h2))
      clear B1 h1 h2
      go_wp2
      go_ret2
      exact node_branch HH.out.1 HH.out.2.1 HH.out.2.2
    · have HH := Lib.hid (And.intro B1 h1)
      clear B1 h1
      go_wp2
      go_ret2
      exact node_no HH.out.1 HH.out.2

set_option maxRecDepth 100000 in
theorem gnodeD {S : Nat → Prop} {wb : World} (w : World) (x pp dp : Nat) (a : Pa) (h : HasG S wb w x pp dp a) (no : Int) :
    Calls Tryz.prog 38 #[.pointer (some ⟨dp, 0, none⟩), .int .i64 no] w (NodeSays w (dsays a.disk no)) := by
  obtain ⟨G, h1, h2, rfl, hG, ho, hO⟩ := h
  have C := nodeBy_disk w (.agg #[.pointer (some ⟨G.H.p, 0, none⟩)]) no _ (dread_any w G.H a.disk no hG.disk)
  generalize dsays a.disk no = o at C ⊢
  have C := Lib.hid C
  clear hG ho hO h1 h2
  go_enter Tryz.func38, Tryz.ntmps38
  go_wp2_with fail
  refine C.out.mono ?_
  rintro e w1 hs
  clear C
  cases o with
  | none =>
    obtain ⟨B1, rfl⟩ := hs
    have HB := Lib.hid B1
    clear B1
    go_wp2
    go_ret2
    exact node_shut HB.out
  | some b =>
    obtain ⟨B1, ⟨cs, q, rfl, h1, h2⟩ | ⟨ks, p, ps, q, rfl, h1, h2⟩ | ⟨rfl, h1⟩⟩ := hs
    · have HH := Lib.hid (And.intro B1 (And.intro h1 h2))
      clear B1 h1 h2
      go_wp2
      go_ret2
      exact node_leaf HH.out.1 HH.out.2.1 HH.out.2.2
    · have HH := Lib.hid (And.intro B1 (And.intro h1 h2))
      clear B1 h1 h2
      go_wp2
      go_ret2
      exact node_branch HH.out.1 HH.out.2.1 HH.out.2.2
    · have HH := Lib.hid (And.intro B1 h1)
      clear B1 h1
      go_wp2
      go_ret2
      exact node_no HH.out.1 HH.out.2

end Go.Proofs.YtmcldkcmialfeaaGreat.Pr
