/-
  No cell of these rows narrows 'for every input' (looked for: loops, veiled, ifaces, maps, wideKeys, modest, calm, conditions, laid).
  DERIVED. THE GIVEN ROWS OF THIS SEAT. 5 by the template 'for every input the law returns true; each argument reads behind the call as it read before'; 0 by the template 'total and deterministic' (their statements: YtcpgmglpgffhdaaTotals.lean).
  GIVEN WITH THE SEED: the statements are not yours to turn. If you find one false, say at which input.
  Laid BY PROGRAM, IN A SANDBOX (cutbox-rows.mjs): the forced cells as the released guide's own fill.sh prints them over the translation 73abe45d09bdae64… (all of the seat's roots in one cut). By AI agents, Wed Nov 11 2026. No macro, syntax, notation, axiom, sorry.
-/
import Derived.Test.YtcpgmglpgffhdaaChecked
import GoSem.Claim
import GoSem.ClaimJoined
import GoSem.ClaimMapViews
import Derived.JoinedTies
import Derived.KernelRfl
namespace Go.Proofs.Ytcpgmglpgffhdaa
/- THE CELL 'sum', in the pinned program and in every row, IS THE sha256 OF THE DUMP (.gsa) THAT YtcpgmglpgffhdaaProg.lean LOADS. Nothing in Lean hashes anything: it is a label: what it is worth is what the hold of that sum in a sandbox is worth. -/
noncomputable def Try.pinned : Pinned := { name := "ytcpgmglpgffhdaa", sum := "73abe45d09bdae649b3b977f5ab9ed1d7f38b50d4aee48a5b9d555af436dc1ac", checked := Try.checked }
namespace Rows
def none {H : Type} : Left H := { results := [], args := [] }

/-- 'cambiumlaw06.MetaTells': WHATEVER THE INPUT: true; the input reads as it did. -/
def metaTellsSpec : ChangeSpec := { name := "metaTells", fn := fun _ => fun
  | [d1, d2] => { results := [.lit (.bool true)], args := [d1, d2] }
  | _ => none }
def metaTellsRow : OpenClaim := { program := "ytcpgmglpgffhdaa", sum := "73abe45d09bdae649b3b977f5ab9ed1d7f38b50d4aee48a5b9d555af436dc1ac", func := "cambium/cambiumlaw06.MetaTells", spec := "metaTells", unfollowed := true, recurses := true, apart := false }
def MetaTellsSaid : Prop := metaTellsRow.holds Try.pinned (OpenSpec.ofChange metaTellsSpec)

/-- ITS FALSE NEIGHBOUR: 'it returns false'. Refute it at one input. -/
def metaTellsWrong : ChangeSpec := { name := "metaTells", fn := fun _ => fun
  | [d1, d2] => { results := [.lit (.bool false)], args := [d1, d2] }
  | _ => none }
def MetaTellsWrongFalsely : Prop := metaTellsRow.holds Try.pinned (OpenSpec.ofChange metaTellsWrong)

/-- 'cambiumlaw06.MetaPlays': WHATEVER THE INPUT: true; the input reads as it did. -/
def metaPlaysSpec : ChangeSpec := { name := "metaPlays", fn := fun _ => fun
  | [d1, d2] => { results := [.lit (.bool true)], args := [d1, d2] }
  | _ => none }
def metaPlaysRow : OpenClaim := { program := "ytcpgmglpgffhdaa", sum := "73abe45d09bdae649b3b977f5ab9ed1d7f38b50d4aee48a5b9d555af436dc1ac", func := "cambium/cambiumlaw06.MetaPlays", spec := "metaPlays", unfollowed := true, recurses := true, apart := false }
def MetaPlaysSaid : Prop := metaPlaysRow.holds Try.pinned (OpenSpec.ofChange metaPlaysSpec)

/-- ITS FALSE NEIGHBOUR: 'it returns false'. Refute it at one input. -/
def metaPlaysWrong : ChangeSpec := { name := "metaPlays", fn := fun _ => fun
  | [d1, d2] => { results := [.lit (.bool false)], args := [d1, d2] }
  | _ => none }
def MetaPlaysWrongFalsely : Prop := metaPlaysRow.holds Try.pinned (OpenSpec.ofChange metaPlaysWrong)

/-- 'cambiumlaw06.MetaTurns': WHATEVER THE INPUT: true; the input reads as it did. -/
def metaTurnsSpec : ChangeSpec := { name := "metaTurns", fn := fun _ => fun
  | [d1, d2] => { results := [.lit (.bool true)], args := [d1, d2] }
  | _ => none }
def metaTurnsRow : OpenClaim := { program := "ytcpgmglpgffhdaa", sum := "73abe45d09bdae649b3b977f5ab9ed1d7f38b50d4aee48a5b9d555af436dc1ac", func := "cambium/cambiumlaw06.MetaTurns", spec := "metaTurns", unfollowed := true, recurses := true, apart := false }
def MetaTurnsSaid : Prop := metaTurnsRow.holds Try.pinned (OpenSpec.ofChange metaTurnsSpec)

/-- ITS FALSE NEIGHBOUR: 'it returns false'. Refute it at one input. -/
def metaTurnsWrong : ChangeSpec := { name := "metaTurns", fn := fun _ => fun
  | [d1, d2] => { results := [.lit (.bool false)], args := [d1, d2] }
  | _ => none }
def MetaTurnsWrongFalsely : Prop := metaTurnsRow.holds Try.pinned (OpenSpec.ofChange metaTurnsWrong)

/-- 'cambiumlaw06.MetaNewest': WHATEVER THE INPUT: true; the input reads as it did. -/
def metaNewestSpec : ChangeSpec := { name := "metaNewest", fn := fun _ => fun
  | [d1, d2] => { results := [.lit (.bool true)], args := [d1, d2] }
  | _ => none }
def metaNewestRow : OpenClaim := { program := "ytcpgmglpgffhdaa", sum := "73abe45d09bdae649b3b977f5ab9ed1d7f38b50d4aee48a5b9d555af436dc1ac", func := "cambium/cambiumlaw06.MetaNewest", spec := "metaNewest", unfollowed := true, recurses := true, apart := false }
def MetaNewestSaid : Prop := metaNewestRow.holds Try.pinned (OpenSpec.ofChange metaNewestSpec)

/-- ITS FALSE NEIGHBOUR: 'it returns false'. Refute it at one input. -/
def metaNewestWrong : ChangeSpec := { name := "metaNewest", fn := fun _ => fun
  | [d1, d2] => { results := [.lit (.bool false)], args := [d1, d2] }
  | _ => none }
def MetaNewestWrongFalsely : Prop := metaNewestRow.holds Try.pinned (OpenSpec.ofChange metaNewestWrong)

/-- 'cambiumlaw06.MetaApart': WHATEVER THE INPUT: true; the input reads as it did. -/
def metaApartSpec : ChangeSpec := { name := "metaApart", fn := fun _ => fun
  | [d1, d2, d3] => { results := [.lit (.bool true)], args := [d1, d2, d3] }
  | _ => none }
def metaApartRow : OpenClaim := { program := "ytcpgmglpgffhdaa", sum := "73abe45d09bdae649b3b977f5ab9ed1d7f38b50d4aee48a5b9d555af436dc1ac", func := "cambium/cambiumlaw06.MetaApart", spec := "metaApart", unfollowed := true, recurses := true, apart := false }
def MetaApartSaid : Prop := metaApartRow.holds Try.pinned (OpenSpec.ofChange metaApartSpec)

/-- ITS FALSE NEIGHBOUR: 'it returns false'. Refute it at one input. -/
def metaApartWrong : ChangeSpec := { name := "metaApart", fn := fun _ => fun
  | [d1, d2, d3] => { results := [.lit (.bool false)], args := [d1, d2, d3] }
  | _ => none }
def MetaApartWrongFalsely : Prop := metaApartRow.holds Try.pinned (OpenSpec.ofChange metaApartWrong)

/- THE SECOND FORM. 'bulk': how many values and letters a reading holds, each counted each time it is reached (what is shared counts as often as it is met; a slice's spare places count too). A statement '..UptoSaid' is the law's where the arguments, and the package variables that the reading takes, are together of bulk at most 1048576: NARROWER than '..Said'. Prove '..Said' where nothing that the law and all that it calls make is longer than what came in: it says more and counts as full. Else prove '..UptoSaid'. A law counts once. -/
mutual
def uptoBulk {H : Type} : DataW H → Nat
  | .lit (.string bytes) => bytes.length + 1
  | .lit _ => 1
  | .nil => 1
  | .ptr d => uptoBulk d + 1
  | .slice elems spare => uptoBulkAll elems + uptoBulkAll spare + 1
  | .agg parts => uptoBulkAll parts + 1
  | .iface _ d => uptoBulk d + 1
  | .map entries => uptoBulkEntries entries + 1
  | .held _ => 1
def uptoBulkAll {H : Type} : List (DataW H) → Nat
  | [] => 0
  | d :: r => uptoBulk d + uptoBulkAll r
def uptoBulkEntries {H : Type} : List (Lit × DataW H) → Nat
  | [] => 0
  | x :: r => uptoBulkEntry x + uptoBulkEntries r
def uptoBulkEntry {H : Type} : Lit × DataW H → Nat
  | (.string bytes, d) => bytes.length + uptoBulk d + 1
  | (_, d) => uptoBulk d + 1
 end
def uptoSmall : (H : Type) → List (DataW H) → Bool := fun _ ds => decide (uptoBulkAll ds ≤ 1048576)
def OpenSpec.upto (s : _root_.Go.ChangeSpec) : _root_.Go.OpenSpec := { _root_.Go.OpenSpec.ofChange s with cond := some uptoSmall }

/-- 'cambiumlaw06.MetaTells', WHERE WHAT IT READS IS OF BULK AT MOST 1048576: true; the input reads as it did. -/
def metaTellsUptoRow : OpenClaim := { program := "ytcpgmglpgffhdaa", sum := "73abe45d09bdae649b3b977f5ab9ed1d7f38b50d4aee48a5b9d555af436dc1ac", func := "cambium/cambiumlaw06.MetaTells", spec := "metaTells", unfollowed := true, recurses := true, apart := false, narrowed := true }
def MetaTellsUptoSaid : Prop := metaTellsUptoRow.holds Try.pinned (OpenSpec.upto metaTellsSpec)

/-- 'cambiumlaw06.MetaPlays', WHERE WHAT IT READS IS OF BULK AT MOST 1048576: true; the input reads as it did. -/
def metaPlaysUptoRow : OpenClaim := { program := "ytcpgmglpgffhdaa", sum := "73abe45d09bdae649b3b977f5ab9ed1d7f38b50d4aee48a5b9d555af436dc1ac", func := "cambium/cambiumlaw06.MetaPlays", spec := "metaPlays", unfollowed := true, recurses := true, apart := false, narrowed := true }
def MetaPlaysUptoSaid : Prop := metaPlaysUptoRow.holds Try.pinned (OpenSpec.upto metaPlaysSpec)

/-- 'cambiumlaw06.MetaTurns', WHERE WHAT IT READS IS OF BULK AT MOST 1048576: true; the input reads as it did. -/
def metaTurnsUptoRow : OpenClaim := { program := "ytcpgmglpgffhdaa", sum := "73abe45d09bdae649b3b977f5ab9ed1d7f38b50d4aee48a5b9d555af436dc1ac", func := "cambium/cambiumlaw06.MetaTurns", spec := "metaTurns", unfollowed := true, recurses := true, apart := false, narrowed := true }
def MetaTurnsUptoSaid : Prop := metaTurnsUptoRow.holds Try.pinned (OpenSpec.upto metaTurnsSpec)

/-- 'cambiumlaw06.MetaNewest', WHERE WHAT IT READS IS OF BULK AT MOST 1048576: true; the input reads as it did. -/
def metaNewestUptoRow : OpenClaim := { program := "ytcpgmglpgffhdaa", sum := "73abe45d09bdae649b3b977f5ab9ed1d7f38b50d4aee48a5b9d555af436dc1ac", func := "cambium/cambiumlaw06.MetaNewest", spec := "metaNewest", unfollowed := true, recurses := true, apart := false, narrowed := true }
def MetaNewestUptoSaid : Prop := metaNewestUptoRow.holds Try.pinned (OpenSpec.upto metaNewestSpec)

/-- 'cambiumlaw06.MetaApart', WHERE WHAT IT READS IS OF BULK AT MOST 1048576: true; the input reads as it did. -/
def metaApartUptoRow : OpenClaim := { program := "ytcpgmglpgffhdaa", sum := "73abe45d09bdae649b3b977f5ab9ed1d7f38b50d4aee48a5b9d555af436dc1ac", func := "cambium/cambiumlaw06.MetaApart", spec := "metaApart", unfollowed := true, recurses := true, apart := false, narrowed := true }
def MetaApartUptoSaid : Prop := metaApartUptoRow.holds Try.pinned (OpenSpec.upto metaApartSpec)

end Rows
end Go.Proofs.Ytcpgmglpgffhdaa
