/-
  A chain, read page by page, plainly.
-/
import Derived.Test.YtmcldkcmialfeaaPrLink
namespace Go.Proofs.Ytmcldkcmialfeaa.Pr
set_option linter.unusedVariables false

/-- A chain from the page no on, behind what was read already; of at most f pages more. -/
noncomputable def chainGo (tells : Int → Option (List Nat)) (size most : Int) : Nat → Int → List Nat → List Int → List Nat × List Int × Int
  | 0, _, _, _ => ([], [], 5)
  | f + 1, no, val, pages =>
    if no = 0 then (if (val.length : Int) = size then (val, pages, 0) else ([], [], 5))
    else if size ≤ (val.length : Int) ∨ most ≤ (pages.length : Int) then ([], [], 5)
    else match tells no with
      | none => ([], [], 4)
      | some b => if Nn.lk b = 0 then chainGo tells size most f (Nn.lz b) (val ++ Nn.ll b) (pages ++ [no]) else ([], [], (Nn.lk b : Int))
section
variable {tells : Int → Option (List Nat)} {size most no : Int} {f : Nat} {val : List Nat} {pages : List Int}
theorem chain_end (h : no = 0) : chainGo tells size most (f + 1) no val pages = if (val.length : Int) = size then (val, pages, 0) else ([], [], 5) := by
  rw [chainGo, if_pos h]
theorem chain_full (h : no ≠ 0) (hf : size ≤ (val.length : Int) ∨ most ≤ (pages.length : Int)) : chainGo tells size most (f + 1) no val pages = ([], [], 5) := by
  rw [chainGo, if_neg h, if_pos hf]
theorem chain_shut (h : no ≠ 0) (hf : ¬ (size ≤ (val.length : Int) ∨ most ≤ (pages.length : Int))) (ht : tells no = none) : chainGo tells size most (f + 1) no val pages = ([], [], 4) := by
  rw [chainGo, if_neg h, if_neg hf, ht]
theorem chain_next {b : List Nat} (h : no ≠ 0) (hf : ¬ (size ≤ (val.length : Int) ∨ most ≤ (pages.length : Int))) (ht : tells no = some b) :
    chainGo tells size most (f + 1) no val pages = if Nn.lk b = 0 then chainGo tells size most f (Nn.lz b) (val ++ Nn.ll b) (pages ++ [no]) else ([], [], (Nn.lk b : Int)) := by
  rw [chainGo, if_neg h, if_neg hf, ht]
end
/-- The whole chain. -/
noncomputable def chain (a : Pa) (head size : Int) : List Nat × List Int × Int := chainGo (says a) size (min (pagesOf size) 2048) 2050 head [] []

end Go.Proofs.Ytmcldkcmialfeaa.Pr
