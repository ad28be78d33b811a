/-
  A value put as a chain, plainly; and what is read of it, what is left of it when it is dropped.
-/
import Derived.Test.YtmcldkcmialfeaaPrChainM
import Derived.Test.YtmcldkcmialfeaaGrPl9
namespace Go.Proofs.Ytmcldkcmialfeaa.Pr
set_option linter.unusedVariables false

/-- One page of a chain is put. -/
def stepC (s : Pa × Int × List Int) (p : List Nat) : Pa × Int × List Int := (put s.1 (Nd.linkOf s.2.1 p), putNo s.1 (Nd.linkOf s.2.1 p), s.2.2 ++ [putNo s.1 (Nd.linkOf s.2.1 p)])
def codeC (s : Pa × Int × List Int) (p : List Nat) : Int := putCode s.1 (Nd.linkOf s.2.1 p)
/-- The parts are put one after the other; where one has no room, what was put is dropped. -/
def putC : Pa × Int × List Int → List (List Nat) → Pa × Int × Int
  | s, [] => (s.1, s.2.1, 0)
  | s, p :: ps => if codeC s p = 0 then putC (stepC s p) ps else (dropAll s.1 s.2.2, 0, codeC s p)
theorem putC_yes {s : Pa × Int × List Int} {p : List Nat} {ps : List (List Nat)} (h : codeC s p = 0) : putC s (p :: ps) = putC (stepC s p) ps := by rw [putC, if_pos h]
theorem putC_no {s : Pa × Int × List Int} {p : List Nat} {ps : List (List Nat)} (h : codeC s p ≠ 0) : putC s (p :: ps) = (dropAll s.1 s.2.2, 0, codeC s p) := by rw [putC, if_neg h]
/-- A value's parts, the last one first. -/
def partAt (v : List Nat) (i : Nat) : List Nat := part v (i * 1010)
def partsOf (v : List Nat) : List (List Nat) := (List.range (many v.length)).reverse.map (partAt v)
def putChain (a : Pa) (v : List Nat) : Pa × Int × Int := if v.length < 1 ∨ 16384 < v.length then (a, 0, 1) else putC (a, 0, []) (partsOf v)

/-! A chain on a pager of which nothing is freed yet. -/
/-- The first page of those that are put so far; 0, if there is none. -/
def headAt (j : Nat) : Int := if j = 0 then 0 else 1 + (j : Int)
theorem headAt_zero : headAt 0 = 0 := rfl
theorem headAt_succ (j : Nat) : headAt (j + 1) = 2 + (j : Int) := by unfold headAt; rw [if_neg (by omega)]; omega
theorem headAt_two {j : Nat} (h : 0 < j) : 2 ≤ headAt j := by unfold headAt; rw [if_neg (by omega)]; omega
/-- What the pages say, in the order in which they were put. -/
def pays (v : List Nat) (j : Nat) : List (List Nat) := (List.range j).map fun i => Nd.link (headAt i) (partAt v (many v.length - 1 - i))
theorem pays_len (v : List Nat) (j : Nat) : (pays v j).length = j := by unfold pays; rw [List.length_map, List.length_range]
theorem pays_succ (v : List Nat) (j : Nat) : pays v (j + 1) = pays v j ++ [Nd.link (headAt j) (partAt v (many v.length - 1 - j))] := by
  unfold pays; rw [List.range_succ, List.map_append]; rfl
theorem pays_at {v : List Nat} {j i : Nat} (h : i < j) : (pays v j)[i]? = some (Nd.link (headAt i) (partAt v (many v.length - 1 - i))) := by
  unfold pays
  rw [List.getElem?_map, List.getElem?_range h]; rfl
theorem pays_take (v : List Nat) {i j : Nat} (h : i ≤ j) : (pays v j).take i = pays v i := by
  unfold pays
  rw [← List.map_take, List.take_range, Nat.min_eq_left h]
def nosTo (j : Nat) : List Int := (List.range j).map fun (i : Nat) => 2 + (i : Int)
theorem nosTo_succ (j : Nat) : nosTo (j + 1) = nosTo j ++ [2 + (j : Int)] := by unfold nosTo; rw [List.range_succ, List.map_append]; rfl
section
variable {v : List Nat}
theorem many_le (h : v.length ≤ 16384) : many v.length ≤ 17 := by unfold many; omega
theorem many_pos (h : 1 ≤ v.length) : 0 < many v.length := by unfold many; omega
theorem partAt_len (i : Nat) : (partAt v i).length = min 1010 (v.length - i * 1010) := part_len
theorem part_may {i : Nat} (h : i < many v.length) : 1 ≤ (partAt v i).length ∧ (partAt v i).length ≤ 1010 := by
  rw [partAt_len]
  unfold many at h
  omega
theorem head_small {i : Nat} (h : i ≤ 17) : 0 ≤ headAt i ∧ headAt i ≤ 2147483647 := by unfold headAt; split <;> omega
theorem lmay {i j : Nat} (hi : i < many v.length) (hj : j ≤ 17) : Nd.LMay (headAt j) (partAt v i) := ⟨part_may hi, head_small hj⟩
theorem link_small {i j : Nat} (hi : i < many v.length) : (Nd.link (headAt j) (partAt v i)).length ≤ 1016 := by
  rw [Nd.link_len]
  have := (part_may hi).2
  omega
theorem partsOf_at {j : Nat} (hj : j < many v.length) : (partsOf v)[j]? = some (partAt v (many v.length - 1 - j)) := by
  unfold partsOf
  rw [List.getElem?_map, List.getElem?_reverse (by rw [List.length_range]; exact hj), List.length_range, List.getElem?_range (by omega)]
  rfl
theorem partsOf_len : (partsOf v).length = many v.length := by unfold partsOf; rw [List.length_map, List.length_reverse, List.length_range]
end
/-- Put so far. -/
theorem putC_at (d : Dk.Pd) {v : List Nat} (h : v.length ≤ 16384) : ∀ j, j ≤ many v.length →
    putC (seqd d 40 1 0 [], 0, []) (partsOf v) = putC (seqd d 40 1 0 (pays v j), headAt j, nosTo j) ((partsOf v).drop j)
  | 0, _ => by rw [List.drop_zero]; rfl
  | j + 1, hj => by
    have hm := many_le h
    rw [putC_at d h j (by omega), List.drop_eq_getElem_cons (by rw [partsOf_len]; omega)]
    have hp : (partsOf v)[j]'(by rw [partsOf_len]; omega) = partAt v (many v.length - 1 - j) := by
      have := partsOf_at (v := v) (j := j) (by omega)
      rw [List.getElem?_eq_getElem (by rw [partsOf_len]; omega)] at this
      injection this
    rw [hp]
    have hl : Nd.linkOf (headAt j) (partAt v (many v.length - 1 - j)) = Nd.link (headAt j) (partAt v (many v.length - 1 - j)) := if_pos (lmay (by omega) (by omega))
    have hcap : 2 + ((pays v j).length : Int) < 40 := by rw [pays_len]; omega
    have hsm := link_small (v := v) (i := many v.length - 1 - j) (j := j) (by omega)
    obtain ⟨c1, c2⟩ := seqd_code (d := d) (gen := 1) (hz := 0) hcap hsm
    have hc : codeC (seqd d 40 1 0 (pays v j), headAt j, nosTo j) (partAt v (many v.length - 1 - j)) = 0 := by unfold codeC; rw [hl]; exact c1
    rw [putC_yes hc]
    have hs : stepC (seqd d 40 1 0 (pays v j), headAt j, nosTo j) (partAt v (many v.length - 1 - j)) = (seqd d 40 1 0 (pays v (j + 1)), headAt (j + 1), nosTo (j + 1)) := by
      unfold stepC
      simp only
      rw [hl, seqd_put hcap hsm, c2, pays_len, ← pays_succ, headAt_succ, nosTo_succ]
    rw [hs]
/-- All of it. -/
theorem putChain_all (d : Dk.Pd) {v : List Nat} (h1 : 1 ≤ v.length) (h : v.length ≤ 16384) :
    putChain (seqd d 40 1 0 []) v = (seqd d 40 1 0 (pays v (many v.length)), headAt (many v.length), 0) := by
  unfold putChain
  rw [if_neg (by omega), putC_at d h _ (Nat.le_refl _), List.drop_of_length_le (by rw [partsOf_len]; exact Nat.le_refl _)]
  rfl

/-- What the pages of a chain tell. -/
theorem tells_at (d : Dk.Pd) {v : List Nat} (h : v.length ≤ 16384) {j : Nat} (hj : j < many v.length) :
    ∃ b, says (seqd d 40 1 0 (pays v (many v.length))) (headAt (j + 1)) = some b ∧ Nn.lk b = 0 ∧ (Nn.lz b : Int) = headAt j ∧ Nn.ll b = partAt v (many v.length - 1 - j) := by
  have hm := many_le h
  have hmay := lmay (v := v) (i := many v.length - 1 - j) (j := j) (by omega) (by omega)
  refine ⟨Nd.linkFull (headAt j) (partAt v (many v.length - 1 - j)), ?_, ?_, ?_, ?_⟩
  · refine says_fresh ?_
    show look (pagesFrom 2 (pays v (many v.length))) _ = _
    rw [headAt_succ, look_pages, pays_at hj]
    rfl
  · unfold Nn.lk; rw [if_pos (Nd.lsays_full hmay)]
  · unfold Nn.lz; rw [if_pos (Nd.lsays_full hmay)]; exact (Nd.of_link hmay).1
  · unfold Nn.ll; rw [if_pos (Nd.lsays_full hmay)]; exact (Nd.of_link hmay).2.2
theorem headAt_ne (j : Nat) : headAt (j + 1) ≠ 0 := by rw [headAt_succ]; omega
/-- What is left to read from the j-th page on. -/
theorem rest_eq (v : List Nat) {j : Nat} (hj : j < many v.length) : partAt v (many v.length - 1 - j) ++ v.drop ((many v.length - j) * 1010) = v.drop ((many v.length - 1 - j) * 1010) := by
  unfold partAt
  rw [show (many v.length - j) * 1010 = (many v.length - 1 - j) * 1010 + 1010 by
    rw [show many v.length - j = (many v.length - 1 - j) + 1 by omega, Nat.add_mul]]
  exact part_drop _ _
/-- Read with the right size. -/
theorem read_at (d : Dk.Pd) {v : List Nat} (h : v.length ≤ 16384) : ∀ (j f : Nat), j ≤ many v.length → j < f → ∀ (pages : List Int), pages.length = many v.length - j →
    chainGo (says (seqd d 40 1 0 (pays v (many v.length)))) v.length (min (pagesOf v.length) 2048) f (headAt j) (v.take ((many v.length - j) * 1010)) pages = (v, pages ++ (nosTo j).reverse, 0)
  | 0, f + 1, _, _, pages, hp => by
    rw [chain_end headAt_zero]
    have e : v.take ((many v.length - 0) * 1010) = v := List.take_of_length_le (by unfold many; omega)
    rw [e, if_pos rfl]
    rw [show nosTo 0 = [] from rfl, List.reverse_nil, List.append_nil]
  | j + 1, f + 1, hj, hf, pages, hp => by
    obtain ⟨b, h1, h2, h3, h4⟩ := tells_at d h (j := j) (by omega)
    have hm := many_le h
    have hv : v.length = (many v.length - 1) * 1010 + (v.length - (many v.length - 1) * 1010) ∧ (many v.length - 1) * 1010 < v.length ∧ v.length ≤ many v.length * 1010 := by unfold many at hj ⊢; omega
    have hnf : ¬ ((v.length : Int) ≤ ((v.take ((many v.length - (j + 1)) * 1010)).length : Int) ∨ min (pagesOf v.length) 2048 ≤ (pages.length : Int)) := by
      have hpo : pagesOf v.length = many v.length := by unfold pagesOf many; split <;> omega
      rw [hpo, hp, List.length_take]
      omega
    rw [chain_next (headAt_ne j) hnf h1, if_pos h2, h3, h4]
    have e : v.take ((many v.length - (j + 1)) * 1010) ++ partAt v (many v.length - 1 - j) = v.take ((many v.length - j) * 1010) := by
      unfold partAt part
      rw [show many v.length - (j + 1) = many v.length - 1 - j by omega, show (many v.length - j) * 1010 = (many v.length - 1 - j) * 1010 + 1010 by
        rw [show many v.length - j = (many v.length - 1 - j) + 1 by omega, Nat.add_mul]]
      rw [List.take_add]
    rw [e, read_at d h j f (by omega) (by omega) (pages ++ [headAt (j + 1)]) (by rw [List.length_append]; simp; omega)]
    rw [nosTo_succ, headAt_succ, List.reverse_append, List.append_assoc]
    rfl
/-- Whatever size is asked for: if it is told, it has that many bytes. -/
theorem readSize (d : Dk.Pd) {v : List Nat} (h : v.length ≤ 16384) (size most : Int) : ∀ (j f : Nat), j ≤ many v.length → j < f → ∀ (val : List Nat) (pages : List Int),
    (chainGo (says (seqd d 40 1 0 (pays v (many v.length)))) size most f (headAt j) val pages).2.2 = 0 → (val.length : Int) + ((v.drop ((many v.length - j) * 1010)).length : Int) = size
  | 0, f + 1, _, _, val, pages, hc => by
    rw [chain_end headAt_zero] at hc
    have e : (v.drop ((many v.length - 0) * 1010)).length = 0 := by rw [List.length_drop]; unfold many; omega
    rw [e]
    split at hc
    · rename_i hs; omega
    · simp at hc
  | j + 1, f + 1, hj, hf, val, pages, hc => by
    obtain ⟨b, h1, h2, h3, h4⟩ := tells_at d h (j := j) (by omega)
    by_cases hfull : size ≤ (val.length : Int) ∨ most ≤ (pages.length : Int)
    · rw [chain_full (headAt_ne j) hfull] at hc
      simp at hc
    · rw [chain_next (headAt_ne j) hfull h1, if_pos h2, h3, h4] at hc
      have ih := readSize d h size most j f (by omega) (by omega) _ _ hc
      have e := congrArg List.length (rest_eq v (j := j) (by omega))
      rw [List.length_append] at ih e
      rw [show many v.length - (j + 1) = many v.length - 1 - j by omega]
      omega
/-- A chain is read as it was put. -/
theorem chain_all (d : Dk.Pd) {v : List Nat} (h1 : 1 ≤ v.length) (h : v.length ≤ 16384) :
    chain (seqd d 40 1 0 (pays v (many v.length))) (headAt (many v.length)) v.length = (v, (nosTo (many v.length)).reverse, 0) := by
  have hm := many_le h
  have := read_at d h (many v.length) 2050 (Nat.le_refl _) (by omega) [] (by simp)
  rw [Nat.sub_self, Nat.zero_mul, List.take_zero] at this
  exact this
theorem chain_other (d : Dk.Pd) {v : List Nat} (h1 : 1 ≤ v.length) (h : v.length ≤ 16384) (size : Int) :
    ((chain (seqd d 40 1 0 (pays v (many v.length))) (headAt (many v.length)) size).2.2 = 0) ↔ size = v.length := by
  have hm := many_le h
  constructor
  · intro hc
    have := readSize d h size _ (many v.length) 2050 (Nat.le_refl _) (by omega) [] [] hc
    rw [Nat.sub_self, Nat.zero_mul, List.drop_zero] at this
    simp at this
    omega
  · rintro rfl
    rw [chain_all d h1 h]

/-- While a chain is dropped: the first pages are fresh yet, the others are freed. -/
structure Going (d : Dk.Pd) (v : List Nat) (j : Nat) (a : Pa) : Prop where
  disk : a.disk = d
  l : a.l = pagesFrom 2 (pays v j)
  high : a.pool.high = 2 + many v.length
  len : a.pool.l.length + j = many v.length
  freed : ∀ f ∈ a.pool.l, 2 + (j : Int) ≤ f.1
theorem Going.start (d : Dk.Pd) (v : List Nat) : Going d v (many v.length) (seqd d 40 1 0 (pays v (many v.length))) :=
  ⟨rfl, rfl, by show (2 : Int) + ((pays v (many v.length)).length : Int) = _; rw [pays_len], by show 0 + _ = _; omega, fun f hf => by cases hf⟩
theorem rem_last (ls : List (List Nat)) (b : List Nat) : rem (pagesFrom 2 (ls ++ [b])) (2 + (ls.length : Int)) = pagesFrom 2 ls := by
  rw [pagesFrom_snoc]
  unfold rem
  rw [List.filter_append]
  have e : (pagesFrom 2 ls).filter (fun f => !(f.1 == 2 + (ls.length : Int))) = pagesFrom 2 ls := by
    refine List.filter_eq_self.2 fun f hf => ?_
    have := (pagesFrom_mem ls 2 hf).2
    have h1 : ¬ f.1 = 2 + (ls.length : Int) := by omega
    simpa using h1
  rw [e]
  simp
theorem Going.step {d : Dk.Pd} {v : List Nat} {j : Nat} {a : Pa} (h : Going d v (j + 1) a) : Going d v j (drop a (2 + (j : Int))) := by
  have hlk : (look a.l (2 + (j : Int))).isSome = true := by
    rw [h.l, look_pages, pays_at (by omega)]; rfl
  have hlen := h.len
  have hfc : Pl.freeCode a.pool (2 + (j : Int)) = 0 := by
    unfold Pl.freeCode
    rw [if_neg (by rw [h.high]; omega), if_neg]
    rw [Pl.look_free]
    rintro ⟨f, hf, e⟩
    have := h.freed f hf
    omega
  have hfree : Pl.free a.pool (2 + (j : Int)) 0 = { a.pool with l := Pl.ins a.pool.l (2 + (j : Int)) 0 } := if_pos hfc
  have e : drop a (2 + (j : Int)) = { a with l := rem a.l (2 + (j : Int)), pool := { a.pool with l := Pl.ins a.pool.l (2 + (j : Int)) 0 } } := by
    unfold drop
    rw [if_pos hlk, hfree]
  rw [e]
  refine ⟨h.disk, ?_, h.high, ?_, fun f hf => ?_⟩
  · show rem a.l _ = _
    rw [h.l, pays_succ]
    have := rem_last (pays v j) (Nd.link (headAt j) (partAt v (many v.length - 1 - j)))
    rwa [pays_len] at this
  · show (Pl.ins a.pool.l _ 0).length + j = _
    rw [Pl.ins_len]; omega
  · rcases Pl.ins_mem.1 hf with rfl | hf
    · exact Int.le_refl _
    · have := h.freed f hf; omega
theorem Going.all {d : Dk.Pd} {v : List Nat} : ∀ (j : Nat) {a : Pa}, Going d v j a → Going d v 0 (dropAll a (nosTo j).reverse)
  | 0, a, h => h
  | j + 1, a, h => by
    rw [nosTo_succ, List.reverse_append]
    exact Going.all j h.step
theorem dropped (d : Dk.Pd) (v : List Nat) : Going d v 0 (dropAll (seqd d 40 1 0 (pays v (many v.length))) (nosTo (many v.length)).reverse) := Going.all _ (Going.start d v)

end Go.Proofs.Ytmcldkcmialfeaa.Pr
