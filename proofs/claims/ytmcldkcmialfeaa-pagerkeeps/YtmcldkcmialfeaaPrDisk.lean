/-
  Pages written on a disk with power, plainly.
-/
import Derived.Test.YtmcldkcmialfeaaPrFlush
import Derived.Test.YtmcldkcmialfeaaGrPl9
namespace Go.Proofs.Ytmcldkcmialfeaa.Pr
set_option linter.unusedVariables false

theorem dwrite_calm {d : Dk.Pd} (hl : d.left = 0) (hd : d.down = false) {no : Nat} (hno : no < d.pages.length) {b : List Nat} (hb : b.length ≤ 1016) :
    dwriteCode d no b = 0 ∧ dwrite d no b = Dk.push d no (Pg.page no b) := by
  have h1 : Dk.has d (no : Int) ∧ (Pg.page no b).length = 1024 := ⟨⟨by omega, by omega⟩, Pg.page_len no hb⟩
  have ha : Dk.act (Dk.push d no (Pg.page no b)) = Dk.push d no (Pg.page no b) := by
    unfold Dk.act
    rw [if_pos (show (Dk.push d no (Pg.page no b)).left = 0 from hl)]
  unfold dwriteCode dwrite Dk.writeCode Dk.write
  rw [if_pos h1, if_pos h1, hd, Int.toNat_natCast, ha]
  refine ⟨?_, rfl⟩
  show Dk.code (Dk.push d no (Pg.page no b)) = 0
  unfold Dk.code
  rw [show (Dk.push d no (Pg.page no b)).down = false from hd]; rfl
theorem dsays_push {d : Dk.Pd} {no : Nat} (hno : no < d.pages.length) (hn : no ≤ 2147483647) {b : List Nat} (hb : b.length ≤ 1016) (k : Int) :
    dsays (Dk.push d no (Pg.page no b)) k = if k = (no : Int) then some (Pg.fill b) else dsays d k := by
  have hp : (Dk.push d no (Pg.page no b)).pages = d.pages := rfl
  unfold dsays
  rw [hp, Dk.seen_push]
  by_cases hk : k = (no : Int)
  · subst hk
    rw [if_pos rfl, Int.toNat_natCast, if_pos rfl, Pg.page_pay no hb]
    rw [if_pos]
    exact ⟨by omega, by omega, (Pg.page_opens hb hn _).2 rfl⟩
  · rw [if_neg hk]
    by_cases h0 : 0 ≤ k
    · rw [if_neg (show ¬ no = k.toNat by omega)]
    · rw [if_neg (fun h => h0 h.1), if_neg (fun h => h0 h.1)]
theorem fill_fill {b : List Nat} (hb : b.length ≤ 1016) : Pg.fill (Pg.fill b) = Pg.fill b := Pg.fill_full (Pg.fill_len hb)
/-- A disk whose power holds. -/
structure Calm (d : Dk.Pd) : Prop where
  left : d.left = 0
  down : d.down = false
theorem Calm.push {d : Dk.Pd} (h : Calm d) (no : Nat) (l : List Nat) : Calm (Dk.push d no l) := ⟨h.left, h.down⟩
/-- All fresh pages are written. -/
theorem flushTo_calm : ∀ (l : List (F (List Nat))) {d : Dk.Pd}, Calm d → (∀ f ∈ l, 0 ≤ f.1 ∧ f.1 < (d.pages.length : Int) ∧ f.1 ≤ 2147483647 ∧ f.2.length = 1016) → Rises l →
    (flushTo d l).2 = 0 ∧ Calm (flushTo d l).1 ∧ (flushTo d l).1.pages = d.pages ∧ Dk.nos (flushTo d l).1 = Dk.nos d ++ l.map (fun f => f.1.toNat) ∧ (flushTo d l).1.waits.length = d.waits.length + l.length ∧
      ∀ k, dsays (flushTo d l).1 k = match look l k with | some b => some b | none => dsays d k
  | [], d, hd, _, _ => ⟨rfl, hd, rfl, by simp [flushTo], rfl, fun k => rfl⟩
  | f :: l, d, hd, hf, hr => by
    obtain ⟨h1, h2, h3, h4⟩ := hf f (by simp)
    obtain ⟨no, hno⟩ : ∃ no : Nat, f.1 = (no : Int) := ⟨f.1.toNat, by omega⟩
    have hc := dwrite_calm hd.left hd.down (no := no) (b := f.2) (by omega) (by omega)
    have e : flushTo d (f :: l) = flushTo (Dk.push d no (Pg.page no f.2)) l := by
      show (if dwriteCode d f.1.toNat f.2 = 0 then flushTo (dwrite d f.1.toNat f.2) l else _) = _
      rw [hno, Int.toNat_natCast, if_pos hc.1, hc.2]
    rw [e]
    have ih := flushTo_calm l (hd.push no (Pg.page no f.2)) (fun g hg => hf g (by simp [hg])) (List.Pairwise.of_cons hr)
    obtain ⟨i1, i2, i3, i4, i5, i6⟩ := ih
    refine ⟨i1, i2, i3, ?_, ?_, fun k => ?_⟩
    · rw [i4]
      show (d.waits ++ [(no, Pg.page no f.2)]).map (·.1) ++ _ = _
      rw [List.map_append, List.append_assoc, List.map_cons (f := fun f : F (List Nat) => f.1.toNat), hno, Int.toNat_natCast]; rfl
    · rw [i5]; simp [Dk.push]; omega
    · rw [i6, look_cons]
      by_cases hk : f.1 = k
      · rw [if_pos hk]
        have hn : look l k = none := look_none.2 (by
          rintro ⟨g, hg, e⟩
          have := List.rel_of_pairwise_cons hr hg
          omega)
        rw [hn]
        simp only
        rw [dsays_push (by omega) (by omega) (by omega), if_pos (by omega), Pg.fill_full h4]
      · rw [if_neg hk]
        cases look l k with
        | some b => rfl
        | none =>
          simp only
          rw [dsays_push (by omega) (by omega) (by omega), if_neg (by omega)]

end Go.Proofs.Ytmcldkcmialfeaa.Pr
