/-
  Metas on a disk of two pages, plainly: what is newest behind writes, and behind a loss of power. No Go here.
-/
import Derived.Test.YtcpgmglpgffhdaaMtNew
namespace Go.Proofs.Ytcpgmglpgffhdaa.Mt
open Nm
set_option linter.unusedVariables false

theorem zeros_told (no n : Nat) : toldBy no (List.replicate n 0) = none := by
  unfold toldBy
  rw [if_neg]
  rintro ⟨_, h, _⟩
  have h2 := h.2.2
  have : (List.take 1016 (List.replicate n 0))[0]? = some 67 := by rw [← h2]; rfl
  rw [List.take_replicate, List.getElem?_replicate] at this
  split at this
  · injection this with this; omega
  · cases this
theorem tells_fresh (n no : Nat) : tells (Dk.fresh n) no = none := by
  unfold tells
  split
  · rename_i h
    have : Dk.seen (Dk.fresh n) no = List.replicate 1024 0 := by
      unfold Dk.seen Dk.fresh
      simp only [List.length_nil, Dk.seenTo]
      have h' : no < n := by
        have e : (Dk.fresh n).pages.length = n := List.length_replicate
        omega
      rw [List.getD_eq_getElem?_getD, List.getElem?_replicate, if_pos h', Option.getD_some]
    rw [this, zeros_told]
  · rfl
/-- Nothing is armed, the power is there. -/
def Calm (d : Dk.Pd) : Prop := d.left = 0 ∧ d.down = false
theorem write_calm {d : Dk.Pd} {no : Nat} {l : List Nat} (hc : Calm d) (hn : no < d.pages.length) (hl : l.length = 1024) : Dk.write d (no : Int) l = Dk.push d no l ∧ Dk.writeCode d (no : Int) l = 0 := by
  have hh : Dk.has d (no : Int) ∧ l.length = 1024 := ⟨⟨by omega, by omega⟩, hl⟩
  unfold Dk.write Dk.writeCode
  rw [if_pos hh, if_pos hh, hc.2]
  simp only [Bool.false_eq_true, if_false]
  have ha : Dk.act (Dk.push d (no : Int).toNat l) = Dk.push d (no : Int).toNat l := if_pos hc.1
  rw [ha]
  refine ⟨by simp, ?_⟩
  show (if d.down then (3 : Int) else 0) = 0
  rw [hc.2]; rfl
theorem push_calm {d : Dk.Pd} {no : Nat} {l : List Nat} (hc : Calm d) : Calm (Dk.push d no l) := hc
theorem tells_push (d : Dk.Pd) (no : Nat) (l : List Nat) (k : Nat) (hn : no < d.pages.length) : tells (Dk.push d no l) k = if no = k then toldBy k l else tells d k := by
  unfold tells
  rw [Dk.seen_push]
  show (if k < d.pages.length then _ else _) = _
  by_cases he : no = k
  · subst he; rw [if_pos hn, if_pos rfl, if_pos rfl]
  · rw [if_neg he, if_neg he]
theorem mwrite_calm {d : Dk.Pd} {m : M} (hc : Calm d) (h2 : d.pages.length = 2) (hm : May m) : write d m = Dk.push d (m.gen % 2) (pageOf m) ∧ writeCode d m = 0 := by
  unfold write writeCode
  rw [if_pos hm, if_pos hm]
  exact write_calm hc (by omega) (pageOf_len m)
/-- What is seen is safe behind a sync. -/
theorem tells_settled (d : Dk.Pd) (hw : ∀ x ∈ d.waits, x.1 < d.pages.length) (k : Nat) : tells (Dk.settled d) k = tells d k := by
  unfold tells
  have h1 : (Dk.settled d).pages.length = d.pages.length := Dk.stTo_len d _
  have h2 : Dk.seen (Dk.settled d) k = Dk.seen d k := by
    unfold Dk.seen
    exact Dk.st_seen d hw k _
  rw [h1, h2]
theorem newest_of {d e : Dk.Pd} (h0 : tells d 0 = tells e 0) (h1 : tells d 1 = tells e 1) : newest d = newest e := by unfold newest; rw [h0, h1]

/-- Two metas, one behind the other, on a new disk. -/
theorem newest_two {a b : M} (ha : May a) (hb : May b) :
    writeCode (Dk.fresh 2) a = 0 ∧ writeCode (write (Dk.fresh 2) a) b = 0 ∧ Dk.syncCode (write (write (Dk.fresh 2) a) b) = 0 ∧
    newest (Dk.sync (write (write (Dk.fresh 2) a) b)) = (if a.gen % 2 ≠ b.gen % 2 ∧ b.gen < a.gen then a else b) ∧
    newest (write (write (Dk.fresh 2) a) b) = (if a.gen % 2 ≠ b.gen % 2 ∧ b.gen < a.gen then a else b) ∧ (write (write (Dk.fresh 2) a) b).waits.length = 2 ∧ (write (Dk.fresh 2) a).waits.length = 1 := by
  have c0 : Calm (Dk.fresh 2) := ⟨rfl, rfl⟩
  have p0 : (Dk.fresh 2).pages.length = 2 := rfl
  obtain ⟨w1, e1⟩ := mwrite_calm c0 p0 ha
  have c1 : Calm (Dk.push (Dk.fresh 2) (a.gen % 2) (pageOf a)) := c0
  have p1 : (Dk.push (Dk.fresh 2) (a.gen % 2) (pageOf a)).pages.length = 2 := rfl
  obtain ⟨w2, e2⟩ := mwrite_calm c1 p1 hb
  rw [w1, w2]
  generalize hD : Dk.push (Dk.push (Dk.fresh 2) (a.gen % 2) (pageOf a)) (b.gen % 2) (pageOf b) = D
  have cD : Calm D := by rw [← hD]; exact c0
  have pD : D.pages.length = 2 := by rw [← hD]; rfl
  have wD : D.waits = [(a.gen % 2, pageOf a), (b.gen % 2, pageOf b)] := by rw [← hD]; rfl
  have aD : Dk.act D = D := if_pos cD.1
  have tD : ∀ k, k < 2 → tells D k = if b.gen % 2 = k then some b else if a.gen % 2 = k then some a else none := by
    intro k hk
    rw [← hD, tells_push _ _ _ _ (by rw [p1]; omega), tells_push _ _ _ _ (by rw [p0]; omega), tells_fresh]
    by_cases h1 : b.gen % 2 = k
    · rw [if_pos h1, if_pos h1, toldBy_page hb k hk, if_pos h1]
    · rw [if_neg h1, if_neg h1]
      by_cases h2 : a.gen % 2 = k
      · rw [if_pos h2, if_pos h2, toldBy_page ha k hk, if_pos h2]
      · rw [if_neg h2, if_neg h2]
  have nD : newest D = (if a.gen % 2 ≠ b.gen % 2 ∧ b.gen < a.gen then a else b) := by
    have ga := ha.1.1
    have gb := hb.1.1
    unfold newest
    rw [tD 0 (by omega), tD 1 (by omega)]
    by_cases hab : a.gen % 2 = b.gen % 2
    · have eR : (if a.gen % 2 ≠ b.gen % 2 ∧ b.gen < a.gen then a else b) = b := if_neg (fun h => h.1 hab)
      rw [eR]
      by_cases h0 : b.gen % 2 = 0
      · rw [if_pos h0, if_neg (by omega), if_neg (by omega)]
        show top zero (some b) = b
        exact if_pos (show zero.gen < b.gen from gb)
      · rw [if_neg h0, if_neg (by omega), if_pos (by omega)]
        show top zero (some b) = b
        exact if_pos (show zero.gen < b.gen from gb)
    · by_cases h0 : b.gen % 2 = 0
      · rw [if_pos h0, if_neg (by omega), if_pos (by omega)]
        have e : top zero (some b) = b := if_pos (show zero.gen < b.gen from gb)
        rw [e]
        show (if b.gen < a.gen then a else b) = _
        by_cases hg : b.gen < a.gen
        · rw [if_pos hg, if_pos ⟨hab, hg⟩]
        · rw [if_neg hg, if_neg (fun h => hg h.2)]
      · rw [if_neg h0, if_pos (by omega), if_pos (by omega)]
        have e : top zero (some a) = a := if_pos (show zero.gen < a.gen from ga)
        rw [e]
        show (if a.gen < b.gen then b else a) = _
        by_cases hg : b.gen < a.gen
        · rw [if_neg (by omega), if_pos ⟨hab, hg⟩]
        · rw [if_pos (by omega), if_neg (fun h => hg h.2)]
  have hin : ∀ x ∈ D.waits, x.1 < D.pages.length := by
    rw [wD, pD]
    intro x hx
    simp at hx
    rcases hx with rfl | rfl <;> simp only <;> omega
  refine ⟨e1, e2, ?_, ?_, nD, by rw [wD]; rfl, rfl⟩
  · unfold Dk.syncCode
    rw [aD, cD.2]; rfl
  · unfold Dk.sync
    rw [aD, cD.2]
    simp only [Bool.false_eq_true, if_false]
    rw [newest_of (tells_settled D hin 0) (tells_settled D hin 1), nD]

/-- The meta of a version in MetaTurns. -/
def ver (g : Nat) : M := ⟨g, 2, 0, 0⟩
theorem ver_may {g : Nat} (h1 : 1 ≤ g) (h2 : g ≤ 1152921504606846976) : May (ver g) := ⟨⟨h1, h2⟩, ⟨by show (2 : Int) ≤ 2; decide, by show (2 : Int) ≤ 2048; decide⟩, .inl rfl, .inl rfl⟩
/-- At rest, g is the newest, at its place. -/
structure Good (d : Dk.Pd) (g : Nat) : Prop where
  calm : Calm d
  waits : d.waits = []
  two : d.pages.length = 2
  own : tells d (g % 2) = some (ver g)
  other : ∀ m, tells d ((g + 1) % 2) = some m → m.gen < g
theorem Good.newest {d : Dk.Pd} {g : Nat} (h : Good d g) (h1 : 1 ≤ g) : Mt.newest d = ver g := by
  have ho := h.own
  have hx := h.other
  unfold Mt.newest
  have e : top zero (some (ver g)) = ver g := if_pos (show zero.gen < g from h1)
  by_cases h0 : g % 2 = 0
  · rw [h0] at ho
    rw [show (g + 1) % 2 = 1 by omega] at hx
    rw [ho, e]
    cases ht : tells d 1 with
    | none => rfl
    | some m => exact if_neg (by have := hx m ht; show ¬ g < m.gen; omega)
  · rw [show g % 2 = 1 by omega] at ho
    rw [show (g + 1) % 2 = 0 by omega] at hx
    rw [ho]
    have hlt : (top zero (tells d 0)).gen < g := by
      cases ht : tells d 0 with
      | none => exact h1
      | some m =>
        have := hx m ht
        show (if zero.gen < m.gen then m else zero).gen < g
        split
        · exact this
        · exact h1
    exact if_pos hlt
theorem Good.code {d : Dk.Pd} {g : Nat} (h : Good d g) (h1 : 1 ≤ g) : newestCode d = 0 := by
  unfold newestCode
  rw [h.newest h1, if_neg (show ¬ (ver g).gen = 0 from by show ¬ g = 0; omega)]
/-- Seen and safe are the same where nothing waits. -/
theorem seen_safe {d : Dk.Pd} (h : d.waits = []) (k : Nat) : Dk.seen d k = d.pages.getD k [] := by
  unfold Dk.seen; rw [h]; rfl
theorem tells_set {d e : Dk.Pd} {no : Nat} {l : List Nat} (hd : d.waits = []) (he : e.waits = []) (hp : e.pages = d.pages.set no l) (hn : no < d.pages.length) (k : Nat) : tells e k = if no = k then toldBy k l else tells d k := by
  unfold tells
  rw [seen_safe hd, seen_safe he, hp, List.length_set]
  by_cases hk : no = k
  · subst hk
    rw [if_pos hn, if_pos rfl, List.getD_eq_getElem?_getD, List.getElem?_set_self hn, Option.getD_some]
  · rw [if_neg hk, List.getD_eq_getElem?_getD, List.getElem?_set_ne hk, ← List.getD_eq_getElem?_getD]
theorem tells_same {d e : Dk.Pd} (hd : d.waits = []) (he : e.waits = []) (hp : e.pages = d.pages) (k : Nat) : tells e k = tells d k := by
  unfold tells
  rw [seen_safe hd, seen_safe he, hp]
theorem Good.same {d e : Dk.Pd} {g : Nat} (h : Good d g) (hc : Calm e) (he : e.waits = []) (hp : e.pages = d.pages) : Good e g :=
  ⟨hc, he, by rw [hp]; exact h.two, by rw [tells_same h.waits he hp]; exact h.own, fun m hm => h.other m (by rw [← tells_same h.waits he hp]; exact hm)⟩
theorem Good.next {d e : Dk.Pd} {g : Nat} (h : Good d g) (h1 : 1 ≤ g) (h2 : g + 1 ≤ 1152921504606846976) (hc : Calm e) (he : e.waits = []) (hp : e.pages = d.pages.set ((g + 1) % 2) (pageOf (ver (g + 1)))) : Good e (g + 1) := by
  have t := tells_set h.waits he hp (by rw [h.two]; omega)
  refine ⟨hc, he, by rw [hp, List.length_set]; exact h.two, ?_, fun m hm => ?_⟩
  · rw [t, if_pos rfl, toldBy_page (ver_may (by omega) h2) _ (by omega)]
    exact if_pos rfl
  · rw [show (g + 1 + 1) % 2 = g % 2 by omega, t, if_neg (by omega), h.own] at hm
    injection hm with hm
    rw [← hm]
    show g < g + 1
    omega
theorem Good.torn {d e : Dk.Pd} {g : Nat} (h : Good d g) (hc : Calm e) (he : e.waits = []) (hp : e.pages = d.pages.set ((g + 1) % 2) (Pg.torn (pageOf (ver (g + 1))))) : Good e g := by
  have t := tells_set h.waits he hp (by rw [h.two]; omega)
  refine ⟨hc, he, by rw [hp, List.length_set]; exact h.two, ?_, fun m hm => ?_⟩
  · rw [t, if_neg (by omega), h.own]
  · rw [t, if_pos rfl, toldBy_torn] at hm
    cases hm
/-- One round of MetaTurns. -/
theorem Good.round {d : Dk.Pd} {g n : Nat} (h : Good d g) (h1 : 1 ≤ g) (h2 : g + 1 ≤ 1152921504606846976) (keep : List Bool) (torn : Int) :
    (write (Dk.armed d n) (ver (g + 1))).waits.length ≤ 1 ∧ (Dk.sync (write (Dk.armed d n) (ver (g + 1)))).waits.length ≤ 1 ∧
    ((Good (Dk.crashed (Dk.sync (write (Dk.armed d n) (ver (g + 1)))) keep torn) g ∧ ¬ (writeCode (Dk.armed d n) (ver (g + 1)) = 0 ∧ Dk.syncCode (write (Dk.armed d n) (ver (g + 1))) = 0)) ∨
      Good (Dk.crashed (Dk.sync (write (Dk.armed d n) (ver (g + 1)))) keep torn) (g + 1)) := by
  obtain ⟨P, W, L, D⟩ := d
  have hw : W = [] := h.waits
  have hc : D = false := h.calm.2
  have h2p : P.length = 2 := h.two
  subst hw hc
  have hm : May (ver (g + 1)) := ver_may (by omega) h2
  generalize hpg : pageOf (ver (g + 1)) = pg
  have hpl : pg.length = 1024 := by rw [← hpg]; exact pageOf_len _
  have hno : (ver (g + 1)).gen % 2 = (g + 1) % 2 := rfl
  -- whatever waits: one write at the other place
  have crash : ∀ (L' : Nat) (D' : Bool), Good (Dk.crashed ⟨P, [((g + 1) % 2, pg)], L', D'⟩ keep torn) g ∨ Good (Dk.crashed ⟨P, [((g + 1) % 2, pg)], L', D'⟩ keep torn) (g + 1) := by
    intro L' D'
    have hcr : (Dk.crashed ⟨P, [((g + 1) % 2, pg)], L', D'⟩ keep torn).pages = if Dk.kept keep 0 then P.set ((g + 1) % 2) (Dk.left_ torn 0 pg) else P := rfl
    by_cases hk : Dk.kept keep 0 = true
    · rw [if_pos hk] at hcr
      by_cases ht : ((0 : Nat) : Int) = torn
      · refine .inl (h.torn ⟨rfl, rfl⟩ rfl ?_)
        rw [hcr, hpg]
        unfold Dk.left_
        rw [if_pos ht]
      · refine .inr (h.next h1 h2 ⟨rfl, rfl⟩ rfl ?_)
        rw [hcr, hpg]
        unfold Dk.left_
        rw [if_neg ht]
    · rw [if_neg hk] at hcr
      exact .inl (h.same ⟨rfl, rfl⟩ rfl hcr)
  have hwr : write (Dk.armed ⟨P, [], L, false⟩ n) (ver (g + 1)) = Dk.act ⟨P, [((g + 1) % 2, pg)], n, false⟩ ∧ writeCode (Dk.armed ⟨P, [], L, false⟩ n) (ver (g + 1)) = Dk.code (Dk.act ⟨P, [((g + 1) % 2, pg)], n, false⟩) := by
    unfold write writeCode
    rw [if_pos hm, if_pos hm, hno, hpg]
    unfold Dk.write Dk.writeCode
    have hh : Dk.has (Dk.armed ⟨P, [], L, false⟩ n) (((g + 1) % 2 : Nat) : Int) ∧ pg.length = 1024 := ⟨⟨by omega, by show (((g + 1) % 2 : Nat) : Int) < (P.length : Int); omega⟩, hpl⟩
    rw [if_pos hh, if_pos hh]
    exact ⟨rfl, rfl⟩
  rw [hwr.1, hwr.2]
  by_cases n1 : n = 1
  · subst n1
    have ha : Dk.act ⟨P, [((g + 1) % 2, pg)], 1, false⟩ = ⟨P, [((g + 1) % 2, pg)], 0, true⟩ := rfl
    rw [ha]
    refine ⟨Nat.le_refl _, Nat.le_refl _, ?_⟩
    rcases crash 0 true with c | c
    · exact .inl ⟨c, fun hh => by have h3 : (3 : Int) = 0 := hh.1; omega⟩
    · exact .inr c
  · by_cases n2 : n = 2
    · subst n2
      have ha : Dk.act ⟨P, [((g + 1) % 2, pg)], 2, false⟩ = ⟨P, [((g + 1) % 2, pg)], 1, false⟩ := rfl
      rw [ha]
      refine ⟨Nat.le_refl _, Nat.le_refl _, ?_⟩
      rcases crash 0 true with c | c
      · exact .inl ⟨c, fun hh => by have h3 : (3 : Int) = 0 := hh.2; omega⟩
      · exact .inr c
    · -- the power stays: what was written is safe
      obtain ⟨n', hn', hl⟩ : ∃ n', Dk.act ⟨P, [((g + 1) % 2, pg)], n, false⟩ = ⟨P, [((g + 1) % 2, pg)], n', false⟩ ∧ (n' = 0 ∨ 2 ≤ n') := by
        by_cases n0 : n = 0
        · subst n0; exact ⟨0, rfl, .inl rfl⟩
        · refine ⟨n - 1, ?_, by omega⟩
          unfold Dk.act
          rw [if_neg (by show ¬ n = 0; exact n0)]
          show (⟨P, [((g + 1) % 2, pg)], n - 1, decide (n = 1)⟩ : Dk.Pd) = _
          rw [decide_eq_false n1]
      rw [hn']
      obtain ⟨n'', hn''⟩ : ∃ n'', Dk.act ⟨P, [((g + 1) % 2, pg)], n', false⟩ = ⟨P, [((g + 1) % 2, pg)], n'', false⟩ := by
        rcases hl with rfl | hl
        · exact ⟨0, rfl⟩
        · refine ⟨n' - 1, ?_⟩
          unfold Dk.act
          rw [if_neg (by show ¬ n' = 0; omega)]
          show (⟨P, [((g + 1) % 2, pg)], n' - 1, decide (n' = 1)⟩ : Dk.Pd) = _
          rw [decide_eq_false (by omega)]
      have hs : Dk.sync ⟨P, [((g + 1) % 2, pg)], n', false⟩ = ⟨P.set ((g + 1) % 2) pg, [], n'', false⟩ := by
        unfold Dk.sync
        rw [hn'']
        rfl
      rw [hs]
      refine ⟨Nat.le_refl _, Nat.zero_le _, .inr (h.next h1 h2 ⟨rfl, rfl⟩ rfl ?_)⟩
      rw [hpg]; rfl
/-- How MetaTurns begins. -/
theorem good_first {g : Nat} (h1 : 1 ≤ g) (h2 : g ≤ 1152921504606846976) :
    writeCode (Dk.fresh 2) (ver g) = 0 ∧ Dk.syncCode (write (Dk.fresh 2) (ver g)) = 0 ∧ (write (Dk.fresh 2) (ver g)).waits.length = 1 ∧ Good (Dk.sync (write (Dk.fresh 2) (ver g))) g := by
  have hm := ver_may h1 h2
  have c0 : Calm (Dk.fresh 2) := ⟨rfl, rfl⟩
  obtain ⟨w1, e1⟩ := mwrite_calm c0 rfl hm
  rw [w1]
  have hs : Dk.sync (Dk.push (Dk.fresh 2) ((ver g).gen % 2) (pageOf (ver g))) = Dk.settled (Dk.push (Dk.fresh 2) ((ver g).gen % 2) (pageOf (ver g))) := rfl
  have hin : ∀ x ∈ (Dk.push (Dk.fresh 2) ((ver g).gen % 2) (pageOf (ver g))).waits, x.1 < (Dk.push (Dk.fresh 2) ((ver g).gen % 2) (pageOf (ver g))).pages.length := by
    intro x hx
    have : x = ((ver g).gen % 2, pageOf (ver g)) := by
      have hx' : x ∈ [((ver g).gen % 2, pageOf (ver g))] := hx
      simpa using hx'
    subst this
    show g % 2 < 2
    omega
  have t : ∀ k, tells (Dk.sync (Dk.push (Dk.fresh 2) ((ver g).gen % 2) (pageOf (ver g)))) k = if g % 2 = k then toldBy k (pageOf (ver g)) else none := by
    intro k
    rw [hs, tells_settled _ hin, tells_push _ _ _ _ (by show g % 2 < 2; omega), tells_fresh]
    rfl
  refine ⟨e1, rfl, rfl, ⟨rfl, rfl⟩, rfl, ?_, ?_, ?_⟩
  · rw [hs]; exact Dk.stTo_len _ _
  · rw [t, if_pos rfl, toldBy_page hm _ (by omega)]
    exact if_pos rfl
  · intro m hm'
    rw [t, if_neg (by omega)] at hm'
    cases hm'

end Go.Proofs.Ytcpgmglpgffhdaa.Mt
