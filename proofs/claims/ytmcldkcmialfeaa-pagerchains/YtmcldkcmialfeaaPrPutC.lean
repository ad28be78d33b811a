/-
  The program's pager: PutChain, what its loop keeps.
-/
import Derived.Test.YtmcldkcmialfeaaPrEnd
import Derived.Test.YtmcldkcmialfeaaPrChainR
namespace Go.Proofs.Ytmcldkcmialfeaa.Pr
open Go.RowKit Go.Shelf
set_option linter.unusedVariables false

/-- Put, each answer. -/
theorem put_pg (w : World) (G : Gh) (a : Pa) (h : Pgr w G a) (A : Option Addr) (n c : Nat) (pay : List Nat) (hb : Bs w A n c pay) (hA : 0 < n → ∀ b off, A = some ⟨b, off, none⟩ → ¬ G.own b) :
    Calls Try.prog 19 #[.pointer (some ⟨G.x, 0, none⟩), .slice A n c] w fun e w' => e = .returned (.tuple #[.int .i64 (putNo a pay), .int .i64 (putCode a pay)]) ∧ Pgr w' G (put a pay) ∧ Off G.own w w' := by
  by_cases hl : 1016 < pay.length
  · have hc : putCode a pay = 1 := by unfold putCode; rw [if_pos hl]
    have hn : putNo a pay = 0 := by unfold putNo; rw [hc]; rfl
    have hp : put a pay = a := by unfold put; rw [hc]; rfl
    rw [hc, hn, hp]
    refine (put_arg w G a A n c pay hb hl).mono ?_
    rintro e w' ⟨rfl, rfl⟩
    exact ⟨rfl, h, Off.refl _ _⟩
  · have hc : putCode a pay = Pl.allocCode a.pool a.hz := by unfold putCode; rw [if_neg hl]
    rcases alloc_code a.pool a.hz with h0 | ⟨h0, _⟩
    · have hn : putNo a pay = Pl.allocNo a.pool a.hz := by unfold putNo; rw [hc, h0]; rfl
      rw [hc, hn, h0]
      exact put_yes w G a A n c pay h hb hA (by omega) h0
    · have hn : putNo a pay = 0 := by unfold putNo; rw [hc, h0]; rfl
      have hp : put a pay = a := by unfold put; rw [hc, h0]; rfl
      rw [hc, hn, hp, h0]
      exact put_full w G a A n c pay h hb (by omega) h0
theorem putNo_i64 {a : Pa} (h : Ok a) (pay : List Nat) : I64 (putNo a pay) := by
  unfold putNo
  split
  · exact alloc_i64 h.pool a.hz
  · unfold I64; omega
theorem put_same {a : Pa} {pay : List Nat} (h : putCode a pay ≠ 0) : put a pay = a := if_neg h

/-- Whatever is no cells and lies at B or beyond it stays. -/
theorem kf_below {B : Nat} {W W' : World} (h : Below W.heap.size W W') : KeepsFrom B W W' :=
  ⟨h.size, fun k o _ hk _ => (h.block k (Array.getElem?_eq_some_iff.1 hk).1).trans hk⟩
theorem kf_off {B : Nat} {S : Nat → Prop} {W W' : World} (h : Off S W W') (hS : ∀ k, S k → k < B) : KeepsFrom B W W' :=
  ⟨h.size, fun k o hB hk _ => (h.block k (Array.getElem?_eq_some_iff.1 hk).1 fun e => by have := hS k e; omega).trans hk⟩
theorem kf_row {B base e size n : Nat} {W W' : World} {u : Value} {xs : List Value} (hr : W.ownsRow base e size u n xs) (h : W.grownBy W' u.ownBlock) : KeepsFrom B W W' :=
  (KeepsOthers.of_grownBy h fun j o ej hj => by
    obtain ⟨cs, hc⟩ := own_type hr ej
    rw [hc] at hj; cases hj; rfl).from B
/-- The pager stays while a block turns that is none of its own and no row of bytes. -/
theorem pgr_grown {W W' : World} {G : Gh} {a : Pa} {row : Option Nat} (h : Pgr W G a) (hg : W.grownBy W' row) (hrow : ∀ k, row = some k → ¬ G.own k ∧ ∀ cs m, W.heap[k]? ≠ some (.cells cs 5 m)) : Pgr W' G a :=
  h.off (Off.of_grown (S := fun k => row = some k) hg fun k hk => hk) (fun k cs m hk => (hrow k hk).2 cs m) fun k hk e => (hrow k e).1 hk

/-- What PutChain's boxes hold: h: the heap's size when it was called. -/
structure St (w : World) (G : Gh) (sl : Value) (W : World) (a : Pa) (r1 r2 nx : Int) (u : Value) : Prop where
  own : ∀ k, G.own k → k < w.heap.size
  pg : Pgr W G a
  off : Off G.own w W
  bp : Boxed W w.heap.size 31 (.pointer (some ⟨G.x, 0, none⟩))
  b1 : Boxed W (w.heap.size + 1) 3 (.int .i64 r1)
  b2 : Boxed W (w.heap.size + 2) 26 (.int .i64 r2)
  nx : Boxed W (w.heap.size + 3) 3 (.int .i64 nx)
  pt : Boxed W (w.heap.size + 4) 37 u
  bv : Boxed W (w.heap.size + 5) 22 sl
section
variable {w W W' : World} {G : Gh} {sl : Value} {a a' : Pa} {r1 r2 nx : Int} {u u' : Value}
theorem boxed_below {B : Nat} {t : TypeId} {v : Value} (h : Boxed W B t v) (hb : Below W.heap.size W W') : Boxed W' B t v := (hb.block B h.lt).trans h
theorem boxed_off {B : Nat} {S : Nat → Prop} {t : TypeId} {v : Value} (h : Boxed W B t v) (ho : Off S W W') (hn : ¬ S B) : Boxed W' B t v := ho.at_ h hn
theorem St.size (h : St w G sl W a r1 r2 nx u) : w.heap.size + 6 ≤ W.heap.size := h.bv.lt
theorem St.below (h : St w G sl W a r1 r2 nx u) (hb : Below W.heap.size W W') : St w G sl W' a r1 r2 nx u :=
  ⟨h.own, h.pg.on hb, h.off.trans (Off.of_below hb), boxed_below h.bp hb, boxed_below h.b1 hb, boxed_below h.b2 hb, boxed_below h.nx hb, boxed_below h.pt hb, boxed_below h.bv hb⟩
theorem St.done (h : St w G sl W a r1 r2 nx u) (hp : Pgr W' G a') (ho : Off G.own W W') : St w G sl W' a' r1 r2 nx u := by
  have hn : ∀ k, ¬ G.own (w.heap.size + k) := fun k hk => by have := h.own _ hk; omega
  exact ⟨h.own, hp, h.off.trans ho, boxed_off h.bp ho (hn 0), boxed_off h.b1 ho (hn 1), boxed_off h.b2 ho (hn 2), boxed_off h.nx ho (hn 3), boxed_off h.pt ho (hn 4), boxed_off h.bv ho (hn 5)⟩
/-- A block turns that is none of the boxes and no row of bytes. -/
theorem St.grown {row : Option Nat} (h : St w G sl W a r1 r2 nx u) (hg : W.grownBy W' row) (hrow : ∀ k, row = some k → w.heap.size ≤ k ∧ ¬ k < w.heap.size + 6 ∧ ∀ cs m, W.heap[k]? ≠ some (.cells cs 5 m)) : St w G sl W' a r1 r2 nx u := by
  have hn : ∀ k, k < 6 → some (w.heap.size + k) ≠ row := fun k hk e => by have := (hrow _ e.symm).2.1; omega
  have ho : Off (fun k => row = some k) W W' := Off.of_grown hg fun k hk => hk
  refine ⟨h.own, pgr_grown h.pg hg fun k hk => ⟨fun e => ?_, (hrow k hk).2.2⟩, h.off.trans' ho fun k hk => .inr (hrow k hk).1, h.bp.kept hg (hn 0 (by omega)), h.b1.kept hg (hn 1 (by omega)), h.b2.kept hg (hn 2 (by omega)), h.nx.kept hg (hn 3 (by omega)), h.pt.kept hg (hn 4 (by omega)), h.bv.kept hg (hn 5 (by omega))⟩
  have := h.own k e; have := (hrow k hk).1; omega
theorem boxed_no8 {B : Nat} {t : TypeId} {v : Value} (h : Boxed W B t v) (ht : t ≠ 5) : ∀ cs m, W.heap[B]? ≠ some (.cells cs 5 m) := by
  intro cs m hh
  rw [show W.heap[B]? = _ from h] at hh
  injection hh with hh
  injection hh with _ h2
  exact ht h2
theorem box_other {B C : Nat} {t : TypeId} {v x : Value} (h : Boxed W B t v) (hne : B ≠ C) : Boxed (W.setCell ⟨C, 0, none⟩ x) B t v := h.kept (grownBy_setCell' W C x) (by simpa using hne)
theorem St.set (h : St w G sl W a r1 r2 nx u) {C : Nat} {t : TypeId} {v0 : Value} (x : Value) (hb : Boxed W (w.heap.size + C) t v0) (ht : t ≠ 5) : Pgr (W.setCell ⟨w.heap.size + C, 0, none⟩ x) G a ∧ Off G.own w (W.setCell ⟨w.heap.size + C, 0, none⟩ x) := by
  have hg := grownBy_setCell' W (w.heap.size + C) x
  refine ⟨pgr_grown h.pg hg fun k hk => ?_, h.off.trans' (Off.of_grown (S := fun k => some (w.heap.size + C) = some k) hg fun k hk => hk) fun k hk => .inr ?_⟩
  · injection hk with hk
    subst hk
    exact ⟨fun e => by have := h.own _ e; omega, boxed_no8 hb ht⟩
  · injection hk with hk
    omega
theorem St.set1 (h : St w G sl W a r1 r2 nx u) (x : Int) : St w G sl (W.setCell ⟨w.heap.size + 1, 0, none⟩ (.int .i64 x)) a x r2 nx u := by
  obtain ⟨p, o⟩ := h.set (.int .i64 x) h.b1 (by decide)
  exact ⟨h.own, p, o, box_other h.bp (by omega), h.b1.set _, box_other h.b2 (by omega), box_other h.nx (by omega), box_other h.pt (by omega), box_other h.bv (by omega)⟩
theorem St.set2 (h : St w G sl W a r1 r2 nx u) (x : Int) : St w G sl (W.setCell ⟨w.heap.size + 2, 0, none⟩ (.int .i64 x)) a r1 x nx u := by
  obtain ⟨p, o⟩ := h.set (.int .i64 x) h.b2 (by decide)
  exact ⟨h.own, p, o, box_other h.bp (by omega), box_other h.b1 (by omega), h.b2.set _, box_other h.nx (by omega), box_other h.pt (by omega), box_other h.bv (by omega)⟩
theorem St.set3 (h : St w G sl W a r1 r2 nx u) (x : Int) : St w G sl (W.setCell ⟨w.heap.size + 3, 0, none⟩ (.int .i64 x)) a r1 r2 x u := by
  obtain ⟨p, o⟩ := h.set (.int .i64 x) h.nx (by decide)
  exact ⟨h.own, p, o, box_other h.bp (by omega), box_other h.b1 (by omega), box_other h.b2 (by omega), h.nx.set _, box_other h.pt (by omega), box_other h.bv (by omega)⟩
theorem St.set4 (h : St w G sl W a r1 r2 nx u) (x : Value) : St w G sl (W.setCell ⟨w.heap.size + 4, 0, none⟩ x) a r1 r2 nx x := by
  obtain ⟨p, o⟩ := h.set x h.pt (by decide)
  exact ⟨h.own, p, o, box_other h.bp (by omega), box_other h.b1 (by omega), box_other h.b2 (by omega), box_other h.nx (by omega), h.pt.set _, box_other h.bv (by omega)⟩
/-- The list of the pages that were put grows. -/
theorem St.app (h : St w G sl W a r1 r2 nx u) {n : Nat} {xs : List Value} (hr : W.ownsRow (w.heap.size + 6) 3 1 u n xs) (hg : W.grownBy W' u.ownBlock) : St w G sl W' a r1 r2 nx u := by
  refine h.grown hg fun k hk => ?_
  obtain ⟨cs, hc⟩ := own_type hr hk
  have := (hr.lt k hk).1
  exact ⟨by omega, by omega, fun cs' m hh => by rw [hc] at hh; simp at hh⟩
theorem St.kpb (h : St w G sl W a r1 r2 nx u) {a2 : Pa} {s1 s2 ny : Int} {u2 : Value} (h' : St w G sl W' a2 s1 s2 ny u2) : KpB (w.heap.size + 5) W W' := fun o ho => by
  rw [show W.heap[w.heap.size + 5]? = _ from h.bv] at ho
  injection ho with ho
  rw [← ho]
  exact h'.bv
/-- What the loop's own book-keeping turns is nothing of these. -/
theorem St.kept {row : Option Nat} (h : St w G sl W a r1 r2 nx u) (hg : W.grownBy W' row) (hr : ∀ r, row = some r → w.heap.size + 6 ≤ r ∧ ∃ o : Obj, W.heap[r]? = some o ∧ o.isCells = false) : St w G sl W' a r1 r2 nx u :=
  h.grown hg fun k hk => by
    obtain ⟨h1, o, h2, h3⟩ := hr k hk
    exact ⟨by omega, by omega, fun cs m hh => by rw [h2] at hh; injection hh with hh; rw [hh] at h3; cases h3⟩
theorem row_kept {row : Option Nat} {base e size n : Nat} {v : Value} {xs : List Value} (h : W.ownsRow base e size v n xs) (hg : W.grownBy W' row) (hr : ∀ r, row = some r → ∃ o : Obj, W.heap[r]? = some o ∧ o.isCells = false) : W'.ownsRow base e size v n xs :=
  (Off.of_grown (S := fun k => row = some k) hg fun k hk => hk).own h fun k hk e => by
    obtain ⟨cs, hc⟩ := own_type h hk
    obtain ⟨o, ho, hf⟩ := hr k e
    rw [hc] at ho
    injection ho with ho
    rw [← ho] at hf
    cases hf
end

/-- Between two rounds. -/
structure Putting2 (w : World) (G : Gh) (a : Pa) (sl : Value) (W : World) (s : Pa × Int × List Int) (ps : List (List Nat)) : Prop where
  go : ∀ rest, putC (a, 0, []) (ps ++ rest) = putC s rest
  len : s.2.2.length = ps.length
  inx : I64 s.2.1
  nums : ∀ z ∈ s.2.2, I64 z
  st : ∃ u, St w G sl W s.1 0 0 s.2.1 u ∧ W.ownsRow (w.heap.size + 6) 3 1 u s.2.2.length (zv s.2.2)
/-- Where a round has said that there is no room. -/
structure Shut2 (w : World) (G : Gh) (a : Pa) (sl : Value) (W : World) (ps : List (List Nat)) : Prop where
  st : ∃ (b : Pa) (c nx : Int) (u : Value), (∀ rest, putC (a, 0, []) (ps ++ rest) = (b, 0, c)) ∧ St w G sl W b 0 c nx u
theorem putting_own {w : World} {G : Gh} {a : Pa} {sl : Value} {β : Type} (f : β → List (List Nat)) : OwnFrom (w.heap.size + 6) (fun (pre : β) W => ∃ s, Putting2 w G a sl W s (f pre)) := by
  rintro pre W W' row ⟨s, h⟩ hg hr
  obtain ⟨u, hS, hR⟩ := h.st
  exact ⟨s, h.go, h.len, h.inx, h.nums, u, hS.kept hg hr, row_kept hR hg fun r hrw => (hr r hrw).2⟩
theorem shut_own {w : World} {G : Gh} {a : Pa} {sl : Value} {β : Type} (P : Prop) (f : β → List (List Nat)) : OwnFrom (w.heap.size + 6) (fun (pre : β) W => P ∧ Shut2 w G a sl W (f pre)) := by
  rintro pre W W' row ⟨hP, h⟩ hg hr
  obtain ⟨b, c, nx, u, h1, hS⟩ := h.st
  exact ⟨hP, b, c, nx, u, h1, hS.kept hg hr⟩
theorem Putting2.next {w : World} {G : Gh} {a : Pa} {sl : Value} {W W' : World} {s : Pa × Int × List Int} {ps : List (List Nat)} {p : List Nat} {u : Value} (h : Putting2 w G a sl W s ps) (hc : codeC s p = 0) (hok : Ok s.1)
    (hS : St w G sl W' (stepC s p).1 0 0 (stepC s p).2.1 u) (hR : W'.ownsRow (w.heap.size + 6) 3 1 u (stepC s p).2.2.length (zv (stepC s p).2.2)) : Putting2 w G a sl W' (stepC s p) (ps ++ [p]) := by
  refine ⟨fun rest => ?_, ?_, putNo_i64 hok _, fun z hz => ?_, u, hS, hR⟩
  · rw [List.append_assoc, List.singleton_append, h.go, putC_yes hc]
  · show (s.2.2 ++ [_]).length = _
    rw [List.length_append, List.length_append, h.len]; rfl
  · rcases List.mem_append.1 hz with h1 | h1
    · exact h.nums z h1
    · simp at h1; subst h1; exact putNo_i64 hok _
theorem Putting2.shut {w : World} {G : Gh} {a : Pa} {sl : Value} {W W' : World} {s : Pa × Int × List Int} {ps : List (List Nat)} {p : List Nat} {nx : Int} {u : Value} (h : Putting2 w G a sl W s ps) (hc : codeC s p ≠ 0)
    (hS : St w G sl W' (dropAll s.1 s.2.2) 0 (codeC s p) nx u) : Shut2 w G a sl W' (ps ++ [p]) :=
  ⟨_, _, nx, u, fun rest => by rw [List.append_assoc, List.singleton_append, h.go, putC_no hc], hS⟩

end Go.Proofs.Ytmcldkcmialfeaa.Pr
