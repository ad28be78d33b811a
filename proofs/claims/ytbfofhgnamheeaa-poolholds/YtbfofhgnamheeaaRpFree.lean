/-
  The document's Free.
-/
import Derived.Test.YtbfofhgnamheeaaRpBase
import Derived.Deep.CutBlock
namespace Go.Proofs.Ytbfofhgnamheeaa.Pq
open Go.RowKit
set_option linter.unusedVariables false

theorem pos_lt {l : List Pl.F} (hr : Pl.Rises l) {no : Int} {k : Nat} {f : Pl.F} (hf : l[k]? = some f) : k < Pl.pos l no ↔ f.1 < no := by
  constructor
  · intro hk
    refine Pl.ahead_lt (l := l) (no := no) (f := f) ?_
    refine List.mem_of_getElem? (i := k) ?_
    rw [List.getElem?_take, if_pos hk]; exact hf
  · intro h
    apply Classical.byContradiction
    intro hk
    have hm : f ∈ l.drop (Pl.pos l no) := by
      refine List.mem_of_getElem? (i := k - Pl.pos l no) ?_
      rw [List.getElem?_drop, show Pl.pos l no + (k - Pl.pos l no) = k by omega]; exact hf
    have := Pl.behind_le hr hm
    omega
theorem ins_app (l : List Pl.F) (no : Int) (g i : Nat) (h : i = Pl.pos l no) : Pl.ins l no g = (l.take i ++ [(no, g)]) ++ l.drop i := by
  subst h; unfold Pl.ins; simp
theorem own_low2 {w : World} {base base' e size n : Nat} {v : Value} {xs : List Value} (h : w.ownsRow base e size v n xs) (hb : base' ≤ base) : w.ownsRow base' e size v n xs := by
  refine ⟨h.1, ?_⟩
  rcases h.2 with h0 | ⟨g, cap, cur, hv, hg, r⟩
  · exact .inl h0
  · exact .inr ⟨g, cap, cur, hv, Nat.le_trans hb hg, r⟩
theorem own_empty' (w : World) {g base : Nat} (hg : w.heap.size = g) (hb : base ≤ g) : (w.alloc (.cells #[] 57)).ownsRow base 57 2 (.slice (some ⟨g, 0, none⟩) 0 0) ([] : List Pl.F).length (fc []) := by
  subst hg; exact own_low2 (own_empty w) hb
theorem fs_new' (w : World) {g : Nat} (hg : w.heap.size = g) (f : Pl.F) (hf : In f) : Fs (w.alloc (.cells #[.int .i64 f.1, .int .u64 (f.2 : Int)] 57)) (some ⟨g, 0, none⟩) 1 1 [f] := by subst hg; exact fs_new w f hf
/-- A row elsewhere stays where another row of the call's own is appended to. -/
theorem fs_kept {w w' : World} {b n c k : Nat} {l : List Pl.F} (h : Fs w (some ⟨b, 0, none⟩) n c l) (hg : w.grownBy w' (some k)) (hb : b ≠ k) : Fs w' (some ⟨b, 0, none⟩) n c l :=
  h.off (S := fun j => j = k) (Off.of_grown hg fun j hj => by injection hj with hj; exact hj.symm) fun a ha e => by injection ha with ha; subst ha; exact hb e

/-- Where the list is put together anew: what is known ahead. -/
structure Put (w : World) (q : Nat) (v : Value) (d : Pl.Pd) (no : Int) (g i : Nat) (s1 s2 : Value) : Prop where
  rf : Rf w q v d
  pos : i = Pl.pos d.l no
  f1 : ∃ A c, s1 = .slice A i c ∧ Fs w A i c (d.l.take i)
  f2 : ∃ A c, s2 = .slice A (d.l.length - i) c ∧ Fs w A (d.l.length - i) c (d.l.drop i)
  ok : Pl.Ok { d with l := Pl.ins d.l no g }
  no : In (no, g)
theorem put_end {w w4 : World} {q : Nat} {v v4 : Value} {d : Pl.Pd} {no : Int} {g i : Nat} (h : Rf w q v d) (hp : i = Pl.pos d.l no) (hok : Pl.Ok { d with l := Pl.ins d.l no g }) (hB : Below w.heap.size w w4)
    (hO : w4.ownsRow w.heap.size 57 2 v4 ((d.l.take i ++ [(no, g)]) ++ d.l.drop i).length (fc ((d.l.take i ++ [(no, g)]) ++ d.l.drop i))) :
    (∃ v', Rf (w4.setCell ⟨q, 2, none⟩ v4) q v' { d with l := Pl.ins d.l no g }) ∧ Off (fun k => k = q) w (w4.setCell ⟨q, 2, none⟩ v4) := by
  rw [← ins_app _ _ _ _ hp] at hO
  obtain ⟨r1, r2⟩ := rf_set h (hB.block q h.q_lt) (Off.of_below hB) hO hok
  exact ⟨⟨_, r1⟩, r2⟩

end Go.Proofs.Ytbfofhgnamheeaa.Pq
