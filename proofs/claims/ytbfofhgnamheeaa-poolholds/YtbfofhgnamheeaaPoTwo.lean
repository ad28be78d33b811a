/-
  The two pools side by side.
-/
import Derived.Test.YtbfofhgnamheeaaRpNew
import Derived.Test.YtbfofhgnamheeaaRpTrim
import Derived.Test.YtbfofhgnamheeaaPoFrees
import Derived.Test.YtbfofhgnamheeaaPoClone
namespace Go.Proofs.Ytbfofhgnamheeaa.Pq
open Go.RowKit
set_option linter.unusedVariables false

/-- The program's pool holds d, the document's e; all of it is new since w. -/
structure Tw (w wr : World) (p mb q : Nat) (d e : Pl.Pd) : Prop where
  po : Po wr p mb d
  rf : ∃ v, Rf wr q v e
  hp : w.heap.size ≤ p
  hm : w.heap.size ≤ mb
  hq : w.heap.size ≤ q
  bel : Below w.heap.size w wr
section
variable {w wr w1 : World} {p mb q : Nat} {d e d1 : Pl.Pd}
theorem mine_free (hP : Po wr p mb d) {k : Nat} {cs : Array Value} {t : TypeId} {m : Nat × Nat} (hk : wr.heap[k]? = some (.cells cs t m)) (ht : t ≠ 63) : ¬ Mine p mb k := by
  rintro (rfl | rfl)
  · rw [hP.str] at hk; simp at hk; exact ht hk.2.1.symm
  · obtain ⟨es, c, hb⟩ := hP.map.block
    rw [hb] at hk; cases hk
theorem rf_mine {v : Value} (hP : Po wr p mb d) (hR : Rf wr q v e) (ho : Off (Mine p mb) wr w1) : Rf w1 q v e :=
  hR.off ho (mine_free hP hR.str (by decide)) fun k hk => by
    obtain ⟨cs, hc⟩ := own_type hR.own hk
    exact mine_free hP hc (by decide)
theorem Tw.on (h : Tw w wr p mb q d e) (hb : Below wr.heap.size wr w1) : Tw w w1 p mb q d e := by
  obtain ⟨v, hR⟩ := h.rf
  exact ⟨h.po.on hb, ⟨v, hR.on hb⟩, h.hp, h.hm, h.hq, onto h.bel hb⟩
theorem Tw.drewN (h : Tw w wr p mb q d e) (m : Nat) : Tw w (wr.drewN m) p mb q d e := h.on (below_drewN (Below.refl _ _) m)
theorem Tw.left (h : Tw w wr p mb q d e) (hP : Po w1 p mb d1) (ho : Off (Mine p mb) wr w1) : Tw w w1 p mb q d1 e := by
  obtain ⟨v, hR⟩ := h.rf
  exact ⟨hP, ⟨v, rf_mine h.po hR ho⟩, h.hp, h.hm, h.hq, off_below h.bel ho h.hp h.hm⟩
theorem Tw.right (h : Tw w wr p mb q d e) (hR : ∃ v, Rf w1 q v d1) (ho : Off (fun k => k = q) wr w1) : Tw w w1 p mb q d d1 := by
  obtain ⟨v, hR0⟩ := h.rf
  refine ⟨h.po.off ho fun k hk hkq => ?_, hR, h.hp, h.hm, h.hq, h.bel.trans (ho.below (B := w.heap.size) (by rintro k rfl; exact h.hq) h.bel.size)⟩
  subst hkq
  exact mine_free h.po hR0.str (by decide) hk
end

end Go.Proofs.Ytbfofhgnamheeaa.Pq
