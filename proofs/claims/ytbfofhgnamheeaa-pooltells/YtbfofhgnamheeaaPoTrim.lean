/-
  Trim.
-/
import Derived.Test.YtbfofhgnamheeaaPoBase
namespace Go.Proofs.Ytbfofhgnamheeaa.Pq
open Go.RowKit
set_option linter.unusedVariables false

/-- 'delete(m, k)' in a region that draws its order. -/
theorem step_delete_own {P : Program} {w : World} {ops : Array Oper} {o : Oper} {a : Act} {K : Act → World → Prop} {Q : Exit → Act → World → Prop} {E : Prop} (hgd : o.guard = none) (m x : Operand) (t k : TypeId)
    (hop : o.op = Op.call { callee := Callee.builtin Builtin.delete, args := #[m, x], argTypes := #[t, k] }) (e : TypeId) (Kd : Maps.Keyed P k) (ht : P.underlying t = some (.map k e)) (R : Value → Option (DataW Value × List MemPlace)) (b n : Nat) (D : DataW Value)
    (hm : a.eval m = .map (some b)) (hown : w.ownsMap P k R b n D) (key : Value) (kl : Lit) (hx : a.eval x = key) (hkey : keyOf P k key = some kl)
    (hK : ∀ w', w'.ownsMap P k R b n (D.del kl) → w.mapTurned w' b → K (a.put o.dst (.tuple #[])) w') :
    if Region.wanted o (yielded ops a.tmps) = true then Oper.wp P o a w K Q else E := by
  have hw : Region.wanted o (yielded ops a.tmps) = true := by simp [Region.wanted, hgd]
  rw [if_pos hw]
  obtain ⟨w', hrun, r1, r2⟩ := hown.drop Kd ht hkey o.type
  unfold Oper.wp
  simp [execOp, hop, resolve, invoke, builtin, hm, hx, hrun, Result.andThen]
  exact hK w' r1 r2

theorem goes_may {w : World} {p mb : Nat} {d : Pl.Pd} (h : Po w p mb d) (hz : Nat) : may d.l (d.high - 1) hz = decide (Pl.goes d hz) := by
  by_cases h2 : 2 < d.high
  · cases hl : Pl.look d.l (d.high - 1) with
    | none => rw [may_none hl, eq_comm, decide_eq_false_iff_not]; rintro ⟨_, g, hg, _⟩; rw [hl] at hg; cases hg
    | some g =>
      rw [may_some hl, decide_eq_decide]
      constructor
      · intro hg; exact ⟨h2, g, hl, hg⟩
      · rintro ⟨_, g', hg', hle⟩; rw [hl] at hg'; injection hg' with hg'; subst hg'; exact hle
  · have hl : Pl.look d.l (d.high - 1) = none := Pl.look_none.2 fun ⟨f, hf, he⟩ => by
      have := h.ok.ins f hf; have := h.ok.two; omega
    rw [may_none hl, eq_comm, decide_eq_false_iff_not]; rintro ⟨h3, _⟩; exact h2 h3
theorem set_high {w : World} {p mb : Nat} {d : Pl.Pd} (h : Po w p mb d) (x : Int) :
    (w.setCell ⟨p, 1, none⟩ (.int .i64 x)).heap[p]? = some (.cells #[.int .i64 d.cap, .int .i64 x, .map (some mb)] 63 (0, 0)) ∧ Mp (w.setCell ⟨p, 1, none⟩ (.int .i64 x)) mb d.l ∧ Off (Mine p mb) w (w.setCell ⟨p, 1, none⟩ (.int .i64 x)) := by
  refine ⟨?_, ?_, (Off.refl _ w).set _ (.inl rfl)⟩
  · rw [heap_setCell_same w p 1 _ _ _ h.str]; simp
  · exact h.map.at_ (heap_setCell_other w _ mb _ h.ne)

theorem po_cut {w w3 : World} {p mb : Nat} {e : Pl.Pd} {i : Nat} {x : Pl.F} {hi : Int} (hs : w3.heap[p]? = some (.cells #[.int .i64 e.cap, .int .i64 hi, .map (some mb)] 63 (0, 0))) (he : Pl.Ok e) (hx : e.l[i]? = some x)
    (M : w3.ownsMap Try.prog 3 (plainElem Try.prog 34) mb e.l.length ((md e.l).del (lk x.1))) (hok : Pl.Ok { e with high := hi, l := Pl.cut e.l i }) : Po w3 p mb { e with high := hi, l := Pl.cut e.l i } := by
  refine ⟨hs, ?_, hok⟩
  rw [del_md he.rises hx (World.ownsMap.canon M keyed)] at M
  have := own_size M
  rw [size_md] at this
  exact this
theorem po_off {w w3 : World} {p mb hz : Nat} {e : Pl.Pd} (hs : w3.heap[p]? = some (.cells #[.int .i64 e.cap, .int .i64 (e.high - 1), .map (some mb)] 63 (0, 0))) (he : Pl.Ok e) (hg : Pl.goes e hz)
    (M : w3.ownsMap Try.prog 3 (plainElem Try.prog 34) mb e.l.length ((md e.l).del (lk (e.high - 1)))) : Po w3 p mb (Pl.off e) := by
  obtain ⟨_, x, hx, hx1, _⟩ := (Pl.goes_iff he hz).1 hg
  rw [← hx1] at M
  exact po_cut (w := w) hs he hx M (Pl.off_ok he hg)

/-- The high mark, as it lies in memory. -/
def hiOf (p : Nat) (w : World) : Nat := match w.cell? ⟨p, 1, none⟩ with
  | some (.int _ x) => x.toNat
  | _ => 0
theorem hiOf_po {w : World} {p mb : Nat} {d : Pl.Pd} (h : Po w p mb d) : hiOf p w = d.high.toNat := by unfold hiOf; rw [h.c1]

set_option maxRecDepth 100000 in
theorem trim_any (w : World) (p mb : Nat) (d : Pl.Pd) (hz : Nat) (h : Po w p mb d) :
    Calls Try.prog 16 #[.pointer (some ⟨p, 0, none⟩), .int .u64 (hz : Int)] w fun e w' => e = .returned (.int .i64 ((Pl.trim d hz).2 : Int)) ∧ Po w' p mb (Pl.trim d hz).1 ∧ Off (Mine p mb) w w' := by
  have H := Lib.hid h
  have c1 := h.c1
  have hd2 := h.ok.two
  have hdc := h.ok.high
  have hdm := h.ok.cap
  have HT := Lib.hid (rfl : Pl.trim d hz = Pl.trim d hz)
  clear h
  go_enter Try.func16, Try.ntmps16
  go_wp2_with fail
  go_loopw [10] (fun _ wr => ∃ e : Pl.Pd, Po wr p mb e ∧ Off (Mine p mb) w wr ∧ e.high ≤ d.high ∧ (Pl.trim d hz).1 = (Pl.trim e hz).1 ∧ ((Pl.trim d hz).2 : Int) = ((Pl.trim e hz).2 : Int) + (d.high - e.high)) (fun _ wr => hiOf p wr)
  case atStart => exact ⟨d, H.out, Off.refl _ _, Int.le_refl _, rfl, by omega⟩
  case round =>
    obtain ⟨e, he, ho, hle, t1, t2⟩ := hrel
    have HE := Lib.hid he
    have HO := Lib.hid ho
    have d1 := he.c1
    have d2 := he.c2
    have e2 := he.ok.two
    have ec := he.ok.high
    have em := he.ok.cap
    have C := Lib.hid (mayUse_map wr p mb e.l (e.high - 1) hz d2 he.map ⟨by omega, by omega⟩)
    rw [goes_may he] at C
    have f1 := he.frz 1
    clear he ho c1
    by_cases hg : Pl.goes e hz
    · have ht := Pl.trim_goes hg
      have hok := Pl.off_ok HE.out.ok hg
      have hgg := hg
      rw [decide_eq_true hg] at C
      have HG := Lib.hid hg
      have T := Lib.hid (And.intro t1 (And.intro t2 ht))
      clear t1 t2 ht hg hgg
      have HK := Lib.hid hok
      clear hok
      go_wp2_with fail
      refine C.out.mono ?_
      rintro e' w' ⟨rfl, rfl⟩
      go_wp2_with fail
      obtain ⟨s1, s2, s3⟩ := set_high HE.out (e.high - 1)
      generalize (wr.setCell ⟨p, 1, none⟩ (.int .i64 (e.high - 1))) = w2 at s1 s2 s3 ⊢
      have S1 := Lib.hid s1
      have S2 := Lib.hid s2
      have S3 := Lib.hid s3
      have g1 := cell_of_row w2 _ 1 _ _ (0, 0) s1
      have g2 := cell_of_row w2 _ 2 _ _ (0, 0) s1
      simp at g1 g2
      clear s1 s2 s3 d1 d2 f1
      go_region_law (first
        | (refine step_delete_own rfl (.tmp 28) (.tmp 32) 61 3 rfl 34 keyed Try.underlying61 (plainElem Try.prog 34) mb e.l.length (md e.l) (by simp [Act.eval]) (by exact S2.out) (.int .i64 (e.high - 1)) (lk (e.high - 1)) (by simp [Act.eval]) (key_of ⟨by omega, by omega⟩) ?_; intro w3 M3 g3))
      all_goals
        have hs3 := (g3.grown.block p (Array.getElem?_eq_some_iff.1 S1.out).1 (fun e' => by injection e' with e'; exact HE.out.ne e'.symm)).trans S1.out
        have hpo := po_off (w := wr) hs3 HE.out.ok HG.out M3
        have hof : Off (Mine p mb) w w3 := (HO.out.trans S3.out.drew).trans (off_grown g3.grown)
        obtain ⟨t1, t2, t3⟩ := T.out
        rw [t3] at t1 t2
        have q1 := hiOf_po hpo
        have q2 := hiOf_po HE.out
        go_wp2
        go_roundw
        case rel => exact ⟨Pl.off e, hpo, hof, by show e.high - 1 ≤ d.high; omega, t1, by rw [t2]; show _ = _ + (d.high - (e.high - 1)); push_cast; omega⟩
        case measure => rw [q1, q2]; show (e.high - 1).toNat < _; omega
    · have hst := Pl.trim_stays hg
      rw [decide_eq_false hg] at C
      have T := Lib.hid (And.intro t1 (And.intro t2 hst))
      clear t1 t2 hst hg
      go_wp2_with fail
      refine C.out.mono ?_
      rintro e' w' ⟨rfl, rfl⟩
      go_wp2
      go_ret
      obtain ⟨t1, t2, t3⟩ := T.out
      rw [t3] at t1 t2
      refine ⟨?_, ?_, HO.out⟩
      · rw [t2]; simp
      · rw [t1]; exact HE.out

end Go.Proofs.Ytbfofhgnamheeaa.Pq
