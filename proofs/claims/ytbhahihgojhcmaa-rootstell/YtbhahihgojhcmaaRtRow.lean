/-
  Rows of roots of the call's own: appended to.
-/
import Derived.Test.YtbhahihgojhcmaaRtBase
namespace Go.Proofs.Ytbhahihgojhcmaa.Rt
open Go.RowKit
set_option linter.unusedVariables false

/-- Roots are appended to a row of the call's own. -/
theorem run_append_rs (w : World) (base : Nat) (ty : TypeId) (v : Value) (xs : List Rm.R) (hown : w.ownsRow base 34 3 v xs.length (rcs xs)) (A : Option Addr) (m c : Nat) (l : List Rm.R) (hr : Rs w A m c l) (hsum : xs.length + m ≤ 100000) (hbase : base ≤ w.heap.size) :
    ∃ v' w', (Builtin.append_ #[22, 22] ty #[v, .slice A m c]).run Try.prog w = .ok v' w' ∧ w'.ownsRow base 34 3 v' (xs ++ l).length (rcs (xs ++ l)) ∧ w.grownBy w' v.ownBlock := by
  have hinfo := infoR
  cases hi : Try.prog.info? 34 with
  | none => rw [hi] at hinfo; cases hinfo
  | some i =>
    rw [hi] at hinfo
    simp only [Option.map_some, Option.some.injEq, Prod.mk.injEq] at hinfo
    obtain ⟨hz, hs, hby⟩ := hinfo
    have hrl := hr.1
    rw [List.length_append, rcs_app, hrl]
    match A, hr with
    | none, hr =>
      have hm : m = 0 := by
        rcases Nat.eq_zero_or_pos m with h0 | h0
        · exact h0
        · obtain ⟨_, _, hh, _⟩ := hr.2.2.2.2 h0
          cases hh
      subst hm
      have hl : l = [] := List.eq_nil_of_length_eq_zero hrl
      subst hl
      refine ⟨v, w, ?_, by simpa [rcs] using hown, World.grownBy.refl w _⟩
      have ht := Try.underlying22
      rcases hown.2 with ⟨hv, hn⟩ | ⟨g, cap, cur, hv, _, _, hnc, _⟩
      · subst hv
        simp [Builtin.append_, run_underlying ht, sizeOf, typeInfo, hi, Builtin.lenOf, Builtin.firstCells]
      · subst hv
        simp [Builtin.append_, run_underlying ht, sizeOf, typeInfo, hi, Builtin.lenOf, Builtin.firstCells, hnc, storeCells]
    | some ⟨b, off, sp⟩, hr =>
      by_cases h0 : m = 0
      · subst h0
        have hl : l = [] := List.eq_nil_of_length_eq_zero hrl
        subst hl
        obtain ⟨v', w', h1, h2, h3, _⟩ := run_append_own (P := Try.prog) w base 22 ty 34 i _ 3 32 Try.underlying22 hi hz hs hby rfl (by decide) v xs.length (rcs xs) hown ⟨b, off, sp⟩ 0 c [] rfl (by simp) (by simp) (by unfold maxLen; omega) (by omega) hbase
        exact ⟨v', w', h1, by rw [List.append_nil, Nat.add_zero] at h2; rw [Nat.add_zero]; show World.ownsRow _ _ _ _ _ _ (rcs xs ++ []); rw [List.append_nil]; exact h2, h3⟩
      · have hsp : sp = none := by
          obtain ⟨b', off', hh, _⟩ := hr.2.2.2.2 (by omega)
          simp only [Option.some.injEq, Addr.mk.injEq] at hh
          exact hh.2.2
        subst hsp
        obtain ⟨v', w', h1, h2, h3, _⟩ := run_append_own (P := Try.prog) w base 22 ty 34 i _ 3 32 Try.underlying22 hi hz hs hby rfl (by decide) v xs.length (rcs xs) hown ⟨b, off, none⟩ m c (rcs l) (by rw [rcs_len, hrl]) (rs_news hr) (rcs_cell l) (by unfold maxLen; omega) (by omega) hbase
        exact ⟨v', w', h1, h2, h3⟩
/-- An append of which the run is known. -/
theorem wpList_append_ran {P : Program} (w : World) {ops : Array Oper} {rest : List Oper} {o : Oper} {a : Act} {Q : Exit → Act → World → Prop} (hgd : o.guard = none) (s x : Operand) (t tn : TypeId)
    (ho : o.op = .call { callee := .builtin .append, args := #[s, x], argTypes := #[t, tn] }) (vs vx : Value) (hs : a.eval s = vs) (hx : a.eval x = vx) (R : Value → World → Prop)
    (hr : ∃ v' w', (Builtin.append_ #[t, tn] o.type #[vs, vx]).run P w = .ok v' w' ∧ R v' w') (h : ∀ v' w', R v' w' → wpList P ops Q rest (a.put o.dst v') w') : wpList P ops Q (o :: rest) a w := by
  refine wpList_plain hgd fun K hK => ?_
  obtain ⟨v', w', hrun, hR⟩ := hr
  exact Lib.wp_append_run w s x t tn ho vs vx hs hx v' w' hrun (hK _ _ (h v' w' hR))
theorem own_form3 {w : World} {base e n : Nat} {v : Value} {xs : List Value} (h : w.ownsRow base e 3 v n xs) : ∃ A c, v = .slice A n c ∧ n ≤ c ∧ c ≤ maxLen := by
  rcases h.2 with ⟨hv, h0⟩ | ⟨g, cap, cur, hv, _, _, h1, h2, _⟩
  · subst h0; exact ⟨_, _, hv, Nat.le_refl _, Nat.zero_le _⟩
  · exact ⟨_, _, hv, h1, h2⟩
theorem own_on3 {w w' : World} {base e n : Nat} {v : Value} {xs : List Value} (h : w.ownsRow base e 3 v n xs) (hb : Below w.heap.size w w') : w'.ownsRow base e 3 v n xs :=
  h.kept (only_of hb none) (by cases hv : v.ownBlock <;> simp)

end Go.Proofs.Ytbhahihgojhcmaa.Rt
