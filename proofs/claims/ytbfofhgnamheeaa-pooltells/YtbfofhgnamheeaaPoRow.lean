/-
  Rows of freed pages: two cells each.
-/
import Derived.Test.YtbfofhgnamheeaaPoBase
import Derived.Test.YtbfofhgnamheeaaAppZero
namespace Go.Proofs.Ytbfofhgnamheeaa.Pq
open Go.RowKit
set_option linter.unusedVariables false

def fc (l : List Pl.F) : List Value := l.flatMap fun f => [.int .i64 f.1, .int .u64 (f.2 : Int)]
theorem fc_app (a b : List Pl.F) : fc (a ++ b) = fc a ++ fc b := by simp [fc]
theorem fc_one (f : Pl.F) : fc [f] = [.int .i64 f.1, .int .u64 (f.2 : Int)] := by simp [fc]
theorem fc_len : ∀ l : List Pl.F, (fc l).length = l.length * 2
  | [] => rfl
  | x :: l => by have := fc_len l; simp [fc] at *; omega
theorem fc_cell (l : List Pl.F) : ∀ u ∈ fc l, u.oneCell' = true := by
  intro u hu
  obtain ⟨f, _, hf⟩ := List.mem_flatMap.1 hu
  simp at hf
  rcases hf with rfl | rfl <;> rfl
theorem fc_at : ∀ (l : List Pl.F) (j : Nat) (x : Pl.F), l[j]? = some x → (fc l)[j * 2]? = some (.int .i64 x.1) ∧ (fc l)[j * 2 + 1]? = some (.int .u64 (x.2 : Int))
  | [], j, x, h => by simp at h
  | y :: l, 0, x, h => by
    simp at h; subst h
    exact ⟨rfl, rfl⟩
  | y :: l, j + 1, x, h => by
    have := fc_at l j x (by simpa using h)
    have e : (j + 1) * 2 = j * 2 + 1 + 1 := by omega
    rw [e]
    exact this
theorem fc_inv : ∀ (l : List Pl.F) (j : Nat) (u : Value), (fc l)[j]? = some u → ∃ x, l[j / 2]? = some x ∧ u = if j % 2 = 0 then .int .i64 x.1 else .int .u64 (x.2 : Int)
  | [], j, u, h => by simp [fc] at h
  | y :: l, 0, u, h => by simp [fc] at h; exact ⟨y, by simp, h.symm⟩
  | y :: l, 1, u, h => by simp [fc] at h; exact ⟨y, by simp, h.symm⟩
  | y :: l, j + 2, u, h => by
    obtain ⟨x, h1, h2⟩ := fc_inv l j u (by simpa [fc] using h)
    refine ⟨x, ?_, ?_⟩
    · have e : (j + 2) / 2 = j / 2 + 1 := by omega
      rw [e]; simpa using h1
    · have e : (j + 2) % 2 = j % 2 := by omega
      rw [e]; exact h2
/-- What a number in a freed page may be. -/
def In (f : Pl.F) : Prop := I64 f.1 ∧ f.2 < 18446744073709551616
/-- The slice value '.slice A n c' reads as the freed pages l. -/
def Fs (w : World) (A : Option Addr) (n c : Nat) (l : List Pl.F) : Prop :=
  l.length = n ∧ n ≤ c ∧ c ≤ maxLen ∧ (∀ f ∈ l, In f) ∧
  (0 < n → ∃ b off, A = some ⟨b, off, none⟩ ∧ b < w.heap.size ∧ ∀ (j : Nat) (f : Pl.F), l[j]? = some f → w.cell? ⟨b, off + j * 2, none⟩ = some (.int .i64 f.1) ∧ w.cell? ⟨b, off + j * 2 + 1, none⟩ = some (.int .u64 (f.2 : Int)))
section
variable {w w' : World} {A : Option Addr} {n c : Nat} {l : List Pl.F}
theorem Fs.off {S : Nat → Prop} (h : Fs w A n c l) (ho : Off S w w') (hn : ∀ a, A = some a → ¬ S a.block) : Fs w' A n c l := by
  obtain ⟨h1, h2, h3, h4, h5⟩ := h
  refine ⟨h1, h2, h3, h4, fun hp => ?_⟩
  obtain ⟨b, off, e, hlt, hc⟩ := h5 hp
  have hk : w'.heap[b]? = w.heap[b]? := ho.block b hlt (hn _ e)
  refine ⟨b, off, e, Nat.lt_of_lt_of_le hlt ho.size, fun j f hf => ?_⟩
  obtain ⟨a1, a2⟩ := hc j f hf
  unfold World.cell? at *
  simp only at *
  rw [hk]
  exact ⟨a1, a2⟩
theorem Fs.on (h : Fs w A n c l) (hb : Below w.heap.size w w') : Fs w' A n c l := h.off (S := fun _ => False) (Off.of_below hb) fun _ _ h => h
theorem Fs.drewN (h : Fs w A n c l) (m : Nat) : Fs (w.drewN m) A n c l := h
theorem Fs.drew (h : Fs w A n c l) : Fs w.drew A n c l := h
theorem Fs.nil_ (w : World) (A : Option Addr) (c : Nat) (hc : c ≤ maxLen) : Fs w A 0 c [] := ⟨rfl, Nat.zero_le _, hc, by simp, fun h => absurd h (by omega)⟩
theorem Fs.get (h : Fs w A n c l) {k : Nat} (hk : k < n) : ∃ b off f, A = some ⟨b, off, none⟩ ∧ b < w.heap.size ∧ l[k]? = some f ∧ In f ∧ w.cell? ⟨b, off + k * 2, none⟩ = some (.int .i64 f.1) ∧ w.cell? ⟨b, off + k * 2 + 1, none⟩ = some (.int .u64 (f.2 : Int)) := by
  obtain ⟨h1, h2, h3, h4, h5⟩ := h
  obtain ⟨b, off, e, hlt, hc⟩ := h5 (by omega)
  have hl : k < l.length := by omega
  have hx := List.getElem?_eq_getElem hl
  exact ⟨b, off, l[k], e, hlt, hx, h4 _ (List.getElem_mem hl), hc k _ hx⟩
theorem Fs.first (h : Fs w A n c l) (k : Nat) (hk : k ≤ n) : Fs w A k c (l.take k) := by
  obtain ⟨h1, h2, h3, h4, h5⟩ := h
  refine ⟨by simp; omega, by omega, h3, fun x hx => h4 x (List.mem_of_mem_take hx), fun hn => ?_⟩
  obtain ⟨b, off, e, hlt, hc⟩ := h5 (by omega)
  refine ⟨b, off, e, hlt, fun j x hx => hc j x ?_⟩
  rw [List.getElem?_take] at hx
  split at hx
  · exact hx
  · cases hx
theorem Fs.far {b off : Nat} (h : Fs w (some ⟨b, off, none⟩) n c l) (k : Nat) (hk : k ≤ n) : Fs w (some ⟨b, off + k * 2, none⟩) (n - k) (c - k) (l.drop k) := by
  obtain ⟨h1, h2, h3, h4, h5⟩ := h
  refine ⟨by simp; omega, by omega, by omega, fun x hx => h4 x (List.mem_of_mem_drop hx), fun hn => ?_⟩
  obtain ⟨b', off', e, hlt, hc⟩ := h5 (by omega)
  injection e with e
  injection e with e1 e2
  subst e1 e2
  refine ⟨_, _, rfl, hlt, fun j x hx => ?_⟩
  rw [List.getElem?_drop] at hx
  have := hc (k + j) x hx
  rw [show off + k * 2 + j * 2 = off + (k + j) * 2 by omega]
  exact this
theorem fs_own {base : Nat} {v : Value} (h : w.ownsRow base 57 2 v l.length (fc l)) (hb : ∀ f ∈ l, In f) : ∃ A c, v = .slice A l.length c ∧ Fs w A l.length c l := by
  rcases h.2 with ⟨hv, h0⟩ | ⟨g, cap, cur, hv, _, hg, hnc, hcm, _, _⟩
  · have : l = [] := List.eq_nil_of_length_eq_zero h0
    subst this
    exact ⟨none, 0, hv, Fs.nil_ _ _ _ (by unfold maxLen; omega)⟩
  · refine ⟨_, _, hv, rfl, hnc, hcm, hb, fun _ => ⟨g, 0, rfl, (Array.getElem?_eq_some_iff.1 hg).1, fun j x hx => ?_⟩⟩
    subst hv
    have hj : j < l.length := (List.getElem?_eq_some_iff.1 hx).1
    have a := fc_at l j x hx
    have hl := fc_len l
    have c0 := (h.cellAt (j * 2) (by omega)).trans a.1
    have c1 := (h.cellAt (j * 2 + 1) (by omega)).trans a.2
    rw [Nat.zero_add]
    exact ⟨c0, c1⟩
theorem fs_news {b off : Nat} (h : Fs w (some ⟨b, off, none⟩) n c l) : ∀ (j : Nat) (u : Value), (fc l)[j]? = some u → w.cell? ((⟨b, off, none⟩ : Addr).add j) = some u := by
  obtain ⟨h1, _, _, _, h5⟩ := h
  intro j u hu
  obtain ⟨x, hx, rfl⟩ := fc_inv l j u hu
  have hj : j / 2 < l.length := (List.getElem?_eq_some_iff.1 hx).1
  obtain ⟨b', off', hh, _, hc⟩ := h5 (by omega)
  injection hh with hh
  injection hh with hb ho
  subst hb ho
  obtain ⟨a1, a2⟩ := hc _ x hx
  have hadd : (⟨b, off, none⟩ : Addr).add j = ⟨b, off + j, none⟩ := by
    by_cases hj0 : j = 0
    · subst hj0; simp [Addr.add]
    · simp [Addr.add, hj0]
  rw [hadd]
  by_cases he : j % 2 = 0
  · rw [if_pos he]
    rw [show off + j = off + j / 2 * 2 by omega]; exact a1
  · rw [if_neg he]
    rw [show off + j = off + j / 2 * 2 + 1 by omega]; exact a2
end
theorem infoF : (Try.prog.info? 57).map (fun i => (i.zero, i.size, i.bytes)) = some (some (.agg #[.int .i64 0, .int .u64 0]), 2, 16) := by kernel_rfl
/-- Freed pages are appended to a row of the call's own. -/
theorem run_append_fs (w : World) (base : Nat) (ty : TypeId) (v : Value) (xs : List Pl.F) (hown : w.ownsRow base 57 2 v xs.length (fc xs)) (A : Option Addr) (m c : Nat) (l : List Pl.F) (hr : Fs w A m c l) (hsum : xs.length + m ≤ 100000) (hbase : base ≤ w.heap.size) :
    ∃ v' w', (Builtin.append_ #[22, 22] ty #[v, .slice A m c]).run Try.prog w = .ok v' w' ∧ w'.ownsRow base 57 2 v' (xs ++ l).length (fc (xs ++ l)) ∧ w.grownBy w' v.ownBlock := by
  have hinfo := infoF
  cases hi : Try.prog.info? 57 with
  | none => rw [hi] at hinfo; cases hinfo
  | some i =>
    rw [hi] at hinfo
    simp only [Option.map_some, Option.some.injEq, Prod.mk.injEq] at hinfo
    obtain ⟨hz, hs, hby⟩ := hinfo
    have hrl := hr.1
    rw [List.length_append, fc_app, hrl]
    match A, hr with
    | none, hr =>
      have hm : m = 0 := by
        rcases Nat.eq_zero_or_pos m with h0 | h0
        · exact h0
        · obtain ⟨_, _, hh, _⟩ := hr.2.2.2.2 h0
          cases hh
      subst hm
      have hl : l = [] := List.eq_nil_of_length_eq_zero hrl
      subst hl
      refine ⟨v, w, ?_, by simpa [fc] using hown, World.grownBy.refl w _⟩
      have ht := Try.underlying22
      rcases hown.2 with ⟨hv, hn⟩ | ⟨g, cap, cur, hv, _, _, hnc, _⟩
      · subst hv
        simp [Builtin.append_, run_underlying ht, sizeOf, typeInfo, hi, Builtin.lenOf, Builtin.firstCells]
      · subst hv
        simp [Builtin.append_, run_underlying ht, sizeOf, typeInfo, hi, Builtin.lenOf, Builtin.firstCells, hnc, storeCells]
    | some ⟨b, off, sp⟩, hr =>
      by_cases h0 : m = 0
      · subst h0
        have hl : l = [] := List.eq_nil_of_length_eq_zero hrl
        subst hl
        obtain ⟨v', w', h1, h2, h3, _⟩ := run_append_own (P := Try.prog) w base 22 ty 57 i _ 2 16 Try.underlying22 hi hz hs hby rfl (by decide) v xs.length (fc xs) hown ⟨b, off, sp⟩ 0 c [] rfl (by simp) (by simp) (by unfold maxLen; omega) (by omega) hbase
        exact ⟨v', w', h1, by rw [List.append_nil, Nat.add_zero] at h2; rw [Nat.add_zero]; show World.ownsRow _ _ _ _ _ _ (fc xs ++ []); rw [List.append_nil]; exact h2, h3⟩
      · have hsp : sp = none := by
          obtain ⟨b', off', hh, _⟩ := hr.2.2.2.2 (by omega)
          simp only [Option.some.injEq, Addr.mk.injEq] at hh
          exact hh.2.2
        subst hsp
        obtain ⟨v', w', h1, h2, h3, _⟩ := run_append_own (P := Try.prog) w base 22 ty 57 i _ 2 16 Try.underlying22 hi hz hs hby rfl (by decide) v xs.length (fc xs) hown ⟨b, off, none⟩ m c (fc l) (by rw [fc_len, hrl]) (fs_news hr) (fc_cell l) (by unfold maxLen; omega) (by omega) hbase
        exact ⟨v', w', h1, h2, h3⟩
/-- An append of which the run is known. -/
theorem wpList_append_ran {P : Program} (w : World) {ops : Array Oper} {rest : List Oper} {o : Oper} {a : Act} {Q : Exit → Act → World → Prop} (hgd : o.guard = none) (s x : Operand) (t tn : TypeId)
    (ho : o.op = .call { callee := .builtin .append, args := #[s, x], argTypes := #[t, tn] }) (vs vx : Value) (hs : a.eval s = vs) (hx : a.eval x = vx) (R : Value → World → Prop)
    (hr : ∃ v' w', (Builtin.append_ #[t, tn] o.type #[vs, vx]).run P w = .ok v' w' ∧ R v' w') (h : ∀ v' w', R v' w' → wpList P ops Q rest (a.put o.dst v') w') : wpList P ops Q (o :: rest) a w := by
  refine wpList_plain hgd fun K hK => ?_
  obtain ⟨v', w', hrun, hR⟩ := hr
  exact Lib.wp_append_run w s x t tn ho vs vx hs hx v' w' hrun (hK _ _ (h v' w' hR))
/-- One freed page, as a slice literal lays it. -/
theorem fs_new (w : World) (f : Pl.F) (hf : In f) : Fs (w.alloc (.cells #[.int .i64 f.1, .int .u64 (f.2 : Int)] 57)) (some ⟨w.heap.size, 0, none⟩) 1 1 [f] := by
  refine ⟨rfl, Nat.le_refl _, by unfold maxLen; omega, by simpa using hf, fun _ => ⟨w.heap.size, 0, rfl, by simp, fun j x hx => ?_⟩⟩
  have hj : j = 0 := by have := (List.getElem?_eq_some_iff.1 hx).1; simp at this; exact this
  subst hj
  simp at hx
  subst hx
  have hn := heap_alloc_new w (.cells #[.int .i64 f.1, .int .u64 (f.2 : Int)] 57)
  have c0 := cell_of_row _ _ 0 _ _ (0, 0) hn
  have c1 := cell_of_row _ _ 1 _ _ (0, 0) hn
  simp only [Nat.zero_mul, Nat.add_zero, Nat.zero_add]
  rw [c0, c1]
  exact ⟨rfl, rfl⟩
theorem own_form2 {w : World} {base e n : Nat} {v : Value} {xs : List Value} (h : w.ownsRow base e 2 v n xs) : ∃ A c, v = .slice A n c ∧ n ≤ c ∧ c ≤ maxLen := by
  rcases h.2 with ⟨hv, h0⟩ | ⟨g, cap, cur, hv, _, _, h1, h2, _⟩
  · subst h0; exact ⟨_, _, hv, Nat.le_refl _, Nat.zero_le _⟩
  · exact ⟨_, _, hv, h1, h2⟩
theorem own_on2 {w w' : World} {base e n : Nat} {v : Value} {xs : List Value} (h : w.ownsRow base e 2 v n xs) (hb : Below w.heap.size w w') : w'.ownsRow base e 2 v n xs :=
  h.kept (only_of hb none) (by cases hv : v.ownBlock <;> simp)

end Go.Proofs.Ytbfofhgnamheeaa.Pq
