/-
  What a page's value reads as; rows of pairs.
-/
/-
  The program's disk in memory; what only asks or arms.
-/
/-
  The program's disk: copyOf, Read, Safe, forget.
-/
/-
  The program's disk: forget, Write.
-/
/-
  The program's disk: Write, walked.
-/
/-
  The program's disk: Sync.
-/
/-
  The program's disk: Crash.
-/
/-
  The program's disk: Waiting, New.
-/
/-
  A disk that stands at one place while it is written: the contracts once more, for whoever holds one.
-/
import Derived.Test.YtmcldkcmialfeaaPgCopy
import Derived.Test.YtmcldkcmialfeaaGrPl9
import Derived.Test.YtmcldkcmialfeaaOffB
import Derived.Maps.OwnSet
import Derived.Deep.AppendLies
import Derived.Deep.RegionLaw
import Derived.Deep.RegionHeld3
import Derived.BigRegion
namespace Go.Proofs.Ytmcldkcmialfeaa
open Go.RowKit
set_option linter.unusedVariables false

/-- The value v is a page's bytes l, in a block of bytes. -/
structure PgV (w : World) (v : Value) (l : List Nat) : Prop where
  len : l.length = 1024
  lt : ∀ x ∈ l, x < 256
  own : w.ownsRow 0 5 1 v 1024 (bv l)
/-- .. or none, for a page of zeros. -/
def SfV (w : World) (v : Value) (l : List Nat) : Prop := (v = .slice none 0 0 ∧ l = List.replicate 1024 0) ∨ PgV w v l
/-- No block of S is a row of bytes. -/
def Free (S : Nat → Prop) (w : World) : Prop := ∀ k cs m, S k → w.heap[k]? ≠ some (.cells cs 5 m)
section
variable {S : Nat → Prop} {w w1 : World} {v : Value} {l : List Nat}
theorem PgV.off (h : PgV w v l) (ho : Off S w w1) (hf : Free S w) : PgV w1 v l :=
  ⟨h.len, h.lt, ho.own h.own fun k hk hs => by obtain ⟨cs, hc⟩ := own_type h.own hk; exact hf k _ _ hs hc⟩
theorem SfV.off (h : SfV w v l) (ho : Off S w w1) (hf : Free S w) : SfV w1 v l := h.imp id fun h => h.off ho hf
theorem PgV.on (h : PgV w v l) (hb : Below w.heap.size w w1) : PgV w1 v l := ⟨h.len, h.lt, own_on h.own hb⟩
theorem SfV.on (h : SfV w v l) (hb : Below w.heap.size w w1) : SfV w1 v l := h.imp id fun h => h.on hb
theorem PgV.form (h : PgV w v l) : ∃ g c, v = .slice (some ⟨g, 0, none⟩) 1024 c ∧ Bs w (some ⟨g, 0, none⟩) 1024 c l ∧ 1024 ≤ c ∧ c ≤ maxLen := by
  rcases h.own.2 with ⟨_, h0⟩ | ⟨g, cap, cur, hv, _, hg, h1, h2, _⟩
  · cases h0
  · subst hv
    exact ⟨g, cap, rfl, own_bs h.own h.len h.lt, h1, h2⟩
theorem PgV.of_row {g : Nat} (h : Row w g l) (hn : l.length = 1024) (hl : ∀ x ∈ l, x < 256) : PgV w (.slice (some ⟨g, 0, none⟩) 1024 1024) l :=
  ⟨hn, hl, h.own (Nat.zero_le _) hn (by unfold maxLen; omega)⟩
theorem SfV.len (h : SfV w v l) : l.length = 1024 := by
  rcases h with ⟨_, rfl⟩ | h
  · exact List.length_replicate
  · exact h.len
theorem SfV.lt (h : SfV w v l) : ∀ x ∈ l, x < 256 := by
  rcases h with ⟨_, rfl⟩ | h
  · intro x hx; have := List.eq_of_mem_replicate hx; omega
  · exact h.lt
/-- A slice of bytes which, filled up with zeros, is the page. -/
theorem SfV.src (h : SfV w v l) : ∃ A n c l0, v = .slice A n c ∧ Bs w A n c l0 ∧ n ≤ 1024 ∧ l0 ++ List.replicate (1024 - n) 0 = l := by
  rcases h with ⟨rfl, rfl⟩ | h
  · exact ⟨none, 0, 0, [], rfl, Bs.nil_ _ _ _ (by unfold maxLen; omega), by omega, by rw [List.nil_append, Nat.sub_zero]⟩
  · obtain ⟨g, c, rfl, hb, _⟩ := h.form
    exact ⟨_, _, _, l, rfl, hb, Nat.le_refl _, by rw [Nat.sub_self, List.replicate_zero, List.append_nil]⟩
theorem PgV.one (h : PgV w v l) : v.oneCell' = true := by obtain ⟨g, c, rfl, _⟩ := h.form; rfl
theorem SfV.one (h : SfV w v l) : v.oneCell' = true := by
  rcases h with ⟨rfl, _⟩ | h
  · rfl
  · exact h.one
end

/-- Writes as cells: two each. -/
def wc (xs : List (Nat × Value)) : List Value := xs.flatMap fun x => [.int .i64 (x.1 : Int), x.2]
theorem wc_snoc (l : List (Nat × Value)) (no : Nat) (v : Value) : wc (l ++ [(no, v)]) = wc l ++ [.int .i64 (no : Int), v] := by simp [wc]
theorem wc_len (l : List (Nat × Value)) : (wc l).length = l.length * 2 := by
  induction l with
  | nil => rfl
  | cons x l ih => simp [wc] at *; omega
theorem wc_at : ∀ (l : List (Nat × Value)) (j : Nat) (x : Nat × Value), l[j]? = some x → (wc l)[j * 2]? = some (.int .i64 (x.1 : Int)) ∧ (wc l)[j * 2 + 1]? = some x.2
  | [], j, x, h => by simp at h
  | y :: l, 0, x, h => by
    simp at h; subst h
    exact ⟨rfl, rfl⟩
  | y :: l, j + 1, x, h => by
    have := wc_at l j x (by simpa using h)
    have e : (j + 1) * 2 = j * 2 + 1 + 1 := by omega
    rw [e]
    exact this
/-- A row of writes, and what they say. -/
structure Ws (w : World) (t : TypeId) (v : Value) (ws : List (Nat × List Nat)) (xs : List (Nat × Value)) : Prop where
  own : w.ownsRow 0 t 2 v ws.length (wc xs)
  along : Along (fun (x : Nat × Value) (y : Nat × List Nat) => x.1 = y.1 ∧ PgV w x.2 y.2) xs ws
section
variable {w w1 : World} {t : TypeId} {v : Value} {ws : List (Nat × List Nat)} {xs : List (Nat × Value)}
theorem Ws.form (h : Ws w t v ws xs) : ∃ A c, v = .slice A ws.length c ∧ ws.length ≤ c ∧ c ≤ maxLen := by
  rcases h.own.2 with ⟨hv, h0⟩ | ⟨g, cap, cur, hv, _, _, h1, h2, _⟩
  · rw [h0]; exact ⟨_, _, hv, Nat.le_refl _, Nat.zero_le _⟩
  · exact ⟨_, _, hv, h1, h2⟩
theorem Ws.get (h : Ws w t v ws xs) {k : Nat} (hk : k < ws.length) : ∃ g c no u l, v = .slice (some ⟨g, 0, none⟩) ws.length c ∧ ws.length ≤ c ∧ ws[k]? = some (no, l) ∧ PgV w u l ∧
    w.cell? ⟨g, k * 2, none⟩ = some (.int .i64 (no : Int)) ∧ w.cell? ⟨g, k * 2 + 1, none⟩ = some u := by
  obtain ⟨x, y, hx, hy, he, hp⟩ := h.along.get hk
  have ho := h.own
  rcases ho.2 with ⟨_, h0⟩ | ⟨g, cap, cur, hv, _, hg, h1, h2, hcs, htk⟩
  · omega
  · subst hv
    have a := wc_at xs k x hx
    have c0 := (ho.cellAt (k * 2) (by omega)).trans a.1
    have c1 := (ho.cellAt (k * 2 + 1) (by omega)).trans a.2
    rw [he] at c0
    exact ⟨g, cap, y.1, x.2, y.2, rfl, h1, hy, hp, c0, c1⟩
theorem Ws.off {S : Nat → Prop} (h : Ws w t v ws xs) (ho : Off S w w1) (hf : Free S w) (hn : ∀ k, v.ownBlock = some k → ¬ S k) : Ws w1 t v ws xs :=
  ⟨ho.own h.own hn, h.along.mono fun x y hr => ⟨hr.1, hr.2.off ho hf⟩⟩
theorem Ws.on (h : Ws w t v ws xs) (hb : Below w.heap.size w w1) : Ws w1 t v ws xs :=
  h.off (S := fun _ => False) (Off.of_below hb) (fun _ _ _ h => h.elim) fun _ _ h => h
end
/-- A row of pages, and what they say. -/
structure Ss (w : World) (v : Value) (ps : List (List Nat)) (vs : List Value) : Prop where
  own : w.ownsRow 0 22 1 v ps.length vs
  along : Along (SfV w) vs ps
section
variable {w w1 : World} {v : Value} {ps : List (List Nat)} {vs : List Value}
theorem Ss.form (h : Ss w v ps vs) : ∃ A c, v = .slice A ps.length c ∧ ps.length ≤ c ∧ c ≤ maxLen := own_form h.own
theorem Ss.get (h : Ss w v ps vs) {k : Nat} (hk : k < ps.length) : ∃ g c u l, v = .slice (some ⟨g, 0, none⟩) ps.length c ∧ ps.length ≤ c ∧ ps[k]? = some l ∧ SfV w u l ∧ w.cell? ⟨g, k, none⟩ = some u := by
  obtain ⟨x, y, hx, hy, hp⟩ := h.along.get hk
  have ho := h.own
  rcases ho.2 with ⟨_, h0⟩ | ⟨g, cap, cur, hv, _, hg, h1, h2, hcs, htk⟩
  · omega
  · subst hv
    have c0 := (ho.cellAt k (by omega)).trans hx
    exact ⟨g, cap, x, y, rfl, h1, hy, hp, c0⟩
theorem Ss.off {S : Nat → Prop} (h : Ss w v ps vs) (ho : Off S w w1) (hf : Free S w) (hn : ∀ k, v.ownBlock = some k → ¬ S k) : Ss w1 v ps vs :=
  ⟨ho.own h.own hn, h.along.mono fun x y hr => hr.off ho hf⟩
theorem Ss.on (h : Ss w v ps vs) (hb : Below w.heap.size w w1) : Ss w1 v ps vs :=
  h.off (S := fun _ => False) (Off.of_below hb) (fun _ _ _ h => h.elim) fun _ _ h => h
/-- One page is set. -/
theorem Ss.put {g n c : Nat} (h : Ss w (.slice (some ⟨g, 0, none⟩) n c) ps vs) (k : Nat) {u : Value} {l : List Nat} (hu : SfV w u l) : Ss (w.setCell ⟨g, k, none⟩ u) (.slice (some ⟨g, 0, none⟩) n c) (ps.set k l) (vs.set k u) := by
  have hn : n = ps.length := by
    obtain ⟨A, c', hv, _⟩ := h.form
    injection hv
  subst hn
  have s := h.own.stored k u
  have hfree : Free (fun j => j = g) w := by
    intro j cs m hj hh
    subst hj
    obtain ⟨cs', hc⟩ := own_type h.own (k := j) rfl
    rw [hc] at hh; simp at hh
  have ho : Off (fun j => j = g) w (w.setCell ⟨g, k, none⟩ u) := Off.of_grown s.2 (fun j hj => by injection hj with hj; exact hj.symm)
  refine ⟨by rw [List.length_set]; exact s.1, ?_⟩
  exact (h.along.mono fun x y hr => hr.off ho hfree).set k (hu.off ho hfree)
theorem Ss.frozen {g n c : Nat} (h : Ss w (.slice (some ⟨g, 0, none⟩) n c) ps vs) (k : Nat) : w.frozen? ⟨g, k, none⟩ = false := by
  have hn : n = ps.length := by
    obtain ⟨A, c', hv, _⟩ := h.form
    injection hv
  subst hn
  exact h.own.frozenAt k
end

end Go.Proofs.Ytmcldkcmialfeaa
namespace Go.Proofs.Ytmcldkcmialfeaa
open Go.RowKit
set_option linter.unusedVariables false

/-- Where a disk lies. -/
structure Hd where
  p : Nat
  mb : Nat
  sv : Value
  wv : Value
def Hd.own (H : Hd) (k : Nat) : Prop := k = H.p ∨ k = H.mb ∨ H.sv.ownBlock = some k ∨ H.wv.ownBlock = some k
/-- A map's element stands for itself. -/
def hold (v : Value) : Option (DataW Value × List MemPlace) := some (.held v, [])
def key (no : Nat) : Lit := .int .i64 (no : Int)
/-- What the map above what is safe holds. -/
structure Seen (w : World) (mb : Nat) (d : Dk.Pd) (M : DataW Value) : Prop where
  map : w.ownsMap Try.prog 3 hold mb d.waits.length M
  has : ∀ no : Nat, no < d.pages.length → Maps.has M (key no) = d.waits.any (fun x => x.1 == no)
  at_ : ∀ no : Nat, no < d.pages.length → d.waits.any (fun x => x.1 == no) = true → ∃ v, M.atKey (key no) (.held (.slice none 0 0)) = .held v ∧ PgV w v (Dk.seen d no)
/-- The program's disk in memory. -/
structure Dsk (w : World) (H : Hd) (d : Dk.Pd) : Prop where
  str : w.heap[H.p]? = some (.cells #[H.sv, H.wv, .map (some H.mb), .int .i64 (d.left : Int), .bool d.down] 65 (0, 0))
  safe : ∃ vs, Ss w H.sv d.pages vs
  waits : ∃ xs, Ws w 86 H.wv d.waits xs
  seen : ∃ M, Seen w H.mb d M
  ins : ∀ x ∈ d.waits, x.1 < d.pages.length
  few : d.pages.length ≤ 2048
  low : d.left < 9223372036854775808

theorem Off.map_ {S : Nat → Prop} {w w1 : World} (h : Off S w w1) {P : Program} {k b n : Nat} {R : Value → Option (DataW Value × List MemPlace)} {D : DataW Value} (hm : w.ownsMap P k R b n D) (hn : ¬ S b) : w1.ownsMap P k R b n D := by
  obtain ⟨es, clock, hb, r⟩ := hm
  exact ⟨es, clock, h.at_ hb hn, r⟩
theorem map_block {w : World} {P : Program} {k b n : Nat} {R : Value → Option (DataW Value × List MemPlace)} {D : DataW Value} (hm : w.ownsMap P k R b n D) : ∃ es c, w.heap[b]? = some (.map es c) := by
  obtain ⟨es, clock, hb, _⟩ := hm
  exact ⟨_, _, hb⟩

section
variable {w w1 : World} {H : Hd} {d : Dk.Pd}
theorem Dsk.lt (h : Dsk w H d) {k : Nat} (hk : H.own k) : k < w.heap.size := by
  obtain ⟨vs, hs⟩ := h.safe
  obtain ⟨xs, hw⟩ := h.waits
  obtain ⟨M, hm⟩ := h.seen
  rcases hk with rfl | rfl | hk | hk
  · exact (Array.getElem?_eq_some_iff.1 h.str).1
  · exact hm.map.lt
  · exact own_lt hs.own hk
  · exact own_lt hw.own hk
theorem Dsk.free (h : Dsk w H d) : Free H.own w := by
  obtain ⟨vs, hs⟩ := h.safe
  obtain ⟨xs, hw⟩ := h.waits
  obtain ⟨M, hm⟩ := h.seen
  intro k cs m hk hh
  rcases hk with rfl | rfl | hk | hk
  · rw [h.str] at hh; simp at hh
  · obtain ⟨es, c, hb⟩ := map_block hm.map; rw [hb] at hh; cases hh
  · obtain ⟨cs', hc⟩ := own_type hs.own hk; rw [hc] at hh; simp at hh
  · obtain ⟨cs', hc⟩ := own_type hw.own hk; rw [hc] at hh; simp at hh
/-- The disk stays while nothing of its own is touched. -/
theorem Dsk.off {S : Nat → Prop} (h : Dsk w H d) (ho : Off S w w1) (hf : Free S w) (hn : ∀ k, H.own k → ¬ S k) : Dsk w1 H d := by
  obtain ⟨vs, hs⟩ := h.safe
  obtain ⟨xs, hw⟩ := h.waits
  obtain ⟨M, hm⟩ := h.seen
  exact ⟨ho.at_ h.str (hn _ (.inl rfl)), ⟨vs, hs.off ho hf fun k hk => hn k (.inr (.inr (.inl hk)))⟩, ⟨xs, hw.off ho hf fun k hk => hn k (.inr (.inr (.inr hk)))⟩,
    ⟨M, ho.map_ hm.map (hn _ (.inr (.inl rfl))), hm.has, fun no h1 h2 => by obtain ⟨v, h3, h4⟩ := hm.at_ no h1 h2; exact ⟨v, h3, h4.off ho hf⟩⟩, h.ins, h.few, h.low⟩
theorem Dsk.on (h : Dsk w H d) (hb : Below w.heap.size w w1) : Dsk w1 H d :=
  h.off (S := fun _ => False) (Off.of_below hb) (fun _ _ _ h => h.elim) fun _ _ h => h
theorem Dsk.drewN (h : Dsk w H d) (m : Nat) : Dsk (w.drewN m) H d := h.on (below_drewN (Below.refl _ _) m)
theorem Dsk.frz (h : Dsk w H d) (j : Nat) : w.frozen? ⟨H.p, j, none⟩ = false := frozen_of_row w H.p j _ _ h.str
theorem Dsk.c0 (h : Dsk w H d) : w.cell? ⟨H.p, 0, none⟩ = some H.sv := cell_of_row w _ 0 _ _ (0, 0) h.str
theorem Dsk.c1 (h : Dsk w H d) : w.cell? ⟨H.p, 1, none⟩ = some H.wv := cell_of_row w _ 1 _ _ (0, 0) h.str
theorem Dsk.c2 (h : Dsk w H d) : w.cell? ⟨H.p, 2, none⟩ = some (.map (some H.mb)) := cell_of_row w _ 2 _ _ (0, 0) h.str
theorem Dsk.c3 (h : Dsk w H d) : w.cell? ⟨H.p, 3, none⟩ = some (.int .i64 (d.left : Int)) := cell_of_row w _ 3 _ _ (0, 0) h.str
theorem Dsk.c4 (h : Dsk w H d) : w.cell? ⟨H.p, 4, none⟩ = some (.bool d.down) := cell_of_row w _ 4 _ _ (0, 0) h.str
/-- The struct's own block is none of the others. -/
theorem Dsk.p_sv (h : Dsk w H d) {k : Nat} (hk : H.sv.ownBlock = some k) : k ≠ H.p := by
  rintro rfl
  obtain ⟨vs, hs⟩ := h.safe
  obtain ⟨cs', hc⟩ := own_type hs.own hk; rw [h.str] at hc; simp at hc
theorem Dsk.p_wv (h : Dsk w H d) {k : Nat} (hk : H.wv.ownBlock = some k) : k ≠ H.p := by
  rintro rfl
  obtain ⟨vs, hs⟩ := h.waits
  obtain ⟨cs', hc⟩ := own_type hs.own hk; rw [h.str] at hc; simp at hc
theorem Dsk.p_mb (h : Dsk w H d) : H.mb ≠ H.p := by
  intro e
  obtain ⟨M, hm⟩ := h.seen
  obtain ⟨es, c, hb⟩ := map_block hm.map; rw [e, h.str] at hb; cases hb
theorem Dsk.p_free (h : Dsk w H d) : Free (fun k => k = H.p) w := by
  intro k cs m hk hh
  subst hk
  rw [h.str] at hh; simp at hh
/-- The two numbers are written. -/
theorem Dsk.turn (h : Dsk w H d) (ho : Off (fun k => k = H.p) w w1) {e : Dk.Pd} (hp : e.pages = d.pages) (hw : e.waits = d.waits) (hl : e.left < 9223372036854775808)
    (hs : w1.heap[H.p]? = some (.cells #[H.sv, H.wv, .map (some H.mb), .int .i64 (e.left : Int), .bool e.down] 65 (0, 0))) : Dsk w1 H e := by
  obtain ⟨vs, hsf⟩ := h.safe
  obtain ⟨xs, hwt⟩ := h.waits
  obtain ⟨M, hm⟩ := h.seen
  have hf := h.p_free
  refine ⟨hs, ⟨vs, ?_⟩, ⟨xs, ?_⟩, ⟨M, ?_⟩, by rw [hw, hp]; exact h.ins, by rw [hp]; exact h.few, hl⟩
  · rw [hp]; exact hsf.off ho hf fun k hk => h.p_sv hk
  · rw [hw]; exact hwt.off ho hf fun k hk => h.p_wv hk
  · refine ⟨by rw [hw]; exact ho.map_ hm.map h.p_mb, by rw [hw, hp]; exact hm.has, ?_⟩
    rw [hw, hp]
    intro no h1 h2
    obtain ⟨v, h3, h4⟩ := hm.at_ no h1 h2
    exact ⟨v, h3, by rw [Dk.seen_eq hp hw]; exact h4.off ho hf⟩
end

theorem has_any (w : World) (H : Hd) (d : Dk.Pd) (no : Int) (h : Dsk w H d) :
    Calls Try.prog 72 #[.pointer (some ⟨H.p, 0, none⟩), .int .i64 no] w fun e w' => e = .returned (.bool (decide (Dk.has d no))) ∧ w = w' := by
  obtain ⟨vs, hs⟩ := h.safe
  obtain ⟨A, c, hv, _, _⟩ := hs.form
  have c0 := h.c0
  rw [hv] at c0
  clear hs hv h
  generalize hn : d.pages.length = n at *
  have hd : decide (Dk.has d no) = decide (0 ≤ no ∧ no < (n : Int)) := by rw [decide_eq_decide]; unfold Dk.has; rw [hn]
  rw [hd]
  clear hn hd
  by_cases h0 : 0 ≤ no
  · by_cases h1 : no < (n : Int)
    · have hd : decide (0 ≤ no ∧ no < (n : Int)) = true := by simp; omega
      rw [hd]
      clear hd
      go_enter Try.func72, Try.ntmps72
      go_wp2
      go_ret
      exact ⟨rfl, rfl⟩
    · have hd : decide (0 ≤ no ∧ no < (n : Int)) = false := by simp; omega
      rw [hd]
      clear hd
      have hf : decide (no < (n : Int)) = false := by simp; omega
      go_enter Try.func72, Try.ntmps72
      go_wp2
      go_ret
      exact ⟨rfl, rfl⟩
  · have hd : decide (0 ≤ no ∧ no < (n : Int)) = false := by simp; omega
    rw [hd]
    clear hd
    have hf : decide (0 ≤ no) = false := by simp; omega
    go_enter Try.func72, Try.ntmps72
    go_wp2
    go_ret
    exact ⟨rfl, rfl⟩

theorem str_set {w : World} {p : Nat} {a0 a1 a2 a3 a4 : Value} {t : TypeId} (h : w.heap[p]? = some (.cells #[a0, a1, a2, a3, a4] t (0, 0))) (v : Value) :
    (w.setCell ⟨p, 1, none⟩ v).heap[p]? = some (.cells #[a0, v, a2, a3, a4] t (0, 0)) ∧ (w.setCell ⟨p, 3, none⟩ v).heap[p]? = some (.cells #[a0, a1, a2, v, a4] t (0, 0)) ∧ (w.setCell ⟨p, 4, none⟩ v).heap[p]? = some (.cells #[a0, a1, a2, a3, v] t (0, 0)) :=
  ⟨heap_setCell_same w p 1 _ t v h, heap_setCell_same w p 3 _ t v h, heap_setCell_same w p 4 _ t v h⟩

/-- One more act, the power being there. -/
theorem act_any (w : World) (H : Hd) (d : Dk.Pd) (h : Dsk w H d) (hd : d.down = false) :
    Calls Try.prog 39 #[.pointer (some ⟨H.p, 0, none⟩)] w fun e w' => e = .returned (.int .i64 (Dk.code (Dk.act d))) ∧ Dsk w' H (Dk.act d) ∧ Off (fun k => k = H.p) w w' := by
  have c3 := h.c3
  have c4 := h.c4
  have f3 := h.frz 3
  have f4 := h.frz 4
  have hlow := h.low
  have hs := h.str
  rw [hd] at c4
  by_cases h0 : d.left = 0
  · have e : Dk.act d = d := by unfold Dk.act; rw [if_pos h0]
    have e2 : Dk.code d = 0 := by unfold Dk.code; rw [hd]; rfl
    rw [e, e2]
    have HD := Lib.hid h
    rw [h0] at c3
    clear h hs hlow e e2
    go_enter Try.func39, Try.ntmps39
    go_wp2
    go_ret
    exact ⟨rfl, HD.out, Off.refl _ _⟩
  · obtain ⟨m, hm⟩ : ∃ m, d.left = m + 1 := ⟨d.left - 1, by omega⟩
    have e : Dk.act d = { d with left := m, down := decide (m = 0) } := by
      unfold Dk.act
      rw [if_neg h0, hm]
      simp
    have hs1 := (str_set h.str (.int .i64 (m : Int))).2.1
    have hs2 := (str_set hs1 (.bool (decide (m = 0)))).2.2
    have ho : Off (fun k => k = H.p) w ((w.setCell ⟨H.p, 3, none⟩ (.int .i64 (m : Int))).setCell ⟨H.p, 4, none⟩ (.bool (decide (m = 0)))) := ((Off.refl (fun k => k = H.p) w).set _ rfl).set _ rfl
    have HD := Lib.hid (h.turn (e := { d with left := m, down := decide (m = 0) }) ho rfl rfl (by show m < _; omega) hs2)
    have HO := Lib.hid ho
    rw [e]
    rw [hm] at c3
    have wm : wrap64 ((m : Int) + 1 - 1) = (m : Int) := by rw [show (m : Int) + 1 - 1 = (m : Int) from by omega]; exact IntWalk.wrap64_in _ ⟨by omega, by omega⟩
    have gm : ((m : Int) + 1) > 0 := by omega
    have c3' : w.cell? ⟨H.p, 3, none⟩ = some (.int .i64 ((m : Int) + 1)) := by rw [c3]; simp
    clear h hs hs1 hs2 ho c3 e
    by_cases hz : m = 0
    · subst hz
      have ec : Dk.code { d with left := 0, down := decide (0 = 0) } = 3 := rfl
      rw [ec]
      have e1 : (((0 : Nat) : Int) == 0) = true := rfl
      go_enter Try.func39, Try.ntmps39
      go_wp2
      go_ret
      exact ⟨rfl, HD.out, HO.out⟩
    · have hz' : decide (m = 0) = false := by simp; omega
      have ec : Dk.code { d with left := m, down := decide (m = 0) } = 0 := by unfold Dk.code; simp [hz]
      rw [ec]
      have e1 : ((m : Int) == 0) = false := by simp; omega
      rw [hz'] at HD HO
      rw [hz']
      clear hz hz' ec
      go_enter Try.func39, Try.ntmps39
      go_wp2
      go_ret
      exact ⟨rfl, HD.out, HO.out⟩

end Go.Proofs.Ytmcldkcmialfeaa
namespace Go.Proofs.Ytmcldkcmialfeaa
open Go.RowKit
set_option linter.unusedVariables false

theorem splice_part (n m : Nat) (l : List Nat) (h : l.length = m) (hm : m ≤ n) : splice (List.replicate n 0) 0 l = l ++ List.replicate (n - m) 0 := by
  subst h
  simp [splice]
set_option maxRecDepth 100000 in
theorem copyD_bs (w : World) (A : Option Addr) (n c : Nat) (l : List Nat) (hb : Bs w A n c l) (hn : n ≤ 1024) :
    Calls Try.prog 73 #[.slice A n c] w fun e w' => e = .returned (.slice (some ⟨w.heap.size, 0, none⟩) 1024 1024) ∧ Row w' w.heap.size (l ++ List.replicate (1024 - n) 0) ∧ Below w.heap.size w w' := by
  obtain ⟨i0, hi, hz0, hz1, hz2⟩ := info_parts Try.info5
  have hsz : (Try.prog.info? 5).map (·.size) = some 1 := by rw [show Try.prog.info? 5 = _ from hi]; simp [hz1]
  have HB := Lib.hid hb
  have hl := hb.1
  have HL := Lib.hid hl
  clear hl hb
  go_enter Try.func73, Try.ntmps73
  go_wp2_with (first
    | (refine wpList_make_full _ rfl _ _ 22 rfl w.heap.size 5 i0 (.int .u8 0) 1 Try.underlying22 hi hz0 hz1 .i64 .i64 _ _ 1024 rfl rfl rfl rfl (by rw [hz2]; omega) (by unfold maxLen; omega) (Nat.le_refl _) ?_; intro w1 hown hgrow; rw [made_zero] at hown; have R1 := Lib.hid (Row.of_own hown); have B1 := (Below.refl w.heap.size w).grown hgrow (Nat.le_refl _) (fun k hk => by cases hk); have S1 := Lib.hid (HB.out.on B1); clear hown hgrow)
    | (refine wpList_copy_splice (o := ⟨some 7, _, _, _, _, _⟩) rfl (.tmp 5) (.tmp 6) 22 22 rfl 5 Try.underlying22 hsz _ _ _ _ _ _ rfl rfl w.heap.size 0 (bv (List.replicate 1024 0)) 5 R1.out (bv l) (by rw [bv_len, HL.out]; exact (Nat.min_eq_left hn).symm) (fun h => ⟨rfl, S1.out.src h⟩) (by rw [bv_len, bv_len, HL.out, List.length_replicate]; omega) (bv_one l) w.heap.size w B1 (Nat.le_refl _) ?_; intro w2 HG hB))
  go_ret
  refine ⟨rfl, ?_, hB⟩
  have := HG.out
  rwa [splice_bv, splice_part 1024 n l HL.out hn] at this
theorem copyD_any (w : World) (v : Value) (l : List Nat) (h : SfV w v l) :
    Calls Try.prog 73 #[v] w fun e w' => ∃ g, e = .returned (.slice (some ⟨g, 0, none⟩) 1024 1024) ∧ w.heap.size ≤ g ∧ Row w' g l ∧ Below w.heap.size w w' := by
  obtain ⟨A, n, c, l0, rfl, hb, hn, rfl⟩ := h.src
  refine (copyD_bs w A n c l0 hb hn).mono ?_
  rintro e w' ⟨rfl, hr, hB⟩
  exact ⟨_, rfl, Nat.le_refl _, hr, hB⟩


theorem read_no (w : World) (H : Hd) (d : Dk.Pd) (no : Int) (h : Dsk w H d) (hn : ¬ Dk.has d no) :
    Calls Try.prog 55 #[.pointer (some ⟨H.p, 0, none⟩), .int .i64 no] w fun e w' => e = .returned (.tuple #[.slice none 0 0, .int .i64 1]) ∧ w = w' := by
  have hd : decide (Dk.has d no) = false := by simpa using hn
  go_enter Try.func55, Try.ntmps55
  go_wp2_with fail
  refine (has_any w H d no h).mono ?_
  rintro e w1 ⟨rfl, rfl⟩
  rw [hd]
  clear hd h hn
  go_wp2
  go_ret2
  exact ⟨rfl, rfl⟩
theorem keyed : Maps.Keyed Try.prog 3 := Maps.int_keyed Try.underlying3
theorem zeroS (w : World) : (zeroValue 22).run Try.prog w = .ok (.slice none 0 0) w := by kernel_rfl
theorem key_of {no : Nat} (h : no < 9223372036854775808) : keyOf Try.prog 3 (.int .i64 (no : Int)) = some (key no) := Maps.keyOf_int_mk Try.underlying3 (WalkArith.wf_i64 (by omega))
theorem look_at {w : World} {mb : Nat} {d : Dk.Pd} {M : DataW Value} (h : Seen w mb d M) {no : Nat} (hn : no < 2048) :
    ∃ v, (Instr.lookup 62 (.map (some mb)) (.int .i64 (no : Int)) true).run Try.prog w = .ok (.tuple #[v, .bool (Maps.has M (key no))]) w ∧ M.atKey (key no) (.held (.slice none 0 0)) = .held v := by
  obtain ⟨v, ps, h1, h2⟩ := h.map.look_ok keyed Try.underlying62 (zeroS w) (zd := .held (.slice none 0 0)) (zp := []) rfl (key_of (no := no) (by omega))
  refine ⟨v, h1, ?_⟩
  simp only [hold, Option.some.injEq, Prod.mk.injEq] at h2
  exact h2.1.symm

theorem read_any (w : World) (H : Hd) (d : Dk.Pd) (no : Nat) (h : Dsk w H d) (hn : no < d.pages.length) :
    Calls Try.prog 55 #[.pointer (some ⟨H.p, 0, none⟩), .int .i64 (no : Int)] w fun e w' => ∃ g, e = .returned (.tuple #[.slice (some ⟨g, 0, none⟩) 1024 1024, .int .i64 0]) ∧ w.heap.size ≤ g ∧ (Dk.seen d no).length = 1024 ∧ (∀ x ∈ Dk.seen d no, x < 256) ∧ Row w' g (Dk.seen d no) ∧ Below w.heap.size w w' := by
  have hd : decide (Dk.has d (no : Int)) = true := by simp [Dk.has]; omega
  obtain ⟨vs, hs⟩ := h.safe
  obtain ⟨M, hM⟩ := h.seen
  have hfew := h.few
  obtain ⟨v, hrun, hat⟩ := look_at hM (no := no) (by omega)
  have hhas := hM.has no hn
  have c0 := h.c0
  have c2 := h.c2
  by_cases ha : d.waits.any (fun x => x.1 == no) = true
  · obtain ⟨v', h1, h2⟩ := hM.at_ no hn ha
    rw [hat] at h1
    injection h1 with h1
    subst h1
    rw [hhas, ha] at hrun
    have HV := Lib.hid h2
    clear hM hs hat hhas ha h2
    go_enter Try.func55, Try.ntmps55
    go_wp2_with fail
    refine (has_any w H d no h).mono ?_
    rintro e w1 ⟨rfl, rfl⟩
    rw [hd]
    clear hd h hn
    go_wp2_with fail
    refine (copyD_any _ _ _ (.inr HV.out)).mono ?_
    rintro e w2 ⟨g2, rfl, hg2, R2, B2⟩
    have HN := Lib.hid HV.out.len
    have HT := Lib.hid HV.out.lt
    clear HV
    go_wp2
    go_ret2
    exact ⟨g2, rfl, hg2, HN.out, HT.out, R2, B2⟩
  · have ha' : d.waits.any (fun x => x.1 == no) = false := Bool.eq_false_iff.2 ha
    obtain ⟨g, c, u, l, hv, hc, hl, hu, cu⟩ := hs.get hn
    have hse : Dk.seen d no = l := by
      unfold Dk.seen; rw [Dk.seen_none d no ha', List.getD_eq_getElem?_getD, hl]; rfl
    rw [hse]
    rw [hv] at c0
    rw [hhas, ha'] at hrun
    have z1 : (no : Int) < (d.pages.length : Int) := by omega
    clear hs hv hl hM hat hhas ha ha' hse
    go_enter Try.func55, Try.ntmps55
    go_wp2_with fail
    refine (has_any w H d no h).mono ?_
    rintro e w1 ⟨rfl, rfl⟩
    rw [hd]
    clear hd h hn
    go_wp2_with fail
    refine (copyD_any _ _ _ hu).mono ?_
    rintro e w2 ⟨g2, rfl, hg2, R2, B2⟩
    have HN := Lib.hid hu.len
    have HT := Lib.hid hu.lt
    clear hu
    go_wp2
    go_ret2
    exact ⟨g2, rfl, hg2, HN.out, HT.out, R2, B2⟩

/-- 'clear(m)'. -/
theorem map_clear {w : World} {P : Program} {k b n t e : Nat} {R : Value → Option (DataW Value × List MemPlace)} {D : DataW Value} (hm : w.ownsMap P k R b n D) (ht : P.underlying t = some (.map k e)) :
    ∃ w', (∀ ty, (Builtin.clear_ #[t] ty #[.map (some b)]).run P w = .ok (.tuple #[]) w') ∧ w'.ownsMap P k R b 0 (.map []) ∧ w.grownBy w' (some b) := by
  obtain ⟨es, clock, hb, _⟩ := hm
  refine ⟨ChangeMaps.setBlock w b (.map #[] clock), fun ty => ?_, ⟨#[], clock, ChangeMaps.heap_setBlock_same hb _, ⟨by simp, MapKept.stamped_empty clock, by simp⟩, Nat.le_refl _, rfl⟩, ⟨rfl, rfl, rfl, by simp [ChangeMaps.setBlock], fun i _ hi => ChangeMaps.heap_setBlock_other hb _ (fun e => hi (by rw [e]))⟩⟩
  simp [Builtin.clear_, run_underlying ht, MapKept.run_getObj_map hb, MapKept.run_setObj_map _ hb, Result.andThen]
  rfl
theorem wpList_clear_own {P : Program} (w : World) {ops : Array Oper} {rest : List Oper} {o : Oper} {a : Act} {Q : Exit → Act → World → Prop} (hg : o.guard = none) (m : Operand) (t : TypeId)
    (hop : o.op = Op.call { callee := Callee.builtin Builtin.clear, args := #[m], argTypes := #[t] }) (b : Nat) (hm : a.eval m = .map (some b)) (w' : World) (hrun : ∀ ty, (Builtin.clear_ #[t] ty #[.map (some b)]).run P w = .ok (.tuple #[]) w')
    (hK : wpList P ops Q rest (a.put o.dst (.tuple #[])) w') : wpList P ops Q (o :: rest) a w := by
  refine wpList_plain hg fun K' hK' => ?_
  unfold Oper.wp
  simp [execOp, hop, resolve, invoke, builtin, hm, hrun o.type, Result.andThen]
  exact hK' _ _ hK

end Go.Proofs.Ytmcldkcmialfeaa
namespace Go.Proofs.Ytmcldkcmialfeaa
open Go.RowKit
set_option linter.unusedVariables false

/-- The disk of H is written, and is the one of H' then. -/
structure Step (w : World) (H : Hd) (w' : World) (H' : Hd) : Prop where
  off : Off H.own w w'
  same : H'.p = H.p
  own : ∀ k, H'.own k → H.own k ∨ w.heap.size ≤ k
theorem Step.refl (w : World) (H : Hd) : Step w H w H := ⟨Off.refl _ _, rfl, fun _ => .inl⟩
theorem Step.trans {w w1 w2 : World} {H H1 H2 : Hd} (h : Step w H w1 H1) (h2 : Step w1 H1 w2 H2) : Step w H w2 H2 :=
  ⟨h.off.trans' h2.off h.own, h2.same.trans h.same, fun k hk => by
    rcases h2.own k hk with a | a
    · exact h.own k a
    · exact .inr (Nat.le_trans h.off.size a)⟩
theorem Step.of_p {w w' : World} {H : Hd} (h : Off (fun k => k = H.p) w w') : Step w H w' H := ⟨h.mono fun k hk => .inl (.inl hk), rfl, fun _ => .inl⟩
theorem Step.of_below {w w' : World} {H : Hd} (h : Below w.heap.size w w') : Step w H w' H := ⟨Off.of_below h, rfl, fun _ => .inl⟩

/-- What a write touches. -/
def Hd.wr (H : Hd) (k : Nat) : Prop := k = H.p ∨ k = H.mb ∨ H.wv.ownBlock = some k
section
variable {w w1 : World} {H : Hd} {d : Dk.Pd}
theorem Hd.wr_own {k : Nat} (h : H.wr k) : H.own k := by
  rcases h with h | h | h
  · exact .inl h
  · exact .inr (.inl h)
  · exact .inr (.inr (.inr h))
theorem Dsk.sv_wr (h : Dsk w H d) {k : Nat} (hk : H.sv.ownBlock = some k) : ¬ H.wr k := by
  obtain ⟨vs, hs⟩ := h.safe
  obtain ⟨cs, hc⟩ := own_type hs.own hk
  rintro (rfl | rfl | hw)
  · exact h.p_sv hk rfl
  · obtain ⟨M, hm⟩ := h.seen
    obtain ⟨es, c, hb⟩ := map_block hm.map; rw [hb] at hc; cases hc
  · obtain ⟨xs, hx⟩ := h.waits
    obtain ⟨cs', hc'⟩ := own_type hx.own hw; rw [hc'] at hc; simp at hc
theorem Dsk.mb_wv (h : Dsk w H d) : H.wv.ownBlock ≠ some H.mb := by
  intro hw
  obtain ⟨xs, hx⟩ := h.waits
  obtain ⟨M, hm⟩ := h.seen
  obtain ⟨cs', hc'⟩ := own_type hx.own hw
  obtain ⟨es, c, hb⟩ := map_block hm.map; rw [hb] at hc'; cases hc'
theorem Dsk.wr_free (h : Dsk w H d) : Free H.wr w := fun k cs m hk => h.free k cs m (Hd.wr_own hk)
end

/-- What 'forget' asks for, and what it leaves. -/
theorem forget_any (w : World) (H : Hd) (d : Dk.Pd) {vs : List Value} {M : DataW Value} {n : Nat} (hstr : w.heap[H.p]? = some (.cells #[H.sv, H.wv, .map (some H.mb), .int .i64 (d.left : Int), .bool d.down] 65 (0, 0)))
    (hs : Ss w H.sv d.pages vs) (hm : w.ownsMap Try.prog 3 hold H.mb n M) (hfew : d.pages.length ≤ 2048) (hlow : d.left < 9223372036854775808) :
    Calls Try.prog 40 #[.pointer (some ⟨H.p, 0, none⟩)] w fun e w' => e = .returned (.tuple #[]) ∧ Dsk w' ⟨H.p, H.mb, H.sv, .slice none 0 0⟩ { d with waits := [] } ∧ Off (fun k => k = H.p ∨ k = H.mb) w w' := by
  have c1 := cell_of_row w _ 1 _ _ (0, 0) hstr
  have c2 := cell_of_row w _ 2 _ _ (0, 0) hstr
  have f1 := frozen_of_row w H.p 1 _ _ hstr
  simp at c1 c2
  obtain ⟨es, cl, hblk⟩ := map_block hm
  have p_mb : H.mb ≠ H.p := by intro e; rw [e, hstr] at hblk; cases hblk
  have hs1 := (str_set hstr (.slice none 0 0)).1
  have ho1 : Off (fun k => k = H.p ∨ k = H.mb) w (w.setCell ⟨H.p, 1, none⟩ (.slice none 0 0)) := (Off.refl (fun k => k = H.p ∨ k = H.mb) w).set _ (.inl rfl)
  have hop : Off (fun k => k = H.p) w (w.setCell ⟨H.p, 1, none⟩ (.slice none 0 0)) := (Off.refl (fun k => k = H.p) w).set _ rfl
  obtain ⟨w2, hrun, hm2, hg2⟩ := map_clear (hop.map_ hm p_mb) Try.underlying62
  have ho2 : Off (fun k => k = H.p ∨ k = H.mb) w w2 := ho1.trans (Off.of_grown hg2 fun k hk => by injection hk with hk; exact .inr hk.symm)
  have hf : Free (fun k => k = H.p ∨ k = H.mb) w := by
    intro k cs m hk hh
    rcases hk with rfl | rfl
    · rw [hstr] at hh; simp at hh
    · rw [hblk] at hh; cases hh
  have hD : Dsk w2 ⟨H.p, H.mb, H.sv, .slice none 0 0⟩ { d with waits := [] } := by
    refine ⟨?_, ⟨vs, hs.off ho2 hf fun k hk hk' => ?_⟩, ⟨[], World.ownsRow_nil _ _ _ _, Along.nil_⟩, ⟨_, hm2, fun _ _ => rfl, fun _ _ h => by simp at h⟩, by simp, hfew, hlow⟩
    · exact (hg2.block H.p (Array.getElem?_eq_some_iff.1 hs1).1 (fun e => by injection e with e; exact p_mb e.symm)).trans hs1
    · obtain ⟨cs, hc⟩ := own_type hs.own hk
      rcases hk' with rfl | rfl
      · rw [hstr] at hc; simp at hc
      · rw [hblk] at hc; cases hc
  have HD := Lib.hid hD
  have HO := Lib.hid ho2
  clear hD ho2 hf hm2 hg2 ho1 hop hs1 hm hs hblk p_mb hstr
  go_enter Try.func40, Try.ntmps40
  go_wp2_with (at_builtin; refine wpList_clear_own _ rfl _ 62 rfl H.mb rfl w2 hrun ?_)
  go_end0
  exact ⟨rfl, HD.out, HO.out⟩

theorem Dsk.pushed {w w5 : World} {H : Hd} {d : Dk.Pd} {no g cap : Nat} {l : List Nat} {u : Value} {xs : List (Nat × Value)} {M : DataW Value} (h : Dsk w H d) (hM : Seen w H.mb d M) (hxs : Ws w 86 H.wv d.waits xs) (hno : no < d.pages.length)
    (ho : Off H.wr w w5) (hu : PgV w5 u l) (hstr : w5.heap[H.p]? = some (.cells #[H.sv, .slice (some ⟨g, 0, none⟩) (d.waits.length + 1) cap, .map (some H.mb), .int .i64 (d.left : Int), .bool d.down] 65 (0, 0)))
    (hrow : w5.ownsRow 0 86 2 (.slice (some ⟨g, 0, none⟩) (d.waits.length + 1) cap) (d.waits.length + 1) (wc xs ++ [.int .i64 (no : Int), u]))
    (hmap : w5.ownsMap Try.prog 3 hold H.mb (d.waits.length + 1) (M.put (key no) (.held u))) : Dsk w5 ⟨H.p, H.mb, H.sv, .slice (some ⟨g, 0, none⟩) (d.waits.length + 1) cap⟩ (Dk.push d no l) := by
  obtain ⟨vs, hs⟩ := h.safe
  have hf := h.wr_free
  have hwl : (Dk.push d no l).waits.length = d.waits.length + 1 := by simp [Dk.push]
  refine ⟨hstr, ⟨vs, hs.off ho hf fun k hk => h.sv_wr hk⟩, ⟨xs ++ [(no, u)], ?_, ?_⟩, ⟨M.put (key no) (.held u), ?_, ?_, ?_⟩, ?_, h.few, h.low⟩
  · rw [hwl, wc_snoc]; exact hrow
  · exact (hxs.along.mono fun x y hr => ⟨hr.1, hr.2.off ho hf⟩).snoc ⟨rfl, hu⟩
  · rw [hwl]; exact hmap
  · intro q hq
    have ha : (Dk.push d no l).waits.any (fun x => x.1 == q) = (d.waits.any (fun x => x.1 == q) || no == q) := by simp [Dk.push]
    rw [ha]
    by_cases he : no = q
    · subst he
      rw [Maps.has_put_same hM.map.isMap (by exact trivial)]; simp
    · rw [Maps.has_put_other (by unfold key; intro e; injection e with _ e; omega), hM.has q hq]
      have : (no == q) = false := by simpa using he
      rw [this, Bool.or_false]
  · intro q hq hh
    have ha : (Dk.push d no l).waits.any (fun x => x.1 == q) = (d.waits.any (fun x => x.1 == q) || no == q) := by simp [Dk.push]
    rw [ha] at hh
    rw [Dk.seen_push]
    by_cases he : no = q
    · subst he
      rw [if_pos rfl]
      exact ⟨u, Maps.atKey_put_same hM.map.isMap (by exact trivial) _ _, hu⟩
    · have : (no == q) = false := by simpa using he
      rw [this, Bool.or_false] at hh
      obtain ⟨v, h1, h2⟩ := hM.at_ q hq hh
      rw [if_neg he]
      exact ⟨v, by rw [Maps.atKey_put_other (by unfold key; intro e; injection e with _ e; omega)]; exact h1, h2.off ho hf⟩
  · intro x hx
    rcases List.mem_append.1 hx with h1 | h1
    · exact h.ins x h1
    · simp at h1; subst h1; exact hno

end Go.Proofs.Ytmcldkcmialfeaa
namespace Go.Proofs.Ytmcldkcmialfeaa
open Go.RowKit
set_option linter.unusedVariables false

theorem cell_two (w : World) (u v : Value) (e : TypeId) : ∀ (j : Nat) (x : Value), [u, v][j]? = some x → (w.alloc (.cells #[u, v] e)).cell? ((⟨w.heap.size, 0, none⟩ : Addr).add j) = some x :=
  World.news_of_block (cs := #[u, v]) (t := e) (fr := (0, 0)) (heap_alloc_new w _)
theorem two_cell {u v : Value} (h : u.oneCell' = true) (h' : v.oneCell' = true) : ∀ x ∈ [u, v], x.oneCell' = true := by
  intro x hx; simp at hx; rcases hx with rfl | rfl
  · exact h
  · exact h'
theorem Try.info86 : (Try.prog.info? 86).map (fun i => (i.zero, i.size, i.bytes)) = some (some (.agg #[.int .i64 0, .slice none 0 0]), 2, 32) := by kernel_rfl
theorem fill_none (l : List Nat) : l ++ List.replicate (1024 - 1024) 0 = l := by rw [Nat.sub_self, List.replicate_zero, List.append_nil]

theorem str_kept {w1 w3 : World} {H : Hd} {d : Dk.Pd} (h1 : Dsk w1 H d) (o : Obj) (g3 : (w1.alloc o).grownBy w3 H.wv.ownBlock) :
    w3.heap[H.p]? = some (.cells #[H.sv, H.wv, .map (some H.mb), .int .i64 (d.left : Int), .bool d.down] 65 (0, 0)) := by
  have a := (Off.refl (fun _ => False) w1).alloc o
  exact (Off.of_grown (S := fun k => H.wv.ownBlock = some k) g3 fun k hk => hk).at_ (a.at_ h1.str id) (fun hk => h1.p_wv hk rfl)
theorem map_kept {w1 w3 : World} {H : Hd} {d : Dk.Pd} {M : DataW Value} (h1 : Dsk w1 H d) (hM : Seen w1 H.mb d M) (o : Obj) (g3 : (w1.alloc o).grownBy w3 H.wv.ownBlock) (v : Value) :
    (w3.setCell ⟨H.p, 1, none⟩ v).ownsMap Try.prog 3 hold H.mb d.waits.length M := by
  have a := (Off.refl (fun _ => False) w1).alloc o
  have b := (Off.of_grown (S := fun k => H.wv.ownBlock = some k) g3 fun k hk => hk).map_ (a.map_ hM.map id) (fun hk => h1.mb_wv hk)
  exact ((Off.refl (fun k => k = H.p) w3).set (i := 1) v rfl).map_ b h1.p_mb
theorem own_kept {w3 w5 : World} {p mb g n cap : Nat} {xs : List Value} {v : Value} {cs : Array Value} {es : Array MapEntry} {c : Nat} (O3 : w3.ownsRow 0 86 2 (.slice (some ⟨g, 0, none⟩) n cap) n xs) (hp : w3.heap[p]? = some (.cells cs 65 (0, 0))) (hm : w3.heap[mb]? = some (.map es c))
    (g5 : (w3.setCell ⟨p, 1, none⟩ v).grownBy w5 (some mb)) : w5.ownsRow 0 86 2 (.slice (some ⟨g, 0, none⟩) n cap) n xs := by
  obtain ⟨cs', hc⟩ := own_type O3 (k := g) rfl
  have a := ((Off.refl (fun k => k = p) w3).set (i := 1) v rfl).own O3 (fun k hk e => by injection hk with hk; subst e; subst hk; rw [hc] at hp; simp at hp)
  exact (Off.of_grown (S := fun k => k = mb) g5 fun k hk => by injection hk with hk; exact hk.symm).own a (fun k hk e => by injection hk with hk; subst e; subst hk; rw [hc] at hm; cases hm)

set_option maxRecDepth 100000 in
set_option maxHeartbeats 1000000 in
theorem write_ok (w : World) (H : Hd) (d : Dk.Pd) (no c : Nat) (A : Option Addr) (l : List Nat) (h : Dsk w H d) (hno : no < d.pages.length) (hb : Bs w A 1024 c l) (hd : d.down = false) (hm : d.waits.length < 100000) :
    Calls Try.prog 54 #[.pointer (some ⟨H.p, 0, none⟩), .int .i64 (no : Int), .slice A 1024 c] w fun e w' => ∃ H', e = .returned (.int .i64 (Dk.code (Dk.act (Dk.push d no l)))) ∧ Dsk w' H' (Dk.act (Dk.push d no l)) ∧ Step w H w' H' := by
  obtain ⟨i0, hi, hz0, hz1, hz2⟩ := info_parts Try.info86
  have hdd : decide (Dk.has d (no : Int)) = true := by simp [Dk.has]; omega
  have hfew := h.few
  have hl := hb.1
  have hlt := hb.2.2.2.1
  have c4 := h.c4
  rw [hd] at c4
  go_enter Try.func54, Try.ntmps54
  go_wp2_with fail
  refine (has_any w H d no h).mono ?_
  rintro e w0 ⟨rfl, rfl⟩
  rw [hdd]
  clear hdd
  go_wp2_with fail
  refine (copyD_bs _ _ _ _ _ hb (Nat.le_refl _)).mono ?_
  rintro e w1 ⟨rfl, R1, B1⟩
  rw [fill_none] at R1
  have h1 := h.on B1
  generalize hgk : w.heap.size = gk at R1
  obtain ⟨xs, hx⟩ := h1.waits
  obtain ⟨M, hM⟩ := h1.seen
  have hu := PgV.of_row R1 hl hlt
  have O2 := Lib.hid (hx.own.alloc (.cells #[.int .i64 (no : Int), .slice (some ⟨gk, 0, none⟩) 1024 1024] 86))
  have c1 := h1.c1
  have c2 := h1.c2
  have ho2 : Off H.wr w1 (w1.alloc (.cells #[.int .i64 (no : Int), .slice (some ⟨gk, 0, none⟩) 1024 1024] 86)) := (Off.refl H.wr w1).alloc _
  have HO2 := Lib.hid ho2
  have hp1 : H.p < w1.heap.size := h1.lt (.inl rfl)
  clear ho2
  have HH := Lib.hid h
  have HDn := Lib.hid hd
  have H1 := Lib.hid h1
  have HX := Lib.hid hx
  have HM := Lib.hid hM
  have HU := Lib.hid hu
  have HB1 := Lib.hid B1
  clear h h1 hx hM hu hl hlt hb hd c4 B1 R1
  go_wp2_with (first
    | (at_builtin; refine wpList_append_lies _ rfl _ _ 63 rfl 0 86 i0 _ 2 32 Try.underlying63 hi hz0 hz1 hz2 rfl (by decide) H.wv d.waits.length (wc xs) rfl O2.out ⟨w1.heap.size, 0, none⟩ 1 1 [.int .i64 (no : Int), .slice (some ⟨gk, 0, none⟩) 1024 1024] rfl rfl (cell_two _ _ _ _) (two_cell rfl rfl) (by decide) (by unfold maxLen; omega) (by omega) (Nat.zero_le _) _ rfl ?_; intro g cap w3 O3 g3 hl3 hg3; have HO3 := Lib.hid (HO2.out.trans (Off.of_grown g3 fun k hk => .inr (.inr hk))); have HS3 := Lib.hid (str_kept H1.out _ g3); have HM3 := Lib.hid (map_block ((Off.of_grown (S := fun k => H.wv.ownBlock = some k) g3 fun k hk => hk).map_ (((Off.refl (fun _ => False) w1).alloc _).map_ HM.out.map id) (fun hk => H1.out.mb_wv hk))); have c1' := cell_of_row w3 _ 1 _ _ (0, 0) HS3.out; have c2' := cell_of_row w3 _ 2 _ _ (0, 0) HS3.out; have f1' := frozen_of_row w3 H.p 1 _ _ HS3.out; have m4 := Lib.hid (map_kept H1.out HM.out _ g3 (.slice (some ⟨g, 0, none⟩) (d.waits.length + 1) cap)); have HO33 := Lib.hid O3; clear O3 g3; simp at c1' c2')
    | (at_mapUpdate; refine wpList_mapUpdate_own _ rfl _ _ _ 62 rfl 3 22 keyed Try.underlying62 hold H.mb d.waits.length M rfl m4.out (by unfold maxLen; omega) _ _ (key no) rfl rfl (key_of (by omega)) (.held (.slice (some ⟨gk, 0, none⟩) 1024 1024)) [] rfl ?_; intro w5 M5 g5))
  have ho5 := (HO3.out.set (i := 1) (.slice (some ⟨g, 0, none⟩) (d.waits.length + 1) cap) (.inl rfl)).trans (Off.of_grown g5 fun k hk => by injection hk with hk; exact .inr (.inl hk.symm))
  have hs5 := (g5.block H.p (Array.getElem?_eq_some_iff.1 (str_set HS3.out _).1).1 (fun e => by injection e with e; exact H1.out.p_mb e.symm)).trans (str_set HS3.out (.slice (some ⟨g, 0, none⟩) (d.waits.length + 1) cap)).1
  have hD := H1.out.pushed (no := no) (l := l) HM.out HX.out hno ho5 (HU.out.off ho5 H1.out.wr_free) hs5 (own_kept HO33.out HS3.out HM3.out.choose_spec.choose_spec g5) M5
  have hSt : Step w H w5 ⟨H.p, H.mb, H.sv, .slice (some ⟨g, 0, none⟩) (d.waits.length + 1) cap⟩ := by
    refine ⟨(Off.of_below HB1.out).trans (ho5.mono fun k hk => .inl (Hd.wr_own hk)), rfl, fun k hk => ?_⟩
    rcases hk with hk | hk | hk | hk
    · exact .inl (.inl hk)
    · exact .inl (.inr (.inl hk))
    · exact .inl (.inr (.inr (.inl hk)))
    · injection hk with hk
      subst hk
      rcases hl3 with h3 | h3
      · exact .inl (.inr (.inr (.inr h3)))
      · right; show _ ≤ g; have := HB1.out.size; simp at h3; omega
  have HSt := Lib.hid hSt
  clear hSt ho5 hs5 M5 g5 HO3 HS3 HO33 HM3 HH H1 HX HM HU HB1 O2 HO2 c1 c2 c1' c2' f1' m4 hl3 hg3
  refine (act_any w5 _ _ hD (by exact HDn.out)).mono ?_
  rintro e w6 ⟨rfl, h6, o6⟩
  go_wp2
  go_ret
  exact ⟨_, rfl, h6, HSt.out.trans (Step.of_p o6)⟩

theorem write_arg (w : World) (H : Hd) (d : Dk.Pd) (no : Int) (n c : Nat) (A : Option Addr) (h : Dsk w H d) (hno : ¬ (Dk.has d no ∧ n = 1024)) :
    Calls Try.prog 54 #[.pointer (some ⟨H.p, 0, none⟩), .int .i64 no, .slice A n c] w fun e w' => e = .returned (.int .i64 1) ∧ w = w' := by
  by_cases hh : Dk.has d no
  · have hd : decide (Dk.has d no) = true := by simpa using hh
    have hn : ((n : Int) != 1024) = true := by
      have : ¬ n = 1024 := fun h' => hno ⟨hh, h'⟩
      simp; omega
    go_enter Try.func54, Try.ntmps54
    go_wp2_with fail
    refine (has_any w H d no h).mono ?_
    rintro e w0 ⟨rfl, rfl⟩
    rw [hd]
    clear hd h hno hh
    go_wp2
    go_ret
    exact ⟨rfl, rfl⟩
  · have hd : decide (Dk.has d no) = false := by simpa using hh
    go_enter Try.func54, Try.ntmps54
    go_wp2_with fail
    refine (has_any w H d no h).mono ?_
    rintro e w0 ⟨rfl, rfl⟩
    rw [hd]
    clear hd h hno hh
    go_wp2
    go_ret
    exact ⟨rfl, rfl⟩
theorem write_down (w : World) (H : Hd) (d : Dk.Pd) (no : Int) (c : Nat) (A : Option Addr) (h : Dsk w H d) (hno : Dk.has d no) (hdn : d.down = true) :
    Calls Try.prog 54 #[.pointer (some ⟨H.p, 0, none⟩), .int .i64 no, .slice A 1024 c] w fun e w' => e = .returned (.int .i64 3) ∧ w = w' := by
  have hd : decide (Dk.has d no) = true := by simpa using hno
  have c4 := h.c4
  rw [hdn] at c4
  go_enter Try.func54, Try.ntmps54
  go_wp2_with fail
  refine (has_any w H d no h).mono ?_
  rintro e w0 ⟨rfl, rfl⟩
  rw [hd]
  clear hd h hno hdn
  go_wp2
  go_ret
  exact ⟨rfl, rfl⟩
/-- Write, whatever is handed in. -/
theorem write_any (w : World) (H : Hd) (d : Dk.Pd) (no : Int) (n c : Nat) (A : Option Addr) (l : List Nat) (h : Dsk w H d) (hb : Bs w A n c l) (hm : d.waits.length < 100000) :
    Calls Try.prog 54 #[.pointer (some ⟨H.p, 0, none⟩), .int .i64 no, .slice A n c] w fun e w' => ∃ H', e = .returned (.int .i64 (Dk.writeCode d no l)) ∧ Dsk w' H' (Dk.write d no l) ∧ Step w H w' H' := by
  have hl := hb.1
  by_cases hh : Dk.has d no ∧ n = 1024
  · obtain ⟨h1, rfl⟩ := hh
    have hc : Dk.has d no ∧ l.length = 1024 := ⟨h1, hl⟩
    cases hdn : d.down with
    | false =>
      have h2 := h1
      unfold Dk.has at h2
      obtain ⟨m, rfl⟩ : ∃ m : Nat, no = (m : Int) := ⟨no.toNat, by omega⟩
      have e1 : Dk.writeCode d (m : Int) l = Dk.code (Dk.act (Dk.push d m l)) := by unfold Dk.writeCode; rw [if_pos hc, hdn, Int.toNat_natCast]; rfl
      have e2 : Dk.write d (m : Int) l = Dk.act (Dk.push d m l) := by unfold Dk.write; rw [if_pos hc, hdn, Int.toNat_natCast]; rfl
      rw [e1, e2]
      exact write_ok w H d m c A l h (by omega) hb hdn hm
    | true =>
      have e1 : Dk.writeCode d no l = 3 := by unfold Dk.writeCode; rw [if_pos hc, hdn]; rfl
      have e2 : Dk.write d no l = d := by unfold Dk.write; rw [if_pos hc, hdn]; rfl
      rw [e1, e2]
      refine (write_down w H d no c A h h1 hdn).mono ?_
      rintro e w' ⟨rfl, rfl⟩
      exact ⟨H, rfl, h, Step.refl _ _⟩
  · have hc : ¬ (Dk.has d no ∧ l.length = 1024) := by rw [hl]; exact hh
    have e1 : Dk.writeCode d no l = 1 := by unfold Dk.writeCode; rw [if_neg hc]
    have e2 : Dk.write d no l = d := by unfold Dk.write; rw [if_neg hc]
    rw [e1, e2]
    refine (write_arg w H d no n c A h hh).mono ?_
    rintro e w' ⟨rfl, rfl⟩
    exact ⟨H, rfl, h, Step.refl _ _⟩

end Go.Proofs.Ytmcldkcmialfeaa
namespace Go.Proofs.Ytmcldkcmialfeaa
open Go.RowKit
set_option linter.unusedVariables false

/-- The row of safe pages is written: all else of the disk is as it was. -/
structure Mid (w0 w : World) (H : Hd) (ps : List (List Nat)) : Prop where
  off : Off (fun k => H.sv.ownBlock = some k) w0 w
  safe : ∃ vs, Ss w H.sv ps vs
section
variable {w0 w : World} {H : Hd} {d : Dk.Pd} {ps : List (List Nat)}
theorem Dsk.sv_free (h : Dsk w0 H d) : Free (fun k => H.sv.ownBlock = some k) w0 := fun k cs m hk => h.free k cs m (.inr (.inr (.inl hk)))
theorem Dsk.mid (h : Dsk w0 H d) : Mid w0 w0 H d.pages := ⟨Off.refl _ _, h.safe⟩
theorem Mid.str (h : Mid w0 w H ps) (hd : Dsk w0 H d) : w.heap[H.p]? = some (.cells #[H.sv, H.wv, .map (some H.mb), .int .i64 (d.left : Int), .bool d.down] 65 (0, 0)) :=
  h.off.at_ hd.str fun hk => hd.p_sv hk rfl
theorem Mid.waits (h : Mid w0 w H ps) (hd : Dsk w0 H d) : ∃ xs, Ws w 86 H.wv d.waits xs := by
  obtain ⟨xs, hx⟩ := hd.waits
  exact ⟨xs, hx.off h.off hd.sv_free fun k hk hk' => hd.sv_wr hk' (.inr (.inr hk))⟩
theorem Mid.map (h : Mid w0 w H ps) (hd : Dsk w0 H d) : ∃ M, w.ownsMap Try.prog 3 hold H.mb d.waits.length M := by
  obtain ⟨M, hM⟩ := hd.seen
  exact ⟨M, h.off.map_ hM.map fun hk => hd.sv_wr hk (.inr (.inl rfl))⟩
theorem Mid.lt (h : Mid w0 w H ps) (hd : Dsk w0 H d) {k : Nat} (hk : H.own k) : k < w.heap.size := Nat.lt_of_lt_of_le (hd.lt hk) h.off.size
theorem Mid.below {w1 : World} (h : Mid w0 w H ps) (hb : Below w.heap.size w w1) : Mid w0 w1 H ps := by
  obtain ⟨vs, hs⟩ := h.safe
  exact ⟨h.off.trans (Off.of_below hb), vs, hs.on hb⟩
/-- One page is set. -/
theorem Mid.put {g n c : Nat} (h : Mid w0 w H ps) (hv : H.sv = .slice (some ⟨g, 0, none⟩) n c) (k : Nat) {u : Value} {l : List Nat} (hu : SfV w u l) : Mid w0 (w.setCell ⟨g, k, none⟩ u) H (ps.set k l) := by
  obtain ⟨vs, hs⟩ := h.safe
  refine ⟨h.off.set _ (by rw [hv]; rfl), vs.set k u, ?_⟩
  rw [hv] at hs ⊢
  exact hs.put k hu
end

set_option maxRecDepth 100000 in
set_option maxHeartbeats 1000000 in
theorem sync_go (w : World) (H : Hd) (d : Dk.Pd) (h : Dsk w H d) (hd : d.down = false) (hd1 : (Dk.act d).down = false) (hm : d.waits.length < 100000) :
    Calls Try.prog 21 #[.pointer (some ⟨H.p, 0, none⟩)] w fun e w' => ∃ H', e = .returned (.int .i64 0) ∧ Dsk w' H' (Dk.settled (Dk.act d)) ∧ Step w H w' H' := by
  have c4 := h.c4
  rw [hd] at c4
  have ec : Dk.code (Dk.act d) = 0 := by unfold Dk.code; rw [hd1]; rfl
  have hm1 : (Dk.act d).waits.length < 100000 := by rw [Dk.act_waits]; exact hm
  have hp1 : (Dk.act d).pages.length = d.pages.length := by rw [Dk.act_pages]
  have C := Lib.hid (act_any w H d h hd)
  rw [ec] at C
  clear ec
  generalize Dk.act d = d1 at *
  go_enter Try.func21, Try.ntmps21
  go_wp2_with fail
  refine C.out.mono ?_
  rintro e w1 ⟨rfl, h1, o1⟩
  have S1 := Lib.hid (Step.of_p (H := H) o1)
  clear hd hd1 hp1 h c4 o1 hm C
  obtain ⟨xs, hx⟩ := h1.waits
  obtain ⟨A, c, hwv, hwc, hwm⟩ := hx.form
  have c1 := h1.c1
  rw [hwv] at c1
  unfold maxLen at hwm
  have HW := Lib.hid hwv
  have HD := Lib.hid h1
  clear hx hwv h1
  go_wp2_with fail
  go_loopw [19] (fun i wr => ∃ k : Nat, k ≤ d1.waits.length ∧ i = .int .i64 (k : Int) ∧ Mid w1 wr H (Dk.stTo d1 k)) (fun i _ => d1.waits.length - (intOf i).toNat)
  case atStart => exact ⟨0, Nat.zero_le _, rfl, HD.out.mid⟩
  case round =>
    obtain ⟨k, hk, rfl, hM⟩ := hrel
    by_cases hlt : k < d1.waits.length
    · obtain ⟨xs, hx⟩ := hM.waits HD.out
      obtain ⟨g, c', no, u, l, hv, hc', hw, hu, cn, cu⟩ := hx.get hlt
      rw [HW.out] at hv
      injection hv with hv _ hv2
      subst hv hv2
      obtain ⟨gu, ku, rfl, _, _, _⟩ := hu.form
      have hno : no < d1.pages.length := HD.out.ins _ (List.mem_of_getElem? hw)
      obtain ⟨vs, hs⟩ := hM.safe
      have hno' : no < (Dk.stTo d1 k).length := by rw [Dk.stTo_len]; exact hno
      obtain ⟨gs, cs, us, ls, hsv, hcs, _, _, cus⟩ := hs.get hno'
      rw [Dk.stTo_len] at hsv hcs
      have c0 := cell_of_row wr _ 0 _ _ (0, 0) (hM.str HD.out)
      rw [hsv] at c0
      have hsf : wr.frozen? ⟨gs, no, none⟩ = false := by rw [hsv] at hs; exact hs.frozen no
      have hpl : H.p < wr.heap.size := hM.lt HD.out (.inl rfl)
      have hgl : gs < wr.heap.size := own_lt hs.own (by rw [hsv]; rfl)
      simp at c0
      have hN := (((hM.put hsv no (.inr hu)).below ((Below.refl _ _).alloc (Nat.le_refl _) (.cells #[.int .i64 (no : Int), .slice (some ⟨gu, 0, none⟩) 1024 ku] 86))).below (Below.refl _ _).drew)
      rw [← Dk.st_step hw] at hN
      have HN := Lib.hid hN
      have z1 : (no : Int) < (d1.pages.length : Int) := by omega
      have z2 : (k : Int) < (d1.waits.length : Int) := by omega
      clear hx hs hN hw hM
      go_wp2_with fail
      go_region
      go_wp2
      go_roundw
      case rel => exact ⟨k + 1, by omega, by go_num, HN.out⟩
      case measure => simp [intOf]; omega
    · have hk' : k = d1.waits.length := by omega
      have hf : ¬ ((k : Int) < (d1.waits.length : Int)) := by omega
      have hst := hM.str (d := d1) HD.out
      obtain ⟨vs, hs⟩ := hM.safe
      obtain ⟨M, hMM⟩ := hM.map HD.out
      have C := Lib.hid (forget_any wr H { d1 with pages := Dk.stTo d1 k } hst hs hMM (by rw [Dk.stTo_len]; exact HD.out.few) HD.out.low)
      have HO := Lib.hid hM.off
      have HK := Lib.hid hk'
      clear hs hMM hM hlt hk' hst
      go_wp2_with fail
      refine C.out.mono ?_
      rintro e w3 ⟨rfl, h3, o3⟩
      have HF := Lib.hid h3
      clear C h3
      go_wp2
      go_ret
      have h3 := HF.out
      rw [HK.out] at h3
      refine ⟨_, rfl, h3, S1.out.trans ⟨(HO.out.mono fun j hj => .inl (.inr (.inr (.inl hj)))).trans (o3.mono fun j hj => ?_), rfl, fun j hj => ?_⟩⟩
      · rcases hj with hj | hj
        · exact .inl (.inl hj)
        · exact .inl (.inr (.inl hj))
      · rcases hj with hj | hj | hj | hj
        · exact .inl (.inl hj)
        · exact .inl (.inr (.inl hj))
        · exact .inl (.inr (.inr (.inl hj)))
        · cases hj

theorem sync_off (w : World) (H : Hd) (d : Dk.Pd) (h : Dsk w H d) (hd : d.down = true) :
    Calls Try.prog 21 #[.pointer (some ⟨H.p, 0, none⟩)] w fun e w' => e = .returned (.int .i64 3) ∧ w = w' := by
  have c4 := h.c4
  rw [hd] at c4
  clear h
  go_enter Try.func21, Try.ntmps21
  go_wp2
  go_ret
  exact ⟨rfl, rfl⟩
theorem sync_goes (w : World) (H : Hd) (d : Dk.Pd) (h : Dsk w H d) (hd : d.down = false) (hd1 : (Dk.act d).down = true) :
    Calls Try.prog 21 #[.pointer (some ⟨H.p, 0, none⟩)] w fun e w' => e = .returned (.int .i64 3) ∧ Dsk w' H (Dk.act d) ∧ Off (fun k => k = H.p) w w' := by
  have c4 := h.c4
  rw [hd] at c4
  have ec : Dk.code (Dk.act d) = 3 := by unfold Dk.code; rw [hd1]; rfl
  have C := Lib.hid (act_any w H d h hd)
  rw [ec] at C
  clear h ec
  go_enter Try.func21, Try.ntmps21
  go_wp2_with fail
  refine C.out.mono ?_
  rintro e w1 ⟨rfl, h1, o1⟩
  go_wp2
  go_ret
  exact ⟨rfl, h1, o1⟩
/-- Sync, whatever the disk. -/
theorem sync_any (w : World) (H : Hd) (d : Dk.Pd) (h : Dsk w H d) (hm : d.waits.length < 100000) :
    Calls Try.prog 21 #[.pointer (some ⟨H.p, 0, none⟩)] w fun e w' => ∃ H', e = .returned (.int .i64 (Dk.syncCode d)) ∧ Dsk w' H' (Dk.sync d) ∧ Step w H w' H' := by
  cases hd : d.down with
  | true =>
    have e1 : Dk.syncCode d = 3 := by unfold Dk.syncCode; rw [hd]; rfl
    have e2 : Dk.sync d = d := by unfold Dk.sync; rw [hd]; rfl
    rw [e1, e2]
    refine (sync_off w H d h hd).mono ?_
    rintro e w' ⟨rfl, rfl⟩
    exact ⟨H, rfl, h, Step.refl _ _⟩
  | false =>
    cases hd1 : (Dk.act d).down with
    | true =>
      have e1 : Dk.syncCode d = 3 := by unfold Dk.syncCode; rw [hd, hd1]; rfl
      have e2 : Dk.sync d = Dk.act d := by unfold Dk.sync; rw [hd, hd1]; rfl
      rw [e1, e2]
      refine (sync_goes w H d h hd hd1).mono ?_
      rintro e w' ⟨rfl, h1, o1⟩
      exact ⟨H, rfl, h1, Step.of_p o1⟩
    | false =>
      have e1 : Dk.syncCode d = 0 := by unfold Dk.syncCode; rw [hd, hd1]; rfl
      have e2 : Dk.sync d = Dk.settled (Dk.act d) := by unfold Dk.sync; rw [hd, hd1]; rfl
      rw [e1, e2]
      exact sync_go w H d h hd hd1 hm

end Go.Proofs.Ytmcldkcmialfeaa
namespace Go.Proofs.Ytmcldkcmialfeaa
open Go.RowKit
set_option linter.unusedVariables false

/-- The slice value '.slice A n c' reads as the values l. -/
def Rd (w : World) (A : Option Addr) (n c : Nat) (l : List Value) : Prop :=
  l.length = n ∧ n ≤ c ∧ c ≤ maxLen ∧
  (0 < n → ∃ b off, A = some ⟨b, off, none⟩ ∧ b < w.heap.size ∧ ∀ (j : Nat) (v : Value), l[j]? = some v → w.cell? ⟨b, off + j, none⟩ = some v)
section
variable {w w' : World} {A : Option Addr} {n c : Nat} {l : List Value}
theorem Rd.off {S : Nat → Prop} (h : Rd w A n c l) (ho : Off S w w') (hn : ∀ b off, A = some ⟨b, off, none⟩ → ¬ S b) : Rd w' A n c l := by
  obtain ⟨h1, h2, h3, h5⟩ := h
  refine ⟨h1, h2, h3, fun hp => ?_⟩
  obtain ⟨b, off, e, hlt, hc⟩ := h5 hp
  exact ⟨b, off, e, Nat.lt_of_lt_of_le hlt ho.size, fun j x hx => (World.cell?_of_block (a := ⟨b, off + j, none⟩) (ho.block b hlt (hn b off e))).trans (hc j x hx)⟩
theorem Rd.on (h : Rd w A n c l) (hb : Below w.heap.size w w') : Rd w' A n c l := h.off (S := fun _ => False) (Off.of_below hb) fun _ _ _ h => h
theorem Rd.nil_ (w : World) (A : Option Addr) (c : Nat) (hc : c ≤ maxLen) : Rd w A 0 c [] := ⟨rfl, Nat.zero_le _, hc, fun h => absurd h (by omega)⟩
theorem Rd.at_ (h : Rd w A n c l) {k : Nat} (hk : k < n) : ∃ b off v, A = some ⟨b, off, none⟩ ∧ l[k]? = some v ∧ w.cell? ⟨b, off + k, none⟩ = some v := by
  obtain ⟨h1, h2, h3, h5⟩ := h
  obtain ⟨b, off, e, hlt, hc⟩ := h5 (by omega)
  have hl : k < l.length := by omega
  exact ⟨b, off, l[k], e, List.getElem?_eq_getElem hl, hc k _ (List.getElem?_eq_getElem hl)⟩
end
/-- .. and no block of S is among what it leads to. -/
def Clear (A : Option Addr) (S : Nat → Prop) : Prop := ∀ b off, A = some ⟨b, off, none⟩ → ¬ S b



end Go.Proofs.Ytmcldkcmialfeaa
namespace Go.Proofs.Ytmcldkcmialfeaa
open Go.RowKit
set_option linter.unusedVariables false

/-- Numbers as values. -/
def nv (l : List Nat) : List Value := l.map fun (n : Nat) => Value.int .i64 (n : Int)
theorem nv_snoc (l : List Nat) (n : Nat) : nv (l ++ [n]) = nv l ++ [.int .i64 (n : Int)] := by simp [nv]
theorem nv_len (l : List Nat) : (nv l).length = l.length := by simp [nv]
theorem Try.info3 : (Try.prog.info? 3).map (fun i => (i.zero, i.size, i.bytes)) = some (some (.int .i64 0), 1, 8) := by kernel_rfl
/-- The numbers of the writes that wait. -/
def Dk.nos (d : Dk.Pd) : List Nat := d.waits.map fun x => x.1
theorem nos_len (d : Dk.Pd) : (Dk.nos d).length = d.waits.length := by simp [Dk.nos]
theorem nos_step {d : Dk.Pd} {k no : Nat} {l : List Nat} (h : d.waits[k]? = some (no, l)) : (Dk.nos d).take (k + 1) = (Dk.nos d).take k ++ [no] := by
  rw [List.take_add_one]; simp [Dk.nos, h]
theorem Rd.of_own {w : World} {base e n : Nat} {v : Value} {l : List Value} (h : w.ownsRow base e 1 v n l) : ∃ A c, v = .slice A n c ∧ Rd w A n c l := by
  have hl : l.length = n := by have := h.1; omega
  rcases h.2 with ⟨hv, h0⟩ | ⟨g, cap, cur, hv, _, hg, hnc, hcm, _, _⟩
  · subst h0
    exact ⟨none, 0, hv, hl, Nat.le_refl _, Nat.zero_le _, fun h => absurd h (by omega)⟩
  · refine ⟨_, _, hv, hl, hnc, hcm, fun _ => ⟨g, 0, rfl, ?_, fun j x hx => ?_⟩⟩
    · rcases Nat.lt_or_ge g w.heap.size with hlt | hge
      · exact hlt
      · rw [Array.getElem?_eq_none hge] at hg; cases hg
    · have := h.cells (g := g) (by rw [hv]; rfl) j x hx
      by_cases hj : j = 0
      · subst hj; simpa [Addr.add] using this
      · simpa [Addr.add, hj] using this

set_option maxRecDepth 100000 in
set_option maxHeartbeats 1000000 in
theorem waiting_any (w : World) (H : Hd) (d : Dk.Pd) (h : Dsk w H d) (hm : d.waits.length < 100000) :
    Calls Try.prog 23 #[.pointer (some ⟨H.p, 0, none⟩)] w fun e w' => ∃ A c, e = .returned (.slice A d.waits.length c) ∧ Rd w' A d.waits.length c (nv (Dk.nos d)) ∧ Below w.heap.size w w' := by
  obtain ⟨i0, hi, hz0, hz1, hz2⟩ := info_parts Try.info3
  obtain ⟨xs, hx⟩ := h.waits
  obtain ⟨A', cw, hwv, hwc, hwm⟩ := hx.form
  have c1 := h.c1
  rw [hwv] at c1
  unfold maxLen at hwm
  have HW := Lib.hid hwv
  have HX := Lib.hid hx
  clear hx hwv h
  go_enter Try.func23, Try.ntmps23
  go_wp2_with fail
  go_loopw [3, 11] (fun v i wr => ∃ k : Nat, k ≤ d.waits.length ∧ i = .int .i64 (k : Int) ∧ wr.ownsRow w.heap.size 3 1 v k (nv ((Dk.nos d).take k)) ∧ Below w.heap.size w wr) (fun _ i _ => d.waits.length - (intOf i).toNat)
  case atStart => exact ⟨0, Nat.zero_le _, rfl, World.ownsRow_nil _ _ _ _, Below.refl _ _⟩
  case round =>
    obtain ⟨k, hk, rfl, hO, hB⟩ := hrel
    by_cases hlt : k < d.waits.length
    · obtain ⟨g, c', no, u, l, hv, hc', hw, hu, cn, cu⟩ := (HX.out.on hB).get hlt
      rw [HW.out] at hv
      injection hv with hv _ hv2
      subst hv hv2
      obtain ⟨gu, ku, rfl, _, _, _⟩ := hu.form
      have z2 : (k : Int) < (d.waits.length : Int) := by omega
      obtain ⟨A1, cA, rfl, _, _⟩ := own_form hO
      have O2 := Lib.hid ((hO.alloc (.cells #[.int .i64 (no : Int), .slice (some ⟨gu, 0, none⟩) 1024 ku] 86)).alloc (.cells #[.int .i64 (no : Int)] 3))
      have HB := Lib.hid hB
      have HS := Lib.hid (nos_step hw)
      have hsz := hB.size
      clear hO hB hw hu
      go_wp2_with (at_builtin; refine wpList_append_lies _ rfl _ _ 37 rfl w.heap.size 3 i0 (.int .i64 0) 1 8 Try.underlying37 hi hz0 hz1 hz2 rfl (by decide) _ _ _ rfl O2.out ⟨wr.heap.size + 1, 0, none⟩ 1 1 [.int .i64 (no : Int)] (by simp [Act.eval]) rfl (by have := cell_one_new (wr.alloc (.cells #[.int .i64 (no : Int), .slice (some ⟨gu, 0, none⟩) 1024 ku] 86)) (.int .i64 (no : Int)) 3; simpa using this) (by simp [Value.oneCell']) (by decide) (by unfold maxLen; omega) (by omega) (by simp; omega) _ rfl ?_; intro g' cap w3 O3 g3 hl3 hg3)
      have B3 : Below w.heap.size w w3 := below_own ((HB.out.alloc HB.out.size _).alloc (by simp; omega) _) O2.out g3 (by simp; omega) (Nat.le_refl _)
      rw [← nv_snoc, ← HS.out] at O3
      exact ⟨⟨k + 1, by omega, by go_num, O3, B3⟩, by simp [intOf]; omega⟩
    · have hk' : k = d.waits.length := by omega
      have hf : ¬ ((k : Int) < (d.waits.length : Int)) := by omega
      have e : (Dk.nos d).take k = Dk.nos d := List.take_of_length_le (by rw [nos_len]; omega)
      rw [e] at hO
      obtain ⟨A1, cA, rfl, hR⟩ := Rd.of_own hO
      have HR := Lib.hid hR
      have HB := Lib.hid hB
      have HK := Lib.hid hk'
      clear hO hR hB e hlt hk'
      go_wp2
      go_ret
      have := HR.out
      rw [HK.out] at this
      exact ⟨A1, cA, by rw [HK.out]; rfl, this, HB.out⟩

theorem Try.info22 : (Try.prog.info? 22).map (fun i => (i.zero, i.size, i.bytes)) = some (some (.slice none 0 0), 1, 24) := by kernel_rfl
theorem fresh_len (n : Nat) : (Dk.fresh n).pages.length = n := List.length_replicate
theorem nils_along (w : World) (n : Nat) : Along (SfV w) (List.replicate n (.slice none 0 0)) (Dk.fresh n).pages := by
  refine ⟨by rw [fresh_len, List.length_replicate], fun i x y hx hy => ?_⟩
  have h1 := List.eq_of_mem_replicate (List.mem_of_getElem? hx)
  have h2 := List.eq_of_mem_replicate (List.mem_of_getElem? hy)
  exact .inl ⟨h1, h2⟩
/-- A disk that is made. -/
theorem made_disk {w w1 : World} {n : Nat} (hn2 : n ≤ 2048) (hown : w1.ownsRow 0 22 1 (.slice (some ⟨w.heap.size, 0, none⟩) n n) n (madeCells (Value.slice none 0 0).cells (n * 1)).toList) :
    Dsk ((w1.alloc (.map #[] 0)).alloc (.cells #[.slice (some ⟨w.heap.size, 0, none⟩) n n, .slice none 0 0, .map (some w1.heap.size), .int .i64 0, .bool false] 65)) ⟨w1.heap.size + 1, w1.heap.size, .slice (some ⟨w.heap.size, 0, none⟩) n n, .slice none 0 0⟩ (Dk.fresh n) := by
  have e : (madeCells (Value.slice none 0 0).cells (n * 1)).toList = List.replicate n (.slice none 0 0) := by
    rw [show (Value.slice none 0 0).cells = #[.slice none 0 0] from rfl, Nat.mul_one, toList_madeCells_one]
  rw [e] at hown
  have hm := World.ownsMap_made w1 Try.prog 3 hold
  have es : (w1.alloc (.map #[] 0)).heap.size = w1.heap.size + 1 := by simp
  refine ⟨?_, ⟨_, ?_, nils_along _ n⟩, ⟨[], World.ownsRow_nil _ _ _ _, Along.nil_⟩, ⟨.map [], hm.alloc _, fun _ _ => rfl, fun _ _ h => absurd h Bool.false_ne_true⟩, fun x hx => absurd hx List.not_mem_nil, by rw [fresh_len]; exact hn2, by show 0 < _; omega⟩
  · exact es ▸ heap_alloc_new (w1.alloc (.map #[] 0)) (.cells #[.slice (some ⟨w.heap.size, 0, none⟩) n n, .slice none 0 0, .map (some w1.heap.size), .int .i64 0, .bool false] 65)
  · rw [fresh_len]
    exact (hown.alloc _).alloc _

set_option maxRecDepth 100000 in
theorem newD_any (w : World) (z : Int) (n : Nat) (hn : (n : Int) = min (max z 0) 2048) :
    Calls Try.prog 8 #[.int .i64 z] w fun e w' => ∃ H : Hd, e = .returned (.pointer (some ⟨H.p, 0, none⟩)) ∧ Dsk w' H (Dk.fresh n) ∧ (∀ k, H.own k → w.heap.size ≤ k) ∧ Below w.heap.size w w' := by
  obtain ⟨i0, hi, hz0, hz1, hz2⟩ := info_parts Try.info22
  have hmm := @run_makeMap Try.prog
  have HN := Lib.hid hn
  have hn2 : n ≤ 2048 := by omega
  have fin : ∀ w1 : World, w1.ownsRow 0 22 1 (.slice (some ⟨w.heap.size, 0, none⟩) n n) n (madeCells (Value.slice none 0 0).cells (n * 1)).toList → w.grownBy w1 none →
      Hid (Dsk ((w1.alloc (.map #[] 0)).alloc (.cells #[.slice (some ⟨w.heap.size, 0, none⟩) n n, .slice none 0 0, .map (some w1.heap.size), .int .i64 0, .bool false] 65)) ⟨w1.heap.size + 1, w1.heap.size, .slice (some ⟨w.heap.size, 0, none⟩) n n, .slice none 0 0⟩ (Dk.fresh n) ∧ (∀ k, Hd.own ⟨w1.heap.size + 1, w1.heap.size, .slice (some ⟨w.heap.size, 0, none⟩) n n, .slice none 0 0⟩ k → w.heap.size ≤ k) ∧
        Below w.heap.size w ((w1.alloc (.map #[] 0)).alloc (.cells #[.slice (some ⟨w.heap.size, 0, none⟩) n n, .slice none 0 0, .map (some w1.heap.size), .int .i64 0, .bool false] 65))) := by
    intro w1 ho hg
    have hs := hg.size
    refine ⟨made_disk hn2 ho, ?_, ?_⟩
    · rintro k (rfl | rfl | hk | hk)
      · show _ ≤ w1.heap.size + 1; omega
      · exact hs
      · injection hk with hk; subst hk; exact Nat.le_refl _
      · cases hk
    · exact (((Below.refl w.heap.size w).grown hg (Nat.le_refl _) (fun k hk => by cases hk)).alloc hs _).alloc (by simp; omega) _
  have FIN := Lib.hid fin
  clear fin hn
  go_enter Try.func8, Try.ntmps8
  go_wp2_with (at_make; refine wpList_make_full _ rfl _ _ 48 rfl 0 22 i0 (.slice none 0 0) 1 Try.underlying48 hi hz0 hz1 .i64 .i64 _ _ n rfl rfl (by have := HN.out; omega) (by have := HN.out; omega) (by rw [hz2]; omega) (by unfold maxLen; omega) (Nat.zero_le _) ?_; intro w1 hown hgrow; have D1 := FIN.out w1 hown hgrow; clear hown hgrow)
  all_goals (go_ret; exact ⟨_, rfl, D1.out.1, D1.out.2.1, D1.out.2.2⟩)

end Go.Proofs.Ytmcldkcmialfeaa
namespace Go.Proofs.Ytmcldkcmialfeaa
open Go.RowKit
set_option linter.unusedVariables false

/-- Since wb: at p stands the disk d; nothing else has turned but what S tells, and what is new. -/
def Has (S : Nat → Prop) (wb w : World) (p : Nat) (d : Dk.Pd) : Prop := ∃ H : Hd, H.p = p ∧ Dsk w H d ∧ (∀ k, H.own k → S k ∨ wb.heap.size ≤ k) ∧ Off S wb w
section
variable {S : Nat → Prop} {wb w w' : World} {p : Nat} {d e : Dk.Pd}
theorem Has.off (h : Has S wb w p d) : Off S wb w := by obtain ⟨H, _, _, _, ho⟩ := h; exact ho
theorem Has.on (h : Has S wb w p d) (hb : Below w.heap.size w w') : Has S wb w' p d := by
  obtain ⟨H, hp, hD, ho, hO⟩ := h
  exact ⟨H, hp, hD.on hb, ho, hO.trans (Off.of_below hb)⟩
theorem Has.drewN (h : Has S wb w p d) (m : Nat) : Has S wb (w.drewN m) p d := h.on (below_drewN (Below.refl _ _) m)
theorem Has.drew (h : Has S wb w p d) : Has S wb w.drew p d := h.on (Below.refl _ _).drew
theorem Has.step {H H' : Hd} (hp : H.p = p) (ho : ∀ k, H.own k → S k ∨ wb.heap.size ≤ k) (hO : Off S wb w) (hD : Dsk w' H' e) (ht : Step w H w' H') : Has S wb w' p e := by
  refine ⟨H', ht.same.trans hp, hD, fun k hk => ?_, hO.trans' ht.off ho⟩
  rcases ht.own k hk with a | a
  · exact ho k a
  · exact .inr (Nat.le_trans hO.size a)
theorem Has.pf (h : Has S wb w p d) (he : d = e) : Has S wb w p e := he ▸ h
theorem Has.few (h : Has S wb w p d) : d.pages.length ≤ 2048 := by obtain ⟨H, _, hD, _⟩ := h; exact hD.few
theorem Has.ins (h : Has S wb w p d) : ∀ x ∈ d.waits, x.1 < d.pages.length := by obtain ⟨H, _, hD, _⟩ := h; exact hD.ins
/-- Begun anew: what the disk owns now may turn. -/
theorem Has.anew (h : Has S wb w p d) : ∃ S' : Nat → Prop, Has S' w w p d ∧ (∀ k, S' k → k < w.heap.size) ∧ (∀ k, S' k → S k ∨ wb.heap.size ≤ k) ∧ Free S' w := by
  obtain ⟨H, hp, hD, ho, hO⟩ := h
  exact ⟨H.own, ⟨H, hp, hD, fun k hk => .inl hk, Off.refl _ _⟩, fun k hk => hD.lt hk, ho, hD.free⟩
theorem Has.back {S' : Nat → Prop} (h : Has S wb w p d) (h' : Has S' w w' p e) (sub : ∀ k, S' k → S k ∨ wb.heap.size ≤ k) : Has S wb w' p e := by
  obtain ⟨H', hp, hD, ho, hO⟩ := h'
  refine ⟨H', hp, hD, fun k hk => ?_, h.off.trans' hO sub⟩
  rcases ho k hk with a | a
  · exact sub k a
  · exact .inr (Nat.le_trans h.off.size a)
theorem Has.below (h : Has (fun _ => False) wb w p d) : Below wb.heap.size wb w := h.off.below (fun _ h => h.elim) (Nat.le_refl _)
theorem Row.off {g : Nat} {l : List Nat} (h : Row w g l) (ho : Off S w w') (hf : Free S w) : Row w' g l := ho.at_ h fun hs => hf g _ _ hs h
theorem addr_add (g i : Nat) : (⟨g, 0, none⟩ : Addr).add i = ⟨g, 0 + i, none⟩ := by unfold Addr.add; split <;> simp_all
end

theorem hnew (w : World) (z : Int) (n : Nat) (hn : (n : Int) = min (max z 0) 2048) :
    Calls Try.prog 8 #[.int .i64 z] w fun e w' => ∃ p, e = .returned (.pointer (some ⟨p, 0, none⟩)) ∧ Has (fun _ => False) w w' p (Dk.fresh n) := by
  refine (newD_any w z n hn).mono ?_
  rintro e w' ⟨H, rfl, hD, ho, hB⟩
  exact ⟨H.p, rfl, H, rfl, hD, fun k hk => .inr (ho k hk), Off.of_below hB⟩
section
variable {S : Nat → Prop} {wb : World} (w : World) (p : Nat) (d : Dk.Pd) (h : Has S wb w p d)
include h
theorem hwrite (no : Int) (n c : Nat) (A : Option Addr) (l : List Nat) (hb : Bs w A n c l) (hm : d.waits.length < 100000) :
    Calls Try.prog 54 #[.pointer (some ⟨p, 0, none⟩), .int .i64 no, .slice A n c] w fun e w' => e = .returned (.int .i64 (Dk.writeCode d no l)) ∧ Has S wb w' p (Dk.write d no l) := by
  obtain ⟨H, rfl, hD, ho, hO⟩ := h
  refine (write_any w H d no n c A l hD hb hm).mono ?_
  rintro e w' ⟨H', rfl, h', t'⟩
  exact ⟨rfl, Has.step rfl ho hO h' t'⟩
theorem hsync (hm : d.waits.length < 100000) :
    Calls Try.prog 21 #[.pointer (some ⟨p, 0, none⟩)] w fun e w' => e = .returned (.int .i64 (Dk.syncCode d)) ∧ Has S wb w' p (Dk.sync d) := by
  obtain ⟨H, rfl, hD, ho, hO⟩ := h
  refine (sync_any w H d hD hm).mono ?_
  rintro e w' ⟨H', rfl, h', t'⟩
  exact ⟨rfl, Has.step rfl ho hO h' t'⟩
theorem hwaiting (hm : d.waits.length < 100000) : Calls Try.prog 23 #[.pointer (some ⟨p, 0, none⟩)] w fun e w' => ∃ A c, e = .returned (.slice A d.waits.length c) ∧ Rd w' A d.waits.length c (nv (Dk.nos d)) ∧ Below w.heap.size w w' := by
  obtain ⟨H, rfl, hD, ho, hO⟩ := h
  exact waiting_any w H d hD hm
theorem hread (no : Nat) (hn : no < d.pages.length) : Calls Try.prog 55 #[.pointer (some ⟨p, 0, none⟩), .int .i64 (no : Int)] w fun e w' => ∃ g, e = .returned (.tuple #[.slice (some ⟨g, 0, none⟩) 1024 1024, .int .i64 0]) ∧ w.heap.size ≤ g ∧ (Dk.seen d no).length = 1024 ∧ (∀ x ∈ Dk.seen d no, x < 256) ∧ Row w' g (Dk.seen d no) ∧ Below w.heap.size w w' := by
  obtain ⟨H, rfl, hD, ho, hO⟩ := h
  exact read_any w H d no hD hn
theorem hread_no (no : Int) (hn : ¬ Dk.has d no) : Calls Try.prog 55 #[.pointer (some ⟨p, 0, none⟩), .int .i64 no] w fun e w' => e = .returned (.tuple #[.slice none 0 0, .int .i64 1]) ∧ w = w' := by
  obtain ⟨H, rfl, hD, ho, hO⟩ := h
  exact read_no w H d no hD hn
end

end Go.Proofs.Ytmcldkcmialfeaa
