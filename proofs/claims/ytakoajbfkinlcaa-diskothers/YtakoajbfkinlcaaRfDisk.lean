/-
  The document's disk in memory; what only asks or arms.
-/
import Derived.Test.YtakoajbfkinlcaaDkWait
import Derived.Test.YtakoajbfkinlcaaAppZero
namespace Go.Proofs.Ytakoajbfkinlcaa
open Go.RowKit
set_option linter.unusedVariables false

/-- A row of pages, none of them left out. -/
structure Sq (w : World) (v : Value) (ps : List (List Nat)) (vs : List Value) : Prop where
  row : Ss w v ps vs
  full : ∀ (i : Nat) (u : Value), vs[i]? = some u → u ≠ .slice none 0 0
theorem SfV.full {w : World} {v : Value} {l : List Nat} (h : SfV w v l) (hn : v ≠ .slice none 0 0) : PgV w v l := h.resolve_left fun h' => hn h'.1
theorem PgV.some {w : World} {v : Value} {l : List Nat} (h : PgV w v l) : v ≠ .slice none 0 0 := by
  obtain ⟨g, c, rfl, _⟩ := h.form
  intro e; injection e with e; cases e
section
variable {w w1 : World} {v : Value} {ps : List (List Nat)} {vs : List Value}
theorem Sq.off {S : Nat → Prop} (h : Sq w v ps vs) (ho : Off S w w1) (hf : Free S w) (hn : ∀ k, v.ownBlock = some k → ¬ S k) : Sq w1 v ps vs := ⟨h.row.off ho hf hn, h.full⟩
theorem Sq.on (h : Sq w v ps vs) (hb : Below w.heap.size w w1) : Sq w1 v ps vs := ⟨h.row.on hb, h.full⟩
theorem Sq.get (h : Sq w v ps vs) {k : Nat} (hk : k < ps.length) : ∃ g c u l, v = .slice (some ⟨g, 0, none⟩) ps.length c ∧ ps.length ≤ c ∧ ps[k]? = some l ∧ PgV w u l ∧ w.cell? ⟨g, k, none⟩ = some u := by
  obtain ⟨x, y, hx, hy, hp⟩ := h.row.along.get hk
  have ho := h.row.own
  rcases ho.2 with ⟨_, h0⟩ | ⟨g, cap, cur, hv, _, hg, h1, h2, hcs, htk⟩
  · omega
  · subst hv
    have c0 := (ho.cellAt k (by omega)).trans hx
    exact ⟨g, cap, x, y, rfl, h1, hy, hp.full (h.full k x hx), c0⟩
theorem Sq.put {g n c : Nat} (h : Sq w (.slice (some ⟨g, 0, none⟩) n c) ps vs) (k : Nat) {u : Value} {l : List Nat} (hu : PgV w u l) : Sq (w.setCell ⟨g, k, none⟩ u) (.slice (some ⟨g, 0, none⟩) n c) (ps.set k l) (vs.set k u) := by
  refine ⟨h.row.put k (.inr hu), fun i x hx => ?_⟩
  rw [List.getElem?_set] at hx
  split at hx
  · split at hx
    · injection hx with hx; subst hx; exact hu.some
    · cases hx
  · exact h.full i x hx
end

/-- Where the document's disk lies. -/
structure Gd where
  q : Nat
  sv : Value
  wv : Value
def Gd.own (G : Gd) (k : Nat) : Prop := k = G.q ∨ G.sv.ownBlock = some k ∨ G.wv.ownBlock = some k
/-- The document's disk in memory. -/
structure Rfd (w : World) (G : Gd) (d : Dk.Pd) : Prop where
  str : w.heap[G.q]? = some (.cells #[G.sv, G.wv, .int .i64 (d.left : Int), .bool d.down] 42 (0, 0))
  safe : ∃ vs, Sq w G.sv d.pages vs
  waits : ∃ xs, Ws w 66 G.wv d.waits xs
  ins : ∀ x ∈ d.waits, x.1 < d.pages.length
  few : d.pages.length ≤ 2048
  low : d.left < 9223372036854775808
section
variable {w w1 : World} {G : Gd} {d : Dk.Pd}
theorem Rfd.lt (h : Rfd w G d) {k : Nat} (hk : G.own k) : k < w.heap.size := by
  obtain ⟨vs, hs⟩ := h.safe
  obtain ⟨xs, hw⟩ := h.waits
  rcases hk with rfl | hk | hk
  · exact (Array.getElem?_eq_some_iff.1 h.str).1
  · exact own_lt hs.row.own hk
  · exact own_lt hw.own hk
theorem Rfd.free (h : Rfd w G d) : Free G.own w := by
  obtain ⟨vs, hs⟩ := h.safe
  obtain ⟨xs, hw⟩ := h.waits
  intro k cs m hk hh
  rcases hk with rfl | hk | hk
  · rw [h.str] at hh; simp at hh
  · obtain ⟨cs', hc⟩ := own_type hs.row.own hk; rw [hc] at hh; simp at hh
  · obtain ⟨cs', hc⟩ := own_type hw.own hk; rw [hc] at hh; simp at hh
theorem Rfd.off {S : Nat → Prop} (h : Rfd w G d) (ho : Off S w w1) (hf : Free S w) (hn : ∀ k, G.own k → ¬ S k) : Rfd w1 G d := by
  obtain ⟨vs, hs⟩ := h.safe
  obtain ⟨xs, hw⟩ := h.waits
  exact ⟨ho.at_ h.str (hn _ (.inl rfl)), ⟨vs, hs.off ho hf fun k hk => hn k (.inr (.inl hk))⟩, ⟨xs, hw.off ho hf fun k hk => hn k (.inr (.inr hk))⟩, h.ins, h.few, h.low⟩
theorem Rfd.on (h : Rfd w G d) (hb : Below w.heap.size w w1) : Rfd w1 G d :=
  h.off (S := fun _ => False) (Off.of_below hb) (fun _ _ _ h => h.elim) fun _ _ h => h
theorem Rfd.drewN (h : Rfd w G d) (m : Nat) : Rfd (w.drewN m) G d := h.on (below_drewN (Below.refl _ _) m)
theorem Rfd.frz (h : Rfd w G d) (j : Nat) : w.frozen? ⟨G.q, j, none⟩ = false := frozen_of_row w G.q j _ _ h.str
theorem Rfd.c0 (h : Rfd w G d) : w.cell? ⟨G.q, 0, none⟩ = some G.sv := cell_of_row w _ 0 _ _ (0, 0) h.str
theorem Rfd.c1 (h : Rfd w G d) : w.cell? ⟨G.q, 1, none⟩ = some G.wv := cell_of_row w _ 1 _ _ (0, 0) h.str
theorem Rfd.c2 (h : Rfd w G d) : w.cell? ⟨G.q, 2, none⟩ = some (.int .i64 (d.left : Int)) := cell_of_row w _ 2 _ _ (0, 0) h.str
theorem Rfd.c3 (h : Rfd w G d) : w.cell? ⟨G.q, 3, none⟩ = some (.bool d.down) := cell_of_row w _ 3 _ _ (0, 0) h.str
theorem Rfd.q_sv (h : Rfd w G d) {k : Nat} (hk : G.sv.ownBlock = some k) : k ≠ G.q := by
  rintro rfl
  obtain ⟨vs, hs⟩ := h.safe
  obtain ⟨cs', hc⟩ := own_type hs.row.own hk; rw [h.str] at hc; simp at hc
theorem Rfd.q_wv (h : Rfd w G d) {k : Nat} (hk : G.wv.ownBlock = some k) : k ≠ G.q := by
  rintro rfl
  obtain ⟨vs, hs⟩ := h.waits
  obtain ⟨cs', hc⟩ := own_type hs.own hk; rw [h.str] at hc; simp at hc
theorem Rfd.sv_wv (h : Rfd w G d) {k : Nat} (hk : G.sv.ownBlock = some k) : G.wv.ownBlock ≠ some k := by
  intro hw
  obtain ⟨vs, hs⟩ := h.safe
  obtain ⟨xs, hx⟩ := h.waits
  obtain ⟨cs, hc⟩ := own_type hs.row.own hk
  obtain ⟨cs', hc'⟩ := own_type hx.own hw; rw [hc] at hc'; simp at hc'
theorem Rfd.q_free (h : Rfd w G d) : Free (fun k => k = G.q) w := by
  intro k cs m hk hh
  subst hk
  rw [h.str] at hh; simp at hh
theorem Rfd.turn (h : Rfd w G d) (ho : Off (fun k => k = G.q) w w1) {e : Dk.Pd} (hp : e.pages = d.pages) (hw : e.waits = d.waits) (hl : e.left < 9223372036854775808)
    (hs : w1.heap[G.q]? = some (.cells #[G.sv, G.wv, .int .i64 (e.left : Int), .bool e.down] 42 (0, 0))) : Rfd w1 G e := by
  obtain ⟨vs, hsf⟩ := h.safe
  obtain ⟨xs, hwt⟩ := h.waits
  have hf := h.q_free
  refine ⟨hs, ⟨vs, ?_⟩, ⟨xs, ?_⟩, by rw [hw, hp]; exact h.ins, by rw [hp]; exact h.few, hl⟩
  · rw [hp]; exact hsf.off ho hf fun k hk => h.q_sv hk
  · rw [hw]; exact hwt.off ho hf fun k hk => h.q_wv hk
end
theorem rstr_set {w : World} {p : Nat} {a0 a1 a2 a3 : Value} {t : TypeId} (h : w.heap[p]? = some (.cells #[a0, a1, a2, a3] t (0, 0))) (v : Value) :
    (w.setCell ⟨p, 0, none⟩ v).heap[p]? = some (.cells #[v, a1, a2, a3] t (0, 0)) ∧ (w.setCell ⟨p, 1, none⟩ v).heap[p]? = some (.cells #[a0, v, a2, a3] t (0, 0)) ∧ (w.setCell ⟨p, 2, none⟩ v).heap[p]? = some (.cells #[a0, a1, v, a3] t (0, 0)) ∧ (w.setCell ⟨p, 3, none⟩ v).heap[p]? = some (.cells #[a0, a1, a2, v] t (0, 0)) :=
  ⟨heap_setCell_same w p 0 _ t v h, heap_setCell_same w p 1 _ t v h, heap_setCell_same w p 2 _ t v h, heap_setCell_same w p 3 _ t v h⟩

/-- The disk of G is written, and is the one of G' then. -/
structure Rtep (w : World) (G : Gd) (w' : World) (G' : Gd) : Prop where
  off : Off G.own w w'
  same : G'.q = G.q
  own : ∀ k, G'.own k → G.own k ∨ w.heap.size ≤ k
theorem Rtep.refl (w : World) (G : Gd) : Rtep w G w G := ⟨Off.refl _ _, rfl, fun _ => .inl⟩
theorem Rtep.trans {w w1 w2 : World} {G G1 G2 : Gd} (h : Rtep w G w1 G1) (h2 : Rtep w1 G1 w2 G2) : Rtep w G w2 G2 :=
  ⟨h.off.trans' h2.off h.own, h2.same.trans h.same, fun k hk => by
    rcases h2.own k hk with a | a
    · exact h.own k a
    · exact .inr (Nat.le_trans h.off.size a)⟩
theorem Rtep.of_q {w w' : World} {G : Gd} (h : Off (fun k => k = G.q) w w') : Rtep w G w' G := ⟨h.mono fun k hk => .inl (.inl hk), rfl, fun _ => .inl⟩
theorem Rtep.of_below {w w' : World} {G : Gd} (h : Below w.heap.size w w') : Rtep w G w' G := ⟨Off.of_below h, rfl, fun _ => .inl⟩

theorem rarm_any (w : World) (G : Gd) (d : Dk.Pd) (n : Int) (h : Rfd w G d) (hn : n < 9223372036854775808) :
    Calls Try.prog 18 #[.pointer (some ⟨G.q, 0, none⟩), .int .i64 n] w fun e w' => e = .returned (.tuple #[]) ∧ Rfd w' G (Dk.armed d n.toNat) ∧ Off (fun k => k = G.q) w w' := by
  have c2 := h.c2
  have f2 := h.frz 2
  have ho1 : Off (fun k => k = G.q) w (w.setCell ⟨G.q, 2, none⟩ (.int .i64 0)) := (Off.refl (fun k => k = G.q) w).set _ rfl
  have hs1 := (rstr_set h.str (.int .i64 0)).2.2.1
  by_cases h0 : n > 0
  · obtain ⟨m, rfl⟩ : ∃ m : Nat, n = (m : Int) := ⟨n.toNat, by omega⟩
    rw [Int.toNat_natCast]
    have ho2 : Off (fun k => k = G.q) w ((w.setCell ⟨G.q, 2, none⟩ (.int .i64 0)).setCell ⟨G.q, 2, none⟩ (.int .i64 (m : Int))) := ho1.set _ rfl
    have hs2 := (rstr_set hs1 (.int .i64 (m : Int))).2.2.1
    have HD := Lib.hid (h.turn (e := Dk.armed d m) ho2 rfl rfl (by show m < _; omega) hs2)
    have HO := Lib.hid ho2
    clear h ho1 hs1 ho2 hs2 hn
    go_enter Try.func18, Try.ntmps18
    go_wp2
    go_end0
    exact ⟨rfl, HD.out, HO.out⟩
  · have e : n.toNat = 0 := by omega
    rw [e]
    have HD := Lib.hid (h.turn (e := Dk.armed d 0) ho1 rfl rfl (by show 0 < _; omega) hs1)
    have HO := Lib.hid ho1
    clear h ho1 hs1 e hn
    go_enter Try.func18, Try.ntmps18
    go_wp2
    go_end0
    exact ⟨rfl, HD.out, HO.out⟩

theorem goes_any (w : World) (G : Gd) (d : Dk.Pd) (h : Rfd w G d) (hd : d.down = false) :
    Calls Try.prog 33 #[.pointer (some ⟨G.q, 0, none⟩)] w fun e w' => e = .returned (.bool (Dk.act d).down) ∧ Rfd w' G (Dk.act d) ∧ Off (fun k => k = G.q) w w' := by
  have c2 := h.c2
  have c3 := h.c3
  have f2 := h.frz 2
  have f3 := h.frz 3
  have hlow := h.low
  have hs := h.str
  rw [hd] at c3 hs
  by_cases h0 : d.left = 0
  · have e : Dk.act d = d := by unfold Dk.act; rw [if_pos h0]
    rw [e, hd]
    have HD := Lib.hid h
    rw [h0] at c2
    clear h hs hlow e
    go_enter Try.func33, Try.ntmps33
    go_wp2
    go_ret
    exact ⟨rfl, HD.out, Off.refl _ _⟩
  · obtain ⟨m, hm⟩ : ∃ m, d.left = m + 1 := ⟨d.left - 1, by omega⟩
    have e : Dk.act d = { d with left := m, down := decide (m = 0) } := by
      unfold Dk.act
      rw [if_neg h0, hm]
      simp
    rw [e]
    rw [hm] at c2
    have wm : wrap64 ((m : Int) + 1 - 1) = (m : Int) := by rw [show (m : Int) + 1 - 1 = (m : Int) from by omega]; exact IntWalk.wrap64_in _ ⟨by omega, by omega⟩
    have gm : ((m : Int) + 1) > 0 := by omega
    have c2' : w.cell? ⟨G.q, 2, none⟩ = some (.int .i64 ((m : Int) + 1)) := by rw [c2]; simp
    have ho1 : Off (fun k => k = G.q) w (w.setCell ⟨G.q, 2, none⟩ (.int .i64 (m : Int))) := (Off.refl (fun k => k = G.q) w).set _ rfl
    have hs1 := (rstr_set hs (.int .i64 (m : Int))).2.2.1
    by_cases hz : m = 0
    · subst hz
      have ho2 : Off (fun k => k = G.q) w ((w.setCell ⟨G.q, 2, none⟩ (.int .i64 ((0 : Nat) : Int))).setCell ⟨G.q, 3, none⟩ (.bool true)) := ho1.set _ rfl
      have hs2 := (rstr_set hs1 (.bool true)).2.2.2
      have HD := Lib.hid (h.turn (e := { d with left := 0, down := true }) ho2 rfl rfl (by show 0 < _; omega) hs2)
      have HO := Lib.hid ho2
      have e1 : (((0 : Nat) : Int) == 0) = true := rfl
      clear h hs hs1 ho1 ho2 hs2 c2 e
      go_enter Try.func33, Try.ntmps33
      go_wp2
      go_ret
      exact ⟨rfl, HD.out, HO.out⟩
    · have hz' : decide (m = 0) = false := by simp; omega
      rw [hz']
      have HD := Lib.hid (h.turn (e := { d with left := m, down := false }) ho1 rfl rfl (by show m < _; omega) hs1)
      have HO := Lib.hid ho1
      have e1 : ((m : Int) == 0) = false := by simp; omega
      clear h hs hs1 ho1 c2 e hz hz'
      go_enter Try.func33, Try.ntmps33
      go_wp2
      go_ret
      exact ⟨rfl, HD.out, HO.out⟩

end Go.Proofs.Ytakoajbfkinlcaa
