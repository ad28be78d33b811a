/-
  The document's disk in memory; what only asks or arms.
-/
/-
  The document's disk: Write.
-/
/-
  The document's disk: Read, Waiting, Ints, New.
-/
/-
  The document's disk: New.
-/
/-
  The document's disk: Sync, and a torn page.
-/
/-
  The document's disk: Crash.
-/
import Derived.Test.YtcpgmglpgffhdaaGrDisk
import Derived.Test.YtcpgmglpgffhdaaAppZero
import Derived.Deep.DeepCutAuto
import Derived.Deep.OwnRows
import Derived.Deep.RegionWith
namespace Go.Proofs.Ytcpgmglpgffhdaa
open Go.RowKit
set_option linter.unusedVariables false

/-- A row of pages, none of them left out. -/
structure Sq (w : World) (v : Value) (ps : List (List Nat)) (vs : List Value) : Prop where
  row : Ss w v ps vs
  full : ∀ (i : Nat) (u : Value), vs[i]? = some u → u ≠ .slice none 0 0
theorem SfV.full {w : World} {v : Value} {l : List Nat} (h : SfV w v l) (hn : v ≠ .slice none 0 0) : PgV w v l := h.resolve_left fun h' => hn h'.1
theorem PgV.some {w : World} {v : Value} {l : List Nat} (h : PgV w v l) : v ≠ .slice none 0 0 := by
  obtain ⟨g, c, rfl, _⟩ := h.form
  intro e; injection e with e; cases e
section
variable {w w1 : World} {v : Value} {ps : List (List Nat)} {vs : List Value}
theorem Sq.off {S : Nat → Prop} (h : Sq w v ps vs) (ho : Off S w w1) (hf : Free S w) (hn : ∀ k, v.ownBlock = some k → ¬ S k) : Sq w1 v ps vs := ⟨h.row.off ho hf hn, h.full⟩
theorem Sq.on (h : Sq w v ps vs) (hb : Below w.heap.size w w1) : Sq w1 v ps vs := ⟨h.row.on hb, h.full⟩
theorem Sq.get (h : Sq w v ps vs) {k : Nat} (hk : k < ps.length) : ∃ g c u l, v = .slice (some ⟨g, 0, none⟩) ps.length c ∧ ps.length ≤ c ∧ ps[k]? = some l ∧ PgV w u l ∧ w.cell? ⟨g, k, none⟩ = some u := by
  obtain ⟨x, y, hx, hy, hp⟩ := h.row.along.get hk
  have ho := h.row.own
  rcases ho.2 with ⟨_, h0⟩ | ⟨g, cap, cur, hv, _, hg, h1, h2, hcs, htk⟩
  · omega
  · subst hv
    have c0 := (ho.cellAt k (by omega)).trans hx
    exact ⟨g, cap, x, y, rfl, h1, hy, hp.full (h.full k x hx), c0⟩
theorem Sq.put {g n c : Nat} (h : Sq w (.slice (some ⟨g, 0, none⟩) n c) ps vs) (k : Nat) {u : Value} {l : List Nat} (hu : PgV w u l) : Sq (w.setCell ⟨g, k, none⟩ u) (.slice (some ⟨g, 0, none⟩) n c) (ps.set k l) (vs.set k u) := by
  refine ⟨h.row.put k (.inr hu), fun i x hx => ?_⟩
  rw [List.getElem?_set] at hx
  split at hx
  · split at hx
    · injection hx with hx; subst hx; exact hu.some
    · cases hx
  · exact h.full i x hx
end

/-- Where the document's disk lies. -/
structure Gd where
  q : Nat
  sv : Value
  wv : Value
def Gd.own (G : Gd) (k : Nat) : Prop := k = G.q ∨ G.sv.ownBlock = some k ∨ G.wv.ownBlock = some k
/-- The document's disk in memory. -/
structure Rfd (w : World) (G : Gd) (d : Dk.Pd) : Prop where
  str : w.heap[G.q]? = some (.cells #[G.sv, G.wv, .int .i64 (d.left : Int), .bool d.down] 71 (0, 0))
  safe : ∃ vs, Sq w G.sv d.pages vs
  waits : ∃ xs, Ws w 78 G.wv d.waits xs
  ins : ∀ x ∈ d.waits, x.1 < d.pages.length
  few : d.pages.length ≤ 2048
  low : d.left < 9223372036854775808
section
variable {w w1 : World} {G : Gd} {d : Dk.Pd}
theorem Rfd.lt (h : Rfd w G d) {k : Nat} (hk : G.own k) : k < w.heap.size := by
  obtain ⟨vs, hs⟩ := h.safe
  obtain ⟨xs, hw⟩ := h.waits
  rcases hk with rfl | hk | hk
  · exact (Array.getElem?_eq_some_iff.1 h.str).1
  · exact own_lt hs.row.own hk
  · exact own_lt hw.own hk
theorem Rfd.free (h : Rfd w G d) : Free G.own w := by
  obtain ⟨vs, hs⟩ := h.safe
  obtain ⟨xs, hw⟩ := h.waits
  intro k cs m hk hh
  rcases hk with rfl | hk | hk
  · rw [h.str] at hh; simp at hh
  · obtain ⟨cs', hc⟩ := own_type hs.row.own hk; rw [hc] at hh; simp at hh
  · obtain ⟨cs', hc⟩ := own_type hw.own hk; rw [hc] at hh; simp at hh
theorem Rfd.off {S : Nat → Prop} (h : Rfd w G d) (ho : Off S w w1) (hf : Free S w) (hn : ∀ k, G.own k → ¬ S k) : Rfd w1 G d := by
  obtain ⟨vs, hs⟩ := h.safe
  obtain ⟨xs, hw⟩ := h.waits
  exact ⟨ho.at_ h.str (hn _ (.inl rfl)), ⟨vs, hs.off ho hf fun k hk => hn k (.inr (.inl hk))⟩, ⟨xs, hw.off ho hf fun k hk => hn k (.inr (.inr hk))⟩, h.ins, h.few, h.low⟩
theorem Rfd.on (h : Rfd w G d) (hb : Below w.heap.size w w1) : Rfd w1 G d :=
  h.off (S := fun _ => False) (Off.of_below hb) (fun _ _ _ h => h.elim) fun _ _ h => h
theorem Rfd.drewN (h : Rfd w G d) (m : Nat) : Rfd (w.drewN m) G d := h.on (below_drewN (Below.refl _ _) m)
theorem Rfd.frz (h : Rfd w G d) (j : Nat) : w.frozen? ⟨G.q, j, none⟩ = false := frozen_of_row w G.q j _ _ h.str
theorem Rfd.c0 (h : Rfd w G d) : w.cell? ⟨G.q, 0, none⟩ = some G.sv := cell_of_row w _ 0 _ _ (0, 0) h.str
theorem Rfd.c1 (h : Rfd w G d) : w.cell? ⟨G.q, 1, none⟩ = some G.wv := cell_of_row w _ 1 _ _ (0, 0) h.str
theorem Rfd.c2 (h : Rfd w G d) : w.cell? ⟨G.q, 2, none⟩ = some (.int .i64 (d.left : Int)) := cell_of_row w _ 2 _ _ (0, 0) h.str
theorem Rfd.c3 (h : Rfd w G d) : w.cell? ⟨G.q, 3, none⟩ = some (.bool d.down) := cell_of_row w _ 3 _ _ (0, 0) h.str
theorem Rfd.q_sv (h : Rfd w G d) {k : Nat} (hk : G.sv.ownBlock = some k) : k ≠ G.q := by
  rintro rfl
  obtain ⟨vs, hs⟩ := h.safe
  obtain ⟨cs', hc⟩ := own_type hs.row.own hk; rw [h.str] at hc; simp at hc
theorem Rfd.q_wv (h : Rfd w G d) {k : Nat} (hk : G.wv.ownBlock = some k) : k ≠ G.q := by
  rintro rfl
  obtain ⟨vs, hs⟩ := h.waits
  obtain ⟨cs', hc⟩ := own_type hs.own hk; rw [h.str] at hc; simp at hc
theorem Rfd.sv_wv (h : Rfd w G d) {k : Nat} (hk : G.sv.ownBlock = some k) : G.wv.ownBlock ≠ some k := by
  intro hw
  obtain ⟨vs, hs⟩ := h.safe
  obtain ⟨xs, hx⟩ := h.waits
  obtain ⟨cs, hc⟩ := own_type hs.row.own hk
  obtain ⟨cs', hc'⟩ := own_type hx.own hw; rw [hc] at hc'; simp at hc'
theorem Rfd.q_free (h : Rfd w G d) : Free (fun k => k = G.q) w := by
  intro k cs m hk hh
  subst hk
  rw [h.str] at hh; simp at hh
theorem Rfd.turn (h : Rfd w G d) (ho : Off (fun k => k = G.q) w w1) {e : Dk.Pd} (hp : e.pages = d.pages) (hw : e.waits = d.waits) (hl : e.left < 9223372036854775808)
    (hs : w1.heap[G.q]? = some (.cells #[G.sv, G.wv, .int .i64 (e.left : Int), .bool e.down] 71 (0, 0))) : Rfd w1 G e := by
  obtain ⟨vs, hsf⟩ := h.safe
  obtain ⟨xs, hwt⟩ := h.waits
  have hf := h.q_free
  refine ⟨hs, ⟨vs, ?_⟩, ⟨xs, ?_⟩, by rw [hw, hp]; exact h.ins, by rw [hp]; exact h.few, hl⟩
  · rw [hp]; exact hsf.off ho hf fun k hk => h.q_sv hk
  · rw [hw]; exact hwt.off ho hf fun k hk => h.q_wv hk
end
theorem rstr_set {w : World} {p : Nat} {a0 a1 a2 a3 : Value} {t : TypeId} (h : w.heap[p]? = some (.cells #[a0, a1, a2, a3] t (0, 0))) (v : Value) :
    (w.setCell ⟨p, 0, none⟩ v).heap[p]? = some (.cells #[v, a1, a2, a3] t (0, 0)) ∧ (w.setCell ⟨p, 1, none⟩ v).heap[p]? = some (.cells #[a0, v, a2, a3] t (0, 0)) ∧ (w.setCell ⟨p, 2, none⟩ v).heap[p]? = some (.cells #[a0, a1, v, a3] t (0, 0)) ∧ (w.setCell ⟨p, 3, none⟩ v).heap[p]? = some (.cells #[a0, a1, a2, v] t (0, 0)) :=
  ⟨heap_setCell_same w p 0 _ t v h, heap_setCell_same w p 1 _ t v h, heap_setCell_same w p 2 _ t v h, heap_setCell_same w p 3 _ t v h⟩

/-- The disk of G is written, and is the one of G' then. -/
structure Rtep (w : World) (G : Gd) (w' : World) (G' : Gd) : Prop where
  off : Off G.own w w'
  same : G'.q = G.q
  own : ∀ k, G'.own k → G.own k ∨ w.heap.size ≤ k
theorem Rtep.refl (w : World) (G : Gd) : Rtep w G w G := ⟨Off.refl _ _, rfl, fun _ => .inl⟩
theorem Rtep.trans {w w1 w2 : World} {G G1 G2 : Gd} (h : Rtep w G w1 G1) (h2 : Rtep w1 G1 w2 G2) : Rtep w G w2 G2 :=
  ⟨h.off.trans' h2.off h.own, h2.same.trans h.same, fun k hk => by
    rcases h2.own k hk with a | a
    · exact h.own k a
    · exact .inr (Nat.le_trans h.off.size a)⟩
theorem Rtep.of_q {w w' : World} {G : Gd} (h : Off (fun k => k = G.q) w w') : Rtep w G w' G := ⟨h.mono fun k hk => .inl (.inl hk), rfl, fun _ => .inl⟩
theorem Rtep.of_below {w w' : World} {G : Gd} (h : Below w.heap.size w w') : Rtep w G w' G := ⟨Off.of_below h, rfl, fun _ => .inl⟩

theorem rarm_any (w : World) (G : Gd) (d : Dk.Pd) (n : Int) (h : Rfd w G d) (hn : n < 9223372036854775808) :
    Calls Try.prog 23 #[.pointer (some ⟨G.q, 0, none⟩), .int .i64 n] w fun e w' => e = .returned (.tuple #[]) ∧ Rfd w' G (Dk.armed d n.toNat) ∧ Off (fun k => k = G.q) w w' := by
  have c2 := h.c2
  have f2 := h.frz 2
  have ho1 : Off (fun k => k = G.q) w (w.setCell ⟨G.q, 2, none⟩ (.int .i64 0)) := (Off.refl (fun k => k = G.q) w).set _ rfl
  have hs1 := (rstr_set h.str (.int .i64 0)).2.2.1
  by_cases h0 : n > 0
  · obtain ⟨m, rfl⟩ : ∃ m : Nat, n = (m : Int) := ⟨n.toNat, by omega⟩
    rw [Int.toNat_natCast]
    have ho2 : Off (fun k => k = G.q) w ((w.setCell ⟨G.q, 2, none⟩ (.int .i64 0)).setCell ⟨G.q, 2, none⟩ (.int .i64 (m : Int))) := ho1.set _ rfl
    have hs2 := (rstr_set hs1 (.int .i64 (m : Int))).2.2.1
    have HD := Lib.hid (h.turn (e := Dk.armed d m) ho2 rfl rfl (by show m < _; omega) hs2)
    have HO := Lib.hid ho2
    clear h ho1 hs1 ho2 hs2 hn
    go_enter Try.func23, Try.ntmps23
    go_wp2
    go_end0
    exact ⟨rfl, HD.out, HO.out⟩
  · have e : n.toNat = 0 := by omega
    rw [e]
    have HD := Lib.hid (h.turn (e := Dk.armed d 0) ho1 rfl rfl (by show 0 < _; omega) hs1)
    have HO := Lib.hid ho1
    clear h ho1 hs1 e hn
    go_enter Try.func23, Try.ntmps23
    go_wp2
    go_end0
    exact ⟨rfl, HD.out, HO.out⟩

theorem goes_any (w : World) (G : Gd) (d : Dk.Pd) (h : Rfd w G d) (hd : d.down = false) :
    Calls Try.prog 44 #[.pointer (some ⟨G.q, 0, none⟩)] w fun e w' => e = .returned (.bool (Dk.act d).down) ∧ Rfd w' G (Dk.act d) ∧ Off (fun k => k = G.q) w w' := by
  have c2 := h.c2
  have c3 := h.c3
  have f2 := h.frz 2
  have f3 := h.frz 3
  have hlow := h.low
  have hs := h.str
  rw [hd] at c3 hs
  by_cases h0 : d.left = 0
  · have e : Dk.act d = d := by unfold Dk.act; rw [if_pos h0]
    rw [e, hd]
    have HD := Lib.hid h
    rw [h0] at c2
    clear h hs hlow e
    go_enter Try.func44, Try.ntmps44
    go_wp2
    go_ret
    exact ⟨rfl, HD.out, Off.refl _ _⟩
  · obtain ⟨m, hm⟩ : ∃ m, d.left = m + 1 := ⟨d.left - 1, by omega⟩
    have e : Dk.act d = { d with left := m, down := decide (m = 0) } := by
      unfold Dk.act
      rw [if_neg h0, hm]
      simp
    rw [e]
    rw [hm] at c2
    have wm : wrap64 ((m : Int) + 1 - 1) = (m : Int) := by rw [show (m : Int) + 1 - 1 = (m : Int) from by omega]; exact IntWalk.wrap64_in _ ⟨by omega, by omega⟩
    have gm : ((m : Int) + 1) > 0 := by omega
    have c2' : w.cell? ⟨G.q, 2, none⟩ = some (.int .i64 ((m : Int) + 1)) := by rw [c2]; simp
    have ho1 : Off (fun k => k = G.q) w (w.setCell ⟨G.q, 2, none⟩ (.int .i64 (m : Int))) := (Off.refl (fun k => k = G.q) w).set _ rfl
    have hs1 := (rstr_set hs (.int .i64 (m : Int))).2.2.1
    by_cases hz : m = 0
    · subst hz
      have ho2 : Off (fun k => k = G.q) w ((w.setCell ⟨G.q, 2, none⟩ (.int .i64 ((0 : Nat) : Int))).setCell ⟨G.q, 3, none⟩ (.bool true)) := ho1.set _ rfl
      have hs2 := (rstr_set hs1 (.bool true)).2.2.2
      have HD := Lib.hid (h.turn (e := { d with left := 0, down := true }) ho2 rfl rfl (by show 0 < _; omega) hs2)
      have HO := Lib.hid ho2
      have e1 : (((0 : Nat) : Int) == 0) = true := rfl
      clear h hs hs1 ho1 ho2 hs2 c2 e
      go_enter Try.func44, Try.ntmps44
      go_wp2
      go_ret
      exact ⟨rfl, HD.out, HO.out⟩
    · have hz' : decide (m = 0) = false := by simp; omega
      rw [hz']
      have HD := Lib.hid (h.turn (e := { d with left := m, down := false }) ho1 rfl rfl (by show m < _; omega) hs1)
      have HO := Lib.hid ho1
      have e1 : ((m : Int) == 0) = false := by simp; omega
      clear h hs hs1 ho1 c2 e hz hz'
      go_enter Try.func44, Try.ntmps44
      go_wp2
      go_ret
      exact ⟨rfl, HD.out, HO.out⟩

end Go.Proofs.Ytcpgmglpgffhdaa
namespace Go.Proofs.Ytcpgmglpgffhdaa
open Go.RowKit
set_option linter.unusedVariables false

theorem Try.info78 : (Try.prog.info? 78).map (fun i => (i.zero, i.size, i.bytes)) = some (some (.agg #[.int .i64 0, .slice none 0 0]), 2, 32) := by kernel_rfl
theorem Rfd.pushed {w w5 : World} {G : Gd} {d : Dk.Pd} {no g cap : Nat} {l : List Nat} {u : Value} {xs : List (Nat × Value)} (h : Rfd w G d) (hxs : Ws w 78 G.wv d.waits xs) (hno : no < d.pages.length)
    (ho : Off (fun k => k = G.q ∨ G.wv.ownBlock = some k) w w5) (hu : PgV w5 u l) (hstr : w5.heap[G.q]? = some (.cells #[G.sv, .slice (some ⟨g, 0, none⟩) (d.waits.length + 1) cap, .int .i64 (d.left : Int), .bool d.down] 71 (0, 0)))
    (hrow : w5.ownsRow 0 78 2 (.slice (some ⟨g, 0, none⟩) (d.waits.length + 1) cap) (d.waits.length + 1) (wc xs ++ [.int .i64 (no : Int), u])) : Rfd w5 ⟨G.q, G.sv, .slice (some ⟨g, 0, none⟩) (d.waits.length + 1) cap⟩ (Dk.push d no l) := by
  obtain ⟨vs, hs⟩ := h.safe
  have hf : Free (fun k => k = G.q ∨ G.wv.ownBlock = some k) w := fun k cs m hk => h.free k cs m (by rcases hk with a | a; exact .inl a; exact .inr (.inr a))
  have hwl : (Dk.push d no l).waits.length = d.waits.length + 1 := by simp [Dk.push]
  refine ⟨hstr, ⟨vs, hs.off ho hf fun k hk hk' => ?_⟩, ⟨xs ++ [(no, u)], ?_, ?_⟩, ?_, h.few, h.low⟩
  · rcases hk' with a | a
    · exact h.q_sv hk a
    · exact h.sv_wv hk a
  · rw [hwl, wc_snoc]; exact hrow
  · exact (hxs.along.mono fun x y hr => ⟨hr.1, hr.2.off ho hf⟩).snoc ⟨rfl, hu⟩
  · intro x hx
    rcases List.mem_append.1 hx with h1 | h1
    · exact h.ins x h1
    · simp at h1; subst h1; exact hno

/-- An append onto an empty row that the call has just made. -/
theorem byte_below (w : World) {w2 : World} (g2 : (w.alloc (.cells #[] 5)).drew.grownBy w2 (Value.slice (some ⟨w.heap.size, 0, none⟩) 0 0).ownBlock) : Below w.heap.size w w2 :=
  (((Below.refl w.heap.size w).alloc (Nat.le_refl _) (.cells #[] 5)).drew).grown g2 (by simp) (fun k hk => by injection hk with hk; subst hk; exact Nat.le_refl _)
theorem own2_on {w w' : World} {base e size n : Nat} {v : Value} {xs : List Value} (h : w.ownsRow base e size v n xs) (hb : Below w.heap.size w w') : w'.ownsRow base e size v n xs :=
  h.kept (only_of hb none) (by cases hv : v.ownBlock <;> simp)

theorem rstr_kept {w w2 w3 : World} {G : Gd} {d : Dk.Pd} (h : Rfd w G d) (hb : Below w.heap.size w w2) (o : Obj) (g3 : (w2.alloc o).grownBy w3 G.wv.ownBlock) :
    w3.heap[G.q]? = some (.cells #[G.sv, G.wv, .int .i64 (d.left : Int), .bool d.down] 71 (0, 0)) := by
  have a := (Off.refl (fun _ => False) w2).alloc o
  exact (Off.of_grown (S := fun k => G.wv.ownBlock = some k) g3 fun k hk => hk).at_ (a.at_ (h.on hb).str id) (fun hk => h.q_wv hk rfl)

theorem rpush_done {w w2 w3 : World} {G : Gd} {d : Dk.Pd} {no g cap : Nat} {l : List Nat} {u : Value} {xs : List (Nat × Value)} {o : Obj} (h : Rfd w G d) (hxs : Ws w 78 G.wv d.waits xs) (hno : no < d.pages.length) (B2 : Below w.heap.size w w2) (P2 : PgV w2 u l)
    (O4 : w3.ownsRow 0 78 2 (.slice (some ⟨g, 0, none⟩) (d.waits.length + 1) cap) (d.waits.length + 1) (wc xs ++ [.int .i64 (no : Int), u])) (g4 : (w2.alloc o).grownBy w3 G.wv.ownBlock) (hl4 : G.wv.ownBlock = some g ∨ g = (w2.alloc o).heap.size) :
    ∃ G', G'.q = G.q ∧ Rfd (w3.setCell ⟨G.q, 1, none⟩ (.slice (some ⟨g, 0, none⟩) (d.waits.length + 1) cap)) G' (Dk.push d no l) ∧ Rtep w G (w3.setCell ⟨G.q, 1, none⟩ (.slice (some ⟨g, 0, none⟩) (d.waits.length + 1) cap)) G' := by
  have HS := rstr_kept h B2 _ g4
  have hoff : Off (fun k => k = G.q ∨ G.wv.ownBlock = some k) w (w3.setCell ⟨G.q, 1, none⟩ (.slice (some ⟨g, 0, none⟩) (d.waits.length + 1) cap)) :=
    (((Off.of_below B2).alloc _).trans (Off.of_grown g4 fun k hk => .inr hk)).set _ (.inl rfl)
  have hof2 : Off (fun k => k = G.q ∨ G.wv.ownBlock = some k) w2 (w3.setCell ⟨G.q, 1, none⟩ (.slice (some ⟨g, 0, none⟩) (d.waits.length + 1) cap)) :=
    (((Off.refl _ w2).alloc _).trans (Off.of_grown g4 fun k hk => .inr hk)).set _ (.inl rfl)
  have h2 := h.on B2
  have hu := P2.off hof2 (fun k cs m hk => h2.free k cs m (by rcases hk with a | a; exact .inl a; exact .inr (.inr a)))
  have hs4 := (rstr_set HS (.slice (some ⟨g, 0, none⟩) (d.waits.length + 1) cap)).2.1
  have hrow := ((Off.refl (fun k => k = G.q) w3).set (i := 1) (.slice (some ⟨g, 0, none⟩) (d.waits.length + 1) cap) rfl).own O4 (fun k hk e => by
    subst e
    obtain ⟨cs', hc⟩ := own_type O4 hk
    rw [HS] at hc; simp at hc)
  have hD := h.pushed (no := no) (l := l) hxs hno hoff hu hs4 hrow
  refine ⟨⟨G.q, G.sv, .slice (some ⟨g, 0, none⟩) (d.waits.length + 1) cap⟩, rfl, hD, ⟨hoff.mono fun k hk => .inl (by rcases hk with a | a; exact .inl a; exact .inr (.inr a)), rfl, fun k hk => ?_⟩⟩
  rcases hk with hk | hk | hk
  · exact .inl (.inl hk)
  · exact .inl (.inr (.inl hk))
  · injection hk with hk
    subst hk
    rcases hl4 with h3 | h3
    · exact .inl (.inr (.inr h3))
    · right; show _ ≤ g; have := B2.size; simp at h3; omega

set_option maxRecDepth 100000 in
set_option maxHeartbeats 1000000 in
theorem rwrite_ok (w : World) (G : Gd) (d : Dk.Pd) (no c : Nat) (A : Option Addr) (l : List Nat) (h : Rfd w G d) (hno : no < d.pages.length) (hb : Bs w A 1024 c l) (hd : d.down = false) (hm : d.waits.length < 1000) :
    Calls Try.prog 27 #[.pointer (some ⟨G.q, 0, none⟩), .int .i64 (no : Int), .slice A 1024 c] w fun e w' => ∃ G', e = .returned (.int .i64 (Dk.code (Dk.act (Dk.push d no l)))) ∧ Rfd w' G' (Dk.act (Dk.push d no l)) ∧ Rtep w G w' G' := by
  obtain ⟨i0, hi, hz0, hz1, hz2⟩ := info_parts Try.info78
  obtain ⟨b0, bi, bz0, bz1, bz2⟩ := info_parts Try.info5
  have hfew := h.few
  have hl := hb.1
  have hlt := hb.2.2.2.1
  have c0 := h.c0
  have c1 := h.c1
  have c3 := h.c3
  rw [hd] at c3
  obtain ⟨vs, hs⟩ := h.safe
  obtain ⟨As, cs, hsv, _, _⟩ := hs.row.form
  rw [hsv] at c0
  obtain ⟨xs, hx⟩ := h.waits
  have g0 : decide ((no : Int) < 0) = false := by simp
  have g1 : decide ((no : Int) ≥ (d.pages.length : Int)) = false := by simp; omega
  have hq := h.lt (.inl rfl)
  have O0 := Lib.hid (World.ownsRow_made (base := 0) (e := 5) (size := 1) w #[] 0 (Nat.zero_le _) (Nat.zero_le _) rfl)
  have S0 := Lib.hid (hb.alloc (.cells #[] 5))
  have HH := Lib.hid h
  have HX := Lib.hid hx
  have HDn := Lib.hid hd
  have HL := Lib.hid hl
  have HLT := Lib.hid hlt
  clear h hb hl hlt hs hx hd
  go_enter Try.func27, Try.ntmps27
  go_upto_region 5 with fail
  go_cut [38] (fun _ wx => ∃ G', G'.q = G.q ∧ Rfd wx G' (Dk.push d no l) ∧ Rtep w G wx G')
  case first =>
   go_region_law (first
    | (refine step_append_run rfl (.tmp 33) (.tmp 34) 25 25 rfl (.slice (some ⟨w.heap.size, 0, none⟩) 0 0) (.slice A 1024 c) (by simp [Act.eval]) (by simp [Act.eval]) _ (run_append_bs _ 0 25 _ 5 b0 (.int .u8 0) Try.underlying25 bi bz0 bz1 bz2 rfl _ 0 [] (by exact O0.out) A 1024 c l (by exact S0.out) (by omega) (by simp)) ?_; rintro v2 w2 ⟨O2, g2⟩; have P2 : PgV w2 v2 l := ⟨HL.out, HLT.out, by simpa using O2⟩; obtain ⟨gu, ku, rfl, _, _, _⟩ := P2.form; have B2 := Lib.hid (byte_below w g2); have HP2 := Lib.hid P2; have c1' := (B2.out.cell (p := ⟨G.q, 1, none⟩) hq).trans c1; have hq2 : G.q < w2.heap.size := Nat.lt_of_lt_of_le hq B2.out.size; have O3 := Lib.hid ((own2_on HX.out.own B2.out).alloc (.cells #[.int .i64 (no : Int), .slice (some ⟨gu, 0, none⟩) 1024 ku] 78)); clear O2 g2 P2)
    | (refine step_append_lies _ rfl (.tmp 31) (.tmp 37) 69 rfl 0 78 i0 _ 2 32 Try.underlying69 hi hz0 hz1 hz2 rfl (by decide) G.wv d.waits.length (wc xs) (by simp [Act.eval]) O3.out ⟨w2.heap.size, 0, none⟩ 1 1 [.int .i64 (no : Int), .slice (some ⟨gu, 0, none⟩) 1024 ku] (by simp [Act.eval]) rfl (cell_two _ _ _ _) (two_cell rfl rfl) (by decide) (by unfold maxLen; omega) (by omega) (Nat.zero_le _) _ rfl ?_; intro g cap w3 O4 g4 hl4 hg4; have HS := Lib.hid (rstr_kept HH.out B2.out _ g4); have c1'' := cell_of_row w3 _ 1 _ _ (0, 0) HS.out; have f1'' := frozen_of_row w3 G.q 1 _ _ HS.out; simp at c1''))
   all_goals
     have R4 := Lib.hid (rpush_done HH.out HX.out hno B2.out HP2.out O4 g4 hl4)
     clear O4 g4 hl4 hg4 HS c1'' f1'' c1' O3 HP2 B2
     go_wp2_with fail
     go_meet
     exact R4.out
  case rest =>
    obtain ⟨G', hq', h5, hSt⟩ := hcut
    have HSt := Lib.hid hSt
    have C := Lib.hid (goes_any wc G' _ h5 (by exact HDn.out))
    rw [hq'] at C
    clear h5 hSt
    cases hdd : (Dk.act (Dk.push d no l)).down with
    | false =>
      have ec : Dk.code (Dk.act (Dk.push d no l)) = 0 := by unfold Dk.code; rw [hdd]; rfl
      rw [hdd] at C
      go_wp2_with fail
      refine C.out.mono ?_
      rintro e w6 ⟨rfl, h6, o6⟩
      go_wp2
      go_ret
      exact ⟨_, by rw [ec]; rfl, h6, HSt.out.trans (Rtep.of_q (by rw [hq']; exact o6))⟩
    | true =>
      have ec : Dk.code (Dk.act (Dk.push d no l)) = 3 := by unfold Dk.code; rw [hdd]; rfl
      rw [hdd] at C
      go_wp2_with fail
      refine C.out.mono ?_
      rintro e w6 ⟨rfl, h6, o6⟩
      go_wp2
      go_ret
      exact ⟨_, by rw [ec]; rfl, h6, HSt.out.trans (Rtep.of_q (by rw [hq']; exact o6))⟩

theorem rwrite_arg (w : World) (G : Gd) (d : Dk.Pd) (no : Int) (n c : Nat) (A : Option Addr) (h : Rfd w G d) (hno : ¬ (Dk.has d no ∧ n = 1024)) :
    Calls Try.prog 27 #[.pointer (some ⟨G.q, 0, none⟩), .int .i64 no, .slice A n c] w fun e w' => e = .returned (.int .i64 1) ∧ w = w' := by
  have c0 := h.c0
  obtain ⟨vs, hs⟩ := h.safe
  obtain ⟨As, cs, hsv, _, _⟩ := hs.row.form
  rw [hsv] at c0
  unfold Dk.has at hno
  clear hs h hsv
  generalize d.pages.length = m at *
  by_cases h0 : no < 0
  · go_enter Try.func27, Try.ntmps27
    go_wp2
    go_ret
    exact ⟨rfl, rfl⟩
  · have g0 : decide (no < 0) = false := by simp; omega
    by_cases h1 : no ≥ (m : Int)
    · have g1 : decide (no ≥ (m : Int)) = true := by simp; omega
      clear hno
      go_enter Try.func27, Try.ntmps27
      go_wp2
      go_ret
      exact ⟨rfl, rfl⟩
    · have g1 : decide (no ≥ (m : Int)) = false := by simp; omega
      have hn : ((n : Int) != 1024) = true := by
        have : ¬ n = 1024 := fun h' => hno ⟨⟨by omega, by omega⟩, h'⟩
        simp; omega
      clear hno
      go_enter Try.func27, Try.ntmps27
      go_wp2
      go_ret
      exact ⟨rfl, rfl⟩
theorem rwrite_down (w : World) (G : Gd) (d : Dk.Pd) (no : Int) (c : Nat) (A : Option Addr) (h : Rfd w G d) (hno : Dk.has d no) (hdn : d.down = true) :
    Calls Try.prog 27 #[.pointer (some ⟨G.q, 0, none⟩), .int .i64 no, .slice A 1024 c] w fun e w' => e = .returned (.int .i64 3) ∧ w = w' := by
  have c0 := h.c0
  have c3 := h.c3
  rw [hdn] at c3
  obtain ⟨vs, hs⟩ := h.safe
  obtain ⟨As, cs, hsv, _, _⟩ := hs.row.form
  rw [hsv] at c0
  unfold Dk.has at hno
  clear hs h hsv hdn
  generalize d.pages.length = m at *
  have g0 : decide (no < 0) = false := by simp; omega
  have g1 : decide (no ≥ (m : Int)) = false := by simp; omega
  go_enter Try.func27, Try.ntmps27
  go_wp2
  go_ret
  exact ⟨rfl, rfl⟩
/-- The document's Write, whatever is handed in. -/
theorem rwrite_any (w : World) (G : Gd) (d : Dk.Pd) (no : Int) (n c : Nat) (A : Option Addr) (l : List Nat) (h : Rfd w G d) (hb : Bs w A n c l) (hm : d.waits.length < 1000) :
    Calls Try.prog 27 #[.pointer (some ⟨G.q, 0, none⟩), .int .i64 no, .slice A n c] w fun e w' => ∃ G', e = .returned (.int .i64 (Dk.writeCode d no l)) ∧ Rfd w' G' (Dk.write d no l) ∧ Rtep w G w' G' := by
  have hl := hb.1
  by_cases hh : Dk.has d no ∧ n = 1024
  · obtain ⟨h1, rfl⟩ := hh
    have hc : Dk.has d no ∧ l.length = 1024 := ⟨h1, hl⟩
    cases hdn : d.down with
    | false =>
      have h2 := h1
      unfold Dk.has at h2
      obtain ⟨m, rfl⟩ : ∃ m : Nat, no = (m : Int) := ⟨no.toNat, by omega⟩
      have e1 : Dk.writeCode d (m : Int) l = Dk.code (Dk.act (Dk.push d m l)) := by unfold Dk.writeCode; rw [if_pos hc, hdn, Int.toNat_natCast]; rfl
      have e2 : Dk.write d (m : Int) l = Dk.act (Dk.push d m l) := by unfold Dk.write; rw [if_pos hc, hdn, Int.toNat_natCast]; rfl
      rw [e1, e2]
      exact rwrite_ok w G d m c A l h (by omega) hb hdn hm
    | true =>
      have e1 : Dk.writeCode d no l = 3 := by unfold Dk.writeCode; rw [if_pos hc, hdn]; rfl
      have e2 : Dk.write d no l = d := by unfold Dk.write; rw [if_pos hc, hdn]; rfl
      rw [e1, e2]
      refine (rwrite_down w G d no c A h h1 hdn).mono ?_
      rintro e w' ⟨rfl, rfl⟩
      exact ⟨G, rfl, h, Rtep.refl _ _⟩
  · have hc : ¬ (Dk.has d no ∧ l.length = 1024) := by rw [hl]; exact hh
    have e1 : Dk.writeCode d no l = 1 := by unfold Dk.writeCode; rw [if_neg hc]
    have e2 : Dk.write d no l = d := by unfold Dk.write; rw [if_neg hc]
    rw [e1, e2]
    refine (rwrite_arg w G d no n c A h hh).mono ?_
    rintro e w' ⟨rfl, rfl⟩
    exact ⟨G, rfl, h, Rtep.refl _ _⟩

end Go.Proofs.Ytcpgmglpgffhdaa
namespace Go.Proofs.Ytcpgmglpgffhdaa
open Go.RowKit
set_option linter.unusedVariables false

theorem rread_no (w : World) (G : Gd) (d : Dk.Pd) (no : Int) (h : Rfd w G d) (hn : ¬ Dk.has d no) :
    Calls Try.prog 51 #[.pointer (some ⟨G.q, 0, none⟩), .int .i64 no] w fun e w' => e = .returned (.tuple #[.slice none 0 0, .int .i64 1]) ∧ w = w' := by
  have c0 := h.c0
  obtain ⟨vs, hs⟩ := h.safe
  obtain ⟨As, cs, hsv, _, _⟩ := hs.row.form
  rw [hsv] at c0
  unfold Dk.has at hn
  clear hs h hsv
  generalize d.pages.length = m at *
  by_cases h0 : no < 0
  · go_enter Try.func51, Try.ntmps51
    go_wp2
    go_ret2
    exact ⟨rfl, rfl⟩
  · have g0 : decide (no < 0) = false := by simp; omega
    have g1 : decide (no ≥ (m : Int)) = true := by simp; omega
    clear hn
    go_enter Try.func51, Try.ntmps51
    go_wp2
    go_ret2
    exact ⟨rfl, rfl⟩

set_option maxRecDepth 100000 in
set_option maxHeartbeats 1000000 in
theorem rread_any (w : World) (G : Gd) (d : Dk.Pd) (no : Nat) (h : Rfd w G d) (hn : no < d.pages.length) (hm : d.waits.length < 1000) :
    Calls Try.prog 51 #[.pointer (some ⟨G.q, 0, none⟩), .int .i64 (no : Int)] w fun e w' => ∃ A c, e = .returned (.tuple #[.slice A 1024 c, .int .i64 0]) ∧ Bs w' A 1024 c (Dk.seen d no) ∧ Below w.heap.size w w' := by
  obtain ⟨b0, bi, bz0, bz1, bz2⟩ := info_parts Try.info5
  obtain ⟨vs, hs⟩ := h.safe
  obtain ⟨xs, hx⟩ := h.waits
  obtain ⟨A', cw, hwv, hwc, hwm⟩ := hx.form
  have c0 := h.c0
  have c1 := h.c1
  rw [hwv] at c1
  unfold maxLen at hwm
  obtain ⟨g, c, u, l, hv, hc, hl, hu, cu⟩ := hs.get hn
  rw [hv] at c0
  have hse : Dk.seenTo d no 0 = l := by
    show d.pages.getD no [] = l; rw [List.getD_eq_getElem?_getD, hl]; rfl
  rw [← hse] at hu
  have z1 : (no : Int) < (d.pages.length : Int) := by omega
  have g0 : decide ((no : Int) < 0) = false := by simp
  have g1 : decide ((no : Int) ≥ (d.pages.length : Int)) = false := by simp; omega
  have HU := Lib.hid hu
  have HX := Lib.hid hx
  have HW := Lib.hid hwv
  clear hs hx hwv hv hl hu h hse
  go_enter Try.func51, Try.ntmps51
  go_wp2_with fail
  go_loopw [6, 7] (fun v i wr => ∃ k : Nat, k ≤ d.waits.length ∧ i = .int .i64 (k : Int) ∧ PgV w v (Dk.seenTo d no k) ∧ wr = w) (fun _ i _ => d.waits.length - (intOf i).toNat)
  case atStart => exact ⟨0, Nat.zero_le _, rfl, HU.out, rfl⟩
  case round =>
    obtain ⟨k, hk, rfl, hV, rfl⟩ := hrel
    by_cases hlt : k < d.waits.length
    · obtain ⟨g', c', no', u', l', hv', hc', hw, hu', cn, cu'⟩ := HX.out.get hlt
      rw [HW.out] at hv'
      injection hv' with hv' _ hv2
      subst hv' hv2
      have z2 : (k : Int) < (d.waits.length : Int) := by omega
      have HS := Lib.hid (Dk.seen_step (no := no) hw)
      have HV := Lib.hid hV
      have HU' := Lib.hid hu'
      obtain ⟨gu, ku, rfl, _, _, _⟩ := hu'.form
      clear hV hu' hw
      by_cases he : no' = no
      · have he' : ((no' : Int) == (no : Int)) = true := by simp [he]
        have hN : PgV wr (.slice (some ⟨gu, 0, none⟩) 1024 ku) (Dk.seenTo d no (k + 1)) := by rw [HS.out, if_pos he]; exact HU'.out
        have HN := Lib.hid hN
        clear hN he HS HU' HV
        go_wp2
        go_roundw
        case rel => exact ⟨k + 1, by omega, by go_num, HN.out, trivial⟩
        case measure => simp [intOf]; omega
      · have he' : ((no' : Int) == (no : Int)) = false := by simp; omega
        have hN : PgV wr u6 (Dk.seenTo d no (k + 1)) := by rw [HS.out, if_neg he]; exact HV.out
        have HN := Lib.hid hN
        clear hN he HS HU' HV
        go_wp2
        go_roundw
        case rel => exact ⟨k + 1, by omega, by go_num, HN.out, trivial⟩
        case measure => simp [intOf]; omega
    · have hk' : k = d.waits.length := by omega
      have hf : ¬ ((k : Int) < (d.waits.length : Int)) := by omega
      obtain ⟨gu, ku, rfl, hbu, hcu, hmu⟩ := hV.form
      have HN := Lib.hid hV.len
      have HT := Lib.hid hV.lt
      have O4 := Lib.hid (World.ownsRow_made (base := wr.heap.size) (e := 5) (size := 1) wr #[] 0 (Nat.le_refl _) (Nat.zero_le _) rfl)
      have S4 := Lib.hid (hbu.alloc (.cells #[] 5))
      have B4 : Below wr.heap.size wr (wr.alloc (.cells #[] 5)) := (Below.refl _ _).alloc (Nat.le_refl _) _
      have HK := Lib.hid hk'
      clear hV hbu hk' hlt
      go_wp2_with (at_builtin; refine wpList_append_bs _ rfl _ _ 25 rfl wr.heap.size 5 b0 (.int .u8 0) Try.underlying25 bi bz0 bz1 bz2 rfl _ _ _ rfl O4.out _ _ _ _ rfl S4.out (by omega) (by simp) ?_; intro v5 w5 O5 g5)
      have b5 : Below wr.heap.size wr w5 := below_own B4 O4.out g5 (by simp) (Nat.le_refl _)
      rw [Nat.zero_add, List.nil_append] at O5
      obtain ⟨A5, c5, rfl, hc5, _⟩ := own_form O5
      have o5 := own_bs O5 HN.out HT.out
      rw [HK.out] at o5
      have HO := Lib.hid o5
      have HB := Lib.hid b5
      clear O5 o5 b5 g5 O4 S4 B4
      go_wp2
      go_ret2
      exact ⟨A5, c5, rfl, HO.out, HB.out⟩



end Go.Proofs.Ytcpgmglpgffhdaa
namespace Go.Proofs.Ytcpgmglpgffhdaa
open Go.RowKit Go.Deep
set_option linter.unusedVariables false

theorem fresh_more (k : Nat) : (Dk.fresh (k + 1)).pages = (Dk.fresh k).pages ++ [List.replicate 1024 0] := by
  show List.replicate (k + 1) _ = List.replicate k _ ++ [_]
  rw [List.replicate_succ']
theorem Sq.snoc {w : World} {v v' : Value} {ps : List (List Nat)} {vs : List Value} {n : Nat} {u : Value} {l : List Nat} (h : Along (SfV w) vs ps) (hf : ∀ (i : Nat) (u : Value), vs[i]? = some u → u ≠ .slice none 0 0) (hn : ps.length = n) (ho : w.ownsRow 0 25 1 v' (n + 1) (vs ++ [u])) (hu : PgV w u l) : Sq w v' (ps ++ [l]) (vs ++ [u]) := by
  refine ⟨⟨by rw [List.length_append, hn]; exact ho, h.snoc (.inr hu)⟩, fun i x hx => ?_⟩
  rcases Nat.lt_or_ge i vs.length with hi | hi
  · rw [List.getElem?_append_left hi] at hx; exact hf i x hx
  · rw [List.getElem?_append_right hi] at hx
    have := List.mem_of_getElem? hx
    simp at this
    subst this
    exact hu.some
theorem zeros_lt (n : Nat) : ∀ x ∈ List.replicate n 0, x < 256 := by
  intro x hx; have := List.eq_of_mem_replicate hx; omega
theorem rgrow_done {w w3 : World} {q k g cap : Nat} {sv u : Value} {vs : List Value} {Z : Array Value} {o : Obj} (hZ : Z = (bv (List.replicate 1024 0)).toArray) (h : Rfd w ⟨q, sv, .slice none 0 0⟩ (Dk.fresh k)) (hs : Sq w sv (Dk.fresh k).pages vs) (hk : k + 1 ≤ 2048)
    (O4 : w3.ownsRow 0 25 1 (.slice (some ⟨g, 0, none⟩) (k + 1) cap) (k + 1) (vs ++ [.slice (some ⟨w.heap.size, 0, none⟩) 1024 1024])) (g4 : ((w.alloc (.cells Z 5)).alloc o).grownBy w3 sv.ownBlock) :
    Rfd (w3.setCell ⟨q, 0, none⟩ (.slice (some ⟨g, 0, none⟩) (k + 1) cap)) ⟨q, .slice (some ⟨g, 0, none⟩) (k + 1) cap, .slice none 0 0⟩ (Dk.fresh (k + 1)) := by
  have hR : Row (w.alloc (.cells Z 5)) w.heap.size (List.replicate 1024 0) := by subst hZ; exact heap_alloc_new w _
  have hP : PgV (w.alloc (.cells Z 5)) (.slice (some ⟨w.heap.size, 0, none⟩) 1024 1024) (List.replicate 1024 0) := PgV.of_row hR List.length_replicate (zeros_lt 1024)
  have B1 : Below w.heap.size w (w.alloc (.cells Z 5)) := (Below.refl _ _).alloc (Nat.le_refl _) _
  have h1 := h.on B1
  have o3 : Off (fun j => j = q ∨ sv.ownBlock = some j) (w.alloc (.cells Z 5)) w3 := ((Off.refl _ _).alloc _).trans (Off.of_grown g4 fun j hj => .inr hj)
  have o4 : Off (fun j => j = q ∨ sv.ownBlock = some j) (w.alloc (.cells Z 5)) (w3.setCell ⟨q, 0, none⟩ (.slice (some ⟨g, 0, none⟩) (k + 1) cap)) := o3.set _ (.inl rfl)
  have hf : Free (fun j => j = q ∨ sv.ownBlock = some j) (w.alloc (.cells Z 5)) := fun j cs m hj => h1.free j cs m (by rcases hj with a | a; exact .inl a; exact .inr (.inl a))
  have hst3 : w3.heap[q]? = some (.cells #[sv, .slice none 0 0, .int .i64 ((0 : Nat) : Int), .bool false] 71 (0, 0)) := by
    have a := (Off.refl (fun _ => False) (w.alloc (.cells Z 5))).alloc o
    exact (Off.of_grown (S := fun j => sv.ownBlock = some j) g4 fun j hj => hj).at_ (a.at_ h1.str id) (fun hj => h.q_sv hj rfl)
  have hrow := ((Off.refl (fun j => j = q) w3).set (i := 0) (.slice (some ⟨g, 0, none⟩) (k + 1) cap) rfl).own O4 (fun j hj e => by
    subst e
    obtain ⟨cs', hc⟩ := own_type O4 hj
    rw [hst3] at hc; simp at hc)
  refine ⟨(rstr_set hst3 _).1, ⟨vs ++ [.slice (some ⟨w.heap.size, 0, none⟩) 1024 1024], ?_⟩, ⟨[], World.ownsRow_nil _ _ _ _, Along.nil_⟩, fun x hx => absurd hx List.not_mem_nil, by rw [fresh_len]; exact hk, by show 0 < _; omega⟩
  rw [fresh_more]
  exact Sq.snoc (v := sv) ((hs.on B1).row.along.mono fun x y hr => hr.off o4 hf) hs.full (fresh_len k) hrow (hP.off o4 hf)

theorem undrew {w w' : World} {r : Option Nat} (h : w.drew.grownBy w' r) : w.grownBy w' r := ⟨h.os, h.tape, h.output, h.size, h.block⟩
theorem rgrow_str {w w3 : World} {q k : Nat} {sv : Value} {Z : Array Value} {o : Obj} (h : Rfd w ⟨q, sv, .slice none 0 0⟩ (Dk.fresh k)) (e : TypeId) (g4 : ((w.alloc (.cells Z e)).alloc o).grownBy w3 sv.ownBlock) :
    w3.heap[q]? = some (.cells #[sv, .slice none 0 0, .int .i64 0, .bool false] 71 (0, 0)) := by
  have a := ((Off.refl (fun _ => False) w).alloc (.cells Z e)).alloc o
  exact (Off.of_grown (S := fun j => sv.ownBlock = some j) g4 fun j hj => hj).at_ (a.at_ h.str id) (fun hj => h.q_sv hj rfl)

set_option maxRecDepth 100000 in
set_option maxHeartbeats 1000000 in
theorem rnew_any (w : World) (n : Nat) (hn : n ≤ 2048) :
    Calls Try.prog 17 #[.int .i64 (n : Int)] w fun e w' => ∃ G : Gd, e = .returned (.pointer (some ⟨G.q, 0, none⟩)) ∧ Rfd w' G (Dk.fresh n) ∧ (∀ k, G.own k → w.heap.size ≤ k) ∧ Below w.heap.size w w' := by
  obtain ⟨i0, hi, hz0, hz1, hz2⟩ := info_parts Try.info25
  obtain ⟨Z, hZ⟩ : ∃ Z, Z = (bv (List.replicate 1024 0)).toArray := ⟨_, rfl⟩
  have hmk : ∀ W : World, (Instr.makeSlice 25 (.int .i64 1024) (.int .i64 1024)).run Try.prog W = .ok (.slice (some ⟨W.heap.size, 0, none⟩) 1024 1024) (W.alloc (.cells Z 5)) := by
    intro W
    have e : madeCells #[Value.int .u8 0] 1024 = Z := by
      rw [hZ]
      apply Array.ext'
      rw [toList_madeCells_one]; simp only [bv, List.map_replicate]; rfl
    have := run_make_row' (P := Try.prog) 25 5 (.int .u8 0) 1 Try.underlying25 Try.info5 rfl .i64 .i64 1024 (by omega) (by omega) W
    rw [e] at this
    exact this
  have HZ := Lib.hid hZ
  clear hZ
  have hst : Rfd (w.alloc (.cells #[.slice none 0 0, .slice none 0 0, .int .i64 0, .bool false] 71)) ⟨w.heap.size, .slice none 0 0, .slice none 0 0⟩ (Dk.fresh 0) :=
    ⟨heap_alloc_new w _, ⟨[], ⟨World.ownsRow_nil _ _ _ _, Along.nil_⟩, fun i u h => by simp at h⟩, ⟨[], World.ownsRow_nil _ _ _ _, Along.nil_⟩, fun x hx => absurd hx List.not_mem_nil, by rw [fresh_len]; omega, by show 0 < _; omega⟩
  have HST := Lib.hid hst
  clear hst
  go_enter Try.func17, Try.ntmps17
  go_wp2_with fail
  go_loopw [4] (fun i wr => ∃ (k : Nat) (sv : Value), k ≤ n ∧ i = .int .i64 (k : Int) ∧ Rfd wr ⟨w.heap.size, sv, .slice none 0 0⟩ (Dk.fresh k) ∧ (∀ j, sv.ownBlock = some j → w.heap.size ≤ j) ∧ Below w.heap.size w wr) (fun i _ => n - (intOf i).toNat)
  case atStart => exact ⟨0, _, Nat.zero_le _, rfl, HST.out, (fun j hj => by cases hj), (Below.refl _ _).alloc (Nat.le_refl _) _⟩
  case round =>
    obtain ⟨k, sv, hk, rfl, hR, hsv, hB⟩ := hrel
    by_cases hlt : k < n
    · have z1 : (k : Int) < (n : Int) := by omega
      have z2 : (k : Int) < 2048 := by omega
      obtain ⟨vs, hs⟩ := hR.safe
      have c0 := hR.c0
      have hq : w.heap.size < wr.heap.size := hR.lt (.inl rfl)
      have O2 := Lib.hid ((hs.row.own.alloc (.cells Z 5)).alloc (.cells #[.slice (some ⟨wr.heap.size, 0, none⟩) 1024 1024] 25))
      rw [fresh_len] at O2
      have ONE : Hid (∀ u ∈ [Value.slice (some ⟨wr.heap.size, 0, none⟩) 1024 1024], u.oneCell' = true) := by intro u hu; simp at hu; subst hu; rfl
      have CN : Hid (∀ (j : Nat) (u : Value), [Value.slice (some ⟨wr.heap.size, 0, none⟩) 1024 1024][j]? = some u → ((wr.alloc (.cells Z 5)).alloc (.cells #[.slice (some ⟨wr.heap.size, 0, none⟩) 1024 1024] 25)).cell? ((⟨wr.heap.size + 1, 0, none⟩ : Addr).add j) = some u) := by
        have := cell_one_new (wr.alloc (.cells Z 5)) (.slice (some ⟨wr.heap.size, 0, none⟩) 1024 1024) 25
        rw [show (wr.alloc (.cells Z 5)).heap.size = wr.heap.size + 1 from by simp] at this
        exact this
      have HR := Lib.hid hR
      have HS := Lib.hid hs
      have HB := Lib.hid hB
      clear hR hs hB
      go_wp2_with fail
      go_region_law (refine step_append_lies _ rfl (.tmp 20) (.tmp 22) 64 rfl 0 25 i0 (.slice none 0 0) 1 24 Try.underlying64 hi hz0 hz1 hz2 rfl (by decide) sv k vs (by simp [Act.eval]) (by exact O2.out) ⟨wr.heap.size + 1, 0, none⟩ 1 1 [.slice (some ⟨wr.heap.size, 0, none⟩) 1024 1024] (by simp [Act.eval]) rfl (by exact CN.out) ONE.out (by decide) (by unfold maxLen; omega) (by omega) (Nat.zero_le _) _ rfl ?_; intro g cap w3 O4 g4' hl4 hg4; have g4 := undrew g4'; have HS3 := Lib.hid (rgrow_str HR.out _ g4); have c0' := cell_of_row w3 _ 0 _ _ (0, 0) HS3.out; have f0' := frozen_of_row w3 w.heap.size 0 _ _ HS3.out; simp at c0')
      all_goals
        have R4 := Lib.hid (rgrow_done HZ.out HR.out HS.out (by omega) O4 g4 (u := sv))
        have B4 : Below w.heap.size w (w3.setCell ⟨w.heap.size, 0, none⟩ (.slice (some ⟨g, 0, none⟩) (k + 1) cap)) := by
          have a := ((HB.out.alloc HB.out.size (.cells Z 5)).alloc (by have := HB.out.size; simp; omega) (.cells #[.slice (some ⟨wr.heap.size, 0, none⟩) 1024 1024] 25)).grown g4 (by have := HB.out.size; simp; omega) (fun j hj => hsv j hj)
          exact a.trans ⟨rfl, rfl, rfl, by simp [World.setCell], fun j hj => heap_setCell_other w3 _ j _ (by simp; omega)⟩
        have HB4 := Lib.hid B4
        have hsv4 : w.heap.size ≤ g := by
          rcases hl4 with a | a
          · exact hsv g a
          · have := HB.out.size; simp at a; omega
        clear B4 O4 g4 g4' hl4 hg4 HS3 c0' f0' HR HS HB O2
        go_wp2
        go_roundw
        case rel => exact ⟨k + 1, _, by omega, by go_num, R4.out, (fun j hj => by injection hj with hj; subst hj; exact hsv4), HB4.out⟩
        case measure => simp [intOf]; omega
    · have hk' : k = n := by omega
      subst hk'
      have hf : decide ((k : Int) < (k : Int)) = false := by simp
      have HR := Lib.hid hR
      have HB := Lib.hid hB
      clear hR hB
      go_wp2
      go_ret
      refine ⟨_, rfl, HR.out, ?_, HB.out⟩
      rintro j (rfl | hj | hj)
      · exact Nat.le_refl _
      · exact hsv j hj
      · cases hj

end Go.Proofs.Ytcpgmglpgffhdaa
namespace Go.Proofs.Ytcpgmglpgffhdaa
open Go.RowKit
set_option linter.unusedVariables false

structure Rmid (w0 w : World) (G : Gd) (ps : List (List Nat)) : Prop where
  off : Off (fun k => G.sv.ownBlock = some k) w0 w
  safe : ∃ vs, Sq w G.sv ps vs
section
variable {w0 w : World} {G : Gd} {d : Dk.Pd} {ps : List (List Nat)}
theorem Rfd.sv_free (h : Rfd w0 G d) : Free (fun k => G.sv.ownBlock = some k) w0 := fun k cs m hk => h.free k cs m (.inr (.inl hk))
theorem Rfd.mid (h : Rfd w0 G d) : Rmid w0 w0 G d.pages := ⟨Off.refl _ _, h.safe⟩
theorem Rmid.str (h : Rmid w0 w G ps) (hd : Rfd w0 G d) : w.heap[G.q]? = some (.cells #[G.sv, G.wv, .int .i64 (d.left : Int), .bool d.down] 71 (0, 0)) :=
  h.off.at_ hd.str fun hk => hd.q_sv hk rfl
theorem Rmid.waits (h : Rmid w0 w G ps) (hd : Rfd w0 G d) : ∃ xs, Ws w 78 G.wv d.waits xs := by
  obtain ⟨xs, hx⟩ := hd.waits
  exact ⟨xs, hx.off h.off hd.sv_free fun k hk hk' => hd.sv_wv hk' hk⟩
theorem Rmid.lt (h : Rmid w0 w G ps) (hd : Rfd w0 G d) {k : Nat} (hk : G.own k) : k < w.heap.size := Nat.lt_of_lt_of_le (hd.lt hk) h.off.size
theorem Rmid.below {w1 : World} (h : Rmid w0 w G ps) (hb : Below w.heap.size w w1) : Rmid w0 w1 G ps := by
  obtain ⟨vs, hs⟩ := h.safe
  exact ⟨h.off.trans (Off.of_below hb), vs, hs.on hb⟩
theorem Rmid.put {g n c : Nat} (h : Rmid w0 w G ps) (hv : G.sv = .slice (some ⟨g, 0, none⟩) n c) (k : Nat) {u : Value} {l : List Nat} (hu : PgV w u l) : Rmid w0 (w.setCell ⟨g, k, none⟩ u) G (ps.set k l) := by
  obtain ⟨vs, hs⟩ := h.safe
  refine ⟨h.off.set _ (by rw [hv]; rfl), vs.set k u, ?_⟩
  rw [hv] at hs ⊢
  exact hs.put k hu
/-- All that waited is forgotten, and the numbers are written. -/
theorem Rmid.done {w1 : World} {e : Dk.Pd} (h : Rmid w0 w G ps) (hd : Rfd w0 G d) (ho : Off (fun k => k = G.q) w w1) (hs1 : w1.heap[G.q]? = some (.cells #[G.sv, .slice none 0 0, .int .i64 (e.left : Int), .bool e.down] 71 (0, 0)))
    (hp : e.pages = ps) (hw : e.waits = []) (hl : e.left < 9223372036854775808) (hf : ps.length ≤ 2048) : Rfd w1 ⟨G.q, G.sv, .slice none 0 0⟩ e ∧ Rtep w0 G w1 ⟨G.q, G.sv, .slice none 0 0⟩ := by
  obtain ⟨vs, hs⟩ := h.safe
  have hst := h.str hd
  have hfree : Free (fun k => k = G.q) w := by
    intro k cs m hk hh
    subst hk
    rw [hst] at hh; simp at hh
  refine ⟨⟨hs1, ⟨vs, ?_⟩, ⟨[], by rw [hw]; exact World.ownsRow_nil _ _ _ _, by rw [hw]; exact Along.nil_⟩, by rw [hw]; exact fun x hx => absurd hx List.not_mem_nil, by rw [hp]; exact hf, hl⟩, ?_⟩
  · rw [hp]; exact hs.off ho hfree fun k hk => hd.q_sv hk
  · refine ⟨(h.off.mono fun j hj => .inl (.inr (.inl hj))).trans (ho.mono fun j hj => .inl (.inl hj)), rfl, fun j hj => ?_⟩
    rcases hj with hj | hj | hj
    · exact .inl (.inl hj)
    · exact .inl (.inr (.inl hj))
    · cases hj
end

set_option maxRecDepth 100000 in
set_option maxHeartbeats 1000000 in
theorem rsync_go (w : World) (G : Gd) (d : Dk.Pd) (h : Rfd w G d) (hd : d.down = false) (hd1 : (Dk.act d).down = false) (hm : d.waits.length < 1000) :
    Calls Try.prog 21 #[.pointer (some ⟨G.q, 0, none⟩)] w fun e w' => ∃ G', e = .returned (.int .i64 0) ∧ Rfd w' G' (Dk.settled (Dk.act d)) ∧ Rtep w G w' G' := by
  have c3 := h.c3
  rw [hd] at c3
  have C := Lib.hid (goes_any w G d h hd)
  rw [hd1] at C
  have hm1 : (Dk.act d).waits.length < 1000 := by rw [Dk.act_waits]; exact hm
  generalize Dk.act d = d1 at *
  go_enter Try.func21, Try.ntmps21
  go_wp2_with fail
  refine C.out.mono ?_
  rintro e w1 ⟨rfl, h1, o1⟩
  have S1 := Lib.hid (Rtep.of_q (G := G) o1)
  clear hd hd1 h c3 o1 hm C
  obtain ⟨xs, hx⟩ := h1.waits
  obtain ⟨A, c, hwv, hwc, hwm⟩ := hx.form
  unfold maxLen at hwm
  have HW := Lib.hid hwv
  have HD := Lib.hid h1
  clear hx hwv h1
  go_wp2_with fail
  go_loopw [3] (fun i wr => ∃ k : Nat, k ≤ d1.waits.length ∧ i = .int .i64 (k : Int) ∧ Rmid w1 wr G (Dk.stTo d1 k)) (fun i _ => d1.waits.length - (intOf i).toNat)
  case atStart => exact ⟨0, Nat.zero_le _, rfl, HD.out.mid⟩
  case round =>
    obtain ⟨k, hk, rfl, hM⟩ := hrel
    have hst := hM.str HD.out
    have c1 := cell_of_row wr _ 1 _ _ (0, 0) hst
    have c0 := cell_of_row wr _ 0 _ _ (0, 0) hst
    simp at c1 c0
    rw [HW.out] at c1
    by_cases hlt : k < d1.waits.length
    · obtain ⟨xs, hx⟩ := hM.waits HD.out
      obtain ⟨g, c', no, u, l, hv, hc', hw, hu, cn, cu⟩ := hx.get hlt
      rw [HW.out] at hv
      injection hv with hv _ hv2
      subst hv hv2
      obtain ⟨gu, ku, rfl, _, _, _⟩ := hu.form
      have hno : no < d1.pages.length := HD.out.ins _ (List.mem_of_getElem? hw)
      obtain ⟨vs, hs⟩ := hM.safe
      have hno' : no < (Dk.stTo d1 k).length := by rw [Dk.stTo_len]; exact hno
      obtain ⟨gs, cs, us, ls, hsv, hcs, _, _, cus⟩ := hs.get hno'
      rw [Dk.stTo_len] at hsv hcs
      rw [hsv] at c0
      have hsf : wr.frozen? ⟨gs, no, none⟩ = false := by rw [hsv] at hs; exact hs.row.frozen no
      have hN := (hM.put hsv no hu).below (Below.refl _ _).drew
      rw [← Dk.st_step hw] at hN
      have HN := Lib.hid hN
      have z1 : (no : Int) < (d1.pages.length : Int) := by omega
      have z2 : (k : Int) < (d1.waits.length : Int) := by omega
      clear hx hs hN hw hM hst
      go_wp2_with fail
      go_region
      go_wp2
      go_roundw
      case rel => exact ⟨k + 1, by omega, by go_num, HN.out⟩
      case measure => simp [intOf]; omega
    · have hk' : k = d1.waits.length := by omega
      have hf : ¬ ((k : Int) < (d1.waits.length : Int)) := by omega
      have f1 := frozen_of_row wr G.q 1 _ _ hst
      have hD := hM.done (e := { d1 with pages := Dk.stTo d1 k, waits := [] }) HD.out ((Off.refl (fun k => k = G.q) wr).set (i := 1) (.slice none 0 0) rfl) (rstr_set hst (.slice none 0 0)).2.1 rfl rfl HD.out.low (by rw [Dk.stTo_len]; exact HD.out.few)
      rw [hk'] at hD
      have HF := Lib.hid hD
      clear hM hlt hk' hst hD
      go_wp2
      go_ret
      first | exact ⟨_, rfl, HF.out.1, S1.out.trans HF.out.2⟩ | exact ⟨rfl, _, HF.out.1, S1.out.trans HF.out.2⟩

theorem rsync_off (w : World) (G : Gd) (d : Dk.Pd) (h : Rfd w G d) (hd : d.down = true) :
    Calls Try.prog 21 #[.pointer (some ⟨G.q, 0, none⟩)] w fun e w' => e = .returned (.int .i64 3) ∧ w = w' := by
  have c3 := h.c3
  rw [hd] at c3
  clear h
  go_enter Try.func21, Try.ntmps21
  go_wp2
  go_ret
  exact ⟨rfl, rfl⟩
theorem rsync_goes (w : World) (G : Gd) (d : Dk.Pd) (h : Rfd w G d) (hd : d.down = false) (hd1 : (Dk.act d).down = true) :
    Calls Try.prog 21 #[.pointer (some ⟨G.q, 0, none⟩)] w fun e w' => e = .returned (.int .i64 3) ∧ Rfd w' G (Dk.act d) ∧ Off (fun k => k = G.q) w w' := by
  have c3 := h.c3
  rw [hd] at c3
  have C := Lib.hid (goes_any w G d h hd)
  rw [hd1] at C
  clear h
  go_enter Try.func21, Try.ntmps21
  go_wp2_with fail
  refine C.out.mono ?_
  rintro e w1 ⟨rfl, h1, o1⟩
  go_wp2
  go_ret
  exact ⟨rfl, h1, o1⟩
/-- The document's Sync, whatever the disk. -/
theorem rsync_any (w : World) (G : Gd) (d : Dk.Pd) (h : Rfd w G d) (hm : d.waits.length < 1000) :
    Calls Try.prog 21 #[.pointer (some ⟨G.q, 0, none⟩)] w fun e w' => ∃ G', e = .returned (.int .i64 (Dk.syncCode d)) ∧ Rfd w' G' (Dk.sync d) ∧ Rtep w G w' G' := by
  cases hd : d.down with
  | true =>
    have e1 : Dk.syncCode d = 3 := by unfold Dk.syncCode; rw [hd]; rfl
    have e2 : Dk.sync d = d := by unfold Dk.sync; rw [hd]; rfl
    rw [e1, e2]
    refine (rsync_off w G d h hd).mono ?_
    rintro e w' ⟨rfl, rfl⟩
    exact ⟨G, rfl, h, Rtep.refl _ _⟩
  | false =>
    cases hd1 : (Dk.act d).down with
    | true =>
      have e1 : Dk.syncCode d = 3 := by unfold Dk.syncCode; rw [hd, hd1]; rfl
      have e2 : Dk.sync d = Dk.act d := by unfold Dk.sync; rw [hd, hd1]; rfl
      rw [e1, e2]
      refine (rsync_goes w G d h hd hd1).mono ?_
      rintro e w' ⟨rfl, h1, o1⟩
      exact ⟨G, rfl, h1, Rtep.of_q o1⟩
    | false =>
      have e1 : Dk.syncCode d = 0 := by unfold Dk.syncCode; rw [hd, hd1]; rfl
      have e2 : Dk.sync d = Dk.settled (Dk.act d) := by unfold Dk.sync; rw [hd, hd1]; rfl
      rw [e1, e2]
      exact rsync_go w G d h hd hd1 hm

set_option maxRecDepth 100000 in
theorem sub_all : ∀ x : Fin 256, 255 - x.1 = x.1 ^^^ 255 := by decide
theorem own_base {w : World} {base e size n : Nat} {v : Value} {xs : List Value} (h : w.ownsRow base e size v n xs) : w.ownsRow 0 e size v n xs := by
  refine ⟨h.1, ?_⟩
  rcases h.2 with h0 | ⟨g, cap, cur, hv, _, hr⟩
  · exact .inl h0
  · exact .inr ⟨g, cap, cur, hv, Nat.zero_le _, hr⟩
/-- What is asked of a page's last byte. -/
theorem torn_facts {w w5 : World} {g k : Nat} {l : List Nat} (O5 : w5.ownsRow w.heap.size 5 1 (.slice (some ⟨g, 0, none⟩) 1024 k) 1024 (bv l)) (hl : l.length = 1024) (hlt : ∀ x ∈ l, x < 256) (b5 : Below w.heap.size w w5) :
    ∃ x : Nat, x < 256 ∧ w5.cell? ⟨g, 1023, none⟩ = some (.int .u8 (x : Int)) ∧ w5.frozen? ⟨g, 1023, none⟩ = false ∧ IntKind.u8.wrap (255 - (x : Int)) = ((x ^^^ 255 : Nat) : Int) ∧
      (PgV (w5.setCell ⟨g, 1023, none⟩ (.int .u8 ((x ^^^ 255 : Nat) : Int))) (.slice (some ⟨g, 0, none⟩) 1024 k) (Pg.torn l) ∧ Below w.heap.size w (w5.setCell ⟨g, 1023, none⟩ (.int .u8 ((x ^^^ 255 : Nat) : Int)))) := by
  have hx : (bv l)[1023]? = some (.int .u8 (l.getD 1023 0 : Int)) := by
    simp [bv, List.getD_eq_getElem?_getD, List.getElem?_eq_getElem (show 1023 < l.length by omega)]
  have hx256 : l.getD 1023 0 < 256 := by
    rw [List.getD_eq_getElem?_getD, List.getElem?_eq_getElem (by omega)]; exact hlt _ (List.getElem_mem _)
  have hT := torn_row l (by omega)
  rw [hl] at hT
  have hS := O5.stored 1023 (.int .u8 ((l.getD 1023 0 ^^^ 255 : Nat) : Int))
  rw [show (1023 : Nat) = 1024 - 1 from rfl, hT] at hS
  refine ⟨l.getD 1023 0, hx256, (O5.cellAt 1023 (by omega)).trans hx, O5.frozenAt 1023, ?_, ⟨by rw [Pg.torn_len]; exact hl, Pg.torn_lt hlt, own_base hS.1⟩, ?_⟩
  · rw [← sub_all ⟨_, hx256⟩]
    rw [IntWalk.u8_in _ ⟨by omega, by omega⟩]
    show _ = ((255 - l.getD 1023 0 : Nat) : Int)
    omega
  · exact b5.grown hS.2 b5.size (fun j hj => by injection hj with hj; subst hj; exact (O5.lt g rfl).1)

set_option maxRecDepth 100000 in
theorem rtorn_any (w : World) (A : Option Addr) (c : Nat) (l : List Nat) (hb : Bs w A 1024 c l) :
    Calls Try.prog 46 #[.slice A 1024 c] w fun e w' => ∃ g k, e = .returned (.slice (some ⟨g, 0, none⟩) 1024 k) ∧ PgV w' (.slice (some ⟨g, 0, none⟩) 1024 k) (Pg.torn l) ∧ Below w.heap.size w w' := by
  obtain ⟨b0, bi, bz0, bz1, bz2⟩ := info_parts Try.info5
  have hl := hb.1
  have hlt := hb.2.2.2.1
  have O4 := Lib.hid (World.ownsRow_made (base := w.heap.size) (e := 5) (size := 1) w #[] 0 (Nat.le_refl _) (Nat.zero_le _) rfl)
  have S4 := Lib.hid (hb.alloc (.cells #[] 5))
  have B4 : Below w.heap.size w (w.alloc (.cells #[] 5)) := (Below.refl _ _).alloc (Nat.le_refl _) _
  have HL := Lib.hid hl
  have HT := Lib.hid hlt
  clear hb hl hlt
  go_enter Try.func46, Try.ntmps46
  go_wp2_with (at_builtin; refine wpList_append_bs _ rfl _ _ 25 rfl w.heap.size 5 b0 (.int .u8 0) Try.underlying25 bi bz0 bz1 bz2 rfl _ _ _ rfl O4.out _ _ _ _ rfl S4.out (by omega) (by simp) ?_; intro v5 w5 O5 g5; have b5 : Below w.heap.size w w5 := below_own B4 O4.out g5 (by simp) (Nat.le_refl _); have P5 : PgV w5 v5 l := ⟨HL.out, HT.out, own_base (by simpa using O5)⟩; rw [Nat.zero_add, List.nil_append] at O5; obtain ⟨g, k, rfl, _, _, _⟩ := P5.form; have Q5 := Lib.hid (torn_facts O5 HL.out HT.out b5); obtain ⟨x, hx, cx, fx, ex, hD⟩ := Q5.out; have HDD := Lib.hid hD; clear hD Q5 P5 O5 g5)
  go_ret
  exact ⟨g, k, rfl, HDD.out.1, HDD.out.2⟩

end Go.Proofs.Ytcpgmglpgffhdaa
namespace Go.Proofs.Ytcpgmglpgffhdaa
open Go.RowKit
set_option linter.unusedVariables false

set_option maxRecDepth 100000 in
set_option maxHeartbeats 2000000 in
theorem rcrash_any (w : World) (G : Gd) (d : Dk.Pd) (A : Option Addr) (n c : Nat) (keep : List Bool) (torn : Int) (h : Rfd w G d) (hk : Rd w A n c (keep.map Value.bool)) (hkb : 0 < n → Clear A G.own) (hm : d.waits.length < 1000) :
    Calls Try.prog 25 #[.pointer (some ⟨G.q, 0, none⟩), .slice A n c, .int .i64 torn] w fun e w' => ∃ G', e = .returned (.tuple #[]) ∧ Rfd w' G' (Dk.crashed d keep torn) ∧ Rtep w G w' G' := by
  obtain ⟨xs, hx⟩ := h.waits
  obtain ⟨A', cw, hwv, hwc, hwm⟩ := hx.form
  unfold maxLen at hwm
  have hkl : keep.length = n := by have := hk.1; simpa using this
  have hkm := hk.2.2.1
  have hkc := hk.2.1
  unfold maxLen at hkm
  have HW := Lib.hid hwv
  have HD := Lib.hid h
  have HK := Lib.hid hk
  have HKB := Lib.hid hkb
  clear hx hwv h hk hkb
  go_enter Try.func25, Try.ntmps25
  go_wp2_with fail
  go_loopw [6] (fun i wr => ∃ k : Nat, k ≤ d.waits.length ∧ i = .int .i64 (k : Int) ∧ Rmid w wr G (Dk.crTo d keep torn k)) (fun i _ => d.waits.length - (intOf i).toNat)
  case atStart => exact ⟨0, Nat.zero_le _, rfl, HD.out.mid⟩
  case round =>
    obtain ⟨k, hk, rfl, hM⟩ := hrel
    have hst := hM.str HD.out
    have c1 := cell_of_row wr _ 1 _ _ (0, 0) hst
    have c0 := cell_of_row wr _ 0 _ _ (0, 0) hst
    simp at c1 c0
    rw [HW.out] at c1
    by_cases hlt : k < d.waits.length
    · have z2 : (k : Int) < (d.waits.length : Int) := by omega
      by_cases hkn : k < n
      · obtain ⟨kb, ko, kv, rfl, hkv, ck⟩ := (HK.out.off hM.off fun b off e hb => HKB.out (by omega) b off e (.inr (.inl hb))).at_ (k := k) hkn
        obtain ⟨b, hb, rfl⟩ : ∃ b, keep[k]? = some b ∧ kv = .bool b := by
          rw [List.getElem?_map] at hkv
          cases hq : keep[k]? with
          | none => rw [hq] at hkv; cases hkv
          | some b => rw [hq] at hkv; injection hkv with hkv; exact ⟨b, rfl, hkv.symm⟩
        have hkp : Dk.kept keep k = b := by unfold Dk.kept; rw [List.getD_eq_getElem?_getD, hb]; rfl
        have y3 : (k : Int) < (n : Int) := by omega
        cases b with
        | false =>
          rw [← Dk.cr_stay hkp] at hM
          have HN := Lib.hid hM
          clear hM hkv hb hkp hst
          go_wp2
          go_roundw
          case rel => exact ⟨k + 1, by omega, by go_num, HN.out⟩
          case measure => simp [intOf]; omega
        | true =>
          obtain ⟨xs, hx⟩ := hM.waits HD.out
          obtain ⟨g, c', no, u, l, hv, hc', hw, hu, cn, cu⟩ := hx.get hlt
          rw [HW.out] at hv
          injection hv with hv _ hv2
          subst hv hv2
          obtain ⟨gu, ku, rfl, _, _, _⟩ := hu.form
          have hno : no < d.pages.length := HD.out.ins _ (List.mem_of_getElem? hw)
          obtain ⟨vs, hs⟩ := hM.safe
          have hno' : no < (Dk.crTo d keep torn k).length := by rw [Dk.crTo_len]; exact hno
          obtain ⟨gs, cs, us, ls, hsv, hcs, _, _, cus⟩ := hs.get hno'
          rw [Dk.crTo_len] at hsv hcs
          rw [hsv] at c0
          have hsf : wr.frozen? ⟨gs, no, none⟩ = false := by rw [hsv] at hs; exact hs.row.frozen no
          have z1 : (no : Int) < (d.pages.length : Int) := by omega
          have hM4 := (hM.put hsv no hu).below (Below.refl _ _).drew
          by_cases ht : (k : Int) = torn
          · have ht' : ((k : Int) == torn) = true := by simpa using ht
            have hst4 := Dk.cr_step (torn := torn) hw hkp
            have hl' : Dk.left_ torn k l = Pg.torn l := by unfold Dk.left_; rw [if_pos ht]
            rw [hl'] at hst4
            have HST := Lib.hid hst4
            have HM4 := Lib.hid hM4
            have HU := Lib.hid hu
            clear hx hs hM hst hkv hb hkp hst4 hl' hM4 hu
            subst ht
            go_wp2_with fail
            go_region
            generalize hw4 : (wr.setCell ⟨gs, no, none⟩ (.slice (some ⟨gu, 0, none⟩) 1024 ku)).drew = w4 at *
            clear c0 c1 cn cu cus hsf ck hw4
            have hst := HM4.out.str HD.out
            obtain ⟨xs4, hx4⟩ := HM4.out.waits HD.out
            obtain ⟨g', c', no', u', l', hv', _, hw', hu4, cn, cu⟩ := hx4.get hlt
            rw [HW.out] at hv'
            injection hv' with hv' _ hv2
            injection hv' with hv'
            injection hv' with hv'
            subst hv' hv2
            rw [hw] at hw'
            injection hw' with hw'
            injection hw' with hw1 hw2
            subst hw1 hw2
            obtain ⟨gu', ku', rfl, hbu, _, _⟩ := hu4.form
            obtain ⟨vs4, hs4⟩ := HM4.out.safe
            obtain ⟨gs', cs', us', ls', hsv', _, _, _, cus⟩ := hs4.get (k := no) (by rw [List.length_set]; exact hno')
            have hsv2 := hsv'
            rw [hsv] at hsv'
            injection hsv' with hsv' _ _
            injection hsv' with hsv'
            injection hsv' with hsv'
            subst hsv'
            have hsf : w4.frozen? ⟨gs, no, none⟩ = false := by rw [hsv2] at hs4; exact hs4.row.frozen no
            have c0 := cell_of_row w4 _ 0 _ _ (0, 0) hst
            have c1 := cell_of_row w4 _ 1 _ _ (0, 0) hst
            simp at c0 c1
            rw [HW.out] at c1
            rw [hsv] at c0
            have lq : G.q < w4.heap.size := HM4.out.lt HD.out (.inl rfl)
            have lg : g < w4.heap.size := own_lt hx4.own (by rw [HW.out]; rfl)
            have ls : gs < w4.heap.size := own_lt hs4.row.own (by rw [hsv]; rfl)
            have HBU := Lib.hid hbu
            have ngq : gs ≠ G.q := HD.out.q_sv (by rw [hsv]; rfl)
            have ngg : gs ≠ g := fun e => HD.out.sv_wv (k := gs) (by rw [hsv]; rfl) (by rw [HW.out, e]; rfl)
            clear hst hx4 hs4 hu4 hbu hw hsv2
            go_wp2_with fail
            go_region_held3 (fun w' => w'.cell? ⟨G.q, 0, none⟩ = some (.slice (some ⟨gs, 0, none⟩) d.pages.length cs) ∧ w'.cell? ⟨G.q, 1, none⟩ = some (.slice (some ⟨g, 0, none⟩) d.waits.length cw) ∧ w'.cell? ⟨g, k * 2, none⟩ = some (.int .i64 (no : Int)) ∧ w'.cell? ⟨g, k * 2 + 1, none⟩ = some (.slice (some ⟨gu', 0, none⟩) 1024 ku')) (first | assumption | exact ⟨c0, c1, cn, cu⟩ | exact S6 _ | go_keep)
              (first | (go_at_call 46; refine (rtorn_any _ _ _ _ (by exact HBU.out)).mono ?_; rintro e w5 ⟨gt, kt, rfl, P5, B5⟩; have d4 := (B5.cell (p := ⟨gs, no, none⟩) ls).trans cus; have d5 := (World.frozen?_of_block (a := ⟨gs, no, none⟩) (B5.block gs ls)).trans hsf; have S5 : (fun w' : World => w'.cell? ⟨G.q, 0, none⟩ = some (.slice (some ⟨gs, 0, none⟩) d.pages.length cs) ∧ w'.cell? ⟨G.q, 1, none⟩ = some (.slice (some ⟨g, 0, none⟩) d.waits.length cw) ∧ w'.cell? ⟨g, k * 2, none⟩ = some (.int .i64 (no : Int)) ∧ w'.cell? ⟨g, k * 2 + 1, none⟩ = some (.slice (some ⟨gu', 0, none⟩) 1024 ku')) w5 := ⟨(B5.cell (p := ⟨G.q, 0, none⟩) lq).trans c0, (B5.cell (p := ⟨G.q, 1, none⟩) lq).trans c1, (B5.cell (p := ⟨g, k * 2, none⟩) lg).trans cn, (B5.cell (p := ⟨g, k * 2 + 1, none⟩) lg).trans cu⟩; have S6 : ∀ v, (fun w' : World => w'.cell? ⟨G.q, 0, none⟩ = some (.slice (some ⟨gs, 0, none⟩) d.pages.length cs) ∧ w'.cell? ⟨G.q, 1, none⟩ = some (.slice (some ⟨g, 0, none⟩) d.waits.length cw) ∧ w'.cell? ⟨g, k * 2, none⟩ = some (.int .i64 (no : Int)) ∧ w'.cell? ⟨g, k * 2 + 1, none⟩ = some (.slice (some ⟨gu', 0, none⟩) 1024 ku')) (w5.setCell ⟨gs, no, none⟩ v) := fun v => ⟨(World.cell?_of_block (a := ⟨G.q, 0, none⟩) (heap_setCell_other w5 ⟨gs, no, none⟩ G.q v (fun e => ngq e.symm))).trans S5.1, (World.cell?_of_block (a := ⟨G.q, 1, none⟩) (heap_setCell_other w5 ⟨gs, no, none⟩ G.q v (fun e => ngq e.symm))).trans S5.2.1, (World.cell?_of_block (a := ⟨g, k * 2, none⟩) (heap_setCell_other w5 ⟨gs, no, none⟩ g v (fun e => ngg e.symm))).trans S5.2.2.1, (World.cell?_of_block (a := ⟨g, k * 2 + 1, none⟩) (heap_setCell_other w5 ⟨gs, no, none⟩ g v (fun e => ngg e.symm))).trans S5.2.2.2⟩))
            have HN : Hid (Rmid w (w5.setCell ⟨gs, no, none⟩ (.slice (some ⟨gt, 0, none⟩) 1024 kt)) G (Dk.crTo d keep (k : Int) (k + 1))) := by
              show Rmid _ _ _ _
              have := (HM4.out.below (((Below.refl w4.heap.size w4).drew).trans B5)).put hsv no P5
              rw [List.set_set] at this
              rw [HST.out]; exact this
            clear S5 S6 d4 d5 P5 B5 HM4 HST c0 c1 cn cu cus hsf
            go_wp2
            go_roundw
            case rel => exact ⟨k + 1, by omega, by go_num, HN.out⟩
            case measure => simp [intOf]; omega
          · have ht' : ((k : Int) == torn) = false := by simpa using ht
            have hst4 := Dk.cr_step (torn := torn) hw hkp
            have hl' : Dk.left_ torn k l = l := by unfold Dk.left_; rw [if_neg ht]
            rw [hl'] at hst4
            rw [← hst4] at hM4
            have HN := Lib.hid hM4
            clear hx hs hw hM hst hkv hb hkp hst4 hl' hM4 hu ht
            go_wp2_with fail
            go_region
            go_wp2
            go_roundw
            case rel => exact ⟨k + 1, by omega, by go_num, HN.out⟩
            case measure => simp [intOf]; omega
      · have hkp : Dk.kept keep k = false := by unfold Dk.kept; rw [List.getD_eq_getElem?_getD, List.getElem?_eq_none (by omega)]; rfl
        have y3 : decide ((k : Int) < (n : Int)) = false := by simp; omega
        have y4 : decide (k < n) = false := by simp; omega
        rw [← Dk.cr_stay hkp] at hM
        have HN := Lib.hid hM
        clear hM hkp hst
        go_wp2
        go_roundw
        case rel => exact ⟨k + 1, by omega, by go_num, HN.out⟩
        case measure => simp [intOf]; omega
    · have hk' : k = d.waits.length := by omega
      have hf : ¬ ((k : Int) < (d.waits.length : Int)) := by omega
      have c2 := cell_of_row wr _ 2 _ _ (0, 0) hst
      have c3 := cell_of_row wr _ 3 _ _ (0, 0) hst
      simp at c2 c3
      have f1 := frozen_of_row wr G.q 1 _ _ hst
      have f2 := frozen_of_row wr G.q 2 _ _ hst
      have f3 := frozen_of_row wr G.q 3 _ _ hst
      have s1 := (rstr_set hst (.slice none 0 0)).2.1
      have s2 := (rstr_set s1 (.int .i64 0)).2.2.1
      have s3 := (rstr_set s2 (.bool false)).2.2.2
      have hD := hM.done (e := { pages := Dk.crTo d keep torn k, waits := [], left := 0, down := false }) HD.out ((((Off.refl (fun k => k = G.q) wr).set (i := 1) (.slice none 0 0) rfl).set (i := 2) (.int .i64 0) rfl).set (i := 3) (.bool false) rfl) s3 rfl rfl (by show 0 < _; omega) (by rw [Dk.crTo_len]; exact HD.out.few)
      rw [hk'] at hD
      have HF := Lib.hid hD
      clear hM hlt hk' hst hD s1 s2 s3
      go_wp2
      go_end0
      first | exact ⟨_, rfl, HF.out.1, HF.out.2⟩ | exact ⟨rfl, _, HF.out.1, HF.out.2⟩ | exact ⟨_, HF.out.1, HF.out.2⟩

end Go.Proofs.Ytcpgmglpgffhdaa
