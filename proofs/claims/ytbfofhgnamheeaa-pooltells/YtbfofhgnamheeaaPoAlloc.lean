/-
  Alloc, its closure.
-/
import Derived.Test.YtbfofhgnamheeaaPoTrim
namespace Go.Proofs.Ytbfofhgnamheeaa.Pq
open Go.RowKit
set_option linter.unusedVariables false

/-- Block g is one cell that holds v. -/
def Cell (w : World) (g : Nat) (t : TypeId) (v : Value) : Prop := w.heap[g]? = some (.cells #[v] t (0, 0))
section
variable {w w' : World} {g : Nat} {t : TypeId} {v : Value}
theorem Cell.lt (h : Cell w g t v) : g < w.heap.size := (Array.getElem?_eq_some_iff.1 h).1
theorem Cell.cell (h : Cell w g t v) : w.cell? ⟨g, 0, none⟩ = some v := by unfold Cell at h; simp [World.cell?, h]
theorem Cell.free (h : Cell w g t v) : w.frozen? ⟨g, 0, none⟩ = false := by unfold Cell at h; simp [World.frozen?, h]
theorem Cell.fresh (w : World) (t : TypeId) (v : Value) {g : Nat} (h : w.heap.size = g) : Cell (w.alloc (.cells #[v] t)) g t v := by subst h; exact heap_alloc_new w _
theorem Cell.alloc (h : Cell w g t v) (o : Obj) : Cell (w.alloc o) g t v := (Below.heap_alloc w o g h.lt).trans h
theorem Cell.set (h : Cell w g t v) (u : Value) : Cell (w.setCell ⟨g, 0, none⟩ u) g t u := by
  unfold Cell at h ⊢
  simp [World.setCell, Array.getElem?_modify, h]
theorem Cell.far (h : Cell w g t v) {p : Addr} (hp : g ≠ p.block) (u : Value) : Cell (w.setCell p u) g t v := (Below.heap_setCell w p u g hp).trans h
theorem Cell.grown {row : Option Nat} (h : Cell w g t v) (hb : w.grownBy w' row) (hg : some g ≠ row) : Cell w' g t v := (hb.block g h.lt hg).trans h
end
theorem grown_set (w : World) (g : Nat) (v : Value) : w.grownBy (w.setCell ⟨g, 0, none⟩ v) (some g) :=
  ⟨rfl, rfl, rfl, by simp [World.setCell], fun i _ hi => heap_setCell_other w _ i v (fun e => hi (by rw [e]))⟩
theorem grown_undrew {w w' : World} {m : Nat} {r : Option Nat} (h : (w.drewN m).grownBy w' r) : w.grownBy w' r := ⟨h.os, h.tape, h.output, h.size, h.block⟩
theorem grown_refl (w : World) (r : Option Nat) : w.grownBy w r := ⟨rfl, rfl, rfl, Nat.le_refl _, fun _ _ _ => rfl⟩

/-- The lesser page that may be used. -/
def less (l : List Pl.F) (hz : Nat) (x no : Int) : Int := if no < x ∧ may l no hz = true then no else x

theorem takeLess_any (w : World) (bl bp bh p mb : Nat) (x no : Int) (hz : Nat) (l : List Pl.F) (hl : Cell w bl 3 (.int .i64 x)) (hp : w.cell? ⟨bp, 0, none⟩ = some (.pointer (some ⟨p, 0, none⟩))) (hh : w.cell? ⟨bh, 0, none⟩ = some (.int .u64 (hz : Int)))
    (c2 : w.cell? ⟨p, 2, none⟩ = some (.map (some mb))) (hm : Mp w mb l) (hi : I64 no) :
    Calls Try.prog 30 #[.int .i64 no, .pointer (some ⟨bl, 0, none⟩), .pointer (some ⟨bp, 0, none⟩), .pointer (some ⟨bh, 0, none⟩)] w fun e w' => (∃ v, e = .returned v) ∧ w.grownBy w' (some bl) ∧ Cell w' bl 3 (.int .i64 (less l hz x no)) := by
  have HL := Lib.hid hl
  have cl := hl.cell
  have fl := hl.free
  have C := Lib.hid (mayUse_map w p mb l no hz c2 hm hi)
  clear hl hm hi c2
  by_cases h1 : no < x
  · by_cases h2 : may l no hz = true
    · have e : less l hz x no = no := if_pos ⟨h1, h2⟩
      rw [e]
      rw [h2] at C
      clear e h2
      go_enter Try.func30, Try.ntmps30
      go_wp2_with fail
      refine C.out.mono ?_
      rintro e' w' ⟨rfl, rfl⟩
      go_wp2
      go_end0
      exact ⟨⟨_, rfl⟩, grown_set _ _ _, HL.out.set _⟩
    · have e : less l hz x no = x := if_neg fun h => h2 h.2
      rw [e]
      rw [Bool.eq_false_iff.2 h2] at C
      clear e h2
      go_enter Try.func30, Try.ntmps30
      go_wp2_with fail
      refine C.out.mono ?_
      rintro e' w' ⟨rfl, rfl⟩
      go_wp2
      go_end0
      exact ⟨⟨_, rfl⟩, grown_refl _ _, HL.out⟩
  · have e : less l hz x no = x := if_neg fun h => h1 h.1
    rw [e]
    have h1' : decide (no < x) = false := decide_eq_false h1
    clear e C
    go_enter Try.func30, Try.ntmps30
    go_wp2
    go_end0
    exact ⟨⟨_, rfl⟩, grown_refl _ _, HL.out⟩

/-- What is known of the least, while some are left. -/
structure Least (l : List Pl.F) (high : Int) (hz : Nat) (left : Lit → Bool) (x : Int) : Prop where
  le : x ≤ high
  two : 2 ≤ x
  is : x < high → ∃ g, Pl.look l x = some g ∧ g ≤ hz
  all : ∀ k g, Pl.look l k = some g → g ≤ hz → left (lk k) = false → x ≤ k
theorem Least.start {d : Pl.Pd} (hd : Pl.Ok d) (hz : Nat) : Least d.l d.high hz (Maps.has (md d.l)) d.high :=
  ⟨Int.le_refl _, hd.two, fun h => absurd h (by omega), fun k g hk _ hl => by rw [has_md, hk] at hl; cases hl⟩
theorem Least.step {d : Pl.Pd} (hd : Pl.Ok d) {hz : Nat} {left : Lit → Bool} {x no : Int} (h : Least d.l d.high hz left x) (hno : (Pl.look d.l no).isSome = true) :
    Least d.l d.high hz (fun z => left z && !z.sameKey (Lit.int .i64 no)) (less d.l hz x no) := by
  obtain ⟨g0, hg0⟩ := Option.isSome_iff_exists.1 hno
  have hin := hd.ins _ (Pl.look_mem hg0)
  have hle : less d.l hz x no ≤ x := by unfold less; split <;> omega
  refine ⟨Int.le_trans hle h.le, ?_, fun hx => ?_, fun k g hk hg hl => ?_⟩
  · unfold less; split
    · exact hin.1
    · exact h.two
  · unfold less at hx ⊢
    split
    · rename_i hc
      refine ⟨g0, hg0, ?_⟩
      rw [may_some hg0] at hc
      exact of_decide_eq_true hc.2
    · rename_i hc
      rw [if_neg hc] at hx
      exact h.is hx
  · by_cases e : k = no
    · subst e
      unfold less
      rw [may_some hk, decide_eq_true hg]
      split
      · exact Int.le_refl _
      · rename_i hc; exact Int.not_lt.1 fun h1 => hc ⟨h1, rfl⟩
    · have hs : (lk k).sameKey (Lit.int .i64 no) = false := Maps.sameKey_ne (fun e' => e (by unfold lk at e'; injection e'))
      rw [hs] at hl
      simp only [Bool.not_false, Bool.and_true] at hl
      exact Int.le_trans hle (h.all k g hk hg hl)
theorem Least.done {d : Pl.Pd} (hd : Pl.Ok d) {hz : Nat} {left : Lit → Bool} {x : Int} (h : Least d.l d.high hz left x) (hl : ∀ k, left k = false) :
    (∃ i f, Pl.first d.l hz = some i ∧ d.l[i]? = some f ∧ f.1 = x ∧ x < d.high) ∨ (Pl.first d.l hz = none ∧ x = d.high) := by
  cases hf : Pl.first d.l hz with
  | none =>
    refine .inr ⟨rfl, ?_⟩
    by_cases hx : x < d.high
    · obtain ⟨g, hg, hle⟩ := h.is hx
      have := Pl.first_none hf _ (Pl.look_mem hg)
      simp at this; omega
    · have := h.le; omega
  | some i =>
    obtain ⟨f, hx, hle, _⟩ := Pl.first_some hf
    obtain ⟨h1, h2, h3⟩ := Pl.first_least hd.rises hf hx
    have hin := hd.ins _ (List.mem_of_getElem? hx)
    have a := h.all f.1 f.2 h1 h2 (hl _)
    obtain ⟨g, hg, hgl⟩ := h.is (by omega)
    have b := h3 x g hg hgl
    exact .inl ⟨i, f, rfl, hx, by omega, by omega⟩

set_option maxRecDepth 100000 in
theorem alloc_any (w : World) (p mb : Nat) (d : Pl.Pd) (hz : Nat) (h : Po w p mb d) :
    Calls Try.prog 12 #[.pointer (some ⟨p, 0, none⟩), .int .u64 (hz : Int)] w fun e w' => e = .returned (.tuple #[.int .i64 (Pl.allocNo d hz), .int .i64 (Pl.allocCode d hz)]) ∧ Po w' p mb (Pl.alloc d hz) ∧ Off (Mine p mb) w w' := by
  have H := Lib.hid h
  have c1 := h.c1
  have c2 := h.c2
  have hd2 := h.ok.two
  have hdc := h.ok.high
  have hdm := h.ok.cap
  have hmf : ∀ (fn : Fn) (first cap : Array Value) (w : World), (Instr.makeFunc fn first cap).run Try.prog w = .ok (.func fn first cap) w := fun _ _ _ _ => rfl
  have hpl := h.p_lt
  have hml := h.mb_lt
  have B1 : Below w.heap.size w ((w.alloc (.cells #[.pointer (some ⟨p, 0, none⟩)] 27)).alloc (.cells #[.int .u64 (hz : Int)] 34)) := ((Below.refl _ w).alloc (Nat.le_refl _) _).alloc (by simp) _
  have B2 := B1.alloc (by simp; omega) (.cells #[.int .i64 d.high] 3)
  have d1 := (h.on B1).c1
  have d2 := (h.on B2).c2
  have HP := Lib.hid (h.on B2)
  have HB := Lib.hid B2
  have v0 := (((Cell.fresh w 27 (.pointer (some ⟨p, 0, none⟩)) rfl).alloc (.cells #[.int .u64 (hz : Int)] 34)).alloc (.cells #[.int .i64 d.high] 3))
  have v1 := ((Cell.fresh (w.alloc (.cells #[.pointer (some ⟨p, 0, none⟩)] 27)) 34 (.int .u64 (hz : Int)) (g := w.heap.size + 1) (by simp)).alloc (.cells #[.int .i64 d.high] 3))
  have v2 := (Cell.fresh ((w.alloc (.cells #[.pointer (some ⟨p, 0, none⟩)] 27)).alloc (.cells #[.int .u64 (hz : Int)] 34)) 3 (.int .i64 d.high) (g := w.heap.size + 1 + 1) (by simp))
  have V := Lib.hid (And.intro v0 (And.intro v1 v2))
  have hsz : (((w.alloc (.cells #[.pointer (some ⟨p, 0, none⟩)] 27)).alloc (.cells #[.int .u64 (hz : Int)] 34)).alloc (.cells #[.int .i64 d.high] 3)).heap.size = w.heap.size + 3 := by simp
  have HZ := Lib.hid hsz
  clear h B1 B2 v0 v1 v2 hsz
  go_enter Try.func12, Try.ntmps12
  go_wp2_with (first
    | (at_range; refine wpList_range_own _ rfl _ 61 rfl 3 34 keyed Try.underlying61 (plainElem Try.prog 34) mb d.l.length (md d.l) rfl HP.out.map ?_; intro w0 hrg0 hg0 hs0))
  go_frame
  clear d1 d2
  generalize ((w.alloc (.cells #[.pointer (some ⟨p, 0, none⟩)] 27)).alloc (.cells #[.int .u64 (hz : Int)] 34)).alloc (.cells #[.int .i64 d.high] 3) = wa at HP HB V HZ hrg0 hg0 hs0 ⊢
  have hr := HZ.out
  rw [hr] at hrg0 hs0 ⊢
  obtain ⟨v0, v1, v2⟩ := V.out
  have b0 : Below w.heap.size w w0 := HB.out.grown hg0 (by omega) (fun k hk => by cases hk)
  have S0 := Lib.hid (And.intro hrg0 (And.intro (v0.grown hg0 (by simp)) (And.intro (v1.grown hg0 (by simp)) (And.intro (v2.grown hg0 (by simp)) b0))))
  clear hrg0 hg0 hs0 v0 v1 v2 b0 V HB HP HZ hr
  go_loopw [8] (fun _ wr => ∃ (left : Lit → Bool) (cnt : Nat) (x : Int), wr.ranges Try.prog 3 (plainElem Try.prog 34) mb (w.heap.size + 3) d.l.length (md d.l) left cnt ∧ Least d.l d.high hz left x ∧
      Cell wr w.heap.size 27 (.pointer (some ⟨p, 0, none⟩)) ∧ Cell wr (w.heap.size + 1) 34 (.int .u64 (hz : Int)) ∧ Cell wr (w.heap.size + 1 + 1) 3 (.int .i64 x) ∧ Below w.heap.size w wr)
    (fun _ wr => wr.rangeLeft mb (w.heap.size + 3))
  case atStart =>
    obtain ⟨a1, a2, a3, a4, a5⟩ := S0.out
    exact ⟨_, _, d.high, a1, Least.start H.out.ok hz, a2, a3, a4, a5⟩
  case round =>
    obtain ⟨left, cnt, x, hrg, hL, k0, k1, k2, hb⟩ := hrel
    have HS := Lib.hid (And.intro hL (And.intro k0 (And.intro k1 (And.intro k2 (And.intro hb hrg)))))
    clear hL k0 k1 k2 hb S0
    go_wp2_with (first
      | (at_next; refine wpList_next_ranges_ii _ rfl _ rfl 3 34 .i64 .u64 keyed Try.underlying3 Try.underlying34 mb (w.heap.size + 3) d.l.length (md d.l) left cnt rfl hrg ?_ ?_))
    · intro _ hl0
      obtain ⟨hL, k0, k1, k2, hb, _⟩ := HS.out
      have hP := H.out.on hb
      clear hrg
      have q0 := k0.cell
      have q1 := k1.cell
      have q2 := k2.cell
      have p0 := hP.c0
      have p1 := hP.c1
      have p2 := hP.c2
      have pf := hP.frz 1
      have HP := Lib.hid hP
      have HB := Lib.hid hb
      rcases hL.done H.out.ok hl0 with ⟨i, f, hf, hx, rfl, hlt⟩ | ⟨hf, rfl⟩
      · have HF := Lib.hid (And.intro hf hx)
        have hi := H.out.ok.ins _ (List.mem_of_getElem? hx)
        have KB := Lib.hid k2
        clear hf hx hL k0 k1 k2 hb hP hl0 HS c1 c2
        go_wp2_with fail
        go_quiet (fail)
        go_wp2_with fail
        go_region_law (first
          | (refine step_delete_own rfl (.tmp 35) (.tmp 36) 61 3 rfl 34 keyed Try.underlying61 (plainElem Try.prog 34) mb d.l.length (md d.l) (by simp [Act.eval]) (by exact HP.out.map) (.int .i64 f.1) (lk f.1) (by simp [Act.eval]) (key_of ⟨by omega, by omega⟩) ?_; intro w3 M3 g3))
        all_goals
          have q3 := (KB.out.grown (w' := w3) (grown_undrew g3.grown) (fun e => by injection e with e; omega)).cell
          have hs3 := (g3.grown.block p HP.out.p_lt (fun e' => by injection e' with e'; exact HP.out.ne e'.symm)).trans HP.out.str
          obtain ⟨hf, hx⟩ := HF.out
          have hal : Pl.alloc d hz = { d with l := Pl.cut d.l i } := by unfold Pl.alloc; rw [hf]
          have hno : Pl.allocNo d hz = f.1 := by unfold Pl.allocNo; rw [hf]; simp [hx]
          have hco : Pl.allocCode d hz = 0 := by unfold Pl.allocCode; rw [hf]
          have hok := Pl.alloc_ok H.out.ok hz
          rw [hal] at hok
          have hpo : Po w3 p mb { d with l := Pl.cut d.l i } := po_cut (w := w) (hi := d.high) hs3 H.out.ok hx M3 hok
          have hof : Off (Mine p mb) w w3 := (Off.of_below (below_drewN HB.out _)).trans (off_grown g3.grown)
          have RS := Lib.hid (And.intro hal (And.intro hno (And.intro hco (And.intro hpo hof))))
          clear hal hno hco hok hpo hof hf hx hs3 M3 g3
          go_wp2
          go_ret2
          obtain ⟨hal, hno, hco, hpo, hof⟩ := RS.out
          rw [hal, hno, hco]
          exact ⟨rfl, hpo, hof⟩
      · have HF := Lib.hid hf
        clear hf hL k0 k1 k2 hb hP hl0 HS c1 c2
        by_cases hcap : d.high = d.cap
        · have hal : Pl.alloc d hz = d := by unfold Pl.alloc; rw [HF.out]; simp only; rw [if_pos (by omega)]
          have hno : Pl.allocNo d hz = 0 := by unfold Pl.allocNo; rw [HF.out]; simp only; rw [if_pos (by omega)]
          have hco : Pl.allocCode d hz = 2 := by unfold Pl.allocCode; rw [HF.out]; simp only; rw [if_pos (by omega)]
          have RS := Lib.hid (And.intro hal (And.intro hno hco))
          have hbq : (d.high == d.cap) = true := by simpa using hcap
          clear hal hno hco hcap
          go_wp2_with fail
          go_quiet (fail)
          all_goals
            go_wp2_with fail
            go_quiet (fail)
            all_goals
              go_wp2
              go_ret2
              obtain ⟨hal, hno, hco⟩ := RS.out
              rw [hal, hno, hco]
              exact ⟨rfl, (HP.out.drewN _).drewN _, Off.of_below (below_drewN (below_drewN HB.out _) _)⟩
        · have hal : Pl.alloc d hz = { d with high := d.high + 1 } := by unfold Pl.alloc; rw [HF.out]; simp only; rw [if_neg (by omega)]
          have hno : Pl.allocNo d hz = d.high := by unfold Pl.allocNo; rw [HF.out]; simp only; rw [if_neg (by omega)]
          have hco : Pl.allocCode d hz = 0 := by unfold Pl.allocCode; rw [HF.out]; simp only; rw [if_neg (by omega)]
          have hok := Pl.alloc_ok H.out.ok hz
          rw [hal] at hok
          have RS := Lib.hid (And.intro hal (And.intro hno (And.intro hco hok)))
          have hbq : (d.high == d.cap) = false := by simpa using hcap
          clear hal hno hco hok hcap
          go_wp2_with fail
          go_quiet (fail)
          all_goals
            go_wp2_with fail
            go_quiet (fail)
            all_goals
              go_wp2
              go_ret2
              obtain ⟨hal, hno, hco, hok⟩ := RS.out
              rw [hal, hno, hco]
              obtain ⟨s1, s2, s3⟩ := set_high (HP.out.drewN _) (d.high + 1)
              exact ⟨rfl, ⟨s1, s2, hok⟩, (Off.of_below (below_drewN HB.out _)).trans s3⟩
    · intro no c w1 cnt1 hwx hwc hlx hat hrg1 hlt hg1 hs1 hen
      obtain ⟨hL, k0, k1, k2, hb, _⟩ := HS.out
      have n0 := k0.grown hg1 (by simp)
      have n1 := k1.grown hg1 (by simp)
      have n2 := k2.grown hg1 (by simp)
      have nb : Below w.heap.size w w1 := hb.grown hg1 (Nat.le_of_lt (Nat.lt_of_le_of_lt (Nat.le_add_right _ _) hrg.lt)) (fun k hk => by injection hk with hk; omega)
      have hno : (Pl.look d.l no).isSome = true := by rw [← has_md]; exact Maps.has_true_of_atKey hat
      have hI : I64 no := by have := bounds_i64 hwx; exact this
      have C := Lib.hid (takeLess_any w1 (w.heap.size + 1 + 1) w.heap.size (w.heap.size + 1) p mb x no hz d.l n2 n0.cell n1.cell (H.out.on nb).c2 (H.out.on nb).map hI)
      have HN := Lib.hid (And.intro (hL.step H.out.ok hno) (And.intro n0 (And.intro n1 (And.intro nb (And.intro hrg1 (And.intro hrg hlt))))))
      clear hL k0 k1 k2 hb n0 n1 n2 nb hno hI hat hlx hwx hwc hg1 hs1 hrg hrg1 HS hlt
      go_wp2_with fail
      refine C.out.mono ?_
      rintro e' w2 ⟨⟨v, rfl⟩, hg2, k2⟩
      obtain ⟨hL, n0, n1, nb, hrg1, hrg, hlt⟩ := HN.out
      have hrg2 := hrg1.kept hg2 (by have := H.out.mb_lt; intro e; injection e with e; omega) (by intro e; injection e with e; omega)
      go_wp2
      go_roundw
      case rel => exact ⟨_, _, _, hrg2, hL, n0.grown hg2 (fun e => by injection e with e; omega), n1.grown hg2 (fun e => by injection e with e; omega), k2, nb.grown hg2 (by have := nb.size; omega) (fun k hk => by injection hk with hk; omega)⟩
      case measure => rw [hrg2.left_eq, hrg.left_eq]; exact hlt

end Go.Proofs.Ytbfofhgnamheeaa.Pq
