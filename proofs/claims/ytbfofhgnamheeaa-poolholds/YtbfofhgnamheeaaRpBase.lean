/-
  The document's pool in memory; cut.
-/
import Derived.Test.YtbfofhgnamheeaaPoRow
namespace Go.Proofs.Ytbfofhgnamheeaa.Pq
open Go.RowKit
set_option linter.unusedVariables false

/-- The document's pool in memory: a struct at q, whose list is v. -/
structure Rf (w : World) (q : Nat) (v : Value) (d : Pl.Pd) : Prop where
  str : w.heap[q]? = some (.cells #[.int .i64 d.cap, .int .i64 d.high, v] 44 (0, 0))
  own : w.ownsRow 0 57 2 v d.l.length (fc d.l)
  ok : Pl.Ok d
theorem few_of {d : Pl.Pd} (h : Pl.Ok d) : d.l.length ≤ 2048 := by
  have hr := h.rises
  have hi := h.ins
  have hc := h.cap
  have hh := h.high
  have key : ∀ (l : List Pl.F) (a : Int), Pl.Rises l → (∀ f ∈ l, a ≤ f.1 ∧ f.1 < d.high) → a ≤ d.high → (l.length : Int) ≤ d.high - a := by
    intro l
    induction l with
    | nil => intro a _ _ ha; simp; omega
    | cons x l ih =>
      intro a hr hb ha
      have hx := hb x (by simp)
      have := ih (x.1 + 1) (List.Pairwise.of_cons hr) (fun f hf => ⟨by have := List.rel_of_pairwise_cons hr hf; omega, (hb f (by simp [hf])).2⟩) (by omega)
      simp; omega
  have := key d.l 2 hr hi h.two
  omega
theorem ok_in {d : Pl.Pd} (h : Pl.Ok d) : ∀ f ∈ d.l, In f := fun f hf => ⟨by have := h.ins f hf; have := h.high; have := h.cap; unfold I64; omega, h.gens f hf⟩
theorem cut_ok {d : Pl.Pd} (h : Pl.Ok d) (i : Nat) : Pl.Ok { d with l := Pl.cut d.l i } := by
  have hs : ∀ f ∈ Pl.cut d.l i, f ∈ d.l := by
    intro f hf
    unfold Pl.cut at hf
    rcases List.mem_append.1 hf with hf | hf
    · exact List.mem_of_mem_take hf
    · exact List.mem_of_mem_drop hf
  exact ⟨h.cap, h.two, h.high, Pl.cut_rises h.rises i, fun f hf => h.ins f (hs f hf), fun f hf => h.gens f (hs f hf)⟩
section
variable {w w1 : World} {q : Nat} {v : Value} {d : Pl.Pd}
theorem Rf.q_lt (h : Rf w q v d) : q < w.heap.size := (Array.getElem?_eq_some_iff.1 h.str).1
theorem Rf.few (h : Rf w q v d) : d.l.length ≤ 2048 := few_of h.ok
theorem Rf.ne (h : Rf w q v d) {k : Nat} (hk : v.ownBlock = some k) : k ≠ q := by
  rintro rfl
  obtain ⟨cs, hc⟩ := own_type h.own hk
  rw [h.str] at hc; simp at hc
theorem Rf.off {S : Nat → Prop} (h : Rf w q v d) (ho : Off S w w1) (hq : ¬ S q) (hv : ∀ k, v.ownBlock = some k → ¬ S k) : Rf w1 q v d :=
  ⟨ho.at_ h.str hq, ho.own h.own hv, h.ok⟩
theorem Rf.on (h : Rf w q v d) (hb : Below w.heap.size w w1) : Rf w1 q v d := h.off (S := fun _ => False) (Off.of_below hb) id fun _ _ h => h
theorem Rf.drewN (h : Rf w q v d) (m : Nat) : Rf (w.drewN m) q v d := h.on (below_drewN (Below.refl _ _) m)
theorem Rf.frz (h : Rf w q v d) (j : Nat) : w.frozen? ⟨q, j, none⟩ = false := frozen_of_row w q j _ _ h.str
theorem Rf.c0 (h : Rf w q v d) : w.cell? ⟨q, 0, none⟩ = some (.int .i64 d.cap) := cell_of_row w _ 0 _ _ (0, 0) h.str
theorem Rf.c1 (h : Rf w q v d) : w.cell? ⟨q, 1, none⟩ = some (.int .i64 d.high) := cell_of_row w _ 1 _ _ (0, 0) h.str
theorem Rf.c2 (h : Rf w q v d) : w.cell? ⟨q, 2, none⟩ = some v := cell_of_row w _ 2 _ _ (0, 0) h.str
theorem Rf.fs (h : Rf w q v d) : ∃ A c, v = .slice A d.l.length c ∧ Fs w A d.l.length c d.l := fs_own h.own (ok_in h.ok)
end
theorem rf_set {w w3 : World} {q : Nat} {v v3 : Value} {d : Pl.Pd} {l : List Pl.F} (h : Rf w q v d) (hs : w3.heap[q]? = w.heap[q]?) (ho : Off (fun k => k = q) w w3) (hown : w3.ownsRow w.heap.size 57 2 v3 l.length (fc l)) (hok : Pl.Ok { d with l := l }) :
    Rf (w3.setCell ⟨q, 2, none⟩ v3) q v3 { d with l := l } ∧ Off (fun k => k = q) w (w3.setCell ⟨q, 2, none⟩ v3) := by
  have hq := h.q_lt
  have hset := ho.set (i := 2) v3 rfl
  refine ⟨⟨?_, ?_, hok⟩, hset⟩
  · rw [heap_setCell_same w3 q 2 _ _ _ (hs.trans h.str)]; simp
  · have hk : ∀ k, v3.ownBlock = some k → w.heap.size ≤ k := fun k hk => (hown.lt k hk).1
    refine ⟨hown.1, ?_⟩
    rcases hown.2 with h0 | ⟨g, cap, cur, hv, hg, hb, r⟩
    · exact .inl h0
    · refine .inr ⟨g, cap, cur, hv, Nat.zero_le _, ?_, r⟩
      rw [heap_setCell_other w3 _ g v3 (by show g ≠ q; omega)]
      exact hb

theorem own_empty (w : World) : (w.alloc (.cells #[] 57)).ownsRow w.heap.size 57 2 (.slice (some ⟨w.heap.size, 0, none⟩) 0 0) ([] : List Pl.F).length (fc []) :=
  World.ownsRow_made (base := w.heap.size) (e := 57) (size := 2) w #[] 0 (Nat.le_refl _) (Nat.zero_le _) rfl

set_option maxRecDepth 100000 in
set_option maxHeartbeats 1000000 in
theorem rcut_any (w : World) (q : Nat) (v : Value) (d : Pl.Pd) (i : Nat) (h : Rf w q v d) (hi : i < d.l.length) :
    Calls Try.prog 32 #[.pointer (some ⟨q, 0, none⟩), .int .i64 (i : Int)] w fun e w' => (∃ u, e = .returned u) ∧ (∃ v', Rf w' q v' { d with l := Pl.cut d.l i }) ∧ Off (fun k => k = q) w w' := by
  have H := Lib.hid h
  have c2 := h.c2
  have f2 := h.frz 2
  have hfew := h.few
  obtain ⟨A, c, rfl, hF⟩ := h.fs
  obtain ⟨b, off, f, rfl, hbl, _⟩ := hF.get hi
  have hnc := hF.2.1
  have hcm := hF.2.2.1
  unfold maxLen at hcm
  have B0 : Below w.heap.size w (w.alloc (.cells #[] 57)) := (Below.refl _ w).alloc (Nat.le_refl _) _
  have O0 := own_empty w
  have F1 := Lib.hid ((hF.first i (by omega)).on B0)
  have hF2 := hF.far (i + 1) (by omega)
  have c2a := (h.on B0).c2
  have HO0 := Lib.hid O0
  have HB0 := Lib.hid B0
  have ht : (d.l.take i).length = i := by simp; omega
  have hq := h.q_lt
  have hij : i ≤ c := by omega
  have hjn : i + 1 ≤ d.l.length := by omega
  have hjc : i + 1 ≤ c := by omega
  have hwj : IntKind.i64.wrap ((i : Int) + 1) = ((i + 1 : Nat) : Int) := by rw [IntWalk.i64_in _ ⟨by omega, by omega⟩]; omega
  obtain ⟨j, hj⟩ : ∃ j, j = i + 1 := ⟨_, rfl⟩
  have HJ := Lib.hid hj
  rw [← hj] at hjn hjc hwj hF2
  generalize hn : d.l.length = n at *
  have hF3 : Fs w (if c = j then some ⟨b, off, none⟩ else some ⟨b, off + j * 2, none⟩) (n - j) (c - j) (d.l.drop j) := by
    by_cases hce : c = j
    · rw [if_pos hce, show n - j = 0 by omega, List.drop_eq_nil_of_le (by omega)]
      exact Fs.nil_ _ _ _ (by unfold maxLen; omega)
    · rw [if_neg hce]; exact hF2
  have F2w := Lib.hid hF3
  have HT := Lib.hid ht
  obtain ⟨m, hm⟩ : ∃ m, m = (Pl.cut d.l i).length := ⟨_, rfl⟩
  have HC : Hid (Pl.cut d.l i = d.l.take i ++ d.l.drop j) := by show _ = _; unfold Pl.cut; rw [HJ.out]
  have F1d : Hid (Fs (w.alloc (.cells #[] 57)).drew _ _ _ _) := F1.out
  have HOd : Hid ((w.alloc (.cells #[] 57)).drew.ownsRow _ _ _ _ _ _) := HO0.out
  have HBd : Hid (Below w.heap.size w (w.alloc (.cells #[] 57)).drew) := below_drewN HB0.out 1
  have HM := Lib.hid hm
  clear F1 HO0 HB0 h hF B0 O0 f2 hF3 hF2 hj ht hn hm
  go_enter Try.func32, Try.ntmps32
  go_wp2_with fail
  go_region_law (first
    | (refine step_append_run rfl (.tmp 5) (.tmp 11) 22 22 rfl (.slice (some ⟨w.heap.size, 0, none⟩) 0 0) (.slice (some ⟨b, off, none⟩) i c) (by simp [Act.eval, Act.put]) (by simp [Act.eval, Act.put]) _ (run_append_fs _ w.heap.size _ _ [] (by exact HOd.out) _ _ _ _ (by exact F1d.out) (by simp; omega) (by simp)) ?_; rintro v2 w2 ⟨O2, g2⟩; have B2 := below_own HBd.out HOd.out g2 (by simp) (Nat.le_refl _); have c2b := (H.out.on B2).c2)
    | (refine step_append_run rfl (.tmp 12) (.tmp 19) 22 22 rfl v2 (.slice (if c = j then some ⟨b, off, none⟩ else some ⟨b, off + j * 2, none⟩) (n - j) (c - j)) (by simp [Act.eval, Act.put]) (by simp [Act.eval, Act.put]) _ (run_append_fs _ w.heap.size _ _ (d.l.take i) (by exact O2) _ _ _ _ (by exact F2w.out.on B2) (by rw [HT.out]; omega) B2.size) ?_; rintro v3 w3 ⟨O3, g3⟩; rw [← HC.out, ← HM.out] at O3; obtain ⟨A3, c3, rfl, _, _⟩ := own_form2 O3; have B3 := below_own B2 O2 g3 B2.size (Nat.le_refl _); have f2c := (H.out.on B3).frz 2; have c2c := (H.out.on B3).c2))
  all_goals go_wp2
  all_goals
    go_end0
    have hs3 := B3.block q hq
    have hm := HM.out
    subst hm
    obtain ⟨r1, r2⟩ := rf_set H.out hs3 (Off.of_below B3) O3 (cut_ok H.out.ok i)
    exact ⟨⟨_, rfl⟩, ⟨_, r1⟩, r2⟩

end Go.Proofs.Ytbfofhgnamheeaa.Pq
