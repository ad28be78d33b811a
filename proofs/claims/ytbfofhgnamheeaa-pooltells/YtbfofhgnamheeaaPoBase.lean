/-
  The program's pool in memory: High, mayUse, Free.
-/
import Derived.Test.YtbfofhgnamheeaaPoMap
namespace Go.Proofs.Ytbfofhgnamheeaa.Pq
open Go.RowKit
set_option linter.unusedVariables false

/-- The program's pool in memory: a struct at p, a map at mb. -/
structure Po (w : World) (p mb : Nat) (d : Pl.Pd) : Prop where
  str : w.heap[p]? = some (.cells #[.int .i64 d.cap, .int .i64 d.high, .map (some mb)] 63 (0, 0))
  map : Mp w mb d.l
  ok : Pl.Ok d
/-- What is its own. -/
def Mine (p mb : Nat) (k : Nat) : Prop := k = p ∨ k = mb
section
variable {w w1 : World} {p mb : Nat} {d : Pl.Pd}
theorem Po.p_lt (h : Po w p mb d) : p < w.heap.size := (Array.getElem?_eq_some_iff.1 h.str).1
theorem Po.mb_lt (h : Po w p mb d) : mb < w.heap.size := h.map.lt
theorem Po.lt (h : Po w p mb d) {k : Nat} (hk : Mine p mb k) : k < w.heap.size := by
  rcases hk with rfl | rfl
  · exact h.p_lt
  · exact h.mb_lt
theorem Po.off {S : Nat → Prop} (h : Po w p mb d) (ho : Off S w w1) (hn : ∀ k, Mine p mb k → ¬ S k) : Po w1 p mb d :=
  ⟨ho.at_ h.str (hn _ (.inl rfl)), h.map.off ho (hn _ (.inr rfl)), h.ok⟩
theorem Po.on (h : Po w p mb d) (hb : Below w.heap.size w w1) : Po w1 p mb d := h.off (S := fun _ => False) (Off.of_below hb) fun _ _ h => h
theorem Po.drewN (h : Po w p mb d) (m : Nat) : Po (w.drewN m) p mb d := h.on (below_drewN (Below.refl _ _) m)
theorem Po.frz (h : Po w p mb d) (j : Nat) : w.frozen? ⟨p, j, none⟩ = false := frozen_of_row w p j _ _ h.str
theorem Po.c0 (h : Po w p mb d) : w.cell? ⟨p, 0, none⟩ = some (.int .i64 d.cap) := cell_of_row w _ 0 _ _ (0, 0) h.str
theorem Po.c1 (h : Po w p mb d) : w.cell? ⟨p, 1, none⟩ = some (.int .i64 d.high) := cell_of_row w _ 1 _ _ (0, 0) h.str
theorem Po.c2 (h : Po w p mb d) : w.cell? ⟨p, 2, none⟩ = some (.map (some mb)) := cell_of_row w _ 2 _ _ (0, 0) h.str
theorem Po.ne (h : Po w p mb d) : mb ≠ p := by
  intro e
  obtain ⟨es, c, hb⟩ := h.map.block
  rw [e, h.str] at hb; cases hb
theorem Po.few (h : Po w p mb d) : d.l.length ≤ 2048 := by
  have hr := h.ok.rises
  have hi := h.ok.ins
  have hc := h.ok.cap
  have hh := h.ok.high
  have key : ∀ (l : List Pl.F) (a : Int), Pl.Rises l → (∀ f ∈ l, a ≤ f.1 ∧ f.1 < d.high) → a ≤ d.high → (l.length : Int) ≤ d.high - a := by
    intro l
    induction l with
    | nil => intro a _ _ ha; simp; omega
    | cons x l ih =>
      intro a hr hb ha
      have hx := hb x (by simp)
      have := ih (x.1 + 1) (List.Pairwise.of_cons hr) (fun f hf => ⟨by have := List.rel_of_pairwise_cons hr hf; omega, (hb f (by simp [hf])).2⟩) (by omega)
      simp; omega
  have := key d.l 2 hr hi h.ok.two
  omega
/-- The map alone has changed. -/
theorem Po.turned (h : Po w p mb d) {l : List Pl.F} (hs : w1.heap[p]? = w.heap[p]?) (hm : Mp w1 mb l) (hok : Pl.Ok { d with l := l }) : Po w1 p mb { d with l := l } :=
  ⟨hs.trans h.str, hm, hok⟩
end
theorem off_grown {w w1 : World} {p mb : Nat} (h : w.grownBy w1 (some mb)) : Off (Mine p mb) w w1 := Off.of_grown h fun k hk => by injection hk with hk; exact .inr hk.symm

theorem high_any (w : World) (p mb : Nat) (d : Pl.Pd) (h : Po w p mb d) :
    Calls Try.prog 19 #[.pointer (some ⟨p, 0, none⟩)] w fun e w' => e = .returned (.int .i64 d.high) ∧ w = w' := by
  have c1 := h.c1
  clear h
  go_enter Try.func19, Try.ntmps19
  go_wp2
  go_ret
  exact ⟨rfl, rfl⟩

/-- May the page be used up to the horizon? -/
def may (l : List Pl.F) (no : Int) (hz : Nat) : Bool := match Pl.look l no with
  | some g => decide (g ≤ hz)
  | none => false
theorem may_some {l : List Pl.F} {no : Int} {hz g : Nat} (h : Pl.look l no = some g) : may l no hz = decide (g ≤ hz) := by unfold may; rw [h]
theorem may_none {l : List Pl.F} {no : Int} {hz : Nat} (h : Pl.look l no = none) : may l no hz = false := by unfold may; rw [h]
def I64 (z : Int) : Prop := -9223372036854775808 ≤ z ∧ z ≤ 9223372036854775807

theorem mayUse_map (w : World) (p mb : Nat) (l : List Pl.F) (no : Int) (hz : Nat) (c2 : w.cell? ⟨p, 2, none⟩ = some (.map (some mb))) (hm : Mp w mb l) (hi : I64 no) :
    Calls Try.prog 31 #[.pointer (some ⟨p, 0, none⟩), .int .i64 no, .int .u64 (hz : Int)] w fun e w' => e = .returned (.bool (may l no hz)) ∧ w = w' := by
  cases hl : Pl.look l no with
  | none =>
    have hrun := hm.look_none hi hl
    rw [may_none hl]
    clear hm hi hl
    go_enter Try.func31, Try.ntmps31
    go_wp2
    go_ret
    exact ⟨rfl, rfl⟩
  | some g =>
    have hrun := hm.look_some hi hl
    rw [may_some hl]
    clear hm hi hl
    by_cases hg : g ≤ hz
    · have h1 : (g : Int) ≤ (hz : Int) := by omega
      have hd : decide (g ≤ hz) = true := decide_eq_true hg
      rw [hd]
      clear hg hd
      go_enter Try.func31, Try.ntmps31
      go_wp2
      go_ret
      exact ⟨rfl, rfl⟩
    · have h1 : ¬ (g : Int) ≤ (hz : Int) := by omega
      have hd : decide (g ≤ hz) = false := decide_eq_false hg
      rw [hd]
      clear hg hd
      go_enter Try.func31, Try.ntmps31
      go_wp2
      go_ret
      exact ⟨rfl, rfl⟩

theorem free_any (w : World) (p mb : Nat) (d : Pl.Pd) (no : Int) (g : Nat) (h : Po w p mb d) (hi : I64 no) (hg : g < 18446744073709551616) :
    Calls Try.prog 14 #[.pointer (some ⟨p, 0, none⟩), .int .i64 no, .int .u64 (g : Int)] w fun e w' => e = .returned (.int .i64 (Pl.freeCode d no)) ∧ Po w' p mb (Pl.free d no g) ∧ Off (Mine p mb) w w' := by
  have H := Lib.hid h
  have c1 := h.c1
  have c2 := h.c2
  by_cases h2 : no < 2
  · have hf : Pl.freeCode d no = 1 := by unfold Pl.freeCode; rw [if_pos (.inl h2)]
    have hfr : Pl.free d no g = d := by unfold Pl.free; rw [hf, if_neg (by decide)]
    rw [hf, hfr]
    clear h hf hfr hi hg c2
    go_enter Try.func14, Try.ntmps14
    go_wp2
    go_ret
    exact ⟨rfl, H.out, Off.refl _ _⟩
  by_cases h3 : d.high ≤ no
  · have hf : Pl.freeCode d no = 1 := by unfold Pl.freeCode; rw [if_pos (.inr h3)]
    have hfr : Pl.free d no g = d := by unfold Pl.free; rw [hf, if_neg (by decide)]
    rw [hf, hfr]
    clear h hf hfr hi hg c2
    go_enter Try.func14, Try.ntmps14
    go_wp2
    go_ret
    exact ⟨rfl, H.out, Off.refl _ _⟩
  have hor : ¬ (no < 2 ∨ d.high ≤ no) := by omega
  cases hl : Pl.look d.l no with
  | some g0 =>
    have hrun := h.map.look_some hi hl
    have hf : Pl.freeCode d no = 8 := by unfold Pl.freeCode; rw [if_neg hor, hl]; rfl
    have hfr : Pl.free d no g = d := by unfold Pl.free; rw [hf, if_neg (by decide)]
    rw [hf, hfr]
    clear h hf hfr hi hg hl hor
    go_enter Try.func14, Try.ntmps14
    go_wp2
    go_ret
    exact ⟨rfl, H.out, Off.refl _ _⟩
  | none =>
    have hrun := h.map.look_none hi hl
    have hf : Pl.freeCode d no = 0 := by unfold Pl.freeCode; rw [if_neg hor, hl]; rfl
    have hfr : Pl.free d no g = { d with l := Pl.ins d.l no g } := by unfold Pl.free; rw [hf, if_pos rfl]
    have hok := Pl.free_ok h.ok no g hg
    have hfew := h.few
    have HI := Lib.hid hi
    have HL := Lib.hid hl
    have HG := Lib.hid hg
    rw [hf, hfr]
    rw [hfr] at hok
    have HK := Lib.hid hok
    clear h hf hfr hi hg hl hor hok
    go_enter Try.func14, Try.ntmps14
    go_wp2_with (first
      | (at_mapUpdate; refine wpList_mapUpdate_own _ rfl _ _ _ 61 rfl 3 34 keyed Try.underlying61 (plainElem Try.prog 34) mb d.l.length (md d.l) rfl H.out.map (by unfold maxLen; omega) _ _ (lk no) rfl rfl (key_of HI.out) (.lit (.int .u64 (g : Int))) [] (elem_of HG.out) ?_; intro w5 M5 g5))
    go_ret
    refine ⟨rfl, H.out.turned ?_ ?_ HK.out, off_grown g5⟩
    · exact g5.block p H.out.p_lt (fun e => by injection e with e; exact H.out.ne e.symm)
    · have := M5
      rw [put_md H.out.ok.rises HL.out (World.ownsMap.canon M5 keyed)] at this
      unfold Mp
      rw [Pl.ins_len]
      exact this

end Go.Proofs.Ytbfofhgnamheeaa.Pq
