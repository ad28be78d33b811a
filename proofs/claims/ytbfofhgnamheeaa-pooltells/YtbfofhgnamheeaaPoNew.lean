/-
  New.
-/
import Derived.Test.YtbfofhgnamheeaaPoRow
import Derived.Test.YtbfofhgnamheeaaPoAlloc
namespace Go.Proofs.Ytbfofhgnamheeaa.Pq
open Go.RowKit
set_option linter.unusedVariables false

/-- Freed one by one, or none where one may not be. -/
def addAll : Pl.Pd → List Pl.F → Option Pl.Pd
  | d, [] => some d
  | d, f :: l => if Pl.freeCode d f.1 = 0 then addAll (Pl.free d f.1 f.2) l else none
def newOf (cap high : Int) (l : List Pl.F) : Option Pl.Pd := if 2 ≤ high ∧ high ≤ cap ∧ cap ≤ 2048 then addAll ⟨cap, high, []⟩ l else none
theorem addAll_step {d : Pl.Pd} {l : List Pl.F} {k : Nat} {f : Pl.F} (hf : l[k]? = some f) : addAll d (l.drop k) = if Pl.freeCode d f.1 = 0 then addAll (Pl.free d f.1 f.2) (l.drop (k + 1)) else none := by
  have hk := (List.getElem?_eq_some_iff.1 hf).1
  rw [List.drop_eq_getElem_cons hk]
  have : l[k] = f := (List.getElem?_eq_some_iff.1 hf).2
  rw [this]
  rfl
theorem addAll_len : ∀ {l : List Pl.F} {d e : Pl.Pd}, addAll d l = some e → e.l.length = d.l.length + l.length ∧ e.cap = d.cap ∧ e.high = d.high
  | [], d, e, h => by simp [addAll] at h; subst h; simp
  | f :: l, d, e, h => by
    unfold addAll at h
    split at h
    · rename_i hc
      have := addAll_len h
      have e1 : Pl.free d f.1 f.2 = { d with l := Pl.ins d.l f.1 f.2 } := by unfold Pl.free; rw [if_pos hc]
      rw [e1] at this
      simp only [Pl.ins_len] at this
      simp; omega
    · cases h
theorem zero_ok {cap high : Int} (h : 2 ≤ high ∧ high ≤ cap ∧ cap ≤ 2048) : Pl.Ok ⟨cap, high, []⟩ := ⟨h.2.2, h.1, h.2.1, List.Pairwise.nil, by simp, by simp⟩
theorem po_made (w : World) {cap high : Int} (h : 2 ≤ high ∧ high ≤ cap ∧ cap ≤ 2048) : Po ((w.alloc (.map #[] 0)).alloc (.cells #[.int .i64 cap, .int .i64 high, .map (some w.heap.size)] 63)) (w.heap.size + 1) w.heap.size ⟨cap, high, []⟩ := by
  have hm : Mp (w.alloc (.map #[] 0)) w.heap.size [] := World.ownsMap_made w Try.prog 3 (plainElem Try.prog 34)
  refine ⟨?_, hm.at_ (Below.heap_alloc _ _ _ hm.lt), zero_ok h⟩
  have := heap_alloc_new (w.alloc (.map #[] 0)) (.cells #[.int .i64 cap, .int .i64 high, .map (some w.heap.size)] 63)
  rw [show (w.alloc (.map #[] 0)).heap.size = w.heap.size + 1 by simp] at this
  exact this
/-- What New answers. -/
def newV (o : Option Pl.Pd) (p : Nat) : Value := match o with
  | some _ => .tuple #[.pointer (some ⟨p, 0, none⟩), .int .i64 0]
  | none => .tuple #[.pointer none, .int .i64 1]
/-- What New leaves. -/
def NewSays (w : World) (o : Option Pl.Pd) (e : Ending) (w' : World) : Prop :=
  ∃ p mb, e = .returned (newV o p) ∧ (∀ d, o = some d → Po w' p mb d ∧ w.heap.size ≤ p ∧ w.heap.size ≤ mb) ∧ Below w.heap.size w w'
theorem says_none {w w' : World} {o : Option Pl.Pd} (h : o = none) (hb : Below w.heap.size w w') : NewSays w o (.returned (.tuple #[.pointer none, .int .i64 1])) w' := by
  subst h; exact ⟨0, 0, rfl, fun d hd => (by cases hd), hb⟩
theorem says_some {w w' : World} {o : Option Pl.Pd} {d : Pl.Pd} {p mb : Nat} (h : o = some d) (hP : Po w' p mb d) (hp : w.heap.size ≤ p) (hm : w.heap.size ≤ mb) (hb : Below w.heap.size w w') : NewSays w o (.returned (.tuple #[.pointer (some ⟨p, 0, none⟩), .int .i64 0])) w' := by
  subst h; exact ⟨p, mb, rfl, fun d' hd => by injection hd with hd; subst hd; exact ⟨hP, hp, hm⟩, hb⟩

set_option maxRecDepth 100000 in
theorem new_any (w : World) (cap high : Int) (A : Option Addr) (n c : Nat) (l : List Pl.F) (h : Fs w A n c l) (hi : I64 cap ∧ I64 high) (hn : n ≤ 100) :
    Calls Try.prog 10 #[.int .i64 cap, .int .i64 high, .slice A n c] w (NewSays w (newOf cap high l)) := by
  have H := Lib.hid h
  have hl := h.1
  have hcm := h.2.2.1
  have hnc := h.2.1
  unfold maxLen at hcm
  unfold I64 at hi
  clear h
  by_cases h2 : 2 ≤ high ∧ high ≤ cap ∧ cap ≤ 2048
  · have hN : newOf cap high l = addAll ⟨cap, high, []⟩ l := by unfold newOf; rw [if_pos h2]
    rw [hN]
    have HP0 := Lib.hid (po_made w h2)
    have HB0 := Lib.hid (((Below.refl _ w).alloc (Nat.le_refl _) (.map #[] 0)).alloc (by simp) (.cells #[.int .i64 cap, .int .i64 high, .map (some w.heap.size)] 63))
    obtain ⟨h2a, h2b, h2c⟩ := h2
    have z1 : ¬ high < 2 := by omega
    have z2 : ¬ cap < high := by omega
    have z3 : ¬ (2048 : Int) < cap := by omega
    clear hN
    have hmm := @run_makeMap Try.prog
    go_enter Try.func10, Try.ntmps10
    go_wp2_with fail
    go_loopw [29] (fun i wr => ∃ (k : Nat) (e : Pl.Pd), k ≤ n ∧ i = .int .i64 (k : Int) ∧ Po wr (w.heap.size + 1) w.heap.size e ∧ addAll ⟨cap, high, []⟩ l = addAll e (l.drop k) ∧ Below w.heap.size w wr) (fun i _ => n - (intOf i).toNat)
    case atStart => exact ⟨0, _, Nat.zero_le _, rfl, HP0.out, by rw [List.drop_zero], HB0.out⟩
    case round =>
      obtain ⟨k, e, hk, rfl, hP, hA, hb⟩ := hrel
      by_cases hlt : k < n
      · have z5 : (k : Int) < (n : Int) := by omega
        obtain ⟨b, off, f, rfl, hbl, hf, hin, q0, q1⟩ := (H.out.on hb).get hlt
        have hbs := hb.size
        have hb2 := hb.alloc (by omega) (.cells #[.int .i64 f.1, .int .u64 (f.2 : Int)] 57)
        have hP2 := hP.on ((Below.refl _ wr).alloc (Nat.le_refl _) (.cells #[.int .i64 f.1, .int .u64 (f.2 : Int)] 57))
        have CF := Lib.hid (free_any _ _ _ e f.1 f.2 hP2 hin.1 hin.2)
        have hst := addAll_step (d := e) hf
        by_cases hc : Pl.freeCode e f.1 = 0
        · rw [if_pos hc] at hst
          rw [hc] at CF
          have HH := Lib.hid (And.intro hb2 (And.intro hA hst))
          clear hb2 hP2 hst hc hP hA hb hf hin hbl
          go_wp2_with fail
          refine CF.out.mono ?_
          rintro e' w2 ⟨rfl, hP3, ho3⟩
          obtain ⟨hb2, hA, hst⟩ := HH.out
          have hb3 : Below w.heap.size w w2 := hb2.trans (ho3.below (B := w.heap.size) (by rintro x (rfl | rfl) <;> omega) (by simp; omega))
          go_wp2
          go_roundw
          case rel => exact ⟨k + 1, _, by omega, by go_num, hP3, hA.trans hst, hb3⟩
          case measure => simp [intOf]; omega
        · rw [if_neg hc] at hst
          have hcn : (Pl.freeCode e f.1 != 0) = true := by simpa using hc
          have hcn' : (Pl.freeCode e f.1 == 0) = false := by simpa using hc
          have HH := Lib.hid (And.intro hb2 (And.intro hA hst))
          clear hb2 hP2 hst hP hA hb hf hin hbl
          go_wp2_with fail
          refine CF.out.mono ?_
          rintro e' w2 ⟨rfl, hP3, ho3⟩
          obtain ⟨hb2, hA, hst⟩ := HH.out
          have hb3 : Below w.heap.size w w2 := hb2.trans (ho3.below (B := w.heap.size) (by rintro x (rfl | rfl) <;> omega) (by simp; omega))
          have HX := Lib.hid (And.intro hA (And.intro hst hb3))
          clear hA hst hb3 hb2 hP3 ho3
          go_wp2
          go_ret2
          obtain ⟨hA, hst, hb3⟩ := HX.out
          exact says_none (hA.trans hst) hb3
      · have z5 : ¬ ((k : Int) < (n : Int)) := by omega
        rw [List.drop_eq_nil_of_le (by omega)] at hA
        have HX := Lib.hid (And.intro hA (And.intro hP hb))
        clear hA hP hb
        go_wp2
        go_ret2
        obtain ⟨hA, hP, hb⟩ := HX.out
        exact says_some hA hP (by omega) (Nat.le_refl _) hb
  · have hN : newOf cap high l = none := by unfold newOf; rw [if_neg h2]
    rw [hN]
    by_cases z1 : high < 2
    · clear hN h2
      go_enter Try.func10, Try.ntmps10
      go_wp2
      go_ret2
      exact says_none rfl (Below.refl _ _)
    · by_cases z2 : cap < high
      · clear hN h2
        go_enter Try.func10, Try.ntmps10
        go_wp2
        go_ret2
        exact says_none rfl (Below.refl _ _)
      · have z3 : (2048 : Int) < cap := by omega
        clear hN h2
        go_enter Try.func10, Try.ntmps10
        go_wp2
        go_ret2
        exact says_none rfl (Below.refl _ _)

end Go.Proofs.Ytbfofhgnamheeaa.Pq
