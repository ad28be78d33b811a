/-
  The document's Alloc.
-/
import Derived.Test.YtbfofhgnamheeaaRpBase
namespace Go.Proofs.Ytbfofhgnamheeaa.Pq
open Go.RowKit
set_option linter.unusedVariables false

theorem first_at {l : List Pl.F} {hz k : Nat} {f : Pl.F} (hb : ∀ j x, j < k → l[j]? = some x → hz < x.2) (hf : l[k]? = some f) (hle : f.2 ≤ hz) : Pl.first l hz = some k := by
  unfold Pl.first
  rw [List.findIdx?_eq_some_iff_getElem]
  obtain ⟨hk, he⟩ := List.getElem?_eq_some_iff.1 hf
  refine ⟨hk, by rw [he]; exact decide_eq_true hle, fun j hj => ?_⟩
  have := hb j l[j] hj (List.getElem?_eq_getElem (by omega))
  simp; omega
theorem first_no {l : List Pl.F} {hz : Nat} (hb : ∀ f ∈ l, hz < f.2) : Pl.first l hz = none := by
  unfold Pl.first
  rw [List.findIdx?_eq_none_iff]
  intro x hx
  have := hb x hx
  simp; omega
theorem rset_high {w : World} {q : Nat} {v : Value} {d : Pl.Pd} (h : Rf w q v d) (x : Int) (hok : Pl.Ok { d with high := x }) :
    Rf (w.setCell ⟨q, 1, none⟩ (.int .i64 x)) q v { d with high := x } ∧ Off (fun k => k = q) w (w.setCell ⟨q, 1, none⟩ (.int .i64 x)) := by
  have ho : Off (fun k => k = q) w (w.setCell ⟨q, 1, none⟩ (.int .i64 x)) := (Off.refl _ w).set _ rfl
  refine ⟨⟨?_, ho.own h.own fun k hk => h.ne hk, hok⟩, ho⟩
  rw [heap_setCell_same w q 1 _ _ _ h.str]; simp

set_option maxRecDepth 100000 in
set_option maxHeartbeats 1000000 in
theorem ralloc_any (w : World) (q : Nat) (v : Value) (d : Pl.Pd) (hz : Nat) (h : Rf w q v d) :
    Calls Try.prog 13 #[.pointer (some ⟨q, 0, none⟩), .int .u64 (hz : Int)] w fun e w' => e = .returned (.tuple #[.int .i64 (Pl.allocNo d hz), .int .i64 (Pl.allocCode d hz)]) ∧ (∃ v', Rf w' q v' (Pl.alloc d hz)) ∧ Off (fun k => k = q) w w' := by
  have H := Lib.hid h
  have c0 := h.c0
  have c1 := h.c1
  have c2 := h.c2
  have f1 := h.frz 1
  have hfew := h.few
  have hd2 := h.ok.two
  have hdc := h.ok.high
  have hdm := h.ok.cap
  obtain ⟨A, c, rfl, hF⟩ := h.fs
  have hnc := hF.2.1
  have hcm := hF.2.2.1
  unfold maxLen at hcm
  have HF := Lib.hid hF
  obtain ⟨n, hn⟩ : ∃ n, n = d.l.length := ⟨_, rfl⟩
  have HN := Lib.hid hn
  rw [← hn] at hfew hnc HF c2
  have HQ := Lib.hid h
  clear hF h hn
  go_enter Try.func13, Try.ntmps13
  go_wp2_with fail
  go_loopw [6] (fun x wr => ∃ k : Nat, k ≤ n ∧ x = .int .i64 (k : Int) ∧ (∀ j y, j < k → d.l[j]? = some y → hz < y.2) ∧ wr = w) (fun x _ => n - (intOf x).toNat)
  case atStart => exact ⟨0, Nat.zero_le _, rfl, fun j y hj => by omega, rfl⟩
  case round =>
    obtain ⟨k, hk, rfl, hB, rfl⟩ := hrel
    obtain ⟨w, hw⟩ : ∃ w0 : World, w0 = wr := ⟨_, rfl⟩
    subst hw
    by_cases hlt : k < n
    · have z1 : (k : Int) < (n : Int) := by omega
      obtain ⟨b, off, f, rfl, hbl, hf, hin, q0, q1⟩ := HF.out.get hlt
      by_cases hle : f.2 ≤ hz
      · have z2 : (f.2 : Int) ≤ (hz : Int) := by omega
        have hfi := first_at hB hf hle
        have hal : Pl.alloc d hz = { d with l := Pl.cut d.l k } := by unfold Pl.alloc; rw [hfi]
        have hno : Pl.allocNo d hz = f.1 := by unfold Pl.allocNo; rw [hfi]; simp [hf]
        have hco : Pl.allocCode d hz = 0 := by unfold Pl.allocCode; rw [hfi]
        have C := Lib.hid (rcut_any w q _ d k HQ.out (by rw [← HN.out]; exact hlt))
        have RS := Lib.hid (And.intro hal (And.intro hno hco))
        clear hal hno hco hfi hf hle hB hin hbl
        go_wp2_with fail
        refine C.out.mono ?_
        rintro e w1 ⟨⟨u, rfl⟩, hR, hO⟩
        go_wp2
        go_ret2
        obtain ⟨hal, hno, hco⟩ := RS.out
        rw [hal, hno, hco]
        exact ⟨rfl, hR, hO⟩
      · have z2 : ¬ (f.2 : Int) ≤ (hz : Int) := by omega
        have HB2 : Hid (∀ j y, j < k + 1 → d.l[j]? = some y → hz < y.2) := fun j y hj hy => by
          rcases Nat.lt_or_ge j k with hj' | hj'
          · exact hB j y hj' hy
          · have : j = k := by omega
            subst this
            rw [hf] at hy; injection hy with hy; subst hy; omega
        clear hf hle hB hin hbl
        go_wp2
        go_roundw
        case rel => exact ⟨k + 1, by omega, by go_num, HB2.out, by trivial⟩
        case measure => simp [intOf]; omega
    · have z1 : ¬ ((k : Int) < (n : Int)) := by omega
      have z1' : decide ((k : Int) < (n : Int)) = false := by simp; omega
      have hfi : Pl.first d.l hz = none := first_no fun f hf => by
        obtain ⟨j, hj⟩ := List.getElem?_of_mem hf
        exact hB j f (by have := (List.getElem?_eq_some_iff.1 hj).1; have := HN.out; omega) hj
      by_cases hcap : d.cap ≤ d.high
      · have hal : Pl.alloc d hz = d := by unfold Pl.alloc; rw [hfi]; simp only; rw [if_pos hcap]
        have hno : Pl.allocNo d hz = 0 := by unfold Pl.allocNo; rw [hfi]; simp only; rw [if_pos hcap]
        have hco : Pl.allocCode d hz = 2 := by unfold Pl.allocCode; rw [hfi]; simp only; rw [if_pos hcap]
        have RS := Lib.hid (And.intro hal (And.intro hno hco))
        clear hal hno hco hfi hB
        go_wp2_with fail
        go_quiet (fail)
        all_goals
          go_wp2
          go_ret2
          obtain ⟨hal, hno, hco⟩ := RS.out
          rw [hal, hno, hco]
          exact ⟨rfl, ⟨_, HQ.out.drewN _⟩, Off.of_below (below_drewN (Below.refl _ _) _)⟩
      · have hal : Pl.alloc d hz = { d with high := d.high + 1 } := by unfold Pl.alloc; rw [hfi]; simp only; rw [if_neg hcap]
        have hno : Pl.allocNo d hz = d.high := by unfold Pl.allocNo; rw [hfi]; simp only; rw [if_neg hcap]
        have hco : Pl.allocCode d hz = 0 := by unfold Pl.allocCode; rw [hfi]; simp only; rw [if_neg hcap]
        have hok := Pl.alloc_ok HQ.out.ok hz
        rw [hal] at hok
        have RS := Lib.hid (And.intro hal (And.intro hno (And.intro hco hok)))
        clear hal hno hco hok hfi hB
        go_wp2_with fail
        go_quiet (fail)
        all_goals
          have s1 := fun m => rset_high (HQ.out.drewN m) (d.high + 1) RS.out.2.2.2
          have S1 := Lib.hid s1
          have sc := fun m => (s1 m).1.c1
          clear s1
          go_wp2
          go_ret2
          obtain ⟨hal, hno, hco, _⟩ := RS.out
          rw [hal, hno, hco]
          obtain ⟨r1, r2⟩ := S1.out _
          exact ⟨by trivial, ⟨_, r1⟩, (Off.of_below (below_drewN (Below.refl _ _) _)).trans r2⟩

end Go.Proofs.Ytbfofhgnamheeaa.Pq
