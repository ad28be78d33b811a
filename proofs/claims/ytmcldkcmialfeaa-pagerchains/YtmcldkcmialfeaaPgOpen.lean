/-
  Open (page): what a page says, at its place alone.
-/
import Derived.Test.YtmcldkcmialfeaaPgFrame
namespace Go.Proofs.Ytmcldkcmialfeaa
open Go.RowKit
set_option linter.unusedVariables false

theorem pad4_four {l : List Nat} (h : l.length = 4) : pad4 l = l := by
  unfold pad4
  rw [List.take_of_length_le (by omega), h]; simp
theorem open_early (w : World) (no : Int) (A : Option Addr) (n c : Nat) (h : ¬ ((0 ≤ no ∧ no ≤ 2147483647) ∧ n = 1024)) :
    Calls Try.prog 56 #[.int .i64 no, .slice A n c] w fun e w' => e = .returned (.tuple #[.slice none 0 0, .int .i64 4]) ∧ w = w' := by
  go_enter Try.func56, Try.ntmps56
  go_wp2_with fail
  refine (mayBeNo_any _ no).mono ?_
  rintro e w1 ⟨rfl, rfl⟩
  by_cases h0 : 0 ≤ no ∧ no ≤ 2147483647
  · rw [show decide (0 ≤ no ∧ no ≤ 2147483647) = true by simpa using h0]
    have hne : ¬ n = 1024 := fun h' => h ⟨h0, h'⟩
    have hn : ((n : Int) != 1024) = true := by rw [bne_iff_ne]; omega
    go_wp2
    go_ret2
    exact ⟨rfl, rfl⟩
  · rw [show decide (0 ≤ no ∧ no ≤ 2147483647) = false by simp; omega]
    go_wp2
    go_ret2
    exact ⟨rfl, rfl⟩

/-- The parts of a row that is as long as a page. -/
def Parts (w : World) (b off : Nat) (l : List Nat) (S N : Nat) : Prop :=
  Bs w (some ⟨b, off, none⟩) 1016 1016 (l.take 1016) ∧ Bs w (some ⟨b, off + 1016, none⟩) 4 4 ((l.drop 1016).take 4) ∧ Bs w (some ⟨b, off + 1020, none⟩) 4 4 (l.drop 1020) ∧
  Bs w (some ⟨b, off, none⟩) 1020 1020 (l.take 1020) ∧ Nm.fromBe (pad4 (l.drop 1020)) = S ∧ Nm.fromBe (pad4 ((l.drop 1016).take 4)) = N
section
variable {w w' : World} {b off : Nat} {l : List Nat} {S N : Nat}
theorem Parts.pay (h : Parts w b off l S N) : Bs w (some ⟨b, off, none⟩) 1016 1016 (l.take 1016) := h.1
theorem Parts.no (h : Parts w b off l S N) : Bs w (some ⟨b, off + 1016, none⟩) 4 4 ((l.drop 1016).take 4) := h.2.1
theorem Parts.sum (h : Parts w b off l S N) : Bs w (some ⟨b, off + 1020, none⟩) 4 4 (l.drop 1020) := h.2.2.1
theorem Parts.summed (h : Parts w b off l S N) : Bs w (some ⟨b, off, none⟩) 1020 1020 (l.take 1020) := h.2.2.2.1
theorem Parts.hS (h : Parts w b off l S N) : Nm.fromBe (pad4 (l.drop 1020)) = S := h.2.2.2.2.1
theorem Parts.hN (h : Parts w b off l S N) : Nm.fromBe (pad4 ((l.drop 1016).take 4)) = N := h.2.2.2.2.2
theorem Parts.on (h : Parts w b off l S N) (hb : Below w.heap.size w w') : Parts w' b off l S N :=
  ⟨h.pay.on hb, h.no.on hb, h.sum.on hb, h.summed.on hb, h.hS, h.hN⟩
end
theorem Parts.of {w : World} {A : Option Addr} {c : Nat} {l : List Nat} (h : Bs w A 1024 c l) : ∃ b off, A = some ⟨b, off, none⟩ ∧ Parts w b off l (Nm.fromBe (l.drop 1020)) (Nm.fromBe ((l.drop 1016).take 4)) := by
  have hl := h.1
  obtain ⟨b, off, e, hp⟩ := h.part (by omega)
  have e1 : (l.drop 1020).take 4 = l.drop 1020 := List.take_of_length_le (by simp; omega)
  refine ⟨b, off, e, ?_, hp 1016 4 (by omega), ?_, ?_, ?_, ?_⟩
  · have := hp 0 1016 (by omega); simpa using this
  · have := hp 1020 4 (by omega); rwa [e1] at this
  · have := hp 0 1020 (by omega); simpa using this
  · rw [pad4_four (by simp; omega)]
  · rw [pad4_four (by simp; omega)]

set_option maxRecDepth 100000 in
set_option maxHeartbeats 400000 in
theorem open_core (w : World) (no : Nat) (b off c : Nat) (l : List Nat) (S N T : Nat) (hno : no ≤ 2147483647) (hp : Parts w b off l S N) (hc : 1024 ≤ c) (HT : Hid (Cr.sum (l.take 1020) = T)) :
    Calls Try.prog 56 #[.int .i64 (no : Int), .slice (some ⟨b, off, none⟩) 1024 c] w fun e w' =>
      ((S = T ∧ N = no) → ∃ g, w.heap.size ≤ g ∧ e = .returned (.tuple #[.slice (some ⟨g, 0, none⟩) 1016 1016, .int .i64 0]) ∧ Row w' g (l.take 1016)) ∧
      (¬ (S = T ∧ N = no) → e = .returned (.tuple #[.slice none 0 0, .int .i64 4])) ∧ Below w.heap.size w w' := by
  go_enter Try.func56, Try.ntmps56
  go_wp2_with fail
  refine (mayBeNo_any _ no).mono ?_
  rintro e w1 ⟨rfl, rfl⟩
  rw [show decide (0 ≤ (no : Int) ∧ (no : Int) ≤ 2147483647) = true by simp; omega]
  go_wp2_with fail
  refine (sumOf_any _ _ _ _ hc).mono ?_
  rintro e w1 ⟨rfl, rfl⟩
  go_wp2_with fail
  refine (get32_any _ _ _ _ _ hp.sum).mono ?_
  rintro e w1 ⟨rfl, B1⟩
  have p1 := hp.on B1
  rw [hp.hS]
  clear hp
  go_wp2_with fail
  refine (summedOf_any _ _ _ _ hc).mono ?_
  rintro e w2 ⟨rfl, rfl⟩
  go_wp2_with fail
  refine (sum_any _ _ _ _ _ p1.summed).mono ?_
  rintro e w2 ⟨rfl, B2⟩
  rw [HT.out]
  have p2 := p1.on B2
  have B2' := onto B1 B2
  clear p1 B1 B2
  by_cases hST : S = T
  · have h1 : ((S : Int) != (T : Int)) = false := by simp; omega
    go_wp2_with fail
    refine (noOf_any _ _ _ _ hc).mono ?_
    rintro e w3 ⟨rfl, rfl⟩
    go_wp2_with fail
    refine (get32_any _ _ _ _ _ p2.no).mono ?_
    rintro e w3 ⟨rfl, B3⟩
    have p3 := p2.on B3
    rw [p2.hN]
    have B3' := onto B2' B3
    clear p2 B3 B2'
    by_cases hNn : N = no
    · have h2 : ((N : Int) != (no : Int)) = false := by simp; omega
      go_wp2_with fail
      refine (payOf_any _ _ _ _ hc).mono ?_
      rintro e w4 ⟨rfl, rfl⟩
      go_wp2_with fail
      refine (copyOf_any _ _ _ _ _ p3.pay (by omega)).mono ?_
      rintro e w4 ⟨rfl, R4, B4⟩
      have hg := B3'.size
      have B4' := onto B3' B4
      go_wp2
      go_ret2
      exact ⟨fun _ => ⟨_, hg, rfl, R4⟩, fun h => absurd ⟨hST, hNn⟩ h, B4'⟩
    · have h2 : ((N : Int) != (no : Int)) = true := by simp; omega
      go_wp2
      go_ret2
      exact ⟨fun h => absurd h.2 hNn, fun _ => rfl, B3'⟩
  · have h1 : ((S : Int) != (T : Int)) = true := by simp; omega
    go_wp2
    go_ret2
    exact ⟨fun h => absurd h.1 hST, fun _ => rfl, B2'⟩

theorem open_yes (w : World) (no : Int) (A : Option Addr) (n c : Nat) (l : List Nat) (hb : Bs w A n c l) (h : Pg.Opens no l) :
    Calls Try.prog 56 #[.int .i64 no, .slice A n c] w fun e w' => ∃ g, w.heap.size ≤ g ∧ e = .returned (.tuple #[.slice (some ⟨g, 0, none⟩) 1016 1016, .int .i64 0]) ∧ Row w' g (l.take 1016) ∧ Below w.heap.size w w' := by
  obtain ⟨h0, h1, h2, h3⟩ := h
  have hn : n = 1024 := by rw [← hb.1]; exact h1
  subst hn
  obtain ⟨k, rfl⟩ := Int.eq_ofNat_of_zero_le h0.1
  obtain ⟨b, off, rfl, hp⟩ := Parts.of hb
  refine (open_core w k b off c l _ _ _ (by omega) hp hb.2.1 rfl).mono ?_
  rintro e w' ⟨hy, _, B⟩
  obtain ⟨g, hg, he, R⟩ := hy ⟨h2, by omega⟩
  exact ⟨g, hg, he, R, B⟩
theorem open_no (w : World) (no : Int) (A : Option Addr) (n c : Nat) (l : List Nat) (hb : Bs w A n c l) (h : ¬ Pg.Opens no l) :
    Calls Try.prog 56 #[.int .i64 no, .slice A n c] w fun e w' => e = .returned (.tuple #[.slice none 0 0, .int .i64 4]) ∧ Below w.heap.size w w' := by
  by_cases h0 : (0 ≤ no ∧ no ≤ 2147483647) ∧ n = 1024
  · obtain ⟨h0, hn⟩ := h0
    subst hn
    obtain ⟨k, rfl⟩ := Int.eq_ofNat_of_zero_le h0.1
    obtain ⟨b, off, rfl, hp⟩ := Parts.of hb
    refine (open_core w k b off c l _ _ _ (by omega) hp hb.2.1 rfl).mono ?_
    rintro e w' ⟨_, hy, B⟩
    refine ⟨hy fun hh => h ⟨h0, hb.1, hh.1, by omega⟩, B⟩
  · refine (open_early w no A n c h0).mono ?_
    rintro e w' ⟨rfl, rfl⟩
    exact ⟨rfl, Below.refl _ _⟩

end Go.Proofs.Ytmcldkcmialfeaa
