/-
  CrcParts: parts one behind the other have the whole's sum.
-/
import Derived.Test.YteiacbpidgdidaaCrMore
import Derived.Test.YteiacbpidgdidaaCrApp
namespace Go.Proofs.Yteiacbpidgdidaa
open Go.RowKit
set_option linter.unusedVariables false

/-- The slice value '.slice A n c' reads as the rows of bytes ls, each nil or not. -/
def Ls (w : World) (A : Option Addr) (n c : Nat) (ls : List (List Nat)) : Prop :=
  ls.length = n ∧ n ≤ c ∧ c ≤ maxLen ∧
  (0 < n → ∃ b off, A = some ⟨b, off, none⟩ ∧ b < w.heap.size ∧ ∀ (j : Nat) (l : List Nat), ls[j]? = some l → ∃ A' n' c', w.cell? ⟨b, off + j, none⟩ = some (.slice A' n' c') ∧ Bs w A' n' c' l ∧ c' ≤ 140737488355328)
theorem Ls.on {w w' : World} {A : Option Addr} {n c : Nat} {ls : List (List Nat)} (h : Ls w A n c ls) (hb : Below w.heap.size w w') : Ls w' A n c ls := by
  obtain ⟨h1, h2, h3, h5⟩ := h
  refine ⟨h1, h2, h3, fun hn => ?_⟩
  obtain ⟨b, off, e, hlt, hc⟩ := h5 hn
  refine ⟨b, off, e, Nat.lt_of_lt_of_le hlt hb.size, fun j l hl => ?_⟩
  obtain ⟨A', n', c', h6, h7, h8⟩ := hc j l hl
  exact ⟨A', n', c', (hb.cell (p := ⟨b, off + j, none⟩) (by exact hlt)).trans h6, h7.on hb, h8⟩

/-- The first k rows, one behind the other. -/
def flat (ls : List (List Nat)) (k : Nat) : List Nat := (ls.take k).flatten
theorem flat_zero (ls : List (List Nat)) : flat ls 0 = [] := rfl
theorem flat_next (ls : List (List Nat)) (k : Nat) (l : List Nat) (h : ls[k]? = some l) : flat ls (k + 1) = flat ls k ++ l := by
  unfold flat; rw [List.take_add_one, h]; simp

set_option maxRecDepth 100000 in
set_option maxHeartbeats 2000000 in
theorem crcParts_walk (w : World) (A : Option Addr) (n c : Nat) (ls : List (List Nat)) (hb : Ls w A n c ls) :
    Calls Try.prog 4 #[.slice A n c] w fun e w' => e = .returned (.bool true) ∧ Below w.heap.size w w' := by
  obtain ⟨i0, hi, hz0, hz1, hz2⟩ := info_parts Try.info5
  have hcm := hb.2.2.1
  have hnc := hb.2.1
  unfold maxLen at hcm
  go_enter Try.func4, Try.ntmps4
  go_wp2_with fail
  refine (awake_any _).mono ?_
  rintro e w1 ⟨rfl, b1⟩
  have s1 := hb.on b1
  go_wp2
  go_loopw [3, 4, 5] (fun v s i wr => ∃ k x : Nat, k ≤ n ∧ k ≤ 100 ∧ i = .int .i64 k ∧ s = .int .u32 (x : Int) ∧ L32 x ∧ Hid (x = Cr.sum (flat ls k)) ∧ Hid (∀ y ∈ flat ls k, y < 256) ∧ (flat ls k).length ≤ 4096 ∧ wr.ownsRow w1.heap.size 5 1 v (flat ls k).length (bv (flat ls k)) ∧ Below w1.heap.size w1 wr) (fun _ _ i _ => 100 - (intOf i).toNat)
  case atStart => exact ⟨0, 0, Nat.zero_le _, Nat.zero_le _, rfl, rfl, by unfold L32; omega, (by show _ = _; rw [flat_zero, Cr.sum_nil]), (by rw [flat_zero]; intro y hy; cases hy), Nat.zero_le _, World.ownsRow_nil _ _ _ _, Below.refl _ _⟩
  case round =>
    obtain ⟨k, x, hk, hk100, rfl, rfl, hx, HX, HL, hfl, hown, hbel⟩ := hrel
    have hsz := hbel.size
    by_cases hlt : k < n
    · by_cases hlt100 : k < 100
      · obtain ⟨l, hl⟩ : ∃ l, ls[k]? = some l := ⟨_, List.getElem?_eq_getElem (by rw [s1.1]; omega)⟩
        obtain ⟨b, off, rfl, hbl1, hcell⟩ := s1.2.2.2 (by omega)
        obtain ⟨A', n', c', hc1, p1, hc'⟩ := hcell k l hl
        have hcx := (hbel.cell (p := ⟨b, off + k, none⟩) (by exact hbl1)).trans hc1
        have p2 := p1.on hbel
        have HF := Lib.hid (flat_next ls k l hl)
        clear hcell hl
        have hn' : n' ≤ c' := p2.2.1
        obtain ⟨A3, c3, rfl, p3⟩ := Bs.of_own hown HL.out
        have hwr : IntKind.i64.wrap (((flat ls k).length : Int) + (n' : Int)) = ((flat ls k).length : Int) + (n' : Int) := IntWalk.i64_in _ ⟨by omega, by omega⟩
        by_cases hsum : (flat ls k).length + n' ≤ 4096
        · have HM : Hid (Cr.more x l = Cr.sum (flat ls (k + 1))) := by
            show _ = _
            rw [HX.out, Cr.sum_more _ _ HL.out, HF.out]
          have HL2 : Hid (∀ y ∈ flat ls (k + 1), y < 256) := by
            intro y hy
            rw [HF.out] at hy
            rcases List.mem_append.1 hy with h | h
            · exact HL.out y h
            · exact p2.2.2.2.1 y h
          have HN : Hid ((flat ls (k + 1)).length = (flat ls k).length + n') := by
            show _ = _
            rw [HF.out, List.length_append, p2.1]
          have hg1 : ((flat ls k).length : Int) + (n' : Int) ≤ 4096 := by omega
          go_wp2_with (at_builtin; refine wpList_append_bs _ rfl _ _ 22 rfl w1.heap.size 5 i0 (.int .u8 0) Try.underlying22 hi hz0 hz1 hz2 rfl _ _ _ rfl hown _ _ _ _ rfl p2 (by omega) hsz ?_; intro v3 w3 O3 g3; have bel3 := below_own hbel hown g3 hsz (Nat.le_refl _); have hcx3 := (bel3.cell (p := ⟨b, off + k, none⟩) (by exact hbl1)).trans hc1)
          have q3 := p1.on bel3
          have O3' : w3.ownsRow w1.heap.size 5 1 v3 (flat ls (k + 1)).length (bv (flat ls (k + 1))) := by
            rw [HN.out, HF.out]
            simpa [bv] using O3
          have hN : (flat ls (k + 1)).length ≤ 4096 := by rw [HN.out]; omega
          clear O3 g3 hown p2 p3 hcx hc1 hbel
          refine (more_any _ x hx _ _ _ l q3).mono ?_
          rintro e w4 ⟨rfl, b4⟩
          have O4 := O3'.kept (only_of b4 none) (by cases hv : v3.ownBlock <;> simp)
          have bel4 := bel3.trans (b4.mono bel3.size)
          have hm := Cr.more_lt x l
          generalize Cr.more x l = q at *
          clear O3' bel3 b4 q3 hcx3
          go_wp2
          go_roundw
          case rel => exact ⟨k + 1, q, by omega, by omega, by go_num, rfl, hm, HM, HL2, hN, O4, bel4⟩
          case measure => simp [intOf]; omega
        · have hg1 : ¬ ((flat ls k).length : Int) + (n' : Int) ≤ 4096 := by omega
          have p9 := p3
          have E9 := Lib.hid HX.out
          clear hown p3
          generalize (flat ls k).length = m0 at *
          go_wp2_with fail
          refine (sum_any _ _ _ _ _ p9).mono ?_
          rintro e w8 ⟨rfl, b8⟩
          rw [← E9.out]
          have p8 := p9.on b8
          have B8 := onto (onto b1 hbel) b8
          have hq : ((x : Int) == (x : Int)) = true := by simp
          go_wp2_with fail
          refine (refSum_any _ _ _ _ _ p8).mono ?_
          rintro e w9 ⟨rfl, rfl⟩
          rw [← E9.out]
          go_wp2
          go_ret
          exact ⟨rfl, B8⟩
      · have hg1 : ¬ (k : Int) < 100 := by omega
        obtain ⟨A9, c9, rfl, p9⟩ := Bs.of_own hown HL.out
        have E9 := Lib.hid HX.out
        clear hown
        generalize (flat ls k).length = m0 at *
        go_wp2_with fail
        refine (sum_any _ _ _ _ _ p9).mono ?_
        rintro e w8 ⟨rfl, b8⟩
        rw [← E9.out]
        have p8 := p9.on b8
        have B8 := onto (onto b1 hbel) b8
        have hq : ((x : Int) == (x : Int)) = true := by simp
        go_wp2_with fail
        refine (refSum_any _ _ _ _ _ p8).mono ?_
        rintro e w9 ⟨rfl, rfl⟩
        rw [← E9.out]
        go_wp2
        go_ret
        exact ⟨rfl, B8⟩
    · have hg0 : ¬ (k : Int) < (n : Int) := by omega
      obtain ⟨A9, c9, rfl, p9⟩ := Bs.of_own hown HL.out
      have E9 := Lib.hid HX.out
      clear hown
      generalize (flat ls k).length = m0 at *
      go_wp2_with fail
      refine (sum_any _ _ _ _ _ p9).mono ?_
      rintro e w8 ⟨rfl, b8⟩
      rw [← E9.out]
      have p8 := p9.on b8
      have B8 := onto (onto b1 hbel) b8
      have hq : ((x : Int) == (x : Int)) = true := by simp
      go_wp2_with fail
      refine (refSum_any _ _ _ _ _ p8).mono ?_
      rintro e w9 ⟨rfl, rfl⟩
      rw [← E9.out]
      go_wp2
      go_ret
      exact ⟨rfl, B8⟩

end Go.Proofs.Yteiacbpidgdidaa
