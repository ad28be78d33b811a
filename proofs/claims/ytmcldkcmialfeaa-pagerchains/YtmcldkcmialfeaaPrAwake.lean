/-
  Answers that the document fixes (layer 9).
-/
import Derived.Test.YtmcldkcmialfeaaPrHas
import Derived.Test.YtmcldkcmialfeaaGrPool9
import Derived.Lib.SlBytesConst
namespace Go.Proofs.Ytmcldkcmialfeaa.Pr
open Go.RowKit
set_option linter.unusedVariables false

theorem zeros_shut {no : Int} (h : no ≠ 0) : ¬ Pg.Opens no (List.replicate 1024 0) := by
  rintro ⟨_, _, _, h2⟩
  rw [List.drop_replicate, List.take_replicate] at h2
  have : Nm.fromBe (List.replicate (min 4 (1024 - 1016)) 0) = 0 := rfl
  rw [this] at h2
  exact h h2.symm
theorem seen_fresh (n no : Nat) (h : no < n) : Dk.seen (Dk.fresh n) no = List.replicate 1024 0 := by
  unfold Dk.seen Dk.fresh
  simp only [List.length_nil, Dk.seenTo]
  rw [List.getD_eq_getElem?_getD, List.getElem?_replicate, if_pos h]; rfl
theorem dsays_fresh (n : Nat) (no : Int) (h : no ≠ 0) : dsays (Dk.fresh n) no = none := by
  unfold dsays
  rw [if_neg]
  rintro ⟨h0, h1, h2⟩
  have hl : (Dk.fresh n).pages.length = n := List.length_replicate
  rw [hl] at h1
  rw [seen_fresh n _ (by omega)] at h2
  exact zeros_shut h h2
def p20 : Pl.Pd := ⟨20, 2, []⟩
def a0 (d : Dk.Pd) (p : Pl.Pd) (gen hz : Nat) : Pa := ⟨d, p, gen, hz, []⟩
theorem newP (cap high : Int) (h : 2 ≤ high ∧ high ≤ cap ∧ cap ≤ 2048) : Pq.newOf cap high [] = some ⟨cap, high, []⟩ := by
  unfold Pq.newOf; rw [if_pos h]; rfl
theorem none_row (w : World) : Pq.Fs w none 0 0 [] := ⟨rfl, Nat.le_refl _, Nat.zero_le _, by simp, fun h => absurd h (by omega)⟩

/-- A pool without freed pages. -/
theorem pnew (w : World) (cap high : Int) (h : 2 ≤ high ∧ high ≤ cap ∧ cap ≤ 2048) :
    Calls Try.prog 7 #[.int .i64 cap, .int .i64 high, .slice none 0 0] w fun e w' => ∃ p mp, e = .returned (.tuple #[.pointer (some ⟨p, 0, none⟩), .int .i64 0]) ∧ Pq.Po w' p mp ⟨cap, high, []⟩ ∧ w.heap.size ≤ p ∧ w.heap.size ≤ mp ∧ Below w.heap.size w w' := by
  refine (Pq.new_any w cap high none 0 0 [] (none_row w) (by unfold Pq.I64; omega) (by omega)).mono ?_
  rintro e w' ⟨p, mp, rfl, hP, hB⟩
  rw [newP cap high h] at hP ⊢
  obtain ⟨h1, h2, h3⟩ := hP _ rfl
  exact ⟨p, mp, rfl, h1, h2, h3, hB⟩

def pa1 : Pa := ⟨Dk.fresh 20, ⟨20, 3, []⟩, 1, 0, [(2, Pg.fill [97])]⟩
def pa2 : Pa := ⟨Dk.fresh 20, ⟨20, 3, [(2, 0)]⟩, 1, 0, []⟩
def pa3 : Pa := ⟨Dk.fresh 20, ⟨20, 3, []⟩, 1, 0, [(2, Pg.fill [98])]⟩
theorem put1 : put (a0 (Dk.fresh 20) p20 1 0) [97] = pa1 ∧ putNo (a0 (Dk.fresh 20) p20 1 0) [97] = 2 ∧ putCode (a0 (Dk.fresh 20) p20 1 0) [97] = 0 := ⟨rfl, rfl, rfl⟩
theorem drop1 : drop pa1 2 = pa2 := rfl
theorem put2 : put pa2 [98] = pa3 ∧ putNo pa2 [98] = 2 ∧ putCode pa2 [98] = 0 := ⟨rfl, rfl, rfl⟩
theorem says1 : says pa3 2 = some (Pg.fill [98]) := rfl
theorem says2 : says pa3 9 = none := dsays_fresh 20 9 (by omega)
theorem fill0 : (Pg.fill [98])[0]? = some 98 := rfl

set_option maxRecDepth 100000 in
set_option maxHeartbeats 1000000 in
theorem awake_any (w : World) : Calls Try.prog 6 #[] w fun e w' => e = .returned (.bool true) ∧ Below w.heap.size w w' := by
  have C1 := Lib.hid (newD_any w 20 20 (by omega))
  have C2 := Lib.hid (fun W => pnew W 20 2 (by omega))
  have cv := fun (W : World) (x : Int) => Lib.run_convert_bytes_const (P := Try.prog) W 22 5 #[.int .u8 x] 1 1 Try.underlying22 Try.underlying5
  go_enter Try.func6, Try.ntmps6
  go_wp2_with fail
  refine C1.out.mono ?_
  rintro e w1 ⟨H, rfl, hD, ho, hB⟩
  have HD := Lib.hid (And.intro hD (And.intro ho hB))
  clear C1 hD ho hB
  go_wp2_with fail
  refine (C2.out _).mono ?_
  rintro e w2 ⟨p, mp, rfl, hP, h1, h2, hB2⟩
  obtain ⟨hD, ho, hB⟩ := HD.out
  have C3 := Lib.hid (gnew (S := fun _ => False) (wb := w) w2 H p mp (Dk.fresh 20) ⟨20, 2, []⟩ 1 0 (hD.on hB2) hP (by omega) (by omega) (fun k hk => .inr (ho k hk)) (Off.of_below (onto hB hB2)))
  clear HD hD ho hB hP h1 h2 hB2 C2
  go_wp2_with fail
  refine C3.out.mono ?_
  rintro e w3 ⟨x, pp, rfl, hG, _⟩
  have C4 := Lib.hid (gpool w3 x pp H.p _ hG)
  have HG := Lib.hid hG
  clear hG C3
  go_wp2_with fail
  refine C4.out.mono ?_
  rintro e w4 ⟨rfl, rfl⟩
  clear C4
  have L4 : Bs (w3.alloc (.cells #[.int .u8 97] 5 (1, 2))) (some ⟨w3.heap.size, 0, none⟩) 1 1 [97] := Bs.lit w3 [97] (by decide) (by unfold maxLen; decide) 5 (1, 2)
  have C5 := Lib.hid (gput _ x pp H.p _ (HG.out.on ((Below.refl _ w3).alloc (Nat.le_refl _) (.cells #[.int .u8 97] 5 (1, 2)))) _ 1 1 [97] L4 (fun _ b off e => by
    injection e with e; injection e with e1 e2; subst e1; exact .inr ⟨_, _, heap_alloc_last w3 _⟩))
  rw [show (⟨Dk.fresh 20, ⟨20, 2, []⟩, 1, 0, []⟩ : Pa) = a0 (Dk.fresh 20) p20 1 0 from rfl, put1.1, put1.2.1, put1.2.2] at C5
  clear L4 HG
  go_wp2_with fail
  refine C5.out.mono ?_
  rintro e w5 ⟨rfl, hG⟩
  have C6 := Lib.hid (gdrop w5 x pp H.p _ hG 2 (by unfold I64; omega))
  rw [drop1] at C6
  clear hG C5
  go_wp2_with fail
  refine C6.out.mono ?_
  rintro e w6 ⟨rfl, hG⟩
  have L4 : Bs (w6.alloc (.cells #[.int .u8 98] 5 (1, 2))) (some ⟨w6.heap.size, 0, none⟩) 1 1 [98] := Bs.lit w6 [98] (by decide) (by unfold maxLen; decide) 5 (1, 2)
  have C7 := Lib.hid (gput _ x pp H.p _ (hG.on ((Below.refl _ w6).alloc (Nat.le_refl _) (.cells #[.int .u8 98] 5 (1, 2)))) _ 1 1 [98] L4 (fun _ b off e => by
    injection e with e; injection e with e1 e2; subst e1; exact .inr ⟨_, _, heap_alloc_last w6 _⟩))
  rw [put2.1, put2.2.1, put2.2.2] at C7
  clear L4 hG C6
  go_wp2_with fail
  refine C7.out.mono ?_
  rintro e w7 ⟨rfl, hG⟩
  have C8 := Lib.hid (gread w7 x pp H.p _ hG 2 (by unfold I64; omega))
  rw [says1] at C8
  have HG := Lib.hid hG
  clear hG C7
  go_wp2_with fail
  refine C8.out.mono ?_
  rintro e w8 hs
  obtain ⟨g, rfl, hg, R8, hl, B8⟩ := hs.of_some
  have hG := HG.out.on B8
  have C9 := Lib.hid (gread w8 x pp H.p _ hG 9 (by unfold I64; omega))
  rw [says2] at C9
  have HG8 := Lib.hid hG
  have R8 := Lib.hid R8
  clear hG C8 HG hs hg hl B8
  go_wp2_with fail
  refine C9.out.mono ?_
  rintro e w9 hs
  obtain ⟨rfl, B9⟩ := hs.of_none
  have c0 := (R8.out.on B9).cell fill0
  have HF := Lib.hid (HG8.out.on B9)
  clear hs B9 R8 HG8 C9
  go_wp2
  go_ret
  exact ⟨rfl, HF.out.below⟩

end Go.Proofs.Ytmcldkcmialfeaa.Pr
