/-
  The statements' common beginning (layer 4).
-/
import Derived.Test.YtggdhknalpjdlaaPgOpen
import Derived.Lib.SlBytesConst
namespace Go.Proofs.Ytggdhknalpjdlaa
open Go.RowKit
set_option linter.unusedVariables false

theorem page_x : ∃ pg, Hid (Pg.page 1 [120] = pg) ∧ Hid (∀ x ∈ pg, x < 256) ∧ Hid (pg.length = 1024) ∧ Hid (Pg.Opens 1 pg) ∧ Hid (¬ Pg.Opens 2 pg) ∧ Hid ((pg.take 1016)[0]? = some 120) := by
  have h : [120].length ≤ 1016 := by decide
  refine ⟨_, rfl, Pg.page_lt 1 (by decide), Pg.page_len 1 h, (Pg.page_opens h (by decide) 1).2 rfl, fun h' => absurd ((Pg.page_opens h (by decide) 2).1 h') (by decide), ?_⟩
  show _ = _
  rw [Pg.page_pay 1 h]
  unfold Pg.fill
  rw [List.getElem?_append_left (by decide)]; rfl

set_option maxRecDepth 100000 in
set_option maxHeartbeats 400000 in
theorem awake_any (w : World) : Calls Try.prog 6 #[] w fun e w' => e = .returned (.bool true) ∧ Below w.heap.size w w' := by
  have L1 := Bs.lit w [120] (by decide) (by unfold maxLen; decide) 5 (1, 2)
  have cv := Lib.run_convert_bytes_const (P := Try.prog) w 22 5 (bv [120]).toArray 1 1 Try.underlying22 Try.underlying5
  simp only [bv, List.map, Int.cast_ofNat_Int] at cv
  obtain ⟨pg, HP, HLT, HLN, HY, HN, HX⟩ := page_x
  go_enter Try.func6, Try.ntmps6
  go_wp2_with fail
  refine (frame_any _ 1 _ _ _ [120] (by exact L1) (by omega) (by omega)).mono ?_
  rintro e w1 ⟨rfl, R1, B1⟩
  rw [HP.out] at R1
  clear HP
  have B1' : Below w.heap.size w w1 := ((Below.refl w.heap.size w).alloc (Nat.le_refl _) _).trans (B1.mono (by simp))
  have R1' : Row w1 (w.heap.size + 1) pg := by simpa using R1
  have S1 := R1'.bs' HLT.out HLN.out (by omega)
  clear B1 R1 R1' L1 cv
  go_wp2_with fail
  refine (open_yes _ 1 _ _ _ _ S1 HY.out).mono ?_
  rintro e w2 ⟨g, hg, rfl, R2, B2⟩
  have S2 := S1.on B2
  have B2' := onto B1' B2
  clear S1 B1' B2
  go_wp2_with fail
  refine (open_no _ 2 _ _ _ _ S2 HN.out).mono ?_
  rintro e w3 ⟨rfl, B3⟩
  have R3 := R2.on B3
  have c3 := R3.cell HX.out
  have B3' := onto B2' B3
  go_wp2
  go_ret
  exact ⟨rfl, B3'⟩

end Go.Proofs.Ytggdhknalpjdlaa
