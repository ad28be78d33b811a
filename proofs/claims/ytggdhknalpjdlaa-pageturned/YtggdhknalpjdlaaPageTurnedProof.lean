/-
  PageTurned returns true for every number of 16 bits, every row of bytes, nil let in, every place and every four bytes that are turned, and what was there stays as it was. No conditions.
-/
import Derived.Test.YtggdhknalpjdlaaRows
import Derived.Test.YtggdhknalpjdlaaPgTurned
import Derived.ChangeArms
import Derived.WalkKit
import Derived.ProofKit
import Derived.OpenShut
import Derived.ShutString
import Derived.ChangeOld
import Derived.Below
namespace Go.Proofs.Ytggdhknalpjdlaa.pageTurned
open Go.ChangeShapes Go.WideShapes Go.ChangeAt Go.RowKit
set_option linter.unusedVariables false

theorem own : ownKnob Try.prog.godebug = none := by kernel_rfl
theorem laidOut : laidOutB Try.prog = true := by kernel_rfl
/-- A place and four bytes that came in by value. -/
theorem open_turn {H : Type} {enc : TypeId × Value → H} {P : Program} {w : World} {base b0 : Nat} {spare : Nat → Bool} {held : Bool} {r : Reach} {t tu ta e : TypeId} {f0 f1 : Field} {v : Value} {d : DataW H} {p : List MemPlace}
    (ht : P.underlying t = some (.struct #[f0, f1])) (h0 : f0.type = tu ∧ f0.offset = 0) (h1 : f1.type = ta ∧ f1.offset = 1) (hu : P.underlying tu = some (.int .u16)) (ha : P.underlying ta = some (.array 4 e)) (he : P.underlying e = some (.int .u8)) (hce : P.cellsOf e = 1) (hcu : P.cellsOf tu = 1) (hca : P.cellsOf ta = 4) (hct : P.cellsOf t = 5)
    (hv : Value.okWide P w r b0 t v) (h : DataW.Trod enc P w base spare held t v d p) :
    ∃ (a : Nat) (f : Nat → Nat), v = .agg #[.int .u16 (a : Int), .int .u8 (f 0 : Int), .int .u8 (f 1 : Int), .int .u8 (f 2 : Int), .int .u8 (f 3 : Int)] ∧ a < 65536 ∧ ∀ j, j < 4 → f j < 256 := by
  simp only [Value.okWide, ht] at hv
  obtain ⟨cs, rfl, hs, _⟩ := hv
  rw [hct] at hs
  obtain ⟨c, c0, c1, c2, c3, rfl⟩ : ∃ c c0 c1 c2 c3, cs = #[c, c0, c1, c2, c3] := by
    obtain ⟨l⟩ := cs
    match l, hs with
    | [c, c0, c1, c2, c3], _ => exact ⟨c, c0, c1, c2, c3, rfl⟩
  obtain ⟨fuel, hf⟩ := h
  obtain ⟨ys, k, _, _, _, hyl, hy⟩ := DataW.trod_struct ht hf
  match ys, hyl with
  | [y0, y1], _ =>
    have g0 := hy 0 f0 rfl
    have g1 := hy 1 f1 rfl
    rw [h0.1, h0.2, hcu] at g0
    rw [h1.1, h1.2, hca] at g1
    simp [Value.cells] at g0 g1
    obtain ⟨x, ex, _, wx⟩ := DataW.trod_int hu g0
    obtain ⟨xs, m, _, _, _, hl, hi⟩ := DataW.trod_array ha g1
    match xs, hl with
    | [z0, z1, z2, z3], _ =>
      have q0 := hi 0 (by omega)
      have q1 := hi 1 (by omega)
      have q2 := hi 2 (by omega)
      have q3 := hi 3 (by omega)
      rw [hce] at q0 q1 q2 q3
      simp at q0 q1 q2 q3
      obtain ⟨x0, e0, _, w0⟩ := DataW.trod_int he q0
      obtain ⟨x1, e1, _, w1⟩ := DataW.trod_int he q1
      obtain ⟨x2, e2, _, w2⟩ := DataW.trod_int he q2
      obtain ⟨x3, e3, _, w3⟩ := DataW.trod_int he q3
      simp at ex e0 e1 e2 e3
      subst ex e0 e1 e2 e3
      have b := bounds_u16 wx
      have b0 := bounds_u8 w0
      have b1 := bounds_u8 w1
      have b2 := bounds_u8 w2
      have b3 := bounds_u8 w3
      obtain ⟨y, rfl⟩ := Int.eq_ofNat_of_zero_le b.1
      obtain ⟨y0, rfl⟩ := Int.eq_ofNat_of_zero_le b0.1
      obtain ⟨y1, rfl⟩ := Int.eq_ofNat_of_zero_le b1.1
      obtain ⟨y2, rfl⟩ := Int.eq_ofNat_of_zero_le b2.1
      obtain ⟨y3, rfl⟩ := Int.eq_ofNat_of_zero_le b3.1
      refine ⟨y, fun j => [y0, y1, y2, y3].getD j 0, rfl, by omega, fun j hj => ?_⟩
      match j, hj with
      | 0, _ => show y0 < 256; omega
      | 1, _ => show y1 < 256; omega
      | 2, _ => show y2 < 256; omega
      | 3, _ => show y3 < 256; omega

set_option maxRecDepth 100000 in
theorem lifted (os : Os) (started : os.Started) (H : Type) (enc : TypeId × Value → H) :
    ReturnsInHanded {} Try.checked os 4 .any (Rows.pageTurnedSpec.pre6 enc Try.prog Try.f4 Rows.pageTurnedRow.domain false) (Rows.pageTurnedSpec.post enc Try.prog Try.f4 false true false false) := by
  refine returnsInHanded_of_change (C := Try.checked) own started (by kernel_rfl) Try.func4
    (ChangeSpec.witness6 (enc := enc) (C := Try.checked) false ⟨#[], #[.int .u16 0, .slice none 0 0, .agg #[.int .u16 0, .int .u8 0, .int .u8 0, .int .u8 0, .int .u8 0]], []⟩ 8 (by kernel_rfl) (by kernel_rfl) (by kernel_rfl) (by kernel_rfl)) ?_
  intro W base args ds gs before hval0 hW hcnd _
  have hval : ∀ (j : Nat) t v, Try.f4.params[j]? = some t → args[j]? = some v → Value.okWide Try.prog W .any base t v := hval0
  have hW' := hW
  obtain ⟨p, q, hA0, hV, rfl, hfz, hnd⟩ := hW
  have hA : DataW.TrodAll enc Try.prog W 0 (fun _ => true) true Try.f4.params.toList args.toList ds p := hA0
  rw [Try.params4] at hA hval
  obtain ⟨v0, vs0, d0, ds0, p0, q0, hargs, rfl, rfl, h0, r0⟩ := trodAll_cons hA
  obtain ⟨v1, vs1, d1, ds1, p1, q1, rfl, rfl, rfl, h1, r1⟩ := trodAll_cons r0
  obtain ⟨v2, vs2, d2, ds2, p2, q2, rfl, rfl, rfl, h2, r2⟩ := trodAll_cons r1
  obtain ⟨rfl, rfl, rfl⟩ := trodAll_nil r2
  obtain rfl : args = #[v0, v1, v2] := by cases args; simp_all
  obtain ⟨rfl, rfl⟩ := trodVars_none hV
  obtain ⟨a0, rfl, rfl, rfl, w0⟩ := open_int Try.underlying30 (hval 0 30 v0 rfl rfl) h0
  obtain ⟨a1, len1, cap1, rfl⟩ := okWide_slice Try.underlying22 (hval 1 22 v1 rfl rfl)
  have k1 := h1
  have lt1 : ∀ x ∈ p1, x.block < W.heap.size := by obtain ⟨m, hm⟩ := k1; exact DataW.trod_lt m _ _ _ hm
  have k2 := h2
  have lt2 : ∀ x ∈ p2, x.block < W.heap.size := by obtain ⟨m, hm⟩ := k2; exact DataW.trod_lt m _ _ _ hm
  obtain ⟨a2, f, rfl, ha2, hf⟩ := open_turn Try.underlying33 ⟨rfl, rfl⟩ ⟨rfl, rfl⟩ Try.underlying30 Try.underlying31 Try.underlying5 (by kernel_rfl) (by kernel_rfl) (by kernel_rfl) (by kernel_rfl) (hval 2 33 v2 rfl rfl) h2
  obtain ⟨l, hl⟩ : ∃ l, Bs W a1 len1 cap1 l := by
    obtain ⟨fuel, hf⟩ := h1
    rcases open_ints Try.underlying22 Try.underlying5 (by kernel_rfl) hf with ⟨hcs, _⟩ | ⟨x, l, c, zs, hcs, _, hl, hm, hz, _, hcell, hwz⟩
    · simp [Value.cells] at hcs
      obtain ⟨rfl, rfl, rfl⟩ := hcs
      exact Bs.of_row (zs := []) (.inl ⟨rfl, rfl, rfl, rfl⟩)
    · simp [Value.cells] at hcs
      obtain ⟨rfl, rfl, rfl⟩ := hcs
      exact Bs.of_row (.inr ⟨_, rfl, hl, hm, by simpa using hz, hcell, hwz⟩)
  clear hA0 hval0
  have b0 := bounds_u16 w0
  obtain ⟨n0, rfl⟩ := Int.eq_ofNat_of_zero_le b0.1
  refine (pageTurned_walk W n0 a1 len1 cap1 l a2 f hl (by omega) ha2 hf).mono fun e W' ⟨he, bel⟩ => ?_
  subst he
  exact ⟨_, rfl, _, _, _, [], _, [], hW', trodAll_mk1 (shut_bool Try.underlying4 _), (trodAll_cons_mk (shut_int Try.underlying30 w0) (trodAll_cons_mk (Below.trod laidOut (by kernel_rfl) (of_decide_eq_true (by kernel_rfl)) k1 bel lt1) (trodAll_cons_mk (Below.trod laidOut (by kernel_rfl) (of_decide_eq_true (by kernel_rfl)) k2 bel lt2) trodAll_mk0))), rfl, bel.frame _, fun h => by cases h⟩

theorem over : Rows.pageTurnedRow.holds Try.pinned (OpenSpec.ofChange Rows.pageTurnedSpec) :=
  OpenClaim.holds_of_wide 4 Try.f4 rfl rfl rfl rfl rfl rfl rfl ⟨rfl, rfl, rfl, rfl, rfl⟩ rfl rfl rfl rfl rfl (by kernel_rfl) Try.func4 (by kernel_rfl)
    (of_decide_eq_true (by kernel_rfl)) (by unfold Func.isWrapper; first | (rw [if_pos (by decide +kernel)]; kernel_rfl) | (rw [if_neg (by decide +kernel)]; exact ⟨rfl, rfl⟩))
    (fun os started H enc _ => lifted os started H enc)

theorem proved : Rows.PageTurnedSaid := over
end Go.Proofs.Ytggdhknalpjdlaa.pageTurned
namespace Go.Proofs.Ytggdhknalpjdlaa
theorem pageTurned_holds : Rows.PageTurnedSaid := pageTurned.proved
#print axioms pageTurned_holds
end Go.Proofs.Ytggdhknalpjdlaa
