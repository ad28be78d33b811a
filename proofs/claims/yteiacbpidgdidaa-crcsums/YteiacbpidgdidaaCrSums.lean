/-
  CrcSums: every row of bytes has the document's sum; it stays as it was.
-/
import Derived.Test.YteiacbpidgdidaaCrMore
import Derived.Test.YteiacbpidgdidaaCrApp
import Derived.Laws.BytesArg
namespace Go.Proofs.Yteiacbpidgdidaa
open Go.RowKit
set_option linter.unusedVariables false

/-- The text that bytes are. -/
def txt (l : List Nat) : ByteArray := strOfNums (l.map Int.ofNat)
theorem Bs.text {P : Program} {w : World} {A : Option Addr} {n c : Nat} {l : List Nat} (h : Bs w A n c l) (src dst e : TypeId) (hs : P.underlying src = some (.slice e)) (he : P.underlying e = some (.int .u8)) (hd : P.underlying dst = some .string) :
    (convert src dst (.slice A n c)).run P w = .ok (.string (txt l)) w := by
  obtain ⟨h1, h2, h3, h4, h5⟩ := h
  match A, h5 with
  | none, h5 =>
    have hn : n = 0 := by
      rcases Nat.eq_zero_or_pos n with h | h
      · exact h
      · obtain ⟨_, _, e, _⟩ := h5 h; cases e
    subst hn
    obtain rfl : l = [] := List.eq_nil_of_length_eq_zero h1
    rw [run_convert_bytes_nil w src e hs he _ _ dst hd]; rfl
  | some a, h5 =>
    have hl : (loadCells a n).run P w = .ok ((l.map Int.ofNat).map (Value.int .u8)).toArray w := by
      have := run_loadCells_list (P := P) w a ((l.map Int.ofNat).map (Value.int .u8)) (fun j v hj => by
        have hjl : j < l.length := by
          have := (List.getElem?_eq_some_iff.1 hj).1
          simpa using this
        obtain ⟨b, off, e, hlt, hc⟩ := h5 (by omega)
        injection e with e
        subst e
        have hplain : (⟨b, off, none⟩ : Addr).add j = ⟨b, off + j, none⟩ := by unfold Addr.add; split <;> simp_all
        rw [hplain, hc j l[j] (List.getElem?_eq_getElem hjl)]
        simp [List.getElem?_eq_getElem hjl] at hj
        rw [hj])
      simpa [h1] using this
    rw [run_convert_bytes_string w src dst e _ n c hs he hd, run_bytesToString w _ n c _ hl, foldl_push_bytes]
    simp [txt, strOfNums, ByteArray.empty, ByteArray.emptyWithCapacity]
    rfl

set_option maxRecDepth 100000 in
set_option maxHeartbeats 1000000 in
theorem crcSums_walk (w : World) (A : Option Addr) (n c : Nat) (l : List Nat) (hb : Bs w A n c l) :
    Calls Try.prog 3 #[.slice A n c] w fun e w' => e = .returned (.bool true) ∧ Below w.heap.size w w' := by
  obtain ⟨i0, hi, hz0, hz1, hz2⟩ := info_parts Try.info5
  have hcm := hb.2.2.1
  have hnc := hb.2.1
  unfold maxLen at hcm
  go_enter Try.func3, Try.ntmps3
  go_wp2_with fail
  refine (awake_any _).mono ?_
  rintro e w1 ⟨rfl, b1⟩
  have s1 := hb.on b1
  by_cases hM : n ≤ 4096
  · have O1 : Hid (∀ t : TypeId, (w1.alloc (.cells #[] 5)).ownsRow w1.heap.size 5 1 (.slice (some ⟨w1.heap.size, 0, none⟩) 0 0) 0 []) := fun _ => World.ownsRow_made w1 #[] 0 (Nat.le_refl _) (Nat.zero_le _) rfl
    have S1 := s1.alloc (.cells #[] 5)
    go_wp2_with (at_builtin; refine wpList_append_bs _ rfl _ _ 22 rfl w1.heap.size 5 i0 (.int .u8 0) Try.underlying22 hi hz0 hz1 hz2 rfl _ _ _ rfl (O1.out 0) _ _ _ _ rfl S1 (by omega) (by simp) ?_; intro v2 w2 O2 g2)
    rw [Nat.zero_add, List.nil_append, ← s1.1] at O2
    obtain ⟨A2, c2, rfl, p2⟩ := Bs.of_own O2 s1.2.2.2.1
    have B1 : Below w1.heap.size w1 (w1.alloc (.cells #[] 5)) := (Below.refl _ _).alloc (Nat.le_refl _) _
    have B2 : Below w1.heap.size w1 w2 := below_own B1 (O1.out 0) g2 (by simp) (Nat.le_refl _)
    have s2 := s1.on B2
    have B2' := onto b1 B2
    clear O1 S1 O2 g2 B1 B2
    refine (sum_any _ _ _ _ _ p2).mono ?_
    rintro e w3 ⟨rfl, b3⟩
    have s3 := s2.on b3
    have p3 := p2.on b3
    have B3 := onto B2' b3
    clear s2 p2 b3 B2'
    go_wp2_with fail
    refine (refSum_any _ _ _ _ _ s3).mono ?_
    rintro e w4 ⟨rfl, rfl⟩
    have t1 := p3.text (P := Try.prog) 22 9 5 Try.underlying22 Try.underlying5 Try.underlying9
    have t2 := s3.text (P := Try.prog) 22 9 5 Try.underlying22 Try.underlying5 Try.underlying9
    have g1 : ((Cr.sum l : Int) == (Cr.sum l : Int)) = true := by simp
    generalize Cr.sum l = q at *
    generalize txt l = tx at *
    go_wp2
    go_ret
    exact ⟨rfl, B3⟩
  · go_wp2
    go_ret
    exact ⟨rfl, b1⟩

end Go.Proofs.Yteiacbpidgdidaa
