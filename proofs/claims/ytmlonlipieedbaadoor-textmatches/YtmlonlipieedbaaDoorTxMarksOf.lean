/-
  marksOf, standsFor, onlyRows.
-/
import Derived.Test.YtmlonlipieedbaaDoorTxMarks
namespace Go.Proofs.YtmlonlipieedbaaDoor
open Go.RowKit Go.Lib
set_option linter.unusedVariables false

/-- The signs of what is left, behind an escape or not. -/
def sgE (b : Bool) (l : List Nat) : List Int := if b then Tx.sg (92 :: l) else Tx.sg l
def MarksAt (s : ByteArray) (pos : Nat) (b : Bool) (ms : List Int) : Prop := ms ++ sgE b (Tx.rns (s.data.toList.drop pos)) = Tx.sg (Tx.rns s.data.toList)
theorem rns_at {s : ByteArray} {pos : Nat} (h : pos < s.size) : Tx.rns (s.data.toList.drop pos) = (Utf8.decode s pos).1 :: Tx.rns (s.data.toList.drop (pos + (Utf8.decode s pos).2)) := by unfold Tx.rns; rw [P_at h]; rfl
theorem rns_end {s : ByteArray} {pos : Nat} (h : ¬ pos < s.size) : Tx.rns (s.data.toList.drop pos) = [] := by unfold Tx.rns; rw [P_end h]; rfl
theorem MarksAt.esc {s : ByteArray} {pos : Nat} {ms : List Int} (h : MarksAt s pos true ms) (hp : pos < s.size) : MarksAt s (pos + (Utf8.decode s pos).2) false (ms ++ [((Utf8.decode s pos).1 : Int)]) := by
  unfold MarksAt at *
  rw [← h, rns_at hp]
  show _ = ms ++ Tx.sg (92 :: _ :: _)
  rw [sg_esc2]; simp [sgE]
theorem MarksAt.sign {s : ByteArray} {pos : Nat} {ms : List Int} (h : MarksAt s pos false ms) (hp : pos < s.size) (hr : (Utf8.decode s pos).1 = 92) : MarksAt s (pos + (Utf8.decode s pos).2) true ms := by
  unfold MarksAt at *
  rw [← h, rns_at hp, hr]; rfl
theorem MarksAt.plain {s : ByteArray} {pos : Nat} {ms : List Int} (h : MarksAt s pos false ms) (hp : pos < s.size) (hr : (Utf8.decode s pos).1 ≠ 92) : MarksAt s (pos + (Utf8.decode s pos).2) false (ms ++ [pl (Utf8.decode s pos).1]) := by
  unfold MarksAt at *
  rw [← h, rns_at hp]
  show _ = ms ++ Tx.sg (_ :: _)
  rw [sg_plain _ _ hr]; simp [sgE]

set_option maxRecDepth 100000 in
set_option maxHeartbeats 1000000 in
theorem marksOf_any (s : ByteArray) (w : World) (hs : s.size ≤ 1000000) :
    Calls Tryd.prog 33 #[.string s] w fun e w' => ∃ A c, e = .returned (.slice A (Tx.sg (Tx.rns s.data.toList)).length c) ∧ Ms w' A (Tx.sg (Tx.rns s.data.toList)).length c (Tx.sg (Tx.rns s.data.toList)) ∧ Below w.heap.size w w' := by
  obtain ⟨i0, hi, hz0, hz1, hz2⟩ := info_parts Tryd.info49
  go_enter Tryd.func33, Tryd.ntmps33
  go_wp2
  go_loopw [3, 4] (fun out es wr => ∃ (pos : Nat) (b : Bool) (ms : List Int), es = .bool b ∧ wr.heap[w.heap.size]? = some (.stringIter s pos) ∧ pos ≤ s.size ∧ ms.length ≤ pos ∧ Hid (MarksAt s pos b ms) ∧
      wr.ownsRow (w.heap.size + 1) 49 2 out ms.length (mv ms) ∧ w.heap.size + 1 ≤ wr.heap.size ∧ Below w.heap.size w wr) (fun _ _ wr => s.size - wr.iterPos w.heap.size)
  case atStart => exact ⟨0, false, [], rfl, World.iter_heap w s 0, Nat.zero_le _, Nat.le_refl _, by show MarksAt _ _ _ _; simp [MarksAt, sgE], World.ownsRow_nil _ _ _ _, by simp [World.iter], (Below.refl _ w).alloc (Nat.le_refl _) _⟩
  case round =>
    obtain ⟨pos, b, ms, rfl, hit, hps, hmp, H, hown, hsz, hbel⟩ := hrel
    have hipos : wr.iterPos w.heap.size = pos := by unfold World.iterPos; rw [hit]
    by_cases hp : pos < s.size
    · have hnx : ∀ ty, (Instr.next (.pointer (some ⟨w.heap.size, 0, none⟩)) true ty).run Tryd.prog wr = _ := fun ty => run_next_any_at wr w.heap.size s pos ty hit hp
      have hwd := wd_le hp
      have hrl := rn_le s pos
      have hit2 := iterAt_heap wr w.heap.size s pos (pos + (Utf8.decode s pos).2) hit
      have hbel2 := below_iterAt hbel (k := w.heap.size) (Nat.le_refl _) s (pos + (Utf8.decode s pos).2)
      have hown2 := own_iterAt hown (k := w.heap.size) (s := s) (pos := pos + (Utf8.decode s pos).2) (by omega)
      have hsz2 : w.heap.size + 1 ≤ (wr.iterAt w.heap.size s (pos + (Utf8.decode s pos).2)).heap.size := by rw [iterAt_size]; exact hsz
      have H1 : Hid (b = true → MarksAt s (pos + (Utf8.decode s pos).2) false (ms ++ [((Utf8.decode s pos).1 : Int)])) := fun hb => by subst hb; exact H.out.esc hp
      have H2 : Hid (b = false → (Utf8.decode s pos).1 = 92 → MarksAt s (pos + (Utf8.decode s pos).2) true ms) := fun hb hr => by subst hb; exact H.out.sign hp hr
      have H3 : Hid (b = false → (Utf8.decode s pos).1 ≠ 92 → MarksAt s (pos + (Utf8.decode s pos).2) false (ms ++ [pl (Utf8.decode s pos).1])) := fun hb hr => by subst hb; exact H.out.plain hp hr
      generalize wr.iterAt w.heap.size s (pos + (Utf8.decode s pos).2) = W1 at hnx hit2 hbel2 hown2 hsz2
      obtain ⟨r, hr⟩ : ∃ r, (Utf8.decode s pos).1 = r := ⟨_, rfl⟩
      obtain ⟨k, hk⟩ : ∃ k, (Utf8.decode s pos).2 = k := ⟨_, rfl⟩
      rw [hr, hk] at H1 H2 H3
      rw [hk] at hwd hit2
      rw [hr] at hrl
      simp only [hr] at hnx
      clear hit hbel hown hsz H hr hk
      cases b with
      | true =>
        have H' := Lib.hid (H1.out rfl)
        clear H1 H2 H3
        go_wp2_with (at_builtin; refine wpList_append_lies _ rfl _ _ 43 rfl (w.heap.size + 1) 49 i0 (.agg #[.int .i64 0, .int .i32 0]) 2 16 Tryd.underlying43 hi hz0 hz1 hz2 rfl (by decide) _ _ _ rfl (hown2.alloc _) ⟨W1.heap.size, 0, none⟩ 1 1 [.int .i64 0, .int .i32 (r : Int)] rfl rfl ?c1 (two_cell rfl rfl) (by decide) ?c3 ?c4 ?c5 _ rfl ?_)
        case c1 => exact cell_two _ _ _ _
        case c3 => unfold maxLen; omega
        case c4 => omega
        case c5 => simp; omega
        intro g cap w1 hown' hgrow hg hgl
        have e : mv ms ++ [.int .i64 0, .int .i32 (r : Int)] = mv (ms ++ [(r : Int)]) := by rw [mv_snoc, kd_lit (by omega), rn_lit (by omega)]
        rw [e] at hown'
        have hit3 := iter_grown (o := .stringIter s (pos + k)) (by exact iter_below hit2 ((Below.refl _ W1).alloc (Nat.le_refl _) _)) (hown2.alloc _) hgrow (by omega)
        have hbel1 := below_own (hbel2.alloc hbel2.size _) (hown2.alloc _) hgrow (by simp; omega) (by omega)
        have hsz3 : w.heap.size + 1 ≤ w1.heap.size := by have := hgrow.size; simp at this; omega
        clear hown2 hgrow hbel2 hit2 hg e
        go_wp2
        go_roundw
        case rel => exact ⟨pos + k, false, _, rfl, hit3, hwd.2.1, by simp; omega, H', by rw [List.length_append]; exact hown', hsz3, hbel1⟩
        case measure =>
          have : w1.iterPos w.heap.size = pos + k := by unfold World.iterPos; rw [hit3]
          omega
      | false =>
        by_cases h92 : r = 92
        · have H' := Lib.hid (H2.out rfl h92)
          have b1 : ((r : Int) == 92) = true := by simp; omega
          clear H1 H2 H3 h92
          go_wp2
          go_roundw
          case rel => exact ⟨pos + k, true, ms, rfl, hit2, hwd.2.1, by omega, H', hown2, hsz2, hbel2⟩
          case measure =>
            have : W1.iterPos w.heap.size = pos + k := by unfold World.iterPos; rw [hit2]
            omega
        · have H' := Lib.hid (H3.out rfl h92)
          have b1 : ((r : Int) == 92) = false := by simp; omega
          clear H1 H2 H3 h92
          go_wp2_with (first
            | (go_at_call 41; refine (plainMark_any r _).mono ?_; rintro e w2 ⟨rfl, hb2⟩; have hown3 := own_below hown2 hb2; have hit3 := iter_below hit2 hb2; have hbel3 : Below w.heap.size w w2 := hbel2.trans (hb2.mono hbel2.size); have hsz3 : w.heap.size + 1 ≤ w2.heap.size := Nat.le_trans hsz2 hb2.size; clear hown2 hit2 hbel2 hsz2 hb2)
            | (at_builtin; refine wpList_append_lies _ rfl _ _ 43 rfl (w.heap.size + 1) 49 i0 (.agg #[.int .i64 0, .int .i32 0]) 2 16 Tryd.underlying43 hi hz0 hz1 hz2 rfl (by decide) _ _ _ rfl (hown3.alloc _) ⟨w2.heap.size, 0, none⟩ 1 1 [.int .i64 (kd (pl r)), .int .i32 (rn (pl r))] rfl rfl ?c1 (two_cell rfl rfl) (by decide) ?c3 ?c4 ?c5 _ rfl ?_))
          case c1 => exact cell_two _ _ _ _
          case c3 => unfold maxLen; omega
          case c4 => omega
          case c5 => simp; omega
          intro g cap w1 hown' hgrow hg hgl
          rw [← mv_snoc] at hown'
          have hit4 := iter_grown (o := .stringIter s (pos + k)) (by exact iter_below hit3 ((Below.refl _ w2).alloc (Nat.le_refl _) _)) (hown3.alloc _) hgrow (by omega)
          have hbel1 := below_own (hbel3.alloc hbel3.size _) (hown3.alloc _) hgrow (by simp; omega) (by omega)
          have hsz4 : w.heap.size + 1 ≤ w1.heap.size := by have := hgrow.size; simp at this; omega
          clear hown3 hgrow hbel3 hit3 hg
          go_wp2
          go_roundw
          case rel => exact ⟨pos + k, false, _, rfl, hit4, hwd.2.1, by simp; omega, H', by rw [List.length_append]; exact hown', hsz4, hbel1⟩
          case measure =>
            have : w1.iterPos w.heap.size = pos + k := by unfold World.iterPos; rw [hit4]
            omega
    · have hnx : ∀ ty, (Instr.next (.pointer (some ⟨w.heap.size, 0, none⟩)) true ty).run Tryd.prog wr = _ := fun ty => run_next_end_at wr w.heap.size s pos ty hit hp
      have hM := H.out
      unfold MarksAt at hM
      rw [rns_end hp] at hM
      cases b with
      | false =>
        have hM' : ms = Tx.sg (Tx.rns s.data.toList) := by simpa [sgE, Tx.sg] using hM
        subst hM'
        obtain ⟨A, c, rfl, V⟩ := Ms.of_own hown
        clear hown H hM hit
        go_wp2
        go_ret
        exact ⟨A, c, rfl, V, hbel⟩
      | true =>
        have hM' : ms ++ [92] = Tx.sg (Tx.rns s.data.toList) := by simpa [sgE, sg_last] using hM
        have HM := Lib.hid hM'
        clear hM hM' H hit
        go_wp2_with (at_builtin; refine wpList_append_lies _ rfl _ _ 43 rfl (w.heap.size + 1) 49 i0 (.agg #[.int .i64 0, .int .i32 0]) 2 16 Tryd.underlying43 hi hz0 hz1 hz2 rfl (by decide) _ _ _ rfl (hown.alloc _) ⟨wr.heap.size, 0, none⟩ 1 1 [.int .i64 0, .int .i32 92] rfl rfl ?c1 (two_cell rfl rfl) (by decide) ?c3 ?c4 ?c5 _ rfl ?_)
        case c1 => exact cell_two _ _ _ _
        case c3 => unfold maxLen; omega
        case c4 => omega
        case c5 => simp; omega
        intro g cap w1 hown' hgrow hg hgl
        have e : mv ms ++ [.int .i64 0, .int .i32 92] = mv (Tx.sg (Tx.rns s.data.toList)) := by rw [← HM.out, mv_snoc]; rfl
        rw [e] at hown'
        have hbel1 := below_own (hbel.alloc hbel.size _) (hown.alloc _) hgrow (by simp; omega) (by omega)
        have hl : ms.length + 1 = (Tx.sg (Tx.rns s.data.toList)).length := by rw [← HM.out]; simp
        rw [hl] at hown'
        have HL := Lib.hid hl
        obtain ⟨A, c, hv, V⟩ := Ms.of_own hown'
        have HV := Lib.hid hv
        clear hown hgrow hbel hg e hown' hl hv
        go_wp2
        go_ret
        exact ⟨A, c, by rw [← HV.out, ← HL.out]; rfl, V, hbel1⟩

theorem kd_two (x : Int) : (kd x == 2) = decide (x = -1) := by
  unfold kd
  by_cases h : x = -1
  · simp [h]
  · rw [if_neg h]; simp [h]; split <;> decide
set_option maxRecDepth 100000 in
set_option maxHeartbeats 1000000 in
theorem onlyRows_any (w : World) (A : Option Addr) (n c : Nat) (l : List Int) (h : Ms w A n c l) (hn : n ≤ 1000000) :
    Calls Tryd.prog 37 #[.slice A n c] w fun e w' => e = .returned (.bool (l.all (· == -1))) ∧ Below w.heap.size w w' := by
  have H := Lib.hid h
  have HL := Lib.hid h.1
  clear h
  go_enter Tryd.func37, Tryd.ntmps37
  go_wp2
  go_loopw [7] (fun i wr => ∃ k : Nat, i = .int .i64 (k : Int) ∧ k ≤ n ∧ Hid ((l.take k).all (· == -1) = true) ∧ Below w.heap.size w wr) (fun i _ => n - (RowKit.intOf i).toNat)
  case atStart => exact ⟨0, rfl, Nat.zero_le _, by show _ = _; rfl, Below.refl _ _⟩
  case round =>
    obtain ⟨k, rfl, hk, HK, hbel⟩ := hrel
    have hsz := hbel.size
    by_cases hlt : k < n
    · obtain ⟨b, off, x, rfl, hbl, hx, cx, cr⟩ := (H.out.on hbel).at_ hlt
      have HX := Lib.hid hx
      clear hx
      by_cases hs : x = -1
      · subst hs
        have H2 : Hid ((l.take (k + 1)).all (· == -1) = true) := by
          show _ = _
          rw [List.take_add_one, HX.out, List.all_append, HK.out]; rfl
        have e2 : kd (-1) = 2 := rfl
        rw [e2] at cx
        clear e2
        go_wp2
        go_roundw
        case rel => exact ⟨k + 1, by go_num, by omega, H2, hbel.alloc hsz _⟩
        case measure => simp [RowKit.intOf]; omega
      · have hk2 : ((kd x) != 2) = true := by
          have := kd_two x
          rw [decide_eq_false hs] at this
          simpa [bne] using this
        have HF : Hid (l.all (· == -1) = false) := by
          show _ = _
          rw [List.all_eq_false]
          exact ⟨x, List.mem_of_getElem? HX.out, by simp [hs]⟩
        clear hs
        go_wp2
        go_ret
        exact ⟨by rw [HF.out]; rfl, hbel.alloc hsz _⟩
    · have HF : Hid (l.all (· == -1) = true) := by
        show _ = _
        have := HK.out
        rwa [List.take_of_length_le (by rw [HL.out]; omega)] at this
      go_wp2
      go_ret
      exact ⟨by rw [HF.out]; rfl, hbel⟩

set_option maxRecDepth 100000 in
set_option maxHeartbeats 1000000 in
theorem standsFor_any (x : Int) (c : Nat) (w : World) (hx : x = -2 ∨ 0 ≤ x) :
    Calls Tryd.prog 36 #[.agg #[.int .i64 (kd x), .int .i32 (rn x)], .int .i32 (c : Int)] w fun e w' => e = .returned (.bool (Tx.one x c)) ∧ Below w.heap.size w w' := by
  rcases hx with rfl | hx
  · have e1 : kd (-2) = 1 := rfl
    have e3 : Tx.one (-2) c = true := by simp [Tx.one]
    rw [e1, e3]
    clear e1 e3
    go_enter Tryd.func36, Tryd.ntmps36
    go_wp2
    go_ret
    exact ⟨rfl, (Below.refl _ _).alloc (Nat.le_refl _) _⟩
  · rw [kd_lit hx, rn_lit hx]
    have e3 : Tx.one x c = (x == (c : Int)) := by
      unfold Tx.one
      rw [Bool.eq_iff_iff]; simp; omega
    rw [e3]
    clear e3
    go_enter Tryd.func36, Tryd.ntmps36
    go_wp2
    go_ret
    exact ⟨rfl, (Below.refl _ _).alloc (Nat.le_refl _) _⟩

end Go.Proofs.YtmlonlipieedbaaDoor
