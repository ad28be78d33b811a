/-
  The document's disk: New.
-/
import Derived.Test.YtakoajbfkinlcaaRfRead
import Derived.Deep.OwnRows
namespace Go.Proofs.Ytakoajbfkinlcaa
open Go.RowKit Go.Deep
set_option linter.unusedVariables false

theorem fresh_more (k : Nat) : (Dk.fresh (k + 1)).pages = (Dk.fresh k).pages ++ [List.replicate 1024 0] := by
  show List.replicate (k + 1) _ = List.replicate k _ ++ [_]
  rw [List.replicate_succ']
theorem Sq.snoc {w : World} {v v' : Value} {ps : List (List Nat)} {vs : List Value} {n : Nat} {u : Value} {l : List Nat} (h : Along (SfV w) vs ps) (hf : ∀ (i : Nat) (u : Value), vs[i]? = some u → u ≠ .slice none 0 0) (hn : ps.length = n) (ho : w.ownsRow 0 34 1 v' (n + 1) (vs ++ [u])) (hu : PgV w u l) : Sq w v' (ps ++ [l]) (vs ++ [u]) := by
  refine ⟨⟨by rw [List.length_append, hn]; exact ho, h.snoc (.inr hu)⟩, fun i x hx => ?_⟩
  rcases Nat.lt_or_ge i vs.length with hi | hi
  · rw [List.getElem?_append_left hi] at hx; exact hf i x hx
  · rw [List.getElem?_append_right hi] at hx
    have := List.mem_of_getElem? hx
    simp at this
    subst this
    exact hu.some
theorem zeros_lt (n : Nat) : ∀ x ∈ List.replicate n 0, x < 256 := by
  intro x hx; have := List.eq_of_mem_replicate hx; omega
theorem rgrow_done {w w3 : World} {q k g cap : Nat} {sv u : Value} {vs : List Value} {Z : Array Value} {o : Obj} (hZ : Z = (bv (List.replicate 1024 0)).toArray) (h : Rfd w ⟨q, sv, .slice none 0 0⟩ (Dk.fresh k)) (hs : Sq w sv (Dk.fresh k).pages vs) (hk : k + 1 ≤ 2048)
    (O4 : w3.ownsRow 0 34 1 (.slice (some ⟨g, 0, none⟩) (k + 1) cap) (k + 1) (vs ++ [.slice (some ⟨w.heap.size, 0, none⟩) 1024 1024])) (g4 : ((w.alloc (.cells Z 5)).alloc o).grownBy w3 sv.ownBlock) :
    Rfd (w3.setCell ⟨q, 0, none⟩ (.slice (some ⟨g, 0, none⟩) (k + 1) cap)) ⟨q, .slice (some ⟨g, 0, none⟩) (k + 1) cap, .slice none 0 0⟩ (Dk.fresh (k + 1)) := by
  have hR : Row (w.alloc (.cells Z 5)) w.heap.size (List.replicate 1024 0) := by subst hZ; exact heap_alloc_new w _
  have hP : PgV (w.alloc (.cells Z 5)) (.slice (some ⟨w.heap.size, 0, none⟩) 1024 1024) (List.replicate 1024 0) := PgV.of_row hR List.length_replicate (zeros_lt 1024)
  have B1 : Below w.heap.size w (w.alloc (.cells Z 5)) := (Below.refl _ _).alloc (Nat.le_refl _) _
  have h1 := h.on B1
  have o3 : Off (fun j => j = q ∨ sv.ownBlock = some j) (w.alloc (.cells Z 5)) w3 := ((Off.refl _ _).alloc _).trans (Off.of_grown g4 fun j hj => .inr hj)
  have o4 : Off (fun j => j = q ∨ sv.ownBlock = some j) (w.alloc (.cells Z 5)) (w3.setCell ⟨q, 0, none⟩ (.slice (some ⟨g, 0, none⟩) (k + 1) cap)) := o3.set _ (.inl rfl)
  have hf : Free (fun j => j = q ∨ sv.ownBlock = some j) (w.alloc (.cells Z 5)) := fun j cs m hj => h1.free j cs m (by rcases hj with a | a; exact .inl a; exact .inr (.inl a))
  have hst3 : w3.heap[q]? = some (.cells #[sv, .slice none 0 0, .int .i64 ((0 : Nat) : Int), .bool false] 42 (0, 0)) := by
    have a := (Off.refl (fun _ => False) (w.alloc (.cells Z 5))).alloc o
    exact (Off.of_grown (S := fun j => sv.ownBlock = some j) g4 fun j hj => hj).at_ (a.at_ h1.str id) (fun hj => h.q_sv hj rfl)
  have hrow := ((Off.refl (fun j => j = q) w3).set (i := 0) (.slice (some ⟨g, 0, none⟩) (k + 1) cap) rfl).own O4 (fun j hj e => by
    subst e
    obtain ⟨cs', hc⟩ := own_type O4 hj
    rw [hst3] at hc; simp at hc)
  refine ⟨(rstr_set hst3 _).1, ⟨vs ++ [.slice (some ⟨w.heap.size, 0, none⟩) 1024 1024], ?_⟩, ⟨[], World.ownsRow_nil _ _ _ _, Along.nil_⟩, fun x hx => absurd hx List.not_mem_nil, by rw [fresh_len]; exact hk, by show 0 < _; omega⟩
  rw [fresh_more]
  exact Sq.snoc (v := sv) ((hs.on B1).row.along.mono fun x y hr => hr.off o4 hf) hs.full (fresh_len k) hrow (hP.off o4 hf)

theorem undrew {w w' : World} {r : Option Nat} (h : w.drew.grownBy w' r) : w.grownBy w' r := ⟨h.os, h.tape, h.output, h.size, h.block⟩
theorem rgrow_str {w w3 : World} {q k : Nat} {sv : Value} {Z : Array Value} {o : Obj} (h : Rfd w ⟨q, sv, .slice none 0 0⟩ (Dk.fresh k)) (e : TypeId) (g4 : ((w.alloc (.cells Z e)).alloc o).grownBy w3 sv.ownBlock) :
    w3.heap[q]? = some (.cells #[sv, .slice none 0 0, .int .i64 0, .bool false] 42 (0, 0)) := by
  have a := ((Off.refl (fun _ => False) w).alloc (.cells Z e)).alloc o
  exact (Off.of_grown (S := fun j => sv.ownBlock = some j) g4 fun j hj => hj).at_ (a.at_ h.str id) (fun hj => h.q_sv hj rfl)

set_option maxRecDepth 100000 in
set_option maxHeartbeats 1000000 in
theorem rnew_any (w : World) (n : Nat) (hn : n ≤ 2048) :
    Calls Try.prog 11 #[.int .i64 (n : Int)] w fun e w' => ∃ G : Gd, e = .returned (.pointer (some ⟨G.q, 0, none⟩)) ∧ Rfd w' G (Dk.fresh n) ∧ (∀ k, G.own k → w.heap.size ≤ k) ∧ Below w.heap.size w w' := by
  obtain ⟨i0, hi, hz0, hz1, hz2⟩ := info_parts Try.info34
  obtain ⟨Z, hZ⟩ : ∃ Z, Z = (bv (List.replicate 1024 0)).toArray := ⟨_, rfl⟩
  have hmk : ∀ W : World, (Instr.makeSlice 34 (.int .i64 1024) (.int .i64 1024)).run Try.prog W = .ok (.slice (some ⟨W.heap.size, 0, none⟩) 1024 1024) (W.alloc (.cells Z 5)) := by
    intro W
    have e : madeCells #[Value.int .u8 0] 1024 = Z := by
      rw [hZ]
      apply Array.ext'
      rw [toList_madeCells_one]; simp only [bv, List.map_replicate]; rfl
    have := run_make_row' (P := Try.prog) 34 5 (.int .u8 0) 1 Try.underlying34 Try.info5 rfl .i64 .i64 1024 (by omega) (by omega) W
    rw [e] at this
    exact this
  have HZ := Lib.hid hZ
  clear hZ
  have hst : Rfd (w.alloc (.cells #[.slice none 0 0, .slice none 0 0, .int .i64 0, .bool false] 42)) ⟨w.heap.size, .slice none 0 0, .slice none 0 0⟩ (Dk.fresh 0) :=
    ⟨heap_alloc_new w _, ⟨[], ⟨World.ownsRow_nil _ _ _ _, Along.nil_⟩, fun i u h => by simp at h⟩, ⟨[], World.ownsRow_nil _ _ _ _, Along.nil_⟩, fun x hx => absurd hx List.not_mem_nil, by rw [fresh_len]; omega, by show 0 < _; omega⟩
  have HST := Lib.hid hst
  clear hst
  go_enter Try.func11, Try.ntmps11
  go_wp2_with fail
  go_loopw [4] (fun i wr => ∃ (k : Nat) (sv : Value), k ≤ n ∧ i = .int .i64 (k : Int) ∧ Rfd wr ⟨w.heap.size, sv, .slice none 0 0⟩ (Dk.fresh k) ∧ (∀ j, sv.ownBlock = some j → w.heap.size ≤ j) ∧ Below w.heap.size w wr) (fun i _ => n - (intOf i).toNat)
  case atStart => exact ⟨0, _, Nat.zero_le _, rfl, HST.out, (fun j hj => by cases hj), (Below.refl _ _).alloc (Nat.le_refl _) _⟩
  case round =>
    obtain ⟨k, sv, hk, rfl, hR, hsv, hB⟩ := hrel
    by_cases hlt : k < n
    · have z1 : (k : Int) < (n : Int) := by omega
      have z2 : (k : Int) < 2048 := by omega
      obtain ⟨vs, hs⟩ := hR.safe
      have c0 := hR.c0
      have hq : w.heap.size < wr.heap.size := hR.lt (.inl rfl)
      have O2 := Lib.hid ((hs.row.own.alloc (.cells Z 5)).alloc (.cells #[.slice (some ⟨wr.heap.size, 0, none⟩) 1024 1024] 34))
      rw [fresh_len] at O2
      have ONE : Hid (∀ u ∈ [Value.slice (some ⟨wr.heap.size, 0, none⟩) 1024 1024], u.oneCell' = true) := by intro u hu; simp at hu; subst hu; rfl
      have CN : Hid (∀ (j : Nat) (u : Value), [Value.slice (some ⟨wr.heap.size, 0, none⟩) 1024 1024][j]? = some u → ((wr.alloc (.cells Z 5)).alloc (.cells #[.slice (some ⟨wr.heap.size, 0, none⟩) 1024 1024] 34)).cell? ((⟨wr.heap.size + 1, 0, none⟩ : Addr).add j) = some u) := by
        have := cell_one_new (wr.alloc (.cells Z 5)) (.slice (some ⟨wr.heap.size, 0, none⟩) 1024 1024) 34
        rw [show (wr.alloc (.cells Z 5)).heap.size = wr.heap.size + 1 from by simp] at this
        exact this
      have HR := Lib.hid hR
      have HS := Lib.hid hs
      have HB := Lib.hid hB
      clear hR hs hB
      go_wp2_with fail
      go_region_law (refine step_append_lies _ rfl (.tmp 20) (.tmp 22) 39 rfl 0 34 i0 (.slice none 0 0) 1 24 Try.underlying39 hi hz0 hz1 hz2 rfl (by decide) sv k vs (by simp [Act.eval]) (by exact O2.out) ⟨wr.heap.size + 1, 0, none⟩ 1 1 [.slice (some ⟨wr.heap.size, 0, none⟩) 1024 1024] (by simp [Act.eval]) rfl (by exact CN.out) ONE.out (by decide) (by unfold maxLen; omega) (by omega) (Nat.zero_le _) _ rfl ?_; intro g cap w3 O4 g4' hl4 hg4; have g4 := undrew g4'; have HS3 := Lib.hid (rgrow_str HR.out _ g4); have c0' := cell_of_row w3 _ 0 _ _ (0, 0) HS3.out; have f0' := frozen_of_row w3 w.heap.size 0 _ _ HS3.out; simp at c0')
      all_goals
        have R4 := Lib.hid (rgrow_done HZ.out HR.out HS.out (by omega) O4 g4 (u := sv))
        have B4 : Below w.heap.size w (w3.setCell ⟨w.heap.size, 0, none⟩ (.slice (some ⟨g, 0, none⟩) (k + 1) cap)) := by
          have a := ((HB.out.alloc HB.out.size (.cells Z 5)).alloc (by have := HB.out.size; simp; omega) (.cells #[.slice (some ⟨wr.heap.size, 0, none⟩) 1024 1024] 34)).grown g4 (by have := HB.out.size; simp; omega) (fun j hj => hsv j hj)
          exact a.trans ⟨rfl, rfl, rfl, by simp [World.setCell], fun j hj => heap_setCell_other w3 _ j _ (by simp; omega)⟩
        have HB4 := Lib.hid B4
        have hsv4 : w.heap.size ≤ g := by
          rcases hl4 with a | a
          · exact hsv g a
          · have := HB.out.size; simp at a; omega
        clear B4 O4 g4 g4' hl4 hg4 HS3 c0' f0' HR HS HB O2
        go_wp2
        go_roundw
        case rel => exact ⟨k + 1, _, by omega, by go_num, R4.out, (fun j hj => by injection hj with hj; subst hj; exact hsv4), HB4.out⟩
        case measure => simp [intOf]; omega
    · have hk' : k = n := by omega
      subst hk'
      have hf : decide ((k : Int) < (k : Int)) = false := by simp
      have HR := Lib.hid hR
      have HB := Lib.hid hB
      clear hR hB
      go_wp2
      go_ret
      refine ⟨_, rfl, HR.out, ?_, HB.out⟩
      rintro j (rfl | hj | hj)
      · exact Nat.le_refl _
      · exact hsv j hj
      · cases hj

end Go.Proofs.Ytakoajbfkinlcaa
