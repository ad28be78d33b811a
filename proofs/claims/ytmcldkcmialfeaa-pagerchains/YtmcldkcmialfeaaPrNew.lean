/-
  The program's pager: New, Pool, Drop.
-/
import Derived.Test.YtmcldkcmialfeaaPrPut
import Derived.Test.YtmcldkcmialfeaaGrPool9
namespace Go.Proofs.Ytmcldkcmialfeaa.Pr
open Go.RowKit
set_option linter.unusedVariables false

theorem fm_made (w : World) : Fm (w.alloc (.map #[] 0)) w.heap.size [] [] :=
  ⟨World.ownsMap_made w Try.prog 3 hold, List.Pairwise.nil, List.Pairwise.nil, fun no b h => (by cases h), fun no h => rfl⟩
theorem pgr_made {w1 : World} {H : Hd} {q mq : Nat} {d : Dk.Pd} {pl : Pl.Pd} {gen hz : Nat} (hD : Dsk w1 H d) (hP : Pq.Po w1 q mq pl) (hpd : mq ≠ H.mb) (hg : gen < 18446744073709551616) (hh : hz < 18446744073709551616) :
    Pgr ((w1.alloc (.map #[] 0)).alloc (.cells #[.pointer (some ⟨H.p, 0, none⟩), .pointer (some ⟨q, 0, none⟩), .int .u64 (gen : Int), .int .u64 (hz : Int), .map (some w1.heap.size)] 69)) ⟨w1.heap.size + 1, w1.heap.size, q, mq, H⟩ ⟨d, pl, gen, hz, []⟩ := by
  have B1 : Below w1.heap.size w1 (w1.alloc (.map #[] 0)) := (Below.refl _ _).alloc (Nat.le_refl _) _
  have B2 := B1.alloc (o := .cells #[.pointer (some ⟨H.p, 0, none⟩), .pointer (some ⟨q, 0, none⟩), .int .u64 (gen : Int), .int .u64 (hz : Int), .map (some w1.heap.size)] 69) (by simp)
  have hm := (fm_made w1).on ((Below.refl _ _).alloc (Nat.le_refl _) (.cells #[.pointer (some ⟨H.p, 0, none⟩), .pointer (some ⟨q, 0, none⟩), .int .u64 (gen : Int), .int .u64 (hz : Int), .map (some w1.heap.size)] 69))
  have hs := heap_alloc_new (w1.alloc (.map #[] 0)) (.cells #[.pointer (some ⟨H.p, 0, none⟩), .pointer (some ⟨q, 0, none⟩), .int .u64 (gen : Int), .int .u64 (hz : Int), .map (some w1.heap.size)] 69)
  rw [show (w1.alloc (.map #[] 0)).heap.size = w1.heap.size + 1 by simp] at hs
  have h1 := hP.mb_lt
  have h2 := hD.lt (k := H.mb) (.inr (.inl rfl))
  exact ⟨hs, ⟨[], hm⟩, hP.on B2, hD.on B2, by show w1.heap.size ≠ mq; omega, by show w1.heap.size ≠ H.mb; omega, hpd, hP.ok, List.Pairwise.nil, fun f hf => (by cases hf), fun f hf => (by cases hf), hg, hh⟩

set_option maxRecDepth 100000 in
theorem new_any (w : World) (H : Hd) (p mp : Nat) (d : Dk.Pd) (pl : Pl.Pd) (gen hz : Nat) (hD : Dsk w H d) (hP : Pq.Po w p mp pl) (hg : gen < 18446744073709551616) (hh : hz < 18446744073709551616) :
    Calls Try.prog 9 #[.pointer (some ⟨H.p, 0, none⟩), .pointer (some ⟨p, 0, none⟩), .int .u64 (gen : Int), .int .u64 (hz : Int)] w fun e w' =>
      ∃ G : Gh, e = .returned (.pointer (some ⟨G.x, 0, none⟩)) ∧ G.H = H ∧ Pgr w' G ⟨d, pl, gen, hz, []⟩ ∧ (w.heap.size ≤ G.x ∧ w.heap.size ≤ G.fb ∧ w.heap.size ≤ G.pp ∧ w.heap.size ≤ G.pm) ∧ Below w.heap.size w w' := by
  have C := Lib.hid (Pq.clone_any w p mp pl hP)
  have HD := Lib.hid hD
  have hmm := @run_makeMap Try.prog
  have HG := Lib.hid (And.intro hg hh)
  clear hD hP hg hh
  go_enter Try.func9, Try.ntmps9
  go_wp2_with fail
  refine C.out.mono ?_
  rintro e w1 ⟨q, mq, rfl, hQ, hq, hmq, hB⟩
  have hm := HD.out.lt (k := H.mb) (.inr (.inl rfl))
  have HP := Lib.hid (pgr_made (HD.out.on hB) hQ (by omega) HG.out.1 HG.out.2)
  have hs := hB.size
  have HB := Lib.hid ((hB.alloc hs (.map #[] 0)).alloc (by simp; omega) (.cells #[.pointer (some ⟨H.p, 0, none⟩), .pointer (some ⟨q, 0, none⟩), .int .u64 (gen : Int), .int .u64 (hz : Int), .map (some w1.heap.size)] 69))
  have HS := Lib.hid (show w.heap.size ≤ w1.heap.size + 1 ∧ w.heap.size ≤ w1.heap.size ∧ w.heap.size ≤ q ∧ w.heap.size ≤ mq by omega)
  clear hm hQ hq hmq hB hs
  go_wp2
  go_ret
  exact ⟨⟨w1.heap.size + 1, w1.heap.size, q, mq, H⟩, rfl, rfl, HP.out, HS.out, HB.out⟩

theorem pool_any (w : World) (G : Gh) (a : Pa) (h : Pgr w G a) :
    Calls Try.prog 16 #[.pointer (some ⟨G.x, 0, none⟩)] w fun e w' => e = .returned (.pointer (some ⟨G.pp, 0, none⟩)) ∧ w = w' := by
  have c1 := h.str.c1
  clear h
  go_enter Try.func16, Try.ntmps16
  go_wp2
  go_ret
  exact ⟨rfl, rfl⟩

set_option maxRecDepth 100000 in
theorem drop_any (w : World) (G : Gh) (a : Pa) (no : Int) (h : Pgr w G a) (hi : I64 no) :
    Calls Try.prog 22 #[.pointer (some ⟨G.x, 0, none⟩), .int .i64 no] w fun e w' => e = .returned (.tuple #[]) ∧ Pgr w' G (drop a no) ∧ Off G.own w w' := by
  obtain ⟨vs, hm⟩ := h.fresh
  have C := isFresh_any w G a.gen a.hz a.l vs no h.str hm hi
  have HP := Lib.hid h
  have HK := Lib.hid (drop_ok h.ok no)
  have c1 := h.str.c1
  have c2 := h.str.c2
  have c4 := h.str.c4
  cases hs : (look a.l no).isSome with
  | false =>
    rw [hs] at C
    have C := Lib.hid C
    have CF := Lib.hid (Pq.free_any w G.pp G.pm a.pool no a.gen h.pool hi h.ok.gen)
    have hd : drop a no = { a with pool := Pl.free a.pool no a.gen } := by unfold drop; rw [hs]; rfl
    rw [hd] at HK ⊢
    clear h hm hs hi hd
    go_enter Try.func22, Try.ntmps22
    go_wp2_with fail
    refine C.out.mono ?_
    rintro e w1 ⟨rfl, rfl⟩
    clear C
    go_wp2_with fail
    refine CF.out.mono ?_
    rintro e w2 ⟨rfl, P2, O2⟩
    have RS := Lib.hid (And.intro (HP.out.pooled (b := { a with pool := Pl.free a.pool no a.gen }) O2 P2 rfl rfl rfl rfl HK.out) (O2.mono (S := G.own) (fun k hk => .inl (.inr (.inr (.inl hk))))))
    clear P2 O2 CF HP HK c1 c2 c4
    go_wp2
    go_end0
    exact ⟨rfl, RS.out⟩
  | true =>
    rw [hs] at C
    have C := Lib.hid C
    have hd : drop a no = { a with l := rem a.l no, pool := Pl.free a.pool no 0 } := by unfold drop; rw [hs]; rfl
    rw [hd] at HK ⊢
    have hfew := few h.ok
    have hvl := hm.says.len
    have HM := Lib.hid hm
    have HI := Lib.hid hi
    clear h hm hs hi hd
    go_enter Try.func22, Try.ntmps22
    go_wp2_with fail
    refine C.out.mono ?_
    rintro e w1 ⟨rfl, rfl⟩
    clear C
    go_wp2_with (first
      | (at_delete; refine wpList_delete_own _ rfl _ _ 62 3 rfl 22 keyed Try.underlying62 hold G.fb vs.length (mh vs) rfl HM.out.map (.int .i64 no) (lk no) rfl (key_of HI.out) ?_; intro wC MC gC; have HC := Lib.hid (And.intro MC gC.grown); have cC := Str.c1 (w := wC) (G := G) (gen := a.gen) (hz := a.hz) ((off_grown gC.grown).at_ HP.out.str HP.out.x_own.1); clear MC gC))
    have RC : Hid (Pgr wC G { a with l := rem a.l no } ∧ Off G.own w wC) := by
      obtain ⟨MC, gC⟩ := HC.out
      have hof := off_grown gC
      have hfree : Free (fun k => k = G.fb) w := by rintro k cs m rfl; exact map_free HM.out.block
      obtain ⟨us, hu⟩ := Fm.cut (m := rem a.l no) (HM.out.says.off hof hfree) MC (rem_rises HM.out.says.rl no) (look_rem a.l no)
      exact Lib.hid ⟨HP.out.mapped (b := { a with l := rem a.l no }) hof hu rfl rfl rfl rfl (rem_ok HP.out.ok no), hof.mono (fun k hk => .inl (.inr (.inl hk)))⟩
    have CF := Lib.hid (Pq.free_any wC G.pp G.pm a.pool no 0 RC.out.1.pool HI.out (by omega))
    clear HC HP HM HI c1 c2 c4
    go_wp2_with fail
    refine CF.out.mono ?_
    rintro e w2 ⟨rfl, P2, O2⟩
    have RS := Lib.hid (And.intro (RC.out.1.pooled (b := { a with l := rem a.l no, pool := Pl.free a.pool no 0 }) O2 P2 rfl rfl rfl rfl HK.out) (RC.out.2.trans (O2.mono (S := G.own) (fun k hk => .inl (.inr (.inr (.inl hk)))))))
    clear P2 O2 CF RC HK cC
    go_wp2
    go_end0
    exact ⟨rfl, RS.out⟩

end Go.Proofs.Ytmcldkcmialfeaa.Pr
