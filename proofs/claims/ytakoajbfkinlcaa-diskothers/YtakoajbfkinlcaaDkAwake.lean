/-
  What the statements of layer 5 begin with: Filled, awake.
-/
import Derived.Test.YtakoajbfkinlcaaDkHas
namespace Go.Proofs.Ytakoajbfkinlcaa
open Go.RowKit
set_option linter.unusedVariables false

def fillTo (x k : Nat) : List Nat := List.replicate k x ++ List.replicate (1024 - k) 0
theorem fillTo_len (x k : Nat) (h : k ≤ 1024) : (fillTo x k).length = 1024 := by unfold fillTo; rw [List.length_append, List.length_replicate, List.length_replicate]; omega
theorem fillTo_lt (x k : Nat) (hx : x < 256) : ∀ y ∈ fillTo x k, y < 256 := by
  intro y hy
  rcases List.mem_append.1 hy with h | h
  · have := List.eq_of_mem_replicate h; omega
  · have := List.eq_of_mem_replicate h; omega
theorem fillTo_set (x k : Nat) (h : k < 1024) : (bv (fillTo x k)).set k (.int .u8 (x : Int)) = bv (fillTo x (k + 1)) := by
  have e : (fillTo x k).set k x = fillTo x (k + 1) := by
    unfold fillTo
    rw [List.set_append_right _ _ (by rw [List.length_replicate]; omega), List.length_replicate, Nat.sub_self]
    rw [show 1024 - k = (1024 - (k + 1)) + 1 from by omega, List.replicate_succ, List.set_cons_zero, List.replicate_succ', List.append_assoc]
    rfl
  rw [← e]; unfold bv; rw [List.map_set]
theorem fillTo_all (x : Nat) : fillTo x 1024 = List.replicate 1024 x := by unfold fillTo; rw [Nat.sub_self, List.replicate_zero, List.append_nil]
theorem fillTo_none (x : Nat) : fillTo x 0 = List.replicate 1024 0 := by unfold fillTo; rw [List.replicate_zero, List.nil_append, Nat.sub_zero]

set_option maxRecDepth 100000 in
theorem filled_any (w : World) (x : Nat) (hx : x < 256) :
    Calls Try.prog 13 #[.int .u8 (x : Int)] w fun e w' => ∃ g, e = .returned (.slice (some ⟨g, 0, none⟩) 1024 1024) ∧ w.heap.size ≤ g ∧ Row w' g (List.replicate 1024 x) ∧ Below w.heap.size w w' := by
  obtain ⟨i0, hi, hz0, hz1, hz2⟩ := info_parts Try.info5
  go_enter Try.func13, Try.ntmps13
  go_wp2_with (refine wpList_make_full _ rfl _ _ 34 rfl w.heap.size 5 i0 (.int .u8 0) 1 Try.underlying34 hi hz0 hz1 .i64 .i64 _ _ 1024 rfl rfl rfl rfl (by rw [hz2]; omega) (by unfold maxLen; omega) (Nat.le_refl _) ?_; intro w1 hown hgrow; rw [made_zero, ← fillTo_none x] at hown; have R1 := Lib.hid (Row.of_own hown); have B1 := Lib.hid ((Below.refl w.heap.size w).grown hgrow (Nat.le_refl _) (fun k hk => by cases hk)); clear hown hgrow)
  go_loopw [4] (fun i wr => ∃ k : Nat, k ≤ 1024 ∧ i = .int .i64 (k : Int) ∧ Row wr w.heap.size (fillTo x k) ∧ Below w.heap.size w wr) (fun i _ => 1024 - (intOf i).toNat)
  case atStart => exact ⟨0, Nat.zero_le _, rfl, R1.out, B1.out⟩
  case round =>
    obtain ⟨k, hk, rfl, hR, hB⟩ := hrel
    by_cases hlt : k < 1024
    · have O1 := hR.own (base := w.heap.size) (n := 1024) (Nat.le_refl _) (fillTo_len x k hk) (by unfold maxLen; omega)
      obtain ⟨y, hy⟩ : ∃ y, (fillTo x k)[k]? = some y := ⟨_, List.getElem?_eq_getElem (by rw [fillTo_len x k hk]; exact hlt)⟩
      have cy := hR.cell hy
      have fy := O1.frozenAt k
      have hS := O1.stored k (.int .u8 (x : Int))
      rw [fillTo_set x k hlt] at hS
      have HR := Lib.hid (Row.of_own hS.1)
      have HB := Lib.hid (hB.grown hS.2 hB.size (fun j hj => by injection hj with hj; omega))
      have z1 : (k : Int) < 1024 := by omega
      clear hS O1 hR hB hy R1 B1
      go_wp2
      go_roundw
      case rel => exact ⟨k + 1, by omega, by go_num, HR.out, HB.out⟩
      case measure => simp [intOf]; omega
    · have hk' : k = 1024 := by omega
      have hf : ¬ ((k : Int) < 1024) := by omega
      rw [hk', fillTo_all] at hR
      have HR := Lib.hid hR
      have HB := Lib.hid hB
      clear hR hB R1 B1 hk' hlt
      go_wp2
      go_ret
      first | exact ⟨_, rfl, Nat.le_refl _, HR.out, HB.out⟩ | exact ⟨_, ⟨rfl, rfl⟩, Nat.le_refl _, HR.out, HB.out⟩

/-! plainly: nothing armed -/
theorem act_calm {d : Dk.Pd} (h : d.left = 0) : Dk.act d = d := by unfold Dk.act; rw [if_pos h]
theorem write_calm {d : Dk.Pd} {no : Nat} {l : List Nat} (h : d.left = 0) (hd : d.down = false) (hn : no < d.pages.length) (hl : l.length = 1024) : Dk.write d (no : Int) l = Dk.push d no l ∧ Dk.writeCode d (no : Int) l = 0 := by
  have hc : Dk.has d (no : Int) ∧ l.length = 1024 := ⟨⟨by omega, by omega⟩, hl⟩
  have ha : Dk.act (Dk.push d no l) = Dk.push d no l := act_calm h
  unfold Dk.write Dk.writeCode
  rw [if_pos hc, if_pos hc, hd, Int.toNat_natCast, ha]
  refine ⟨rfl, ?_⟩
  show Dk.code (Dk.push d no l) = 0
  unfold Dk.code Dk.push
  rw [show ({ d with waits := d.waits ++ [(no, l)] } : Dk.Pd).down = d.down from rfl, hd]; rfl
theorem write_out {d : Dk.Pd} {no : Int} {l : List Nat} (hn : ¬ Dk.has d no) : Dk.write d no l = d ∧ Dk.writeCode d no l = 1 := by
  unfold Dk.write Dk.writeCode
  rw [if_neg (fun h => hn h.1), if_neg (fun h => hn h.1)]
  exact ⟨rfl, rfl⟩
theorem sync_calm {d : Dk.Pd} (h : d.left = 0) (hd : d.down = false) : Dk.sync d = Dk.settled d ∧ Dk.syncCode d = 0 := by
  unfold Dk.sync Dk.syncCode
  rw [act_calm h, hd]
  exact ⟨rfl, rfl⟩
theorem torn_at {l : List Nat} (h : l.length = 1024) {j : Nat} (hj : j < 1023) : (Pg.torn l)[j]? = l[j]? := by
  unfold Pg.torn; rw [List.getElem?_set_ne (by omega)]
theorem torn_last {l : List Nat} (h : l.length = 1024) : (Pg.torn l)[1023]? = some (l.getD 1023 0 ^^^ 255) := by
  unfold Pg.torn; rw [h]; exact List.getElem?_set_self (by omega)
theorem rep_at {n x j : Nat} (h : j < n) : (List.replicate n x)[j]? = some x := by rw [List.getElem?_replicate, if_pos h]
theorem Dsk.pf {w : World} {H : Hd} {d e : Dk.Pd} (h : Dsk w H d) (he : d = e) : Dsk w H e := he ▸ h
theorem Hd.pq {H H' : Hd} (h : H'.p = H.p) : (⟨H'.p, 0, none⟩ : Addr) = ⟨H.p, 0, none⟩ := by rw [h]

/-- What 'awake' asks of the plain disk. -/
theorem awake_plain (l : List Nat) (hl : l.length = 1024) : (Dk.crashed (Dk.push (Dk.fresh 2) 0 l) [true] 0).pages = [Pg.torn l, List.replicate 1024 0] := by
  show Dk.crTo _ _ _ _ = _
  rw [show (Dk.push (Dk.fresh 2) 0 l).waits.length = 0 + 1 from rfl, Dk.cr_step (x := (0, l)) rfl rfl]
  rfl

set_option maxRecDepth 100000 in
set_option maxHeartbeats 1000000 in
theorem awake_any (w : World) : Calls Try.prog 8 #[] w fun e w' => e = .returned (.bool true) ∧ Below w.heap.size w w' := by
  obtain ⟨l, hl⟩ : ∃ l, l = List.replicate 1024 1 := ⟨_, rfl⟩
  have hln : Hid (l.length = 1024) := by show _ = _; rw [hl]; exact List.length_replicate
  have hlt : Hid (∀ x ∈ l, x < 256) := by intro x hx; rw [hl] at hx; have := List.eq_of_mem_replicate hx; omega
  have w0 := write_calm (d := Dk.fresh 2) (no := 0) rfl rfl (by rw [fresh_len]; omega) hln.out
  have hl0 : Hid ((Pg.torn l)[0]? = some 1) := by show _ = _; rw [torn_at hln.out (by omega), hl]; exact rep_at (by omega)
  have hl1 : Hid ((Pg.torn l)[1023]? = some 254) := by
    show _ = _; rw [torn_last hln.out, List.getD_eq_getElem?_getD, hl, rep_at (by omega)]; rfl
  have hpg := Lib.hid (awake_plain l hln.out)
  have hF := Lib.hid (fun W => filled_any W 1 (by omega))
  rw [← hl] at hF
  clear hl
  have hN := Lib.hid (hnew w 2 2 (by omega))
  go_enter Try.func8, Try.ntmps8
  go_wp2_with fail
  refine hN.out.mono ?_
  rintro e w1 ⟨p, rfl, h1⟩
  go_wp2_with fail
  refine (hF.out _).mono ?_
  rintro e w2 ⟨g2, rfl, _, R2, B2⟩
  have h2 := h1.on B2
  have s2 := R2.bs' hlt.out hln.out (by omega)
  clear h1 B2 R2
  go_wp2_with fail
  refine (hwrite w2 p _ h2 0 1024 1024 _ l s2 (by decide)).mono ?_
  rintro e w3 ⟨rfl, h3⟩
  have h3' := h3.pf w0.1
  have ec : Dk.writeCode (Dk.fresh 2) 0 l = 0 := w0.2
  rw [ec]
  clear h3 h2 s2 w0 ec hN
  have h4 := h3'.on ((Below.refl _ _).alloc (Nat.le_refl _) (.cells #[.bool true] 4))
  have k4 : Rd (w3.alloc (.cells #[.bool true] 4)) (some ⟨w3.heap.size, 0, none⟩) 1 1 ([true].map Value.bool) :=
    ⟨rfl, Nat.le_refl _, by unfold maxLen; omega, fun _ => ⟨_, _, rfl, by simp, fun j v hv => by
      have := cell_one_new w3 (.bool true) 4 j v hv
      rw [addr_add] at this
      exact this⟩⟩
  have H4 := Lib.hid h4
  have K4 := Lib.hid k4
  clear h3' h4 k4
  go_wp2_with fail
  refine (hcrash _ p _ H4.out _ 1 1 [true] 0 K4.out (fun b off e => .inr (by injection e with e; injection e with e; subst e; exact ⟨_, _, heap_alloc_new w3 _⟩)) (by show 1 < 1000; omega)).mono ?_
  rintro e w5 ⟨rfl, h5⟩
  clear H4 K4
  have hl5 : 0 < (Dk.crashed (Dk.push (Dk.fresh 2) 0 l) [true] 0).pages.length := by rw [hpg.out]; exact Nat.succ_pos _
  have hl6 : (Dk.crashed (Dk.push (Dk.fresh 2) 0 l) [true] 0).pages.length = 2 := by rw [hpg.out]; rfl
  go_wp2_with fail
  refine (hsafe w5 p _ h5 0 hl5).mono ?_
  rintro e w6 ⟨g6, l6, rfl, _, e6, n6, t6, R6, B6⟩
  rw [hpg.out] at e6
  injection e6 with e6
  subst e6
  have h6 := h5.on B6
  clear h5 B6 hl5 n6 t6
  have c0 := R6.cell hl0.out
  have c1 := R6.cell hl1.out
  have R6' := Lib.hid R6
  go_wp2_with fail
  refine (hF.out _).mono ?_
  rintro e w7 ⟨g7, rfl, _, R7, B7⟩
  have h7 := h6.on B7
  have s7 := R7.bs' hlt.out hln.out (by omega)
  have R6b := R6.on B7
  clear h6 B7 R7 c0 c1 R6 R6'
  have wo := write_out (d := Dk.crashed (Dk.push (Dk.fresh 2) 0 l) [true] 0) (no := 2) (l := l) (by unfold Dk.has; rw [hl6]; omega)
  obtain ⟨S', hA, _, sub, hfr⟩ := h7.anew
  go_wp2_with fail
  refine (hwrite w7 p _ hA 2 1024 1024 _ l s7 (by show 0 < 1000; omega)).mono ?_
  rintro e w8 ⟨rfl, h8⟩
  have h8' := h8.pf wo.1
  rw [wo.2]
  have R8 := R6b.off h8'.off hfr
  have h9 := h7.back h8' sub
  have c0 := R8.cell hl0.out
  have c1 := R8.cell hl1.out
  have HB := Lib.hid h9.below
  clear R6b R8 h7 h8 h8' hA sub hfr s7 wo
  go_wp2_with fail
  refine (hpages w8 p _ h9).mono ?_
  rintro e w9 ⟨rfl, rfl⟩
  rw [hl6]
  go_wp2
  go_ret
  exact ⟨rfl, HB.out⟩

end Go.Proofs.Ytakoajbfkinlcaa
