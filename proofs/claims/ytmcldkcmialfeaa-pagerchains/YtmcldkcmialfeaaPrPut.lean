/-
  The program's pager: Set, Drop, Put.
-/
import Derived.Test.YtmcldkcmialfeaaPrBase
namespace Go.Proofs.Ytmcldkcmialfeaa.Pr
open Go.RowKit
set_option linter.unusedVariables false

theorem filled_on (w : World) (A : Option Addr) (n c : Nat) (l : List Nat) (hb : Bs w A n c l) (hn : n ≤ 1016) (W : World) (bW : Below w.heap.size w W) (hz : W.heap.size = w.heap.size) :
    Calls Try.prog 37 #[.slice A n c] W fun e w' => e = .returned (.slice (some ⟨w.heap.size, 0, none⟩) 1016 1016) ∧ Row w' w.heap.size (Pg.fill l) ∧ Below w.heap.size w w' := by
  refine (filled_any W A n c l (hb.on bW) hn).mono ?_
  rintro e w' ⟨rfl, hR, hB⟩
  rw [hz] at hR ⊢
  exact ⟨rfl, hR, onto bW hB⟩
theorem off_grown {w w1 : World} {fb : Nat} (h : w.grownBy w1 (some fb)) : Off (fun k => k = fb) w w1 := Off.of_grown h fun k hk => by injection hk with hk; exact hk.symm

set_option maxRecDepth 100000 in
theorem set_any_no (w : World) (G : Gh) (a : Pa) (no : Int) (A : Option Addr) (n c : Nat) (pay : List Nat) (h : Pgr w G a) (hi : I64 no) (hb : Bs w A n c pay) (hc : setCode a no pay = 1) :
    Calls Try.prog 25 #[.pointer (some ⟨G.x, 0, none⟩), .int .i64 no, .slice A n c] w fun e w' => e = .returned (.int .i64 1) ∧ w = w' := by
  obtain ⟨vs, hm⟩ := h.fresh
  have C := Lib.hid (isFresh_any w G a.gen a.hz a.l vs no h.str hm hi)
  unfold setCode at hc
  have hl := hb.1
  have hnm : n ≤ 9223372036854775807 := by have := hb.2.1; have := hb.2.2.1; unfold maxLen at *; omega
  cases hs : (look a.l no).isSome with
  | false =>
    rw [hs] at C
    clear h hm hb hc hl hs
    go_enter Try.func25, Try.ntmps25
    go_wp2_with fail
    refine C.out.mono ?_
    rintro e w1 ⟨rfl, rfl⟩
    go_wp2
    go_ret
    exact ⟨rfl, rfl⟩
  | true =>
    have h1 : (1016 : Int) < (n : Int) := by
      split at hc
      · omega
      · rename_i hx
        rw [hl] at hx
        have : ¬ n ≤ 1016 := fun h => hx ⟨hs, h⟩
        omega
    rw [hs] at C
    clear h hm hb hc hl hs
    go_enter Try.func25, Try.ntmps25
    go_wp2_with fail
    refine C.out.mono ?_
    rintro e w1 ⟨rfl, rfl⟩
    go_wp2
    go_ret
    exact ⟨rfl, rfl⟩

set_option maxRecDepth 100000 in
theorem set_any_yes (w : World) (G : Gh) (a : Pa) (no : Int) (A : Option Addr) (n c : Nat) (pay : List Nat) (h : Pgr w G a) (hi : I64 no) (hb : Bs w A n c pay) (hc : setCode a no pay = 0) :
    Calls Try.prog 25 #[.pointer (some ⟨G.x, 0, none⟩), .int .i64 no, .slice A n c] w fun e w' => e = .returned (.int .i64 0) ∧ Pgr w' G (set a no pay) ∧ Off G.own w w' := by
  obtain ⟨vs, hm⟩ := h.fresh
  have C := Lib.hid (isFresh_any w G a.gen a.hz a.l vs no h.str hm hi)
  have hst : set a no pay = { a with l := upd a.l no (Pg.fill pay) } := by unfold set; rw [if_pos hc]
  have hok := set_ok h.ok no pay hb.2.2.2.1
  rw [hst] at hok ⊢
  unfold setCode at hc
  have hl := hb.1
  have hs : (look a.l no).isSome = true ∧ n ≤ 1016 := by
    split at hc
    · rename_i hx; rw [hl] at hx; exact hx
    · omega
  obtain ⟨hs, hn⟩ := hs
  have CF := Lib.hid (filled_on w A n c pay hb hn)
  have h1 : ¬ (1016 : Int) < (n : Int) := by omega
  have h2 : decide ((1016 : Int) < (n : Int)) = false := decide_eq_false h1
  rw [hs] at C
  have hfew := few h.ok
  have hvl := hm.says.len
  have HP := Lib.hid h
  have HM := Lib.hid hm
  have HI := Lib.hid hi
  have HS := Lib.hid hs
  have HK := Lib.hid hok
  have HL := Lib.hid (And.intro hb.2.2.2.1 (show pay.length ≤ 1016 by rw [hl]; exact hn))
  have c4 := h.str.c4
  clear h hm hb hc hl hs hi hst hok
  go_enter Try.func25, Try.ntmps25
  go_wp2_with fail
  refine C.out.mono ?_
  rintro e w1 ⟨rfl, rfl⟩
  go_wp2_with fail
  clear C
  go_region_law (first
    | (go_simp; go_at_call 37; refine (CF.out _ (by first | exact below_drewN (Below.refl _ _) _ | exact (Below.refl _ _).drew | exact Below.refl _ _) (by rfl)).mono ?_; rintro e vA ⟨rfl, RA, bA⟩; have FA := Lib.hid (HP.out.on bA); have MA := Lib.hid (HM.out.on bA); have KA := Lib.hid (And.intro RA bA); have cA := FA.out.str.c4; obtain ⟨wC, hrC, MC, gC⟩ := MA.out.update HI.out (.slice (some ⟨w.heap.size, 0, none⟩) 1016 1016) (by omega); have HC := Lib.hid (And.intro MC gC); clear RA bA MC gC))
  all_goals
    obtain ⟨MC, gC⟩ := HC.out
    have hof := off_grown gC
    have hfree : Free (fun k => k = G.fb) vA := by rintro k cs m rfl; exact map_free MA.out.block
    have hv := FV.of_row KA.out.1 (Pg.fill_len HL.out.2) (Pg.fill_lt HL.out.1)
    obtain ⟨us, hu⟩ := Fm.put (m := upd a.l no (Pg.fill pay)) (MA.out.says.off hof hfree) MC (hv.off hof hfree) (upd_rises MA.out.says.rl _ _) (fun k => by
      rw [look_upd]
      obtain ⟨b, hb⟩ := Option.isSome_iff_exists.1 HS.out
      rw [hb]; rfl)
    have RS := Lib.hid (And.intro (FA.out.mapped (b := { a with l := upd a.l no (Pg.fill pay) }) hof hu rfl rfl rfl rfl HK.out) ((Off.of_below (S := G.own) KA.out.2).trans' hof (fun k hk => .inl (.inr (.inl hk)))))
    clear hof hfree hv hu MC gC FA MA KA HP HM HI HS HK HL CF c4 cA
    go_wp2
    go_ret
    exact ⟨rfl, RS.out⟩

theorem alloc_on (w : World) (p mb : Nat) (d : Pl.Pd) (hz : Nat) (h : Pq.Po w p mb d) (W : World) (bW : Below w.heap.size w W) :
    Calls Try.prog 36 #[.pointer (some ⟨p, 0, none⟩), .int .u64 (hz : Int)] W fun e w' => e = .returned (.tuple #[.int .i64 (Pl.allocNo d hz), .int .i64 (Pl.allocCode d hz)]) ∧ Pq.Po w' p mb (Pl.alloc d hz) ∧ Off (Pq.Mine p mb) w w' := by
  refine (Pq.alloc_any W p mb d hz (h.on bW)).mono ?_
  rintro e w' ⟨rfl, hP, hO⟩
  exact ⟨rfl, hP, (Off.of_below bW).trans hO⟩

set_option maxRecDepth 100000 in
theorem put_arg (w : World) (G : Gh) (a : Pa) (A : Option Addr) (n c : Nat) (pay : List Nat) (hb : Bs w A n c pay) (hn : 1016 < pay.length) :
    Calls Try.prog 19 #[.pointer (some ⟨G.x, 0, none⟩), .slice A n c] w fun e w' => e = .returned (.tuple #[.int .i64 0, .int .i64 1]) ∧ w = w' := by
  have hl := hb.1
  have hnm : n ≤ 9223372036854775807 := by have := hb.2.1; have := hb.2.2.1; unfold maxLen at *; omega
  have h1 : (1016 : Int) < (n : Int) := by omega
  clear hb hl hn
  go_enter Try.func19, Try.ntmps19
  go_wp2
  go_ret2
  exact ⟨rfl, rfl⟩
set_option maxRecDepth 100000 in
theorem put_full (w : World) (G : Gh) (a : Pa) (A : Option Addr) (n c : Nat) (pay : List Nat) (h : Pgr w G a) (hb : Bs w A n c pay) (hn : pay.length ≤ 1016) (hc : Pl.allocCode a.pool a.hz = 2) :
    Calls Try.prog 19 #[.pointer (some ⟨G.x, 0, none⟩), .slice A n c] w fun e w' => e = .returned (.tuple #[.int .i64 0, .int .i64 2]) ∧ Pgr w' G a ∧ Off G.own w w' := by
  have hl := hb.1
  have h1 : ¬ (1016 : Int) < (n : Int) := by omega
  have c1 := h.str.c1
  have c3 := h.str.c3
  have CA := Lib.hid (alloc_on w G.pp G.pm a.pool a.hz h.pool)
  have HP := Lib.hid h
  obtain ⟨hal, hno⟩ : Pl.alloc a.pool a.hz = a.pool ∧ Pl.allocNo a.pool a.hz = 0 := by
    rcases alloc_code a.pool a.hz with h | h
    · omega
    · exact h.2
  rw [hc, hal, hno] at CA
  clear hb hl hn h hc hal hno
  go_enter Try.func19, Try.ntmps19
  go_wp2_with fail
  go_region_law (first
    | (go_simp; go_at_call 36; refine (CA.out _ (by first | exact below_drewN (Below.refl _ _) _ | exact (Below.refl _ _).drew | exact Below.refl _ _)).mono ?_; rintro e vA ⟨rfl, PA, oA⟩; have RS := Lib.hid (And.intro (HP.out.pooled (b := a) oA PA rfl rfl rfl rfl HP.out.ok) (oA.mono (S := G.own) (fun k hk => .inl (.inr (.inr (.inl hk)))))); clear PA oA))
  all_goals
    go_wp2
    go_ret2
    exact ⟨rfl, RS.out⟩

set_option maxRecDepth 100000 in
theorem put_yes (w : World) (G : Gh) (a : Pa) (A : Option Addr) (n c : Nat) (pay : List Nat) (h : Pgr w G a) (hb : Bs w A n c pay) (hA : 0 < n → ∀ b off, A = some ⟨b, off, none⟩ → ¬ G.own b) (hn : pay.length ≤ 1016) (hc : Pl.allocCode a.pool a.hz = 0) :
    Calls Try.prog 19 #[.pointer (some ⟨G.x, 0, none⟩), .slice A n c] w fun e w' => e = .returned (.tuple #[.int .i64 (Pl.allocNo a.pool a.hz), .int .i64 0]) ∧ Pgr w' G (put a pay) ∧ Off G.own w w' := by
  have hl := hb.1
  have h1 : ¬ (1016 : Int) < (n : Int) := by omega
  have c1 := h.str.c1
  have c3 := h.str.c3
  have CA := alloc_on w G.pp G.pm a.pool a.hz h.pool
  rw [hc] at CA
  have hpc : putCode a pay = 0 := by unfold putCode; rw [if_neg (by omega)]; exact hc
  have hpt : put a pay = { a with pool := Pl.alloc a.pool a.hz, l := ins a.l (Pl.allocNo a.pool a.hz) (Pg.fill pay) } := by unfold put; rw [if_pos hpc]
  have hok := put_ok h.ok pay hb.2.2.2.1
  rw [hpt] at hok ⊢
  have hi := alloc_i64 h.ok.pool a.hz
  have hfew := few h.ok
  have HP := Lib.hid h
  have HB := Lib.hid hb
  have HN := Lib.hid (alloc_fresh h.ok hc)
  have HI := Lib.hid hi
  have HK := Lib.hid hok
  have HL := Lib.hid (And.intro hb.2.2.2.1 hn)
  have HQ := Lib.hid (show n ≤ 1016 by omega)
  have HA := Lib.hid hA
  clear hA
  obtain ⟨vs, hm⟩ := h.fresh
  have hvl := hm.says.len
  have HM := Lib.hid hm
  have hfr : Free (Pq.Mine G.pp G.pm) w := fun k cs m hk => h.free k cs m (.inr (.inr (.inl hk)))
  have HF := Lib.hid hfr
  clear hb hl hn h hc hpc hpt hok hi hm hfr
  generalize hno : Pl.allocNo a.pool a.hz = no at CA HN HI HK ⊢
  have CA := Lib.hid CA
  clear hno
  go_enter Try.func19, Try.ntmps19
  go_wp2_with fail
  go_region_law (first
    | (go_simp; go_at_call 36; refine (CA.out _ (by first | exact below_drewN (Below.refl _ _) _ | exact (Below.refl _ _).drew | exact Below.refl _ _)).mono ?_; rintro e vA ⟨rfl, PA, oA⟩; have RA := Lib.hid (And.intro PA oA); clear PA oA))
  all_goals
    have hmA := HM.out.off RA.out.2 HF.out HP.out.fb_own.1
    have sA : Str vA G a.gen a.hz := RA.out.2.at_ HP.out.str HP.out.x_own.2.1
    have c4 := sA.c4
    have CF := Lib.hid (filled_on vA A n c pay (HB.out.off RA.out.2 fun h0 b off h1 h2 => HA.out h0 b off h1 (.inr (.inr (.inl h2)))) HQ.out)
    have MA := Lib.hid hmA
    have SA := Lib.hid sA
    clear hmA sA c1 c3 CA HB
    go_wp2_with fail
    go_region_law (first
      | (go_simp; go_at_call 37; refine (CF.out _ (by first | exact below_drewN (Below.refl _ _) _ | exact (Below.refl _ _).drew | exact Below.refl _ _) (by rfl)).mono ?_; rintro e vB ⟨rfl, RB, bB⟩; have MB := Lib.hid (MA.out.on bB); have SB := Lib.hid (show Str vB G a.gen a.hz from (Off.of_below (S := fun _ => False) bB).at_ SA.out (fun h => h)); have KB := Lib.hid (And.intro RB bB); have cB := SB.out.c4; obtain ⟨wC, hrC, MC, gC⟩ := MB.out.update HI.out (.slice (some ⟨vA.heap.size, 0, none⟩) 1016 1016) (by omega); have HC := Lib.hid (And.intro MC gC); clear RB bB MC gC))
    all_goals
      have RS : Hid (Pgr wC G { a with pool := Pl.alloc a.pool a.hz, l := ins a.l no (Pg.fill pay) } ∧ Off G.own w wC) := by
        obtain ⟨MC, gC⟩ := HC.out
        obtain ⟨PA, oA⟩ := RA.out
        obtain ⟨RB, bB⟩ := KB.out
        have hof := off_grown gC
        have hfree : Free (fun k => k = G.fb) vB := by rintro k cs m rfl; exact map_free MB.out.block
        have hv := FV.of_row RB (Pg.fill_len HL.out.2) (Pg.fill_lt HL.out.1)
        have hP1 : Pgr vA G { a with pool := Pl.alloc a.pool a.hz } := HP.out.pooled (b := { a with pool := Pl.alloc a.pool a.hz }) oA PA rfl rfl rfl rfl (pool_ok HP.out.ok)
        obtain ⟨us, hu⟩ := Fm.put (m := ins a.l no (Pg.fill pay)) (MB.out.says.off hof hfree) MC (hv.off hof hfree) (ins_rises MB.out.says.rl (look_none.1 HN.out)) (look_ins MB.out.says.rl (look_none.1 HN.out))
        exact Lib.hid ⟨(hP1.on bB).mapped (b := { a with pool := Pl.alloc a.pool a.hz, l := ins a.l no (Pg.fill pay) }) hof hu rfl rfl rfl rfl HK.out,
          ((oA.mono (S := G.own) (fun k hk => .inl (.inr (.inr (.inl hk))))).trans (Off.of_below bB)).trans' hof (fun k hk => .inl (.inr (.inl hk)))⟩
      clear HC RA KB MB SB SA MA HP HM HN HI HK HL HQ HF CF c4 cB hrC
      go_wp2
      go_ret2
      exact ⟨rfl, RS.out⟩

end Go.Proofs.Ytmcldkcmialfeaa.Pr
