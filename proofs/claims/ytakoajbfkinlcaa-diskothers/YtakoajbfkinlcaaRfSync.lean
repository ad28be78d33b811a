/-
  The document's disk: Sync, and a torn page.
-/
import Derived.Test.YtakoajbfkinlcaaRfNew
namespace Go.Proofs.Ytakoajbfkinlcaa
open Go.RowKit
set_option linter.unusedVariables false

structure Rmid (w0 w : World) (G : Gd) (ps : List (List Nat)) : Prop where
  off : Off (fun k => G.sv.ownBlock = some k) w0 w
  safe : ∃ vs, Sq w G.sv ps vs
section
variable {w0 w : World} {G : Gd} {d : Dk.Pd} {ps : List (List Nat)}
theorem Rfd.sv_free (h : Rfd w0 G d) : Free (fun k => G.sv.ownBlock = some k) w0 := fun k cs m hk => h.free k cs m (.inr (.inl hk))
theorem Rfd.mid (h : Rfd w0 G d) : Rmid w0 w0 G d.pages := ⟨Off.refl _ _, h.safe⟩
theorem Rmid.str (h : Rmid w0 w G ps) (hd : Rfd w0 G d) : w.heap[G.q]? = some (.cells #[G.sv, G.wv, .int .i64 (d.left : Int), .bool d.down] 42 (0, 0)) :=
  h.off.at_ hd.str fun hk => hd.q_sv hk rfl
theorem Rmid.waits (h : Rmid w0 w G ps) (hd : Rfd w0 G d) : ∃ xs, Ws w 66 G.wv d.waits xs := by
  obtain ⟨xs, hx⟩ := hd.waits
  exact ⟨xs, hx.off h.off hd.sv_free fun k hk hk' => hd.sv_wv hk' hk⟩
theorem Rmid.lt (h : Rmid w0 w G ps) (hd : Rfd w0 G d) {k : Nat} (hk : G.own k) : k < w.heap.size := Nat.lt_of_lt_of_le (hd.lt hk) h.off.size
theorem Rmid.below {w1 : World} (h : Rmid w0 w G ps) (hb : Below w.heap.size w w1) : Rmid w0 w1 G ps := by
  obtain ⟨vs, hs⟩ := h.safe
  exact ⟨h.off.trans (Off.of_below hb), vs, hs.on hb⟩
theorem Rmid.put {g n c : Nat} (h : Rmid w0 w G ps) (hv : G.sv = .slice (some ⟨g, 0, none⟩) n c) (k : Nat) {u : Value} {l : List Nat} (hu : PgV w u l) : Rmid w0 (w.setCell ⟨g, k, none⟩ u) G (ps.set k l) := by
  obtain ⟨vs, hs⟩ := h.safe
  refine ⟨h.off.set _ (by rw [hv]; rfl), vs.set k u, ?_⟩
  rw [hv] at hs ⊢
  exact hs.put k hu
/-- All that waited is forgotten, and the numbers are written. -/
theorem Rmid.done {w1 : World} {e : Dk.Pd} (h : Rmid w0 w G ps) (hd : Rfd w0 G d) (ho : Off (fun k => k = G.q) w w1) (hs1 : w1.heap[G.q]? = some (.cells #[G.sv, .slice none 0 0, .int .i64 (e.left : Int), .bool e.down] 42 (0, 0)))
    (hp : e.pages = ps) (hw : e.waits = []) (hl : e.left < 9223372036854775808) (hf : ps.length ≤ 2048) : Rfd w1 ⟨G.q, G.sv, .slice none 0 0⟩ e ∧ Rtep w0 G w1 ⟨G.q, G.sv, .slice none 0 0⟩ := by
  obtain ⟨vs, hs⟩ := h.safe
  have hst := h.str hd
  have hfree : Free (fun k => k = G.q) w := by
    intro k cs m hk hh
    subst hk
    rw [hst] at hh; simp at hh
  refine ⟨⟨hs1, ⟨vs, ?_⟩, ⟨[], by rw [hw]; exact World.ownsRow_nil _ _ _ _, by rw [hw]; exact Along.nil_⟩, by rw [hw]; exact fun x hx => absurd hx List.not_mem_nil, by rw [hp]; exact hf, hl⟩, ?_⟩
  · rw [hp]; exact hs.off ho hfree fun k hk => hd.q_sv hk
  · refine ⟨(h.off.mono fun j hj => .inl (.inr (.inl hj))).trans (ho.mono fun j hj => .inl (.inl hj)), rfl, fun j hj => ?_⟩
    rcases hj with hj | hj | hj
    · exact .inl (.inl hj)
    · exact .inl (.inr (.inl hj))
    · cases hj
end

set_option maxRecDepth 100000 in
set_option maxHeartbeats 1000000 in
theorem rsync_go (w : World) (G : Gd) (d : Dk.Pd) (h : Rfd w G d) (hd : d.down = false) (hd1 : (Dk.act d).down = false) (hm : d.waits.length < 1000) :
    Calls Try.prog 16 #[.pointer (some ⟨G.q, 0, none⟩)] w fun e w' => ∃ G', e = .returned (.int .i64 0) ∧ Rfd w' G' (Dk.settled (Dk.act d)) ∧ Rtep w G w' G' := by
  have c3 := h.c3
  rw [hd] at c3
  have C := Lib.hid (goes_any w G d h hd)
  rw [hd1] at C
  have hm1 : (Dk.act d).waits.length < 1000 := by rw [Dk.act_waits]; exact hm
  generalize Dk.act d = d1 at *
  go_enter Try.func16, Try.ntmps16
  go_wp2_with fail
  refine C.out.mono ?_
  rintro e w1 ⟨rfl, h1, o1⟩
  have S1 := Lib.hid (Rtep.of_q (G := G) o1)
  clear hd hd1 h c3 o1 hm C
  obtain ⟨xs, hx⟩ := h1.waits
  obtain ⟨A, c, hwv, hwc, hwm⟩ := hx.form
  unfold maxLen at hwm
  have HW := Lib.hid hwv
  have HD := Lib.hid h1
  clear hx hwv h1
  go_wp2_with fail
  go_loopw [3] (fun i wr => ∃ k : Nat, k ≤ d1.waits.length ∧ i = .int .i64 (k : Int) ∧ Rmid w1 wr G (Dk.stTo d1 k)) (fun i _ => d1.waits.length - (intOf i).toNat)
  case atStart => exact ⟨0, Nat.zero_le _, rfl, HD.out.mid⟩
  case round =>
    obtain ⟨k, hk, rfl, hM⟩ := hrel
    have hst := hM.str HD.out
    have c1 := cell_of_row wr _ 1 _ _ (0, 0) hst
    have c0 := cell_of_row wr _ 0 _ _ (0, 0) hst
    simp at c1 c0
    rw [HW.out] at c1
    by_cases hlt : k < d1.waits.length
    · obtain ⟨xs, hx⟩ := hM.waits HD.out
      obtain ⟨g, c', no, u, l, hv, hc', hw, hu, cn, cu⟩ := hx.get hlt
      rw [HW.out] at hv
      injection hv with hv _ hv2
      subst hv hv2
      obtain ⟨gu, ku, rfl, _, _, _⟩ := hu.form
      have hno : no < d1.pages.length := HD.out.ins _ (List.mem_of_getElem? hw)
      obtain ⟨vs, hs⟩ := hM.safe
      have hno' : no < (Dk.stTo d1 k).length := by rw [Dk.stTo_len]; exact hno
      obtain ⟨gs, cs, us, ls, hsv, hcs, _, _, cus⟩ := hs.get hno'
      rw [Dk.stTo_len] at hsv hcs
      rw [hsv] at c0
      have hsf : wr.frozen? ⟨gs, no, none⟩ = false := by rw [hsv] at hs; exact hs.row.frozen no
      have hN := (hM.put hsv no hu).below (Below.refl _ _).drew
      rw [← Dk.st_step hw] at hN
      have HN := Lib.hid hN
      have z1 : (no : Int) < (d1.pages.length : Int) := by omega
      have z2 : (k : Int) < (d1.waits.length : Int) := by omega
      clear hx hs hN hw hM hst
      go_wp2_with fail
      go_region
      go_wp2
      go_roundw
      case rel => exact ⟨k + 1, by omega, by go_num, HN.out⟩
      case measure => simp [intOf]; omega
    · have hk' : k = d1.waits.length := by omega
      have hf : ¬ ((k : Int) < (d1.waits.length : Int)) := by omega
      have f1 := frozen_of_row wr G.q 1 _ _ hst
      have hD := hM.done (e := { d1 with pages := Dk.stTo d1 k, waits := [] }) HD.out ((Off.refl (fun k => k = G.q) wr).set (i := 1) (.slice none 0 0) rfl) (rstr_set hst (.slice none 0 0)).2.1 rfl rfl HD.out.low (by rw [Dk.stTo_len]; exact HD.out.few)
      rw [hk'] at hD
      have HF := Lib.hid hD
      clear hM hlt hk' hst hD
      go_wp2
      go_ret
      first | exact ⟨_, rfl, HF.out.1, S1.out.trans HF.out.2⟩ | exact ⟨rfl, _, HF.out.1, S1.out.trans HF.out.2⟩

theorem rsync_off (w : World) (G : Gd) (d : Dk.Pd) (h : Rfd w G d) (hd : d.down = true) :
    Calls Try.prog 16 #[.pointer (some ⟨G.q, 0, none⟩)] w fun e w' => e = .returned (.int .i64 3) ∧ w = w' := by
  have c3 := h.c3
  rw [hd] at c3
  clear h
  go_enter Try.func16, Try.ntmps16
  go_wp2
  go_ret
  exact ⟨rfl, rfl⟩
theorem rsync_goes (w : World) (G : Gd) (d : Dk.Pd) (h : Rfd w G d) (hd : d.down = false) (hd1 : (Dk.act d).down = true) :
    Calls Try.prog 16 #[.pointer (some ⟨G.q, 0, none⟩)] w fun e w' => e = .returned (.int .i64 3) ∧ Rfd w' G (Dk.act d) ∧ Off (fun k => k = G.q) w w' := by
  have c3 := h.c3
  rw [hd] at c3
  have C := Lib.hid (goes_any w G d h hd)
  rw [hd1] at C
  clear h
  go_enter Try.func16, Try.ntmps16
  go_wp2_with fail
  refine C.out.mono ?_
  rintro e w1 ⟨rfl, h1, o1⟩
  go_wp2
  go_ret
  exact ⟨rfl, h1, o1⟩
/-- The document's Sync, whatever the disk. -/
theorem rsync_any (w : World) (G : Gd) (d : Dk.Pd) (h : Rfd w G d) (hm : d.waits.length < 1000) :
    Calls Try.prog 16 #[.pointer (some ⟨G.q, 0, none⟩)] w fun e w' => ∃ G', e = .returned (.int .i64 (Dk.syncCode d)) ∧ Rfd w' G' (Dk.sync d) ∧ Rtep w G w' G' := by
  cases hd : d.down with
  | true =>
    have e1 : Dk.syncCode d = 3 := by unfold Dk.syncCode; rw [hd]; rfl
    have e2 : Dk.sync d = d := by unfold Dk.sync; rw [hd]; rfl
    rw [e1, e2]
    refine (rsync_off w G d h hd).mono ?_
    rintro e w' ⟨rfl, rfl⟩
    exact ⟨G, rfl, h, Rtep.refl _ _⟩
  | false =>
    cases hd1 : (Dk.act d).down with
    | true =>
      have e1 : Dk.syncCode d = 3 := by unfold Dk.syncCode; rw [hd, hd1]; rfl
      have e2 : Dk.sync d = Dk.act d := by unfold Dk.sync; rw [hd, hd1]; rfl
      rw [e1, e2]
      refine (rsync_goes w G d h hd hd1).mono ?_
      rintro e w' ⟨rfl, h1, o1⟩
      exact ⟨G, rfl, h1, Rtep.of_q o1⟩
    | false =>
      have e1 : Dk.syncCode d = 0 := by unfold Dk.syncCode; rw [hd, hd1]; rfl
      have e2 : Dk.sync d = Dk.settled (Dk.act d) := by unfold Dk.sync; rw [hd, hd1]; rfl
      rw [e1, e2]
      exact rsync_go w G d h hd hd1 hm

set_option maxRecDepth 100000 in
theorem sub_all : ∀ x : Fin 256, 255 - x.1 = x.1 ^^^ 255 := by decide
theorem own_base {w : World} {base e size n : Nat} {v : Value} {xs : List Value} (h : w.ownsRow base e size v n xs) : w.ownsRow 0 e size v n xs := by
  refine ⟨h.1, ?_⟩
  rcases h.2 with h0 | ⟨g, cap, cur, hv, _, hr⟩
  · exact .inl h0
  · exact .inr ⟨g, cap, cur, hv, Nat.zero_le _, hr⟩
/-- What is asked of a page's last byte. -/
theorem torn_facts {w w5 : World} {g k : Nat} {l : List Nat} (O5 : w5.ownsRow w.heap.size 5 1 (.slice (some ⟨g, 0, none⟩) 1024 k) 1024 (bv l)) (hl : l.length = 1024) (hlt : ∀ x ∈ l, x < 256) (b5 : Below w.heap.size w w5) :
    ∃ x : Nat, x < 256 ∧ w5.cell? ⟨g, 1023, none⟩ = some (.int .u8 (x : Int)) ∧ w5.frozen? ⟨g, 1023, none⟩ = false ∧ IntKind.u8.wrap (255 - (x : Int)) = ((x ^^^ 255 : Nat) : Int) ∧
      (PgV (w5.setCell ⟨g, 1023, none⟩ (.int .u8 ((x ^^^ 255 : Nat) : Int))) (.slice (some ⟨g, 0, none⟩) 1024 k) (Pg.torn l) ∧ Below w.heap.size w (w5.setCell ⟨g, 1023, none⟩ (.int .u8 ((x ^^^ 255 : Nat) : Int)))) := by
  have hx : (bv l)[1023]? = some (.int .u8 (l.getD 1023 0 : Int)) := by
    simp [bv, List.getD_eq_getElem?_getD, List.getElem?_eq_getElem (show 1023 < l.length by omega)]
  have hx256 : l.getD 1023 0 < 256 := by
    rw [List.getD_eq_getElem?_getD, List.getElem?_eq_getElem (by omega)]; exact hlt _ (List.getElem_mem _)
  have hT := torn_row l (by omega)
  rw [hl] at hT
  have hS := O5.stored 1023 (.int .u8 ((l.getD 1023 0 ^^^ 255 : Nat) : Int))
  rw [show (1023 : Nat) = 1024 - 1 from rfl, hT] at hS
  refine ⟨l.getD 1023 0, hx256, (O5.cellAt 1023 (by omega)).trans hx, O5.frozenAt 1023, ?_, ⟨by rw [Pg.torn_len]; exact hl, Pg.torn_lt hlt, own_base hS.1⟩, ?_⟩
  · rw [← sub_all ⟨_, hx256⟩]
    rw [IntWalk.u8_in _ ⟨by omega, by omega⟩]
    show _ = ((255 - l.getD 1023 0 : Nat) : Int)
    omega
  · exact b5.grown hS.2 b5.size (fun j hj => by injection hj with hj; subst hj; exact (O5.lt g rfl).1)

set_option maxRecDepth 100000 in
theorem rtorn_any (w : World) (A : Option Addr) (c : Nat) (l : List Nat) (hb : Bs w A 1024 c l) :
    Calls Try.prog 36 #[.slice A 1024 c] w fun e w' => ∃ g k, e = .returned (.slice (some ⟨g, 0, none⟩) 1024 k) ∧ PgV w' (.slice (some ⟨g, 0, none⟩) 1024 k) (Pg.torn l) ∧ Below w.heap.size w w' := by
  obtain ⟨b0, bi, bz0, bz1, bz2⟩ := info_parts Try.info5
  have hl := hb.1
  have hlt := hb.2.2.2.1
  have O4 := Lib.hid (World.ownsRow_made (base := w.heap.size) (e := 5) (size := 1) w #[] 0 (Nat.le_refl _) (Nat.zero_le _) rfl)
  have S4 := Lib.hid (hb.alloc (.cells #[] 5))
  have B4 : Below w.heap.size w (w.alloc (.cells #[] 5)) := (Below.refl _ _).alloc (Nat.le_refl _) _
  have HL := Lib.hid hl
  have HT := Lib.hid hlt
  clear hb hl hlt
  go_enter Try.func36, Try.ntmps36
  go_wp2_with (at_builtin; refine wpList_append_bs _ rfl _ _ 34 rfl w.heap.size 5 b0 (.int .u8 0) Try.underlying34 bi bz0 bz1 bz2 rfl _ _ _ rfl O4.out _ _ _ _ rfl S4.out (by omega) (by simp) ?_; intro v5 w5 O5 g5; have b5 : Below w.heap.size w w5 := below_own B4 O4.out g5 (by simp) (Nat.le_refl _); have P5 : PgV w5 v5 l := ⟨HL.out, HT.out, own_base (by simpa using O5)⟩; rw [Nat.zero_add, List.nil_append] at O5; obtain ⟨g, k, rfl, _, _, _⟩ := P5.form; have Q5 := Lib.hid (torn_facts O5 HL.out HT.out b5); obtain ⟨x, hx, cx, fx, ex, hD⟩ := Q5.out; have HDD := Lib.hid hD; clear hD Q5 P5 O5 g5)
  go_ret
  exact ⟨g, k, rfl, HDD.out.1, HDD.out.2⟩

end Go.Proofs.Ytakoajbfkinlcaa
