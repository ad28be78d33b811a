/-
  The program's pager: the disk's write, Flush.
-/
import Derived.Test.YtmcldkcmialfeaaPrList
namespace Go.Proofs.Ytmcldkcmialfeaa.Pr
open Go.RowKit
set_option linter.unusedVariables false

/-- A page's frame is written. -/
def dwrite (d : Dk.Pd) (no : Nat) (b : List Nat) : Dk.Pd := Dk.write d (no : Int) (Pg.page no b)
def dwriteCode (d : Dk.Pd) (no : Nat) (b : List Nat) : Int := Dk.writeCode d (no : Int) (Pg.page no b)

set_option maxRecDepth 100000 in
theorem dwrite_any (w : World) (H : Hd) (d : Dk.Pd) (no : Nat) (A : Option Addr) (n c : Nat) (b : List Nat) (h : Dsk w H d) (hb : Bs w A n c b) (hno : no ≤ 2147483647) (hn : n ≤ 1016) (hw : d.waits.length < 100000) :
    Calls Try.prog 38 #[.agg #[.pointer (some ⟨H.p, 0, none⟩)], .int .i64 (no : Int), .slice A n c] w fun e w' => ∃ H', e = .returned (.int .i64 (dwriteCode d no b)) ∧ Dsk w' H' (dwrite d no b) ∧ Step w H w' H' := by
  unfold dwriteCode dwrite
  have B1 : Below w.heap.size w (w.alloc (.cells #[.pointer (some ⟨H.p, 0, none⟩)] 67)) := (Below.refl _ w).alloc (Nat.le_refl _) _
  have C := frame_any (w.alloc (.cells #[.pointer (some ⟨H.p, 0, none⟩)] 67)) no A n c b (hb.on B1) hno hn
  have HD := Lib.hid h
  have HB := Lib.hid B1
  have HW := Lib.hid hw
  have HL := Lib.hid (And.intro (Pg.page_len no (show b.length ≤ 1016 by rw [hb.1]; exact hn)) (Pg.page_lt no hb.2.2.2.1))
  clear hb
  generalize Pg.page no b = l at C HL ⊢
  have hsz : (w.alloc (.cells #[.pointer (some ⟨H.p, 0, none⟩)] 67)).heap.size = w.heap.size + 1 := by simp
  rw [hsz] at C
  have C := Lib.hid C
  have c0 : (w.alloc (.cells #[.pointer (some ⟨H.p, 0, none⟩)] 67)).cell? ⟨w.heap.size, 0, none⟩ = some (.pointer (some ⟨H.p, 0, none⟩)) := cell_of_row _ _ 0 _ _ (0, 0) (heap_alloc_new w _)
  have hlt : w.heap.size < (w.alloc (.cells #[.pointer (some ⟨H.p, 0, none⟩)] 67)).heap.size := by simp
  have HC0 := Lib.hid (And.intro c0 hlt)
  clear h hw hno hn B1 c0 hlt hsz
  go_enter Try.func38, Try.ntmps38
  go_wp2_with fail
  refine C.out.mono ?_
  rintro e w1 ⟨rfl, R1, B1⟩
  have c1 : w1.cell? ⟨w.heap.size, 0, none⟩ = some (.pointer (some ⟨H.p, 0, none⟩)) := (B1.cell (by simp)).trans HC0.out.1
  have hB := onto HB.out (by simpa using B1)
  have C2 := Lib.hid (write_any w1 H d (no : Int) 1024 1024 _ l (HD.out.on hB) (R1.bs' HL.out.2 HL.out.1 (by omega)) HW.out)
  have HB2 := Lib.hid hB
  clear R1 B1 hB C HB HD HW HC0
  go_wp2_with fail
  refine C2.out.mono ?_
  rintro e w2 ⟨H', rfl, D2, S2⟩
  have RS := Lib.hid (And.intro D2 ((Step.of_below HB2.out).trans S2))
  clear D2 S2 C2 HB2 c1
  go_wp2
  go_ret
  exact ⟨H', rfl, RS.out⟩

theorem dwrite_on (w : World) (H : Hd) (d : Dk.Pd) (no : Nat) (A : Option Addr) (n c : Nat) (b : List Nat) (h : Dsk w H d) (hb : Bs w A n c b) (hno : no ≤ 2147483647) (hn : n ≤ 1016) (hw : d.waits.length < 100000) (W : World) (bW : Below w.heap.size w W) :
    Calls Try.prog 38 #[.agg #[.pointer (some ⟨H.p, 0, none⟩)], .int .i64 (no : Int), .slice A n c] W fun e w' => ∃ H', e = .returned (.int .i64 (dwriteCode d no b)) ∧ Dsk w' H' (dwrite d no b) ∧ Step w H w' H' := by
  refine (dwrite_any W H d no A n c b (h.on bW) (hb.on bW) hno hn hw).mono ?_
  rintro e w' ⟨H', rfl, hD, hS⟩
  exact ⟨H', rfl, hD, (Step.of_below bW).trans hS⟩

/-- A disk behind the first fresh pages' writes, one after the other, till one fails. -/
def flushTo : Dk.Pd → List (F (List Nat)) → Dk.Pd × Int
  | d, [] => (d, 0)
  | d, f :: l => if dwriteCode d f.1.toNat f.2 = 0 then flushTo (dwrite d f.1.toNat f.2) l else (dwrite d f.1.toNat f.2, dwriteCode d f.1.toNat f.2)
def flush (a : Pa) : Pa := { a with disk := (flushTo a.disk a.l).1 }
def flushCode (a : Pa) : Int := (flushTo a.disk a.l).2

theorem dwrite_pages (d : Dk.Pd) (no : Nat) (b : List Nat) : (dwrite d no b).pages = d.pages := by
  unfold dwrite Dk.write
  split
  · split
    · rfl
    · rw [Dk.act_pages]; rfl
  · rfl
theorem dwrite_waits (d : Dk.Pd) (no : Nat) (b : List Nat) : (dwrite d no b).waits.length ≤ d.waits.length + 1 := by
  unfold dwrite Dk.write
  split
  · split
    · omega
    · rw [Dk.act_waits]; simp [Dk.push]
  · omega
theorem flushTo_step {d : Dk.Pd} {l : List (F (List Nat))} {k : Nat} {f : F (List Nat)} (hf : l[k]? = some f) :
    flushTo d (l.drop k) = if dwriteCode d f.1.toNat f.2 = 0 then flushTo (dwrite d f.1.toNat f.2) (l.drop (k + 1)) else (dwrite d f.1.toNat f.2, dwriteCode d f.1.toNat f.2) := by
  obtain ⟨hk, e⟩ := List.getElem?_eq_some_iff.1 hf
  rw [List.drop_eq_getElem_cons hk, e]; rfl
theorem disk_ok {a : Pa} (h : Ok a) (d : Dk.Pd) : Ok { a with disk := d } := ⟨h.pool, h.rises, h.ins, h.says, h.gen, h.hz⟩
/-- A pager's own stays, but for the disk's that may grow. -/
structure Stay (w : World) (G : Gh) (w' : World) (G' : Gh) : Prop where
  x : G'.x = G.x
  fb : G'.fb = G.fb
  pp : G'.pp = G.pp
  pm : G'.pm = G.pm
  p : G'.H.p = G.H.p
  own : ∀ k, G'.own k → G.own k ∨ w.heap.size ≤ k
  off : Off G.own w w'
theorem Stay.refl (w : World) (G : Gh) : Stay w G w G := ⟨rfl, rfl, rfl, rfl, rfl, fun _ => .inl, Off.refl _ _⟩
theorem Stay.of_off {w w' : World} {G : Gh} (h : Off G.own w w') : Stay w G w' G := ⟨rfl, rfl, rfl, rfl, rfl, fun _ => .inl, h⟩
theorem Stay.trans {w w1 w2 : World} {G G1 G2 : Gh} (h : Stay w G w1 G1) (h2 : Stay w1 G1 w2 G2) : Stay w G w2 G2 :=
  ⟨h2.x.trans h.x, h2.fb.trans h.fb, h2.pp.trans h.pp, h2.pm.trans h.pm, h2.p.trans h.p, fun k hk => by
    rcases h2.own k hk with a | a
    · exact h.own k a
    · exact .inr (Nat.le_trans h.off.size a), h.off.trans' h2.off h.own⟩
/-- The disk alone has changed. -/
theorem Pgr.disked {w w1 : World} {G : Gh} {a : Pa} {H' : Hd} {d : Dk.Pd} (h : Pgr w G a) (hD : Dsk w1 H' d) (hs : Step w G.H w1 H') : Pgr w1 { G with H := H' } { a with disk := d } ∧ Stay w G w1 { G with H := H' } := by
  have hfree : Free G.H.own w := h.disk.free
  obtain ⟨vs, hv⟩ := h.fresh
  have hmb : ∀ b, (∃ es c, w.heap[b]? = some (.map es c)) → ¬ G.H.own b → b ≠ H'.mb := by
    intro b hb hn e
    rcases hs.own H'.mb (.inr (.inl rfl)) with a | a
    · exact hn (e ▸ a)
    · obtain ⟨es, c, hb⟩ := hb
      have := (Array.getElem?_eq_some_iff.1 hb).1
      omega
  refine ⟨⟨?_, ⟨vs, ?_⟩, ?_, hD, h.fp, ?_, ?_, disk_ok h.ok d⟩, rfl, rfl, rfl, rfl, hs.same, ?_, hs.off.mono fun k hk => .inl (.inr (.inr (.inr hk)))⟩
  · have := hs.off.at_ h.str h.x_own.2.2
    unfold Str
    rw [hs.same]
    exact this
  · exact hv.off hs.off hfree h.fb_own.2
  · exact h.pool.off hs.off fun k hk => h.pool_own hk
  · exact hmb _ hv.block h.fb_own.2
  · exact hmb _ h.pool.map.block (h.pool_own (.inr rfl))
  · rintro k (hk | hk | hk | hk)
    · exact .inl (.inl hk)
    · exact .inl (.inr (.inl hk))
    · exact .inl (.inr (.inr (.inl hk)))
    · rcases hs.own k hk with a | a
      · exact .inl (.inr (.inr (.inr a)))
      · exact .inr a

set_option maxRecDepth 100000 in
set_option maxHeartbeats 1000000 in
theorem flush_any (w : World) (G : Gh) (a : Pa) (h : Pgr w G a) (hw : a.disk.waits.length < 90000) :
    Calls Try.prog 20 #[.pointer (some ⟨G.x, 0, none⟩)] w fun e w' => ∃ G', e = .returned (.int .i64 (flushCode a)) ∧ Pgr w' G' (flush a) ∧ Stay w G w' G' := by
  have C := Lib.hid (fresh_any w G a h)
  have HP := Lib.hid h
  have HW := Lib.hid hw
  have hfew := few h.ok
  clear h hw
  go_enter Try.func20, Try.ntmps20
  go_wp2_with fail
  refine C.out.mono ?_
  rintro e w1 ⟨sv, rfl, hS, hB⟩
  have hP1 := HP.out.on hB
  have HS := Lib.hid hS
  have HB := Lib.hid hB
  have HP1 := Lib.hid hP1
  obtain ⟨A, c, rfl, hnc, hcm⟩ := own_form hS
  unfold maxLen at hcm
  generalize hn : a.l.length = n at *
  have HN := Lib.hid hn
  clear hS hB hP1 C hn
  go_wp2_with fail
  go_loopw [9] (fun i wr => ∃ (k : Nat) (G' : Gh) (d : Dk.Pd), k ≤ n ∧ i = .int .i64 (k : Int) ∧ Pgr wr G' { a with disk := d } ∧ Stay w1 G wr G' ∧ flushTo a.disk a.l = flushTo d (a.l.drop k) ∧ d.waits.length ≤ a.disk.waits.length + k ∧
      wr.ownsRow w.heap.size 3 1 (.slice A n c) n (kc a.l) ∧ ∀ g, (Value.slice A n c).ownBlock = some g → ¬ G'.own g) (fun i _ => n - (intOf i).toNat)
  case atStart => exact ⟨0, G, a.disk, Nat.zero_le _, rfl, HP1.out, Stay.refl _ _, by rw [List.drop_zero], by omega, HS.out, fun g hg hk => by
    have h1 := HP.out.lt hk
    have h2 := (HS.out.lt g hg).1
    omega⟩
  case round =>
    obtain ⟨k, G', d, hk, rfl, hP, hSt, hF, hwl, hR, hnw⟩ := hrel
    by_cases hlt : k < n
    · have z1 : (k : Int) < (n : Int) := by omega
      have hkl : k < a.l.length := by rw [HN.out]; exact hlt
      have hx : a.l[k]? = some a.l[k] := List.getElem?_eq_getElem hkl
      generalize a.l[k] = f at hx
      have hfm := List.mem_of_getElem? hx
      have hin := HP.out.ok.ins f hfm
      have hsy := HP.out.ok.says f hfm
      have hi64 := i64 HP.out.ok hfm
      have hph := HP.out.ok.pool.high
      have hpc := HP.out.ok.pool.cap
      obtain ⟨m, hm⟩ : ∃ m : Nat, f.1 = (m : Int) := ⟨f.1.toNat, by omega⟩
      have hst := flushTo_step (d := d) hx
      rw [hm, Int.toNat_natCast] at hst
      obtain ⟨vs, hv⟩ := hP.fresh
      have hlk : look a.l f.1 = some f.2 := (look_iff HP.out.ok.rises).2 hfm
      obtain ⟨u, hu, hF2⟩ := hv.says.some_ _ _ hlk
      have hrun := (hv.on (Below.refl _ wr).drew).run_at hi64 hu
      obtain ⟨gu, cu, rfl, hbu, _⟩ := hF2.form
      have C2 := dwrite_on wr G'.H d m _ _ _ f.2 hP.disk hbu (by omega) (by omega) (by have := HW.out; omega)
      have cS : ∃ g, A = some ⟨g, 0, none⟩ ∧ wr.cell? ⟨g, k, none⟩ = some (.int .i64 (m : Int)) := by
        rcases hR.2 with ⟨_, h0⟩ | ⟨g, cap, cur, hv, _, _⟩
        · omega
        · injection hv with h1 _ h3
          subst h1 h3
          refine ⟨g, rfl, ?_⟩
          rw [hR.cellAt k (by omega), kc, List.getElem?_map, hx, ← hm]; rfl
      obtain ⟨g, rfl, cS⟩ := cS
      rw [hm] at hrun
      have c0 := hP.str.c0
      have c4 := hP.str.c4
      rw [hSt.x] at c0 c4
      rw [hSt.p] at c0 C2
      rw [hSt.fb] at c4 hrun
      have C2 := Lib.hid C2
      have HX := Lib.hid (And.intro hP (And.intro hSt (And.intro hF (And.intro hwl (And.intro hR (And.intro hnw hst))))))
      have HI := Lib.hid (And.intro hx (And.intro hfm hm))
      clear hP hSt hF hwl hR hnw hst hx hfm hin hsy hi64 hv hlk hu hF2 hbu hm
      by_cases hc : dwriteCode d m f.2 = 0
      · rw [hc] at C2
        have HC := Lib.hid hc
        clear hc
        go_wp2_with fail
        go_region_law (first
          | (go_simp; go_at_call 38; refine (C2.out _ (by first | exact below_drewN (Below.refl _ _) _ | exact (Below.refl _ _).drew | exact Below.refl _ _)).mono ?_; rintro e wB ⟨H', rfl, DB, SB⟩; have HB2 := Lib.hid (And.intro DB SB); clear DB SB))
        all_goals
          go_wp2
          obtain ⟨hP, hSt, hF, hwl, hR, hnw, hst⟩ := HX.out
          obtain ⟨DB, SB⟩ := HB2.out
          rw [if_pos HC.out] at hst
          obtain ⟨hP2, hSt2⟩ := hP.disked DB SB
          go_roundw
          case rel => exact ⟨k + 1, _, _, by omega, by go_num, hP2, hSt.trans hSt2, hF.trans hst, by have := dwrite_waits d m f.2; omega, SB.off.own hR (fun g' hg' hk => hnw g' hg' (.inr (.inr (.inr hk)))), fun g' hg' hk => by
            rcases hSt2.own g' hk with h1 | h1
            · exact hnw g' hg' h1
            · have := (hR.lt g' hg').2; omega⟩
          case measure => simp [intOf]; omega
      · have hcn : (dwriteCode d m f.2 != 0) = true := by simpa using hc
        have hcn' : (dwriteCode d m f.2 == 0) = false := by simpa using hc
        have HC := Lib.hid hc
        clear hc
        go_wp2_with fail
        go_region_law (first
          | (go_simp; go_at_call 38; refine (C2.out _ (by first | exact below_drewN (Below.refl _ _) _ | exact (Below.refl _ _).drew | exact Below.refl _ _)).mono ?_; rintro e wB ⟨H', rfl, DB, SB⟩; have HB2 := Lib.hid (And.intro DB SB); clear DB SB))
        all_goals
          have RS : Hid (flushCode a = dwriteCode d m f.2 ∧ ∃ G2, Pgr wB G2 (flush a) ∧ Stay w G wB G2) := by
            obtain ⟨hP, hSt, hF, hwl, hR, hnw, hst⟩ := HX.out
            obtain ⟨DB, SB⟩ := HB2.out
            rw [if_neg HC.out] at hst
            obtain ⟨hP2, hSt2⟩ := hP.disked DB SB
            have he := hF.trans hst
            have e2 : flush a = { a with disk := dwrite d m f.2 } := by unfold flush; rw [he]
            exact Lib.hid ⟨by unfold flushCode; rw [he], _, e2 ▸ hP2, (Stay.of_off (Off.of_below HB.out)).trans (hSt.trans hSt2)⟩
          clear HX HB2 HC HI C2 c0 c4 hrun cS
          go_wp2
          go_ret
          obtain ⟨hc, G2, h1, h2⟩ := RS.out
          rw [hc]
          exact ⟨G2, rfl, h1, h2⟩
    · have z1 : ¬ (k : Int) < (n : Int) := by omega
      have hkn : k = n := by omega
      have he : flushTo a.disk a.l = (d, 0) := by rw [hF, List.drop_eq_nil_of_le (by rw [HN.out]; omega)]; rfl
      have hc : flushCode a = 0 := by unfold flushCode; rw [he]
      have hfl : flush a = { a with disk := d } := by unfold flush; rw [he]
      have RS := Lib.hid (And.intro hc (And.intro hfl (And.intro hP hSt)))
      clear hP hSt hF hwl hR hnw he hc hfl
      go_wp2
      go_ret
      obtain ⟨hc, hfl, hP, hSt⟩ := RS.out
      rw [hc, hfl]
      exact ⟨rfl, G', hP, (Stay.of_off (Off.of_below HB.out)).trans hSt⟩

end Go.Proofs.Ytmcldkcmialfeaa.Pr
