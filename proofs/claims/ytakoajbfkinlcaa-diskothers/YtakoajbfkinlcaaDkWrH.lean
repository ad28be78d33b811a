/-
  The document's Write once more: what is handed in may be written over.
-/
import Derived.Test.YtakoajbfkinlcaaDkWrG
import Derived.Test.YtakoajbfkinlcaaRfSync
namespace Go.Proofs.Ytakoajbfkinlcaa
open Go.RowKit
set_option linter.unusedVariables false

theorem rpush_doneG {T : Nat → Prop} {wo w w2 w3 : World} {G : Gd} {d : Dk.Pd} {no g cap : Nat} {l : List Nat} {u : Value} {xs : List (Nat × Value)} {o : Obj} (ho0 : Rfd wo G d) (hOT : Off T wo w) (hFT : Free T wo) (hTT : ∀ k, G.own k → ¬ T k) (hxo : Ws wo 66 G.wv d.waits xs) (hnew : ∀ k, u.ownBlock = some k → w.heap.size ≤ k) (hno : no < d.pages.length) (B2 : Below w.heap.size w w2) (P2 : PgV w2 u l)
    (O4 : w3.ownsRow 0 66 2 (.slice (some ⟨g, 0, none⟩) (d.waits.length + 1) cap) (d.waits.length + 1) (wc xs ++ [.int .i64 (no : Int), u])) (g4 : (w2.alloc o).grownBy w3 G.wv.ownBlock) (hl4 : G.wv.ownBlock = some g ∨ g = (w2.alloc o).heap.size) :
    ∃ g', ∃ G', G'.q = G.q ∧ G' = ⟨G.q, G.sv, .slice (some ⟨g', 0, none⟩) (d.waits.length + 1) cap⟩ ∧ Rfd (w3.setCell ⟨G.q, 1, none⟩ (.slice (some ⟨g, 0, none⟩) (d.waits.length + 1) cap)) G' (Dk.push d no l) ∧ Rtep w G (w3.setCell ⟨G.q, 1, none⟩ (.slice (some ⟨g, 0, none⟩) (d.waits.length + 1) cap)) G' ∧ Off (fun k => (k = G.q ∨ G.wv.ownBlock = some k) ∨ T k) wo (w3.setCell ⟨G.q, 1, none⟩ (.slice (some ⟨g, 0, none⟩) (d.waits.length + 1) cap)) ∧ PgV (w3.setCell ⟨G.q, 1, none⟩ (.slice (some ⟨g, 0, none⟩) (d.waits.length + 1) cap)) u l ∧ (g' < wo.heap.size ∨ w.heap.size ≤ g') ∧ (w3.setCell ⟨G.q, 1, none⟩ (.slice (some ⟨g, 0, none⟩) (d.waits.length + 1) cap)).ownsRow 0 66 2 (.slice (some ⟨g', 0, none⟩) (d.waits.length + 1) cap) (d.waits.length + 1) (wc xs ++ [.int .i64 (no : Int), u]) := by
  have h := ho0.off hOT hFT hTT
  have hxs := hxo.off hOT hFT fun k hk => hTT k (.inr (.inr hk))
  have HS := rstr_kept h B2 _ g4
  have hoff : Off (fun k => k = G.q ∨ G.wv.ownBlock = some k) w (w3.setCell ⟨G.q, 1, none⟩ (.slice (some ⟨g, 0, none⟩) (d.waits.length + 1) cap)) :=
    (((Off.of_below B2).alloc _).trans (Off.of_grown g4 fun k hk => .inr hk)).set _ (.inl rfl)
  have hof2 : Off (fun k => k = G.q ∨ G.wv.ownBlock = some k) w2 (w3.setCell ⟨G.q, 1, none⟩ (.slice (some ⟨g, 0, none⟩) (d.waits.length + 1) cap)) :=
    (((Off.refl _ w2).alloc _).trans (Off.of_grown g4 fun k hk => .inr hk)).set _ (.inl rfl)
  have h2 := h.on B2
  have hu := P2.off hof2 (fun k cs m hk => h2.free k cs m (by rcases hk with a | a; exact .inl a; exact .inr (.inr a)))
  have hs4 := (rstr_set HS (.slice (some ⟨g, 0, none⟩) (d.waits.length + 1) cap)).2.1
  have hrow := ((Off.refl (fun k => k = G.q) w3).set (i := 1) (.slice (some ⟨g, 0, none⟩) (d.waits.length + 1) cap) rfl).own O4 (fun k hk e => by
    subst e
    obtain ⟨cs', hc⟩ := own_type O4 hk
    rw [HS] at hc; simp at hc)
  have hD := h.pushed (no := no) (l := l) hxs hno hoff hu hs4 hrow
  refine ⟨g, ⟨G.q, G.sv, .slice (some ⟨g, 0, none⟩) (d.waits.length + 1) cap⟩, rfl, rfl, hD, ⟨hoff.mono fun k hk => .inl (by rcases hk with a | a; exact .inl a; exact .inr (.inr a)), rfl, fun k hk => ?_⟩, (hOT.mono (S := fun k => (k = G.q ∨ G.wv.ownBlock = some k) ∨ T k) fun k hk => .inl (.inr hk)).trans' hoff fun k hk => .inl (.inl hk), hu, ?_, hrow⟩
  rotate_left
  · rcases hl4 with h3 | h3
    · exact .inl (own_lt hxo.own h3)
    · right; have := B2.size; simp at h3; omega
  rcases hk with hk | hk | hk
  · exact .inl (.inl hk)
  · exact .inl (.inr (.inl hk))
  · injection hk with hk
    subst hk
    rcases hl4 with h3 | h3
    · exact .inl (.inr (.inr h3))
    · right; show _ ≤ g; have := B2.size; simp at h3; omega

set_option maxRecDepth 100000 in
set_option maxHeartbeats 1000000 in
theorem rwrite_okG {T : Nat → Prop} (wo w : World) (G : Gd) (d : Dk.Pd) (no c : Nat) (A : Option Addr) (l : List Nat) (ho0 : Rfd wo G d) (hOT : Off T wo w) (hFT : Free T wo) (hTT : ∀ k, G.own k → ¬ T k) (hno : no < d.pages.length) (hb : Bs w A 1024 c l) (hd : d.down = false) (hm : d.waits.length < 1000) :
    Calls Try.prog 14 #[.pointer (some ⟨G.q, 0, none⟩), .int .i64 (no : Int), .slice A 1024 c] w fun e w' => ∃ G', e = .returned (.int .i64 (Dk.code (Dk.act (Dk.push d no l)))) ∧ Rfd w' G' (Dk.act (Dk.push d no l)) ∧ Rtep w G w' G' ∧ ∀ g0, wo.heap.size ≤ g0 → g0 < w.heap.size → RfdG w' G' (Dk.act (Dk.push d no l)) g0 := by
  have h := ho0.off hOT hFT hTT
  obtain ⟨i0, hi, hz0, hz1, hz2⟩ := info_parts Try.info66
  obtain ⟨b0, bi, bz0, bz1, bz2⟩ := info_parts Try.info5
  have hfew := h.few
  have hl := hb.1
  have hlt := hb.2.2.2.1
  have c0 := h.c0
  have c1 := h.c1
  have c3 := h.c3
  rw [hd] at c3
  obtain ⟨vs, hs⟩ := h.safe
  obtain ⟨As, cs, hsv, _, _⟩ := hs.row.form
  rw [hsv] at c0
  obtain ⟨xs, hxo⟩ := ho0.waits
  have hx := hxo.off hOT hFT fun k hk => hTT k (.inr (.inr hk))
  have HXO := Lib.hid hxo
  have HO0 := Lib.hid ho0
  have HOT := Lib.hid hOT
  have g0 : decide ((no : Int) < 0) = false := by simp
  have g1 : decide ((no : Int) ≥ (d.pages.length : Int)) = false := by simp; omega
  have hq := h.lt (.inl rfl)
  have O0 := Lib.hid (World.ownsRow_made (base := w.heap.size) (e := 5) (size := 1) w #[] 0 (Nat.le_refl _) (Nat.zero_le _) rfl)
  have S0 := Lib.hid (hb.alloc (.cells #[] 5))
  have HH := Lib.hid h
  have HX := Lib.hid hx
  have HDn := Lib.hid hd
  have HL := Lib.hid hl
  have HLT := Lib.hid hlt
  clear h hb hl hlt hs hx hd hxo ho0 hOT
  go_enter Try.func14, Try.ntmps14
  go_upto_region 5 with fail
  go_cut [38] (fun _ wx => ∃ u cap g', (∀ k, u.ownBlock = some k → w.heap.size ≤ k) ∧ ∃ G', G'.q = G.q ∧ G' = ⟨G.q, G.sv, .slice (some ⟨g', 0, none⟩) (d.waits.length + 1) cap⟩ ∧ Rfd wx G' (Dk.push d no l) ∧ Rtep w G wx G' ∧ Off (fun k => (k = G.q ∨ G.wv.ownBlock = some k) ∨ T k) wo wx ∧ PgV wx u l ∧ (g' < wo.heap.size ∨ w.heap.size ≤ g') ∧ wx.ownsRow 0 66 2 (.slice (some ⟨g', 0, none⟩) (d.waits.length + 1) cap) (d.waits.length + 1) (wc xs ++ [.int .i64 (no : Int), u]))
  case first =>
   go_region_law (first
    | (refine step_append_run rfl (.tmp 33) (.tmp 34) 34 34 rfl (.slice (some ⟨w.heap.size, 0, none⟩) 0 0) (.slice A 1024 c) (by simp [Act.eval]) (by simp [Act.eval]) _ (run_append_bs _ w.heap.size 34 _ 5 b0 (.int .u8 0) Try.underlying34 bi bz0 bz1 bz2 rfl _ 0 [] (by exact O0.out) A 1024 c l (by exact S0.out) (by omega) (by simp)) ?_; rintro v2 w2 ⟨O2, g2⟩; have P2 : PgV w2 v2 l := ⟨HL.out, HLT.out, own_base (by simpa using O2)⟩; obtain ⟨gu, ku, rfl, _, _, _⟩ := P2.form; have B2 := Lib.hid (byte_below w g2); have HGU := Lib.hid (fun k hk => (O2.lt k hk).1); have HP2 := Lib.hid P2; have c1' := (B2.out.cell (p := ⟨G.q, 1, none⟩) hq).trans c1; have hq2 : G.q < w2.heap.size := Nat.lt_of_lt_of_le hq B2.out.size; have O3 := Lib.hid ((own2_on HX.out.own B2.out).alloc (.cells #[.int .i64 (no : Int), .slice (some ⟨gu, 0, none⟩) 1024 ku] 66)); clear O2 g2 P2)
    | (refine step_append_lies _ rfl (.tmp 31) (.tmp 37) 40 rfl 0 66 i0 _ 2 32 Try.underlying40 hi hz0 hz1 hz2 rfl (by decide) G.wv d.waits.length (wc xs) (by simp [Act.eval]) O3.out ⟨w2.heap.size, 0, none⟩ 1 1 [.int .i64 (no : Int), .slice (some ⟨gu, 0, none⟩) 1024 ku] (by simp [Act.eval]) rfl (cell_two _ _ _ _) (two_cell rfl rfl) (by decide) (by unfold maxLen; omega) (by omega) (Nat.zero_le _) _ rfl ?_; intro g cap w3 O4 g4 hl4 hg4; have HS := Lib.hid (rstr_kept HH.out B2.out _ g4); have c1'' := cell_of_row w3 _ 1 _ _ (0, 0) HS.out; have f1'' := frozen_of_row w3 G.q 1 _ _ HS.out; simp at c1''))
   all_goals
     have R4 := Lib.hid (rpush_doneG HO0.out HOT.out hFT hTT HXO.out HGU.out hno B2.out HP2.out O4 g4 hl4)
     clear O4 g4 hl4 hg4 HS c1'' f1'' c1' O3 HP2 B2
     go_wp2_with fail
     go_meet
     obtain ⟨g', r4⟩ := R4.out
     exact ⟨_, _, g', HGU.out, r4⟩
  case rest =>
    obtain ⟨u, cap, g', hgu, G', hq', hG', h5, hSt, hoff5, hu5, hg5, hrow5⟩ := hcut
    subst hG'
    have HI := Lib.hid (fun (e : Dk.Pd) (w6 : World) (h6 : Rfd w6 _ e) (o6 : Off (fun k => k = G.q) wc w6) (hp : e.pages = d.pages) (hw : e.waits = (Dk.push d no l).waits) => rfdG_intro HO0.out HXO.out hno (hoff5.trans' o6 fun k hk => .inl (.inl (.inl hk))) hFT hTT hp hw h6 (pgv_off hu5 o6 fun k hk ek => by
      have h1 := hgu k hk
      have h2 := HH.out.lt (.inl rfl : G.own G.q)
      have ek : k = G.q := ek
      omega) hgu hg5 (o6.own hrow5 fun k hk ek => by
      obtain ⟨cs', hc⟩ := own_type hrow5 hk
      have ek : k = G.q := ek
      rw [ek, h5.str] at hc; simp at hc))
    clear hoff5 hu5 hg5 hrow5 hgu
    have HSt := Lib.hid hSt
    have C := Lib.hid (goes_any wc _ _ h5 (by exact HDn.out))
    clear h5 hSt
    cases hdd : (Dk.act (Dk.push d no l)).down with
    | false =>
      have ec : Dk.code (Dk.act (Dk.push d no l)) = 0 := by unfold Dk.code; rw [hdd]; rfl
      rw [hdd] at C
      go_wp2_with fail
      refine C.out.mono ?_
      rintro e w6 ⟨rfl, h6, o6⟩
      go_wp2
      go_ret
      exact ⟨_, by rw [ec]; rfl, h6, HSt.out.trans (Rtep.of_q o6), HI.out _ _ h6 o6 (by rw [Dk.act_pages]; rfl) (Dk.act_waits _)⟩
    | true =>
      have ec : Dk.code (Dk.act (Dk.push d no l)) = 3 := by unfold Dk.code; rw [hdd]; rfl
      rw [hdd] at C
      go_wp2_with fail
      refine C.out.mono ?_
      rintro e w6 ⟨rfl, h6, o6⟩
      go_wp2
      go_ret
      exact ⟨_, by rw [ec]; rfl, h6, HSt.out.trans (Rtep.of_q o6), HI.out _ _ h6 o6 (by rw [Dk.act_pages]; rfl) (Dk.act_waits _)⟩


end Go.Proofs.Ytakoajbfkinlcaa
