/-
  The document's disk: Write.
-/
import Derived.Test.YtakoajbfkinlcaaRfDisk
import Derived.Deep.DeepCutAuto
namespace Go.Proofs.Ytakoajbfkinlcaa
open Go.RowKit
set_option linter.unusedVariables false

theorem Try.info66 : (Try.prog.info? 66).map (fun i => (i.zero, i.size, i.bytes)) = some (some (.agg #[.int .i64 0, .slice none 0 0]), 2, 32) := by kernel_rfl
theorem Rfd.pushed {w w5 : World} {G : Gd} {d : Dk.Pd} {no g cap : Nat} {l : List Nat} {u : Value} {xs : List (Nat × Value)} (h : Rfd w G d) (hxs : Ws w 66 G.wv d.waits xs) (hno : no < d.pages.length)
    (ho : Off (fun k => k = G.q ∨ G.wv.ownBlock = some k) w w5) (hu : PgV w5 u l) (hstr : w5.heap[G.q]? = some (.cells #[G.sv, .slice (some ⟨g, 0, none⟩) (d.waits.length + 1) cap, .int .i64 (d.left : Int), .bool d.down] 42 (0, 0)))
    (hrow : w5.ownsRow 0 66 2 (.slice (some ⟨g, 0, none⟩) (d.waits.length + 1) cap) (d.waits.length + 1) (wc xs ++ [.int .i64 (no : Int), u])) : Rfd w5 ⟨G.q, G.sv, .slice (some ⟨g, 0, none⟩) (d.waits.length + 1) cap⟩ (Dk.push d no l) := by
  obtain ⟨vs, hs⟩ := h.safe
  have hf : Free (fun k => k = G.q ∨ G.wv.ownBlock = some k) w := fun k cs m hk => h.free k cs m (by rcases hk with a | a; exact .inl a; exact .inr (.inr a))
  have hwl : (Dk.push d no l).waits.length = d.waits.length + 1 := by simp [Dk.push]
  refine ⟨hstr, ⟨vs, hs.off ho hf fun k hk hk' => ?_⟩, ⟨xs ++ [(no, u)], ?_, ?_⟩, ?_, h.few, h.low⟩
  · rcases hk' with a | a
    · exact h.q_sv hk a
    · exact h.sv_wv hk a
  · rw [hwl, wc_snoc]; exact hrow
  · exact (hxs.along.mono fun x y hr => ⟨hr.1, hr.2.off ho hf⟩).snoc ⟨rfl, hu⟩
  · intro x hx
    rcases List.mem_append.1 hx with h1 | h1
    · exact h.ins x h1
    · simp at h1; subst h1; exact hno

/-- An append onto an empty row that the call has just made. -/
theorem byte_below (w : World) {w2 : World} (g2 : (w.alloc (.cells #[] 5)).drew.grownBy w2 (Value.slice (some ⟨w.heap.size, 0, none⟩) 0 0).ownBlock) : Below w.heap.size w w2 :=
  (((Below.refl w.heap.size w).alloc (Nat.le_refl _) (.cells #[] 5)).drew).grown g2 (by simp) (fun k hk => by injection hk with hk; subst hk; exact Nat.le_refl _)
theorem own2_on {w w' : World} {base e size n : Nat} {v : Value} {xs : List Value} (h : w.ownsRow base e size v n xs) (hb : Below w.heap.size w w') : w'.ownsRow base e size v n xs :=
  h.kept (only_of hb none) (by cases hv : v.ownBlock <;> simp)

theorem rstr_kept {w w2 w3 : World} {G : Gd} {d : Dk.Pd} (h : Rfd w G d) (hb : Below w.heap.size w w2) (o : Obj) (g3 : (w2.alloc o).grownBy w3 G.wv.ownBlock) :
    w3.heap[G.q]? = some (.cells #[G.sv, G.wv, .int .i64 (d.left : Int), .bool d.down] 42 (0, 0)) := by
  have a := (Off.refl (fun _ => False) w2).alloc o
  exact (Off.of_grown (S := fun k => G.wv.ownBlock = some k) g3 fun k hk => hk).at_ (a.at_ (h.on hb).str id) (fun hk => h.q_wv hk rfl)

theorem rpush_done {w w2 w3 : World} {G : Gd} {d : Dk.Pd} {no g cap : Nat} {l : List Nat} {u : Value} {xs : List (Nat × Value)} {o : Obj} (h : Rfd w G d) (hxs : Ws w 66 G.wv d.waits xs) (hno : no < d.pages.length) (B2 : Below w.heap.size w w2) (P2 : PgV w2 u l)
    (O4 : w3.ownsRow 0 66 2 (.slice (some ⟨g, 0, none⟩) (d.waits.length + 1) cap) (d.waits.length + 1) (wc xs ++ [.int .i64 (no : Int), u])) (g4 : (w2.alloc o).grownBy w3 G.wv.ownBlock) (hl4 : G.wv.ownBlock = some g ∨ g = (w2.alloc o).heap.size) :
    ∃ G', G'.q = G.q ∧ Rfd (w3.setCell ⟨G.q, 1, none⟩ (.slice (some ⟨g, 0, none⟩) (d.waits.length + 1) cap)) G' (Dk.push d no l) ∧ Rtep w G (w3.setCell ⟨G.q, 1, none⟩ (.slice (some ⟨g, 0, none⟩) (d.waits.length + 1) cap)) G' := by
  have HS := rstr_kept h B2 _ g4
  have hoff : Off (fun k => k = G.q ∨ G.wv.ownBlock = some k) w (w3.setCell ⟨G.q, 1, none⟩ (.slice (some ⟨g, 0, none⟩) (d.waits.length + 1) cap)) :=
    (((Off.of_below B2).alloc _).trans (Off.of_grown g4 fun k hk => .inr hk)).set _ (.inl rfl)
  have hof2 : Off (fun k => k = G.q ∨ G.wv.ownBlock = some k) w2 (w3.setCell ⟨G.q, 1, none⟩ (.slice (some ⟨g, 0, none⟩) (d.waits.length + 1) cap)) :=
    (((Off.refl _ w2).alloc _).trans (Off.of_grown g4 fun k hk => .inr hk)).set _ (.inl rfl)
  have h2 := h.on B2
  have hu := P2.off hof2 (fun k cs m hk => h2.free k cs m (by rcases hk with a | a; exact .inl a; exact .inr (.inr a)))
  have hs4 := (rstr_set HS (.slice (some ⟨g, 0, none⟩) (d.waits.length + 1) cap)).2.1
  have hrow := ((Off.refl (fun k => k = G.q) w3).set (i := 1) (.slice (some ⟨g, 0, none⟩) (d.waits.length + 1) cap) rfl).own O4 (fun k hk e => by
    subst e
    obtain ⟨cs', hc⟩ := own_type O4 hk
    rw [HS] at hc; simp at hc)
  have hD := h.pushed (no := no) (l := l) hxs hno hoff hu hs4 hrow
  refine ⟨⟨G.q, G.sv, .slice (some ⟨g, 0, none⟩) (d.waits.length + 1) cap⟩, rfl, hD, ⟨hoff.mono fun k hk => .inl (by rcases hk with a | a; exact .inl a; exact .inr (.inr a)), rfl, fun k hk => ?_⟩⟩
  rcases hk with hk | hk | hk
  · exact .inl (.inl hk)
  · exact .inl (.inr (.inl hk))
  · injection hk with hk
    subst hk
    rcases hl4 with h3 | h3
    · exact .inl (.inr (.inr h3))
    · right; show _ ≤ g; have := B2.size; simp at h3; omega

set_option maxRecDepth 100000 in
set_option maxHeartbeats 1000000 in
theorem rwrite_ok (w : World) (G : Gd) (d : Dk.Pd) (no c : Nat) (A : Option Addr) (l : List Nat) (h : Rfd w G d) (hno : no < d.pages.length) (hb : Bs w A 1024 c l) (hd : d.down = false) (hm : d.waits.length < 1000) :
    Calls Try.prog 14 #[.pointer (some ⟨G.q, 0, none⟩), .int .i64 (no : Int), .slice A 1024 c] w fun e w' => ∃ G', e = .returned (.int .i64 (Dk.code (Dk.act (Dk.push d no l)))) ∧ Rfd w' G' (Dk.act (Dk.push d no l)) ∧ Rtep w G w' G' := by
  obtain ⟨i0, hi, hz0, hz1, hz2⟩ := info_parts Try.info66
  obtain ⟨b0, bi, bz0, bz1, bz2⟩ := info_parts Try.info5
  have hfew := h.few
  have hl := hb.1
  have hlt := hb.2.2.2.1
  have c0 := h.c0
  have c1 := h.c1
  have c3 := h.c3
  rw [hd] at c3
  obtain ⟨vs, hs⟩ := h.safe
  obtain ⟨As, cs, hsv, _, _⟩ := hs.row.form
  rw [hsv] at c0
  obtain ⟨xs, hx⟩ := h.waits
  have g0 : decide ((no : Int) < 0) = false := by simp
  have g1 : decide ((no : Int) ≥ (d.pages.length : Int)) = false := by simp; omega
  have hq := h.lt (.inl rfl)
  have O0 := Lib.hid (World.ownsRow_made (base := 0) (e := 5) (size := 1) w #[] 0 (Nat.zero_le _) (Nat.zero_le _) rfl)
  have S0 := Lib.hid (hb.alloc (.cells #[] 5))
  have HH := Lib.hid h
  have HX := Lib.hid hx
  have HDn := Lib.hid hd
  have HL := Lib.hid hl
  have HLT := Lib.hid hlt
  clear h hb hl hlt hs hx hd
  go_enter Try.func14, Try.ntmps14
  go_upto_region 5 with fail
  go_cut [38] (fun _ wx => ∃ G', G'.q = G.q ∧ Rfd wx G' (Dk.push d no l) ∧ Rtep w G wx G')
  case first =>
   go_region_law (first
    | (refine step_append_run rfl (.tmp 33) (.tmp 34) 34 34 rfl (.slice (some ⟨w.heap.size, 0, none⟩) 0 0) (.slice A 1024 c) (by simp [Act.eval]) (by simp [Act.eval]) _ (run_append_bs _ 0 34 _ 5 b0 (.int .u8 0) Try.underlying34 bi bz0 bz1 bz2 rfl _ 0 [] (by exact O0.out) A 1024 c l (by exact S0.out) (by omega) (by simp)) ?_; rintro v2 w2 ⟨O2, g2⟩; have P2 : PgV w2 v2 l := ⟨HL.out, HLT.out, by simpa using O2⟩; obtain ⟨gu, ku, rfl, _, _, _⟩ := P2.form; have B2 := Lib.hid (byte_below w g2); have HP2 := Lib.hid P2; have c1' := (B2.out.cell (p := ⟨G.q, 1, none⟩) hq).trans c1; have hq2 : G.q < w2.heap.size := Nat.lt_of_lt_of_le hq B2.out.size; have O3 := Lib.hid ((own2_on HX.out.own B2.out).alloc (.cells #[.int .i64 (no : Int), .slice (some ⟨gu, 0, none⟩) 1024 ku] 66)); clear O2 g2 P2)
    | (refine step_append_lies _ rfl (.tmp 31) (.tmp 37) 40 rfl 0 66 i0 _ 2 32 Try.underlying40 hi hz0 hz1 hz2 rfl (by decide) G.wv d.waits.length (wc xs) (by simp [Act.eval]) O3.out ⟨w2.heap.size, 0, none⟩ 1 1 [.int .i64 (no : Int), .slice (some ⟨gu, 0, none⟩) 1024 ku] (by simp [Act.eval]) rfl (cell_two _ _ _ _) (two_cell rfl rfl) (by decide) (by unfold maxLen; omega) (by omega) (Nat.zero_le _) _ rfl ?_; intro g cap w3 O4 g4 hl4 hg4; have HS := Lib.hid (rstr_kept HH.out B2.out _ g4); have c1'' := cell_of_row w3 _ 1 _ _ (0, 0) HS.out; have f1'' := frozen_of_row w3 G.q 1 _ _ HS.out; simp at c1''))
   all_goals
     have R4 := Lib.hid (rpush_done HH.out HX.out hno B2.out HP2.out O4 g4 hl4)
     clear O4 g4 hl4 hg4 HS c1'' f1'' c1' O3 HP2 B2
     go_wp2_with fail
     go_meet
     exact R4.out
  case rest =>
    obtain ⟨G', hq', h5, hSt⟩ := hcut
    have HSt := Lib.hid hSt
    have C := Lib.hid (goes_any wc G' _ h5 (by exact HDn.out))
    rw [hq'] at C
    clear h5 hSt
    cases hdd : (Dk.act (Dk.push d no l)).down with
    | false =>
      have ec : Dk.code (Dk.act (Dk.push d no l)) = 0 := by unfold Dk.code; rw [hdd]; rfl
      rw [hdd] at C
      go_wp2_with fail
      refine C.out.mono ?_
      rintro e w6 ⟨rfl, h6, o6⟩
      go_wp2
      go_ret
      exact ⟨_, by rw [ec]; rfl, h6, HSt.out.trans (Rtep.of_q (by rw [hq']; exact o6))⟩
    | true =>
      have ec : Dk.code (Dk.act (Dk.push d no l)) = 3 := by unfold Dk.code; rw [hdd]; rfl
      rw [hdd] at C
      go_wp2_with fail
      refine C.out.mono ?_
      rintro e w6 ⟨rfl, h6, o6⟩
      go_wp2
      go_ret
      exact ⟨_, by rw [ec]; rfl, h6, HSt.out.trans (Rtep.of_q (by rw [hq']; exact o6))⟩

theorem rwrite_arg (w : World) (G : Gd) (d : Dk.Pd) (no : Int) (n c : Nat) (A : Option Addr) (h : Rfd w G d) (hno : ¬ (Dk.has d no ∧ n = 1024)) :
    Calls Try.prog 14 #[.pointer (some ⟨G.q, 0, none⟩), .int .i64 no, .slice A n c] w fun e w' => e = .returned (.int .i64 1) ∧ w = w' := by
  have c0 := h.c0
  obtain ⟨vs, hs⟩ := h.safe
  obtain ⟨As, cs, hsv, _, _⟩ := hs.row.form
  rw [hsv] at c0
  unfold Dk.has at hno
  clear hs h hsv
  generalize d.pages.length = m at *
  by_cases h0 : no < 0
  · go_enter Try.func14, Try.ntmps14
    go_wp2
    go_ret
    exact ⟨rfl, rfl⟩
  · have g0 : decide (no < 0) = false := by simp; omega
    by_cases h1 : no ≥ (m : Int)
    · have g1 : decide (no ≥ (m : Int)) = true := by simp; omega
      clear hno
      go_enter Try.func14, Try.ntmps14
      go_wp2
      go_ret
      exact ⟨rfl, rfl⟩
    · have g1 : decide (no ≥ (m : Int)) = false := by simp; omega
      have hn : ((n : Int) != 1024) = true := by
        have : ¬ n = 1024 := fun h' => hno ⟨⟨by omega, by omega⟩, h'⟩
        simp; omega
      clear hno
      go_enter Try.func14, Try.ntmps14
      go_wp2
      go_ret
      exact ⟨rfl, rfl⟩
theorem rwrite_down (w : World) (G : Gd) (d : Dk.Pd) (no : Int) (c : Nat) (A : Option Addr) (h : Rfd w G d) (hno : Dk.has d no) (hdn : d.down = true) :
    Calls Try.prog 14 #[.pointer (some ⟨G.q, 0, none⟩), .int .i64 no, .slice A 1024 c] w fun e w' => e = .returned (.int .i64 3) ∧ w = w' := by
  have c0 := h.c0
  have c3 := h.c3
  rw [hdn] at c3
  obtain ⟨vs, hs⟩ := h.safe
  obtain ⟨As, cs, hsv, _, _⟩ := hs.row.form
  rw [hsv] at c0
  unfold Dk.has at hno
  clear hs h hsv hdn
  generalize d.pages.length = m at *
  have g0 : decide (no < 0) = false := by simp; omega
  have g1 : decide (no ≥ (m : Int)) = false := by simp; omega
  go_enter Try.func14, Try.ntmps14
  go_wp2
  go_ret
  exact ⟨rfl, rfl⟩
/-- The document's Write, whatever is handed in. -/
theorem rwrite_any (w : World) (G : Gd) (d : Dk.Pd) (no : Int) (n c : Nat) (A : Option Addr) (l : List Nat) (h : Rfd w G d) (hb : Bs w A n c l) (hm : d.waits.length < 1000) :
    Calls Try.prog 14 #[.pointer (some ⟨G.q, 0, none⟩), .int .i64 no, .slice A n c] w fun e w' => ∃ G', e = .returned (.int .i64 (Dk.writeCode d no l)) ∧ Rfd w' G' (Dk.write d no l) ∧ Rtep w G w' G' := by
  have hl := hb.1
  by_cases hh : Dk.has d no ∧ n = 1024
  · obtain ⟨h1, rfl⟩ := hh
    have hc : Dk.has d no ∧ l.length = 1024 := ⟨h1, hl⟩
    cases hdn : d.down with
    | false =>
      have h2 := h1
      unfold Dk.has at h2
      obtain ⟨m, rfl⟩ : ∃ m : Nat, no = (m : Int) := ⟨no.toNat, by omega⟩
      have e1 : Dk.writeCode d (m : Int) l = Dk.code (Dk.act (Dk.push d m l)) := by unfold Dk.writeCode; rw [if_pos hc, hdn, Int.toNat_natCast]; rfl
      have e2 : Dk.write d (m : Int) l = Dk.act (Dk.push d m l) := by unfold Dk.write; rw [if_pos hc, hdn, Int.toNat_natCast]; rfl
      rw [e1, e2]
      exact rwrite_ok w G d m c A l h (by omega) hb hdn hm
    | true =>
      have e1 : Dk.writeCode d no l = 3 := by unfold Dk.writeCode; rw [if_pos hc, hdn]; rfl
      have e2 : Dk.write d no l = d := by unfold Dk.write; rw [if_pos hc, hdn]; rfl
      rw [e1, e2]
      refine (rwrite_down w G d no c A h h1 hdn).mono ?_
      rintro e w' ⟨rfl, rfl⟩
      exact ⟨G, rfl, h, Rtep.refl _ _⟩
  · have hc : ¬ (Dk.has d no ∧ l.length = 1024) := by rw [hl]; exact hh
    have e1 : Dk.writeCode d no l = 1 := by unfold Dk.writeCode; rw [if_neg hc]
    have e2 : Dk.write d no l = d := by unfold Dk.write; rw [if_neg hc]
    rw [e1, e2]
    refine (rwrite_arg w G d no n c A h hh).mono ?_
    rintro e w' ⟨rfl, rfl⟩
    exact ⟨G, rfl, h, Rtep.refl _ _⟩

end Go.Proofs.Ytakoajbfkinlcaa
