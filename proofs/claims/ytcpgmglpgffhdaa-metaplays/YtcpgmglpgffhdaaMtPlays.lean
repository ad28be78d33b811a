/-
  MetaPlays: whatever metas, and other bytes, are written, synced, lost and torn, each answer, and the newest behind each step, is what the document says.
-/
import Derived.Test.YtcpgmglpgffhdaaMtPair
import Derived.Test.YtcpgmglpgffhdaaMtDo
import Derived.Test.YtcpgmglpgffhdaaMtTells
import Derived.Deep.CutBlock
namespace Go.Proofs.Ytcpgmglpgffhdaa
open Go.RowKit Go.Deep
set_option linter.unusedVariables false

/-- The cells of a step. -/
theorem kd_cells {w : World} {g : Nat} {a0 a1 a2 a3 a4 a5 a6 a7 : Value} (h : w.heap[g]? = some (.cells #[a0, a1, a2, a3, a4, a5, a6, a7] 41 (0, 0))) : w.cell? ⟨g, 0, none⟩ = some a0 ∧ w.cell? ⟨g, 1, none⟩ = some a1 ∧ w.cell? ⟨g, 2, none⟩ = some a2 ∧ w.cell? ⟨g, 3, none⟩ = some a3 ∧ w.cell? ⟨g, 4, none⟩ = some a4 ∧ w.cell? ⟨g, 5, none⟩ = some a5 ∧ w.cell? ⟨g, 6, none⟩ = some a6 ∧ w.cell? ⟨g, 7, none⟩ = some a7 :=
  ⟨cell_of_row w _ 0 _ _ (0, 0) h, cell_of_row w _ 1 _ _ (0, 0) h, cell_of_row w _ 2 _ _ (0, 0) h, cell_of_row w _ 3 _ _ (0, 0) h, cell_of_row w _ 4 _ _ (0, 0) h, cell_of_row w _ 5 _ _ (0, 0) h, cell_of_row w _ 6 _ _ (0, 0) h, cell_of_row w _ 7 _ _ (0, 0) h⟩

set_option maxRecDepth 100000 in
set_option maxHeartbeats 4000000 in
theorem metaPlays_walk (w : World) (q0 : Nat) (A : Option Addr) (n c : Nat) (L : List Dov) (hq : q0 < 256) (hL : Dos w A n c L) :
    Calls Try.prog 4 #[.int .u8 (q0 : Int), .slice A n c] w fun e w' => e = .returned (.bool true) ∧ Below w.heap.size w w' := by
  obtain ⟨i0, hi, hz0, hz1, hz2⟩ := info_parts Try.info5
  have hcm := hL.2.2.1
  have hnc := hL.2.1
  unfold maxLen at hcm
  have HL := Lib.hid hL
  clear hL
  obtain ⟨N, hN, hN5⟩ : ∃ N : Nat, (q0 : Int).tmod 5 = (N : Int) ∧ N < 5 := ⟨q0 % 5, rfl, by omega⟩
  have wq : IntKind.i64.wrap (q0 : Int) = (q0 : Int) := IntWalk.i64_in _ ⟨by omega, by omega⟩
  go_enter Try.func4, Try.ntmps4
  go_wp2_with fail
  refine (awake_any _).mono ?_
  rintro e v0 ⟨rfl, B0⟩
  go_wp2_with fail
  refine (newD_any v0 (N : Int) N (by omega)).mono ?_
  rintro e v1 ⟨H, rfl, hD, h1, B1⟩
  go_wp2_with fail
  refine (rnew_any v1 N (by omega)).mono ?_
  rintro e v2 ⟨G, rfl, hR, h2, B2⟩
  have P2 := Lib.hid (Pair.made hD h1 B1 hR h2 B2)
  have HB0 := Lib.hid B0
  clear hD h1 B1 hR h2 B2 B0
  generalize H.p = p at *
  generalize G.q = q at *
  clear H G hN hq wq
  go_wp2_with fail
  go_loopw [8, 9, 10, 11, 12, 13, 14, 15, 16] (fun i _ _ _ _ _ _ _ _ wr => ∃ (k : Nat) (d : Dk.Pd), k ≤ n ∧ k ≤ 40 ∧ i = .int .i64 (k : Int) ∧ d.waits.length ≤ k ∧ Pair v0 wr p q d d) (fun i _ _ _ _ _ _ _ _ _ => n - (intOf i).toNat)
  case atStart => exact ⟨0, _, Nat.zero_le _, Nat.zero_le _, rfl, Nat.le_refl _, P2.out⟩
  case round =>
    obtain ⟨k, d, hk, hk6, rfl, hw, hP⟩ := hrel
    have HP := Lib.hid hP
    clear hP P2
    by_cases hlt : k < n
    · have z1 : (k : Int) < (n : Int) := by omega
      by_cases hlt6 : k < 40
      · have z2 : (k : Int) < 40 := by omega
        obtain ⟨b, off, x, rfl, hb, hx, hd⟩ := HL.out.get hlt
        have Bw := Lib.hid (onto HB0.out HP.out.below)
        have hdw := hd.on hb Bw.out
        have ck0 := hdw.c0
        have ck1 := hdw.c1
        have ck2 := hdw.c2
        have ck3 := hdw.c3
        have ck4 := hdw.c4
        have ck5 := hdw.c5
        have ck6 := hdw.c6
        have ck7 := hdw.c7
        have hkI := Lib.hid hd.kindI
        have hnI := Lib.hid hd.nI
        have RD := Lib.hid hd.rd
        have RB := Lib.hid hd.bs
        clear hdw hx hd
        obtain ⟨kd, mm, no, kA, kn, kc, keep, bA, bn, bc, bytes⟩ := x
        dsimp only at *
        by_cases hq1 : kn ≤ 1000
        · have hq1' : decide ((1000 : Int) < (kn : Int)) = false := by simp; omega
          by_cases hq2 : bn ≤ 1024
          · have hq2' : decide ((1024 : Int) < (bn : Int)) = false := by simp; omega
            go_upto_block 2 with fail
            clear ck0 ck1 ck2 ck3 ck4 ck5 ck6 ck7
            have P3 := Lib.hid (HP.out.alloc (.cells #[.int .i64 kd, .int .u64 (mm.gen : Int), .int .i64 mm.high, .int .i64 mm.root, .int .i64 mm.free, .int .i64 no, .slice kA kn kc, .slice bA bn bc] 41))
            have hbx := Lib.hid (heap_alloc_new wr (.cells #[.int .i64 kd, .int .u64 (mm.gen : Int), .int .i64 mm.high, .int .i64 mm.root, .int .i64 mm.free, .int .i64 no, .slice kA kn kc, .slice bA bn bc] 41))
            have hlx := alloc_lt wr (.cells #[.int .i64 kd, .int .u64 (mm.gen : Int), .int .i64 mm.high, .int .i64 mm.root, .int .i64 mm.free, .int .i64 no, .slice kA kn kc, .slice bA bn bc] 41)
            generalize wr.alloc (.cells #[.int .i64 kd, .int .u64 (mm.gen : Int), .int .i64 mm.high, .int .i64 mm.root, .int .i64 mm.free, .int .i64 no, .slice kA kn kc, .slice bA bn bc] 41) = w1 at *
            generalize wr.heap.size = bx at *
            have KC := Lib.hid (fun (W : World) (hk : Kd w1 W) => kd_cells (hk _ _ hbx.out))
            have hwl : d.waits.length < 1000 := by omega
            obtain ⟨e0, e1, e2, e3, e4, e5, e6, e7⟩ := KC.out w1 (fun _ _ h => h)
            clear Bw HP hb
            go_cut [10, 11, 12] from 36 to 133 (fun a b _ wx => ∃ (r : Int) (d' : Dk.Pd), a = .int .i64 r ∧ b = .int .i64 r ∧ d'.waits.length ≤ k + 1 ∧ Pair v0 wx p q d' d')
            case first =>
              as_aux_lemma =>
              by_cases k0 : kd = 0
              · as_aux_lemma =>
                subst k0
                have WK := Lib.hid (mwrite_keeps d mm)
                have C1 := Lib.hid (pmwrite w1 p q d d P3.out mm hwl)
                unfold mv at C1
                go_wp2_with fail
                refine C1.out.mono ?_
                rintro e w4 ⟨rfl, P4, K4⟩
                obtain ⟨f0, f1, f2, f3, f4, f5, f6, f7⟩ := KC.out w4 K4
                have C2 := Lib.hid (qmwrite w4 p q _ d P4 mm hwl)
                unfold mv at C2
                clear e0 e1 e2 e3 e4 e5 e6 e7 P4 K4 P3 C1
                go_wp2_with fail
                refine C2.out.mono ?_
                rintro e w6 ⟨rfl, P6, K6⟩
                have HP6 := Lib.hid P6
                clear P6 K6 C2 f0 f1 f2 f3 f4 f5 f6 f7
                go_wp2
                go_meet
                exact ⟨_, _, rfl, rfl, by have := WK.out.2; omega, HP6.out⟩
              · have k0' : (kd == 0) = false := by simpa using k0
                by_cases k1 : kd = 1
                · as_aux_lemma =>
                  subst k1
                  have SK := Lib.hid (sync_keeps d)
                  clear e1 e2 e3 e4 e5 e6 e7
                  go_wp2_with fail
                  refine (psync w1 p q d d P3.out hwl).mono ?_
                  rintro e w4 ⟨rfl, P4, K4⟩
                  go_wp2_with fail
                  refine (qsync w4 p q _ d P4 hwl).mono ?_
                  rintro e w6 ⟨rfl, P6, K6⟩
                  have HP6 := Lib.hid P6
                  clear P4 P6 K4 K6 P3
                  go_wp2
                  go_meet
                  exact ⟨_, _, rfl, rfl, by have := SK.out.2; omega, HP6.out⟩
                · have k1' : (kd == 1) = false := by simpa using k1
                  by_cases k2 : kd = 2
                  · as_aux_lemma =>
                    subst k2
                    go_wp2_with fail
                    refine (parm w1 p q d d P3.out no hnI.out.2).mono ?_
                    rintro e w4 ⟨rfl, P4, K4⟩
                    obtain ⟨f0, f1, f2, f3, f4, f5, f6, f7⟩ := KC.out w4 K4
                    have HP4 := Lib.hid P4
                    clear e0 e1 e2 e3 e4 e5 e6 e7 P4 K4 P3
                    go_wp2_with fail
                    refine (qarm w4 p q _ d HP4.out no hnI.out.2).mono ?_
                    rintro e w6 ⟨rfl, P6, K6⟩
                    have HP6 := Lib.hid P6
                    clear P6 K6 HP4 f0 f1 f2 f3 f4 f5 f6 f7
                    go_wp2
                    go_meet
                    exact ⟨_, Dk.armed d no.toNat, rfl, rfl, by show d.waits.length ≤ _; omega, HP6.out⟩
                  · have k2' : (kd == 2) = false := by simpa using k2
                    by_cases k3 : kd = 3
                    · as_aux_lemma =>
                      subst k3
                      have CK := Lib.hid (crash_keeps d keep no)
                      have HA : Hid (0 < kn → ∀ b off, kA = some ⟨b, off, none⟩ → b < v0.heap.size) := by
                        intro hn b off e
                        obtain ⟨b', off', e', hb', _⟩ := RD.out.2.2.2 hn
                        rw [e] at e'
                        injection e' with e'
                        injection e' with e'
                        subst e'
                        exact Nat.lt_of_lt_of_le hb' HB0.out.size
                      go_wp2_with fail
                      refine (pcrash w1 p q d d P3.out kA kn kc keep no (RD.out.on (onto HB0.out P3.out.below)) HA.out hwl).mono ?_
                      rintro e w4 ⟨rfl, P4, K4⟩
                      obtain ⟨f0, f1, f2, f3, f4, f5, f6, f7⟩ := KC.out w4 K4
                      have HP4 := Lib.hid P4
                      clear e0 e1 e2 e3 e4 e5 e6 e7 P4 K4 P3
                      go_wp2_with fail
                      refine (qcrash w4 p q _ d HP4.out kA kn kc keep no (RD.out.on (onto HB0.out HP4.out.below)) HA.out hwl).mono ?_
                      rintro e w6 ⟨rfl, P6, K6⟩
                      have HP6 := Lib.hid P6
                      clear P6 K6 HP4 f0 f1 f2 f3 f4 f5 f6 f7
                      go_wp2
                      go_meet
                      exact ⟨_, _, rfl, rfl, by have := CK.out.2; omega, HP6.out⟩
                    · have k3' : (kd == 3) = false := by simpa using k3
                      as_aux_lemma =>
                      obtain ⟨dd, hdd, hdl⟩ : ∃ dd : Nat, 1024 - bn = dd ∧ bn + dd = 1024 := ⟨_, rfl, by omega⟩
                      have wd : IntKind.i64.wrap (1024 - (bn : Int)) = (dd : Int) := by rw [IntWalk.i64_in _ ⟨by omega, by omega⟩]; omega
                      have sb := RB.out.on (onto HB0.out P3.out.below)
                      have O0 := World.ownsRow_made (base := w1.heap.size) (e := 5) (size := 1) w1 #[] 0 (Nat.le_refl _) (Nat.zero_le _) rfl
                      have HO0 := Lib.hid O0
                      have S0 := Lib.hid (sb.alloc (.cells #[] 5))
                      have BB : Below w1.heap.size w1 (w1.alloc (.cells #[] 5)) := (Below.refl _ _).alloc (Nat.le_refl _) _
                      have bl := RB.out.1
                      have bt := RB.out.2.2.2.1
                      clear O0 sb hdd
                      go_wp2_with fail
                      go_region_held3 (fun w' => w'.cell? ⟨bx, 7, none⟩ = some (.slice bA bn bc)) (first | assumption | exact e7 | go_keep) (first
                        | (refine step_append_run rfl (.tmp 52) (.tmp 54) 25 25 rfl (.slice (some ⟨w1.heap.size, 0, none⟩) 0 0) (.slice bA bn bc) (by simp [Act.eval]) (by simp [Act.eval]) _ (run_append_bs _ w1.heap.size 25 _ 5 i0 (.int .u8 0) Try.underlying25 hi hz0 hz1 hz2 rfl _ 0 [] (by exact HO0.out) bA bn bc bytes (by exact S0.out) (by omega) (by simp)) ?_; rintro v2 w2 ⟨O2, g2⟩; have B2 : Below w1.heap.size w1 w2 := below_own BB.drew HO0.out g2 (by simp) (Nat.le_refl _); have E2 := (KC.out w2 (Kd.of_below B2)).2.2.2.2.2.2.2)
                        | (refine step_append_run rfl (.tmp 55) (.tmp 59) 25 3 rfl v2 (.int .i64 (dd : Int)) (by simp [Act.eval]) (by simp [Act.eval]) _ (run_append_zeros _ w1.heap.size 25 3 _ 5 i0 .i64 .i64 Try.underlying25 Try.underlying3 hi hz0 hz1 hz2 v2 (0 + bn) _ (by exact O2) dd (by omega) (Nat.le_trans (by simp) g2.size)) ?_; rintro v3 w3 ⟨O3, g3⟩; have B3 : Below w1.heap.size w1 w3 := below_own B2 O2 g3 B2.size (Nat.le_refl _); have E3 := (KC.out w3 (Kd.of_below B3)).2.2.2.2.2.2.2))
                      simp only [Nat.zero_add, List.nil_append, bv_app] at O3
                      rw [hdl] at O3
                      obtain ⟨l1, hl1⟩ : ∃ l1, l1 = bytes ++ List.replicate dd 0 := ⟨_, rfl⟩
                      have l1n : Hid (l1.length = 1024) := by show _ = _; rw [hl1, List.length_append, List.length_replicate, bl, hdl]
                      have l1t : Hid (∀ z ∈ l1, z < 256) := by
                        intro z hz
                        rw [hl1] at hz
                        rcases List.mem_append.1 hz with h1 | h1
                        · exact bt z h1
                        · have := List.eq_of_mem_replicate h1; omega
                      rw [← hl1] at O3
                      obtain ⟨A3, c3, rfl, _, _⟩ := own_form O3
                      have WK := Lib.hid (write_keeps d no l1)
                      have C1 := Lib.hid (pwriteB w3 p q d d (P3.out.on B3) no 1024 c3 A3 l1 (own_bs O3 l1n.out l1t.out) hwl)
                      obtain ⟨h0, h1, h2, h3, h4, h5, h6, h7⟩ := KC.out w3 (Kd.of_below B3)
                      have HK3 := Lib.hid (Kd.of_below B3)
                      have HO3 := Lib.hid O3
                      clear e0 e1 e2 e3 e4 e5 e6 e7 E2 E3 O2 O3 g2 g3 B2 B3 P3 BB bl bt hl1
                      go_wp2_with fail
                      refine C1.out.mono ?_
                      rintro e w4 ⟨rfl, P4, K4, Kb4⟩
                      obtain ⟨f0, f1, f2, f3, f4, f5, f6, f7⟩ := KC.out w4 (fun g cs hg => K4 g cs (HK3.out g cs hg))
                      have C2 := Lib.hid (qwrite w4 p q _ d P4 no 1024 c3 A3 l1 (own_bs (own_kb HO3.out Kb4) l1n.out l1t.out) hwl)
                      clear h0 h1 h2 h3 h4 h5 h6 h7 P4 K4 Kb4 C1
                      go_wp2_with fail
                      refine C2.out.mono ?_
                      rintro e w6 ⟨rfl, P6, K6⟩
                      have HP6 := Lib.hid P6
                      clear P6 K6 C2 f0 f1 f2 f3 f4 f5 f6 f7
                      go_wp2
                      go_meet
                      exact ⟨_, _, rfl, rfl, by have := WK.out.2; omega, HP6.out⟩
            case rest =>
              as_aux_lemma =>
              obtain ⟨r, d', rfl, rfl, hw', hP'⟩ := hcut
              obtain ⟨w2, hw2⟩ : ∃ w2 : World, w2 = wc := ⟨_, rfl⟩
              subst hw2
              clear e0 e1 e2 e3 e4 e5 e6 e7 KC P3 hbx hlx
              have C1 := Lib.hid (pnewest w2 p q d' d' hP')
              have HP2 := Lib.hid hP'
              have HB2 := Lib.hid (onto HB0.out hP'.below)
              have C2 := Lib.hid (fun W (h : Below w2.heap.size w2 W) => qnewest W p q d' d' (HP2.out.on h) (by omega))
              unfold mv at C1 C2
              generalize Mt.newest d' = y at *
              generalize Mt.newestCode d' = cc at *
              have EQ := Lib.hid (fun W => mt_eq W y y)
              simp only [decide_true] at EQ
              clear hP'
              go_wp2_with fail
              refine C1.out.mono ?_
              rintro e w3 ⟨rfl, b3⟩
              have k3 := heap_alloc_new w3 (.cells #[.int .u64 (y.gen : Int), .int .i64 y.high, .int .i64 y.root, .int .i64 y.free] 24)
              have l3 := alloc_lt w3 (.cells #[.int .u64 (y.gen : Int), .int .i64 y.high, .int .i64 y.root, .int .i64 y.free] 24)
              have R3 := Lib.hid (b3.alloc b3.size (.cells #[.int .u64 (y.gen : Int), .int .i64 y.high, .int .i64 y.root, .int .i64 y.free] 24))
              have K3 := Lib.hid k3
              have L3 := Lib.hid l3
              have D2 := Lib.hid (C2.out _ R3.out)
              clear k3 l3 b3 C1 C2
              go_wp2_with fail
              refine D2.out.mono ?_
              rintro e w4 ⟨rfl, b4⟩
              have k4 := (b4.block _ L3.out).trans K3.out
              obtain ⟨g0, g1, g2, g3⟩ := mt_cells k4
              have l4 : w3.heap.size < w4.heap.size := (Array.getElem?_eq_some_iff.1 k4).1
              have R4 := onto R3.out b4
              have R5 := Lib.hid (R4.alloc R4.size (.cells #[.int .u64 (y.gen : Int), .int .i64 y.high, .int .i64 y.root, .int .i64 y.free] 24))
              have HP5 := Lib.hid (HP2.out.on R5.out)
              have EQ' := EQ.out
              clear k4 R4 b4 K3 L3 D2 R3 R5
              go_wp2
              go_roundw
              case rel => exact ⟨k + 1, d', by omega, by omega, by go_num, by omega, HP5.out⟩
              case measure => simp [intOf]; omega
          · have hq2' : decide ((1024 : Int) < (bn : Int)) = true := by simp; omega
            have HE := Lib.hid (onto Bw.out ((Below.refl wr.heap.size wr).alloc (Nat.le_refl _) (.cells #[.int .i64 kd, .int .u64 (mm.gen : Int), .int .i64 mm.high, .int .i64 mm.root, .int .i64 mm.free, .int .i64 no, .slice kA kn kc, .slice bA bn bc] 41)))
            go_wp2
            go_ret
            exact ⟨rfl, HE.out⟩
        · have hq1' : decide ((1000 : Int) < (kn : Int)) = true := by simp; omega
          have HE := Lib.hid (onto Bw.out ((Below.refl wr.heap.size wr).alloc (Nat.le_refl _) (.cells #[.int .i64 kd, .int .u64 (mm.gen : Int), .int .i64 mm.high, .int .i64 mm.root, .int .i64 mm.free, .int .i64 no, .slice kA kn kc, .slice bA bn bc] 41)))
          go_wp2
          go_ret
          exact ⟨rfl, HE.out⟩
      · have z2 : ¬ ((k : Int) < 40) := by omega
        have z2' : decide ((k : Int) < 40) = false := by simp; omega
        have HE := Lib.hid (onto HB0.out HP.out.below)
        go_wp2
        go_ret
        exact ⟨rfl, HE.out⟩
    · have z1 : ¬ ((k : Int) < (n : Int)) := by omega
      have z1' : decide ((k : Int) < (n : Int)) = false := by simp; omega
      have HE := Lib.hid (onto HB0.out HP.out.below)
      go_wp2
      go_ret
      exact ⟨rfl, HE.out⟩

end Go.Proofs.Ytcpgmglpgffhdaa
