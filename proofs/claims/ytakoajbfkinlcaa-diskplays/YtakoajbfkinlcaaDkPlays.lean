/-
  DiskPlays: whatever is written, synced, lost and torn, each answer, and all that is seen, waits and is safe behind each step, is what the document says.
-/
import Derived.Test.YtakoajbfkinlcaaDkPair
import Derived.Test.YtakoajbfkinlcaaDkDo
import Derived.Test.YtakoajbfkinlcaaSame
import Derived.Deep.CutBlock
namespace Go.Proofs.Ytakoajbfkinlcaa
open Go.RowKit Go.Deep
set_option linter.unusedVariables false

/-- make([]byte, m). -/
def Zc (m : Nat) : Array Value := madeCells #[.int .u8 0] m
theorem make_some (m : Nat) (hm : m ≤ 2000) : (∀ W : World, Row (W.alloc (.cells (Zc m) 5)) W.heap.size (List.replicate m 0)) ∧ ∀ W : World, (Instr.makeSlice 34 (.int .i64 (m : Int)) (.int .i64 (m : Int))).run Try.prog W = .ok (.slice (some ⟨W.heap.size, 0, none⟩) m m) (W.alloc (.cells (Zc m) 5)) := by
  constructor
  · intro W
    have e : Zc m = (bv (List.replicate m 0)).toArray := by
      apply Array.ext'
      unfold Zc
      rw [toList_madeCells_one]; simp only [bv, List.map_replicate]; rfl
    rw [e]; exact heap_alloc_new W _
  · intro W
    exact run_make_row' (P := Try.prog) 34 5 (.int .u8 0) 1 Try.underlying34 Try.info5 rfl .i64 .i64 m (by omega) (by omega) W
/-- The cells of a step. -/
theorem kd_cells {w : World} {g : Nat} {a0 a1 a2 a3 a4 : Value} (h : w.heap[g]? = some (.cells #[a0, a1, a2, a3, a4] 31 (0, 0))) : w.cell? ⟨g, 0, none⟩ = some a0 ∧ w.cell? ⟨g, 1, none⟩ = some a1 ∧ w.cell? ⟨g, 2, none⟩ = some a2 ∧ w.cell? ⟨g, 3, none⟩ = some a3 ∧ w.cell? ⟨g, 4, none⟩ = some a4 :=
  ⟨cell_of_row w _ 0 _ _ (0, 0) h, cell_of_row w _ 1 _ _ (0, 0) h, cell_of_row w _ 2 _ _ (0, 0) h, cell_of_row w _ 3 _ _ (0, 0) h, cell_of_row w _ 4 _ _ (0, 0) h⟩

set_option maxRecDepth 100000 in
set_option maxHeartbeats 8000000 in
theorem diskPlays_walk (w : World) (q0 : Nat) (A : Option Addr) (n c : Nat) (L : List Dov) (hq : q0 < 256) (hL : Dos w A n c L) :
    Calls Try.prog 3 #[.int .u8 (q0 : Int), .slice A n c] w fun e w' => e = .returned (.bool true) ∧ Below w.heap.size w w' := by
  have hcm := hL.2.2.1
  have hnc := hL.2.1
  unfold maxLen at hcm
  have HL := Lib.hid hL
  clear hL
  obtain ⟨N, hN, hN13⟩ : ∃ N : Nat, (q0 : Int) % 13 = (N : Int) ∧ N < 13 := ⟨q0 % 13, by omega, by omega⟩
  go_enter Try.func3, Try.ntmps3
  go_wp2_with fail
  refine (awake_any _).mono ?_
  rintro e v0 ⟨rfl, B0⟩
  go_wp2_with fail
  refine (small_any v0 A n c L (HL.out.on B0)).mono ?_
  rintro e v1 ⟨rfl, rfl⟩
  cases hs1 : smallTo L 60 with
  | false =>
    have HB := Lib.hid B0
    go_wp2
    go_ret
    exact ⟨rfl, HB.out⟩
  | true =>
  clear hs1
  go_wp2_with fail
  refine (newD_any v0 (N : Int) N (by omega)).mono ?_
  rintro e v1 ⟨H, rfl, hD, h1, B1⟩
  go_wp2_with fail
  refine (rnew_any v1 N (by omega)).mono ?_
  rintro e v2 ⟨G, rfl, hR, h2, B2⟩
  have P2 := Lib.hid (Pair.made hD h1 B1 hR h2 B2)
  have HB0 := Lib.hid B0
  clear hD h1 B1 hR h2 B2 B0
  generalize H.p = p at *
  generalize G.q = q at *
  clear H G hN hq
  go_wp2_with fail
  go_loopw [8] (fun i wr => ∃ (k : Nat) (d : Dk.Pd), k ≤ n ∧ k ≤ 60 ∧ i = .int .i64 (k : Int) ∧ d.pages.length = N ∧ d.waits.length ≤ k ∧ Pair v0 wr p q d d) (fun i _ => n - (intOf i).toNat)
  case atStart => exact ⟨0, _, Nat.zero_le _, Nat.zero_le _, rfl, fresh_len N, Nat.le_refl _, P2.out⟩
  case round =>
    obtain ⟨k, d, hk, hk6, rfl, hp, hw, hP⟩ := hrel
    have HP := Lib.hid hP
    clear hP P2
    by_cases hlt : k < n
    · have z1 : (k : Int) < (n : Int) := by omega
      by_cases hlt6 : k < 60
      · have z2 : (k : Int) < 60 := by omega
        obtain ⟨b, off, x, rfl, hb, hx, hd⟩ := HL.out.get hlt
        have Bw := Lib.hid (onto HB0.out HP.out.below)
        have hdw := hd.on hb Bw.out
        have ck := hdw.kind
        have cn := hdw.no
        have cb := hdw.byte
        have cp := hdw.keep
        have ct := hdw.torn
        clear hdw hx
        go_upto_block 2 with fail
        have hkI := Lib.hid hd.kindI
        have hnI := Lib.hid hd.noI
        have hby := hd.byteI
        have hrd := hd.rd
        clear ck cn cb cp ct hd
        obtain ⟨kd, no, by_, kA, kn, kc, keep, torn⟩ := x
        dsimp only at *
        have P3 := Lib.hid (HP.out.alloc (.cells #[.int .i64 kd, .int .i64 no, .int .u8 (by_ : Int), .slice kA kn kc, .int .i64 torn] 31))
        have hbx := Lib.hid (heap_alloc_new wr (.cells #[.int .i64 kd, .int .i64 no, .int .u8 (by_ : Int), .slice kA kn kc, .int .i64 torn] 31))
        have hlx : wr.heap.size < (wr.alloc (.cells #[.int .i64 kd, .int .i64 no, .int .u8 (by_ : Int), .slice kA kn kc, .int .i64 torn] 31)).heap.size := by simp
        generalize wr.alloc (.cells #[.int .i64 kd, .int .i64 no, .int .u8 (by_ : Int), .slice kA kn kc, .int .i64 torn] 31) = w1 at *
        generalize wr.heap.size = bx at *
        have KC := Lib.hid (fun (W : World) (hk : Kd w1 W) => kd_cells (hk _ _ hbx.out))
        have RD := Lib.hid hrd
        have hwl : d.waits.length < 1000 := by omega
        obtain ⟨e0, e1, e2, e3, e4⟩ := KC.out w1 (fun _ _ h => h)
        clear hrd Bw HP hb
        go_cut [10, 11] from 29 to 195 (fun a b wx => ∃ (r : Int) (d' : Dk.Pd), a = .int .i64 r ∧ b = .int .i64 r ∧ d'.pages.length = N ∧ d'.waits.length ≤ k + 1 ∧ Pair v0 wx p q d' d')
        case first =>
          as_aux_lemma =>
          by_cases k0 : kd = 0
          · as_aux_lemma =>
            subst k0
            obtain ⟨l1, hl1⟩ : ∃ l, l = List.replicate 1024 by_ := ⟨_, rfl⟩
            have l1n : Hid (l1.length = 1024) := by show _ = _; rw [hl1]; exact List.length_replicate
            have l1t : Hid (∀ x ∈ l1, x < 256) := by intro x hx; rw [hl1] at hx; have := List.eq_of_mem_replicate hx; omega
            have F1 := Lib.hid (fun W => filled_any W by_ hby)
            rw [← hl1] at F1
            clear hl1
            have WK := Lib.hid (write_keeps d no l1)
            go_wp2_with fail
            go_region_held3 (fun w' => w'.cell? ⟨bx, 1, none⟩ = some (.int .i64 no) ∧ w'.cell? ⟨bx, 2, none⟩ = some (.int .u8 (by_ : Int))) (first | assumption | exact ⟨e1, e2⟩ | go_keep) (first
              | (go_at_call 13; refine (F1.out _).mono ?_; rintro e w3 ⟨g3, rfl, _, R3, B3⟩; have E3 := KC.out w3 (Kd.of_below (((Below.refl w1.heap.size w1).drew).trans B3)); have S3 : (fun w' : World => w'.cell? ⟨bx, 1, none⟩ = some (.int .i64 no) ∧ w'.cell? ⟨bx, 2, none⟩ = some (.int .u8 (by_ : Int))) w3 := ⟨E3.2.1, E3.2.2.1⟩)
              | (go_at_call 12; refine (pwrite _ p q _ _ (P3.out.drew.on B3) no 1024 1024 _ l1 (R3.bs' l1t.out l1n.out (by omega)) hwl).mono ?_; rintro e w4 ⟨rfl, P4, K4⟩; have K4' : Kd w1 w4 := fun g cs hg => K4 g cs (Kd.of_below (((Below.refl w1.heap.size w1).drew).trans B3) g cs hg); have E4 := KC.out w4 K4'; have S4 : (fun w' : World => w'.cell? ⟨bx, 1, none⟩ = some (.int .i64 no) ∧ w'.cell? ⟨bx, 2, none⟩ = some (.int .u8 (by_ : Int))) w4 := ⟨E4.2.1, E4.2.2.1⟩))
            obtain ⟨f0, f1, f2, f3, f4⟩ := E4
            have HP4 := Lib.hid P4
            have HK4 := Lib.hid K4'
            clear e0 e1 e2 e3 e4 S3 S4 E3 R3 B3 P4 K4 K4' P3
            go_wp2_with fail
            go_region_held3 (fun w' => w'.cell? ⟨bx, 1, none⟩ = some (.int .i64 no) ∧ w'.cell? ⟨bx, 2, none⟩ = some (.int .u8 (by_ : Int))) (first | assumption | exact ⟨f1, f2⟩ | go_keep) (first
              | (go_at_call 13; refine (F1.out _).mono ?_; rintro e w5 ⟨g5, rfl, _, R5, B5⟩; have K5 : Kd w4 w5 := Kd.of_below (((Below.refl w4.heap.size w4).drew).trans B5); have E5 := KC.out w5 (fun g cs hg => K5 g cs (HK4.out g cs hg)); have S5 : (fun w' : World => w'.cell? ⟨bx, 1, none⟩ = some (.int .i64 no) ∧ w'.cell? ⟨bx, 2, none⟩ = some (.int .u8 (by_ : Int))) w5 := ⟨E5.2.1, E5.2.2.1⟩)
              | (go_at_call 14; refine (qwrite _ p q _ _ (HP4.out.drew.on B5) no 1024 1024 _ l1 (R5.bs' l1t.out l1n.out (by omega)) hwl).mono ?_; rintro e w6 ⟨rfl, P6, K6⟩; have E6 := KC.out w6 (fun g cs hg => K6 g cs (K5 g cs (HK4.out g cs hg))); have S6 : (fun w' : World => w'.cell? ⟨bx, 1, none⟩ = some (.int .i64 no) ∧ w'.cell? ⟨bx, 2, none⟩ = some (.int .u8 (by_ : Int))) w6 := ⟨E6.2.1, E6.2.2.1⟩))
            have HP6 := Lib.hid P6
            clear P6 K6 K5 S5 S6 E5 E6 R5 B5 f0 f1 f2 f3 f4 HP4 HK4
            go_wp2
            go_meet
            exact ⟨_, _, rfl, rfl, WK.out.1.trans hp, by have := WK.out.2; omega, HP6.out⟩
          · have k0' : (kd == 0) = false := by simpa using k0
            by_cases k1 : kd = 1
            · as_aux_lemma =>
              subst k1
              have SK := Lib.hid (sync_keeps d)
              clear e0 e1 e2 e3 e4
              go_wp2_with fail
              refine (psync w1 p q d d P3.out hwl).mono ?_
              rintro e w4 ⟨rfl, P4, K4⟩
              go_wp2_with fail
              refine (qsync w4 p q _ d P4 hwl).mono ?_
              rintro e w6 ⟨rfl, P6, K6⟩
              have HP6 := Lib.hid P6
              clear P4 P6 K4 K6 P3
              go_wp2
              go_meet
              exact ⟨_, _, rfl, rfl, SK.out.1.trans hp, by have := SK.out.2; omega, HP6.out⟩
            · have k1' : (kd == 1) = false := by simpa using k1
              by_cases k2 : kd = 2
              · as_aux_lemma =>
                subst k2
                go_wp2_with fail
                refine (parm w1 p q d d P3.out no hnI.out.2).mono ?_
                rintro e w4 ⟨rfl, P4, K4⟩
                obtain ⟨f0, f1, f2, f3, f4⟩ := KC.out w4 K4
                have HP4 := Lib.hid P4
                clear e0 e1 e2 e3 e4 P4 K4 P3
                go_wp2_with fail
                refine (qarm w4 p q _ d HP4.out no hnI.out.2).mono ?_
                rintro e w6 ⟨rfl, P6, K6⟩
                have HP6 := Lib.hid P6
                clear P6 K6 HP4 f0 f1 f2 f3 f4
                go_wp2
                go_meet
                exact ⟨_, Dk.armed d no.toNat, rfl, rfl, hp, by show d.waits.length ≤ _; omega, HP6.out⟩
              · have k2' : (kd == 2) = false := by simpa using k2
                by_cases k3 : kd = 3
                · as_aux_lemma =>
                  subst k3
                  have CK := Lib.hid (crash_keeps d keep torn)
                  have HA : Hid (0 < kn → ∀ b off, kA = some ⟨b, off, none⟩ → b < v0.heap.size) := by
                    intro hn b off e
                    obtain ⟨b', off', e', hb', _⟩ := RD.out.2.2.2 hn
                    rw [e] at e'
                    injection e' with e'
                    injection e' with e'
                    subst e'
                    exact Nat.lt_of_lt_of_le hb' HB0.out.size
                  go_wp2_with fail
                  refine (pcrash w1 p q d d P3.out kA kn kc keep torn (RD.out.on (onto HB0.out P3.out.below)) HA.out hwl).mono ?_
                  rintro e w4 ⟨rfl, P4, K4⟩
                  obtain ⟨f0, f1, f2, f3, f4⟩ := KC.out w4 K4
                  have HP4 := Lib.hid P4
                  clear e0 e1 e2 e3 e4 P4 K4 P3
                  go_wp2_with fail
                  refine (qcrash w4 p q _ d HP4.out kA kn kc keep torn (RD.out.on (onto HB0.out HP4.out.below)) HA.out hwl).mono ?_
                  rintro e w6 ⟨rfl, P6, K6⟩
                  have HP6 := Lib.hid P6
                  clear P6 K6 HP4 f0 f1 f2 f3 f4
                  go_wp2
                  go_meet
                  exact ⟨_, _, rfl, rfl, CK.out.1.trans hp, by have := CK.out.2; omega, HP6.out⟩
                · have k3' : (kd == 3) = false := by simpa using k3
                  clear RD hkI hby
                  by_cases n0 : no < 0
                  · as_aux_lemma =>
                    have hmk : ∀ W : World, (Instr.makeSlice 34 (.int .i64 0) (.int .i64 0)).run Try.prog W = .ok (.slice (some ⟨W.heap.size, 0, none⟩) 0 0) (W.alloc (.cells (Zc 0) 5)) := (make_some 0 (by omega)).2
                    have ZR := Lib.hid (make_some 0 (by omega)).1
                    have WK := Lib.hid (write_keeps d 0 (List.replicate 0 0))
                    generalize Zc 0 = Zm at *
                    go_wp2_with fail
                    refine (pwrite _ p q d d (P3.out.alloc (.cells Zm 5)) 0 0 0 _ (List.replicate 0 0) ((ZR.out w1).bs' (zeros_lt 0) List.length_replicate (by omega)) hwl).mono ?_
                    rintro e w4 ⟨rfl, P4, K4⟩
                    obtain ⟨f0, f1, f2, f3, f4⟩ := KC.out w4 (fun g cs hg => K4 g cs (Kd.of_below ((Below.refl _ _).alloc (Nat.le_refl _) _) g cs hg))
                    have HP4 := Lib.hid P4
                    clear e0 e1 e2 e3 e4 P4 K4 P3
                    go_wp2_with fail
                    refine (qwrite _ p q _ d (HP4.out.alloc (.cells Zm 5)) 0 0 0 _ (List.replicate 0 0) ((ZR.out w4).bs' (zeros_lt 0) List.length_replicate (by omega)) hwl).mono ?_
                    rintro e w6 ⟨rfl, P6, K6⟩
                    have HP6 := Lib.hid P6
                    clear P6 K6 HP4 f0 f1 f2 f3 f4
                    go_wp2
                    go_meet
                    exact ⟨_, _, rfl, rfl, WK.out.1.trans hp, by have := WK.out.2; omega, HP6.out⟩
                  · by_cases n1 : 2000 < no
                    · as_aux_lemma =>
                      have hmk : ∀ W : World, (Instr.makeSlice 34 (.int .i64 2000) (.int .i64 2000)).run Try.prog W = .ok (.slice (some ⟨W.heap.size, 0, none⟩) 2000 2000) (W.alloc (.cells (Zc 2000) 5)) := (make_some 2000 (by omega)).2
                      have ZR := Lib.hid (make_some 2000 (by omega)).1
                      have WK := Lib.hid (write_keeps d 0 (List.replicate 2000 0))
                      generalize Zc 2000 = Zm at *
                      go_wp2_with fail
                      refine (pwrite _ p q d d (P3.out.alloc (.cells Zm 5)) 0 2000 2000 _ (List.replicate 2000 0) ((ZR.out w1).bs' (zeros_lt 2000) List.length_replicate (by omega)) hwl).mono ?_
                      rintro e w4 ⟨rfl, P4, K4⟩
                      obtain ⟨f0, f1, f2, f3, f4⟩ := KC.out w4 (fun g cs hg => K4 g cs (Kd.of_below ((Below.refl _ _).alloc (Nat.le_refl _) _) g cs hg))
                      have HP4 := Lib.hid P4
                      clear e0 e1 e2 e3 e4 P4 K4 P3
                      go_wp2_with fail
                      refine (qwrite _ p q _ d (HP4.out.alloc (.cells Zm 5)) 0 2000 2000 _ (List.replicate 2000 0) ((ZR.out w4).bs' (zeros_lt 2000) List.length_replicate (by omega)) hwl).mono ?_
                      rintro e w6 ⟨rfl, P6, K6⟩
                      have HP6 := Lib.hid P6
                      clear P6 K6 HP4 f0 f1 f2 f3 f4
                      go_wp2
                      go_meet
                      exact ⟨_, _, rfl, rfl, WK.out.1.trans hp, by have := WK.out.2; omega, HP6.out⟩
                    · as_aux_lemma =>
                      obtain ⟨m, rfl⟩ : ∃ m : Nat, no = (m : Int) := ⟨no.toNat, by omega⟩
                      have n2 : m ≤ 2000 := by omega
                      have hmk : ∀ W : World, (Instr.makeSlice 34 (.int .i64 (m : Int)) (.int .i64 (m : Int))).run Try.prog W = .ok (.slice (some ⟨W.heap.size, 0, none⟩) m m) (W.alloc (.cells (Zc m) 5)) := (make_some m (by omega)).2
                      have ZR := Lib.hid (make_some m (by omega)).1
                      have WK := Lib.hid (write_keeps d 0 (List.replicate m 0))
                      generalize Zc m = Zm at *
                      go_wp2_with fail
                      refine (pwrite _ p q d d (P3.out.alloc (.cells Zm 5)) 0 m m _ (List.replicate m 0) ((ZR.out w1).bs' (zeros_lt m) List.length_replicate (by omega)) hwl).mono ?_
                      rintro e w4 ⟨rfl, P4, K4⟩
                      obtain ⟨f0, f1, f2, f3, f4⟩ := KC.out w4 (fun g cs hg => K4 g cs (Kd.of_below ((Below.refl _ _).alloc (Nat.le_refl _) _) g cs hg))
                      have HP4 := Lib.hid P4
                      clear e0 e1 e2 e3 e4 P4 K4 P3
                      go_wp2_with fail
                      refine (qwrite _ p q _ d (HP4.out.alloc (.cells Zm 5)) 0 m m _ (List.replicate m 0) ((ZR.out w4).bs' (zeros_lt m) List.length_replicate (by omega)) hwl).mono ?_
                      rintro e w6 ⟨rfl, P6, K6⟩
                      have HP6 := Lib.hid P6
                      clear P6 K6 HP4 f0 f1 f2 f3 f4
                      go_wp2
                      go_meet
                      exact ⟨_, _, rfl, rfl, WK.out.1.trans hp, by have := WK.out.2; omega, HP6.out⟩
        case rest =>
          as_aux_lemma =>
          obtain ⟨r, d', rfl, rfl, hp', hw', hP'⟩ := hcut
          obtain ⟨w2, hw2⟩ : ∃ w2 : World, w2 = wc := ⟨_, rfl⟩
          subst hw2
          clear P3 hbx KC RD e0 e1 e2 e3 e4 hlx hkI hnI hby
          have hrr : ((r : Int) != r) = false := by simp
          obtain ⟨lq, cq⟩ := hP'.off_
          have hwl' : d'.waits.length < 1000 := by omega
          generalize hdn : d'.down = dn at *
          have hdd : (dn != dn) = false := by simp
          have hNN : ((N : Int) != (N : Int)) = false := by simp
          have HP2 := Lib.hid hP'
          clear hP'
          go_wp2_with fail
          go_region_held3 (fun w' => w'.cell? ⟨q, 3, none⟩ = some (.bool dn)) (first | assumption | exact c6 | exact c5 | exact cq | go_keep) (first
            | (go_at_call 21; refine (pdown _ p q _ _ HP2.out.drew).mono ?_; rintro e w3 ⟨rfl, rfl⟩; rw [hdn])
            | (go_at_call 23; refine (pwaiting _ p q _ _ HP2.out.drew hwl').mono ?_; rintro e w5 ⟨A5, k5, rfl, R5, B5⟩; have P5 := HP2.out.drew.on B5; have c5 := (B5.cell (p := ⟨q, 3, none⟩) lq).trans cq; have lq5 := Nat.lt_of_lt_of_le lq B5.size)
            | (go_at_call 24; refine (qwaiting _ p q _ _ P5 hwl').mono ?_; rintro e w6 ⟨A6, k6, rfl, R6, B6⟩; have P6 := P5.on B6; have R5' := R5.on B6; have c6 := (B6.cell (p := ⟨q, 3, none⟩) lq5).trans c5)
            | (go_at_call 22; refine (ints_same w6 A5 A6 _ _ _ (Dk.nos d') R5' R6 hwl').mono ?_; rintro e w7 ⟨rfl, m7, rfl⟩)
            | (go_at_call 25; refine (ppages _ p q _ _ (P6.drewN m7)).mono ?_; rintro e w8 ⟨rfl, rfl⟩; rw [hp']))
          have HP6 := Lib.hid (P6.drewN m7)
          clear P5 P6 R5 R5' R6 B5 B6 c5 c6 lq5 cq lq HP2
          go_wp2_with fail
          go_loopw [12] (fun i wr => ∃ z : Int, i = .int .i64 z ∧ -1 ≤ z ∧ z ≤ (N : Int) + 1 ∧ Pair v0 wr p q d' d') (fun i _ => ((N : Int) + 1 - intOf i).toNat)
          case atStart => exact ⟨-1, rfl, by omega, by omega, HP6.out⟩
          case round =>
            obtain ⟨z, rfl, hz1, hz2, hPz⟩ := hrel
            have HPz := Lib.hid hPz
            clear hPz HP6
            by_cases hzN : z ≤ (N : Int)
            · by_cases hm1 : z < 0
              · as_aux_lemma =>
                have hno : ¬ Dk.has d' z := by unfold Dk.has; rw [hp']; omega
                have q2 : decide (z < 0) = true := by simpa using hm1
                have q4 : decide ((0 : Int) ≤ z) = false := by simpa using hm1
                go_wp2_with fail
                refine (pread_no _ p q _ _ HPz.out z hno).mono ?_
                rintro e w1 ⟨rfl, rfl⟩
                go_wp2_with fail
                refine (qread_no _ p q _ _ HPz.out z hno).mono ?_
                rintro e w1 ⟨rfl, rfl⟩
                go_wp2_with fail
                go_quiet ((first | (go_at_call 28; exact Calls.quiet_of (same_eq _ _ _ _ _ _ _ [] (Bs.nil_ _ _ _ (Nat.zero_le _)) (Bs.nil_ _ _ _ (Nat.zero_le _)))) | (go_at_call 29; exact Calls.quiet_of_same ((psafe_no _ p q _ _ (HPz.out.drewN _) z hno).mono fun _ _ h => ⟨h.1, h.2.symm⟩))))
                go_wp2
                go_roundw
                case rel => exact ⟨z + 1, by go_num, by omega, by omega, HPz.out.drewN _⟩
                case measure => simp [intOf]; omega
              · by_cases hmN : (N : Int) ≤ z
                · as_aux_lemma =>
                  have hno : ¬ Dk.has d' z := by unfold Dk.has; rw [hp']; omega
                  have q1' : decide (z < (N : Int)) = false := by simpa using hmN
                  have q2 : decide (z < 0) = false := by simpa using hm1
                  have q3 : decide ((N : Int) ≤ z) = true := by simpa using hmN
                  have q4 : decide ((0 : Int) ≤ z) = true := by simpa using hm1
                  go_wp2_with fail
                  refine (pread_no _ p q _ _ HPz.out z hno).mono ?_
                  rintro e w1 ⟨rfl, rfl⟩
                  go_wp2_with fail
                  refine (qread_no _ p q _ _ HPz.out z hno).mono ?_
                  rintro e w1 ⟨rfl, rfl⟩
                  go_wp2_with fail
                  go_quiet ((first | (go_at_call 28; exact Calls.quiet_of (same_eq _ _ _ _ _ _ _ [] (Bs.nil_ _ _ _ (Nat.zero_le _)) (Bs.nil_ _ _ _ (Nat.zero_le _)))) | (go_at_call 29; exact Calls.quiet_of_same ((psafe_no _ p q _ _ (HPz.out.drewN _) z hno).mono fun _ _ h => ⟨h.1, h.2.symm⟩))))
                  go_wp2
                  go_roundw
                  case rel => exact ⟨z + 1, by go_num, by omega, by omega, HPz.out.drewN _⟩
                  case measure => simp [intOf]; omega
                · as_aux_lemma =>
                  obtain ⟨m, rfl⟩ : ∃ m : Nat, z = (m : Int) := ⟨z.toNat, by omega⟩
                  have hm : m < N := by omega
                  have q1 : (m : Int) < (N : Int) := by omega
                  have q2 : decide ((m : Int) < 0) = false := by simp
                  have q3 : decide ((N : Int) ≤ (m : Int)) = false := by simp; omega
                  have q4 : decide ((0 : Int) ≤ (m : Int)) = true := by simp
                  have q3' : decide (N ≤ m) = false := by simp; omega
                  have q3n : ¬ (N ≤ m) := by omega
                  have hmp : m < d'.pages.length := by rw [hp']; exact hm
                  go_wp2_with fail
                  refine (pread _ p q _ _ HPz.out m hmp).mono ?_
                  rintro e w1 ⟨g1, rfl, _, n1, t1, R1, B1⟩
                  have P1 := HPz.out.on B1
                  go_wp2_with fail
                  refine (qread _ p q _ _ P1 m hmp hwl').mono ?_
                  rintro e w3 ⟨A3, k3, rfl, s3, B3⟩
                  have P3 := P1.on B3
                  have s1 := (R1.on B3).bs' t1 n1 (by omega)
                  obtain ⟨gs, cs, gl, cl, l, lq, lgs, hcs, c0, cm, hl, hbl⟩ := Pair.page _ p q _ _ P3 hmp
                  rw [hp'] at c0 hcs
                  have HP3 := Lib.hid P3
                  have HBL := Lib.hid hbl
                  have HS1 := Lib.hid s1
                  have HS3 := Lib.hid s3
                  have HL3 := Lib.hid hl
                  clear P1 P3 s1 s3 R1 B1 B3 n1 t1 hbl hl HPz
                  go_wp2_with fail
                  refine wp_region_noPanic ?_
                  refine wp_region_held_drew (S := (fun w' : World => w'.cell? ⟨q, 0, none⟩ = some (.slice (some ⟨gs, 0, none⟩) N cs) ∧ w'.cell? ⟨gs, m, none⟩ = some (.slice (some ⟨gl, 0, none⟩) 1024 cl))) (by kernel_rfl) (by exact ⟨c0, cm⟩) (fun hHeld => ?_)
                  refine wpAnyH_take (i := 0) (oi := { dst := some 148, op := Go.Op.move (Go.Operand.tmp 14), type := 32, pos := "law.go:93", after := #[], guard := none }) (v := ?_) rfl (by kernel_rfl) (by kernel_rfl) (by kernel_rfl) (fun _ _ _ h => h) (Or.inl ⟨by rfl, ?_⟩) (by assumption) ?_
                  rotate_left
                  · (intro w hSw; (try dsimp only at hSw); go_simp; try with_reducible rfl)
                  try simp only [Act.put, List.setIfInBounds_toArray, List.set_cons_zero, List.set_cons_succ]
                  refine wpAnyH_take (i := 1) (oi := { dst := some 149, op := Go.Op.move (Go.Operand.tmp 16), type := 32, pos := "law.go:93", after := #[], guard := none }) (v := ?_) rfl (by kernel_rfl) (by kernel_rfl) (by kernel_rfl) (fun _ _ _ h => h) (Or.inl ⟨by rfl, ?_⟩) (by assumption) ?_
                  rotate_left
                  · (intro w hSw; (try dsimp only at hSw); go_simp; try with_reducible rfl)
                  try simp only [Act.put, List.setIfInBounds_toArray, List.set_cons_zero, List.set_cons_succ]
                  refine wpAnyH_take (i := 2) (oi := { dst := some 150, op := Go.Op.binOp Go.BinOp.neq 32 (Go.Operand.tmp 148) (Go.Operand.tmp 149) 32, type := 4, pos := "law.go:93", after := #[{ on := 0, ground := Go.Ground.data }, { on := 1, ground := Go.Ground.data }], guard := none }) (v := ?_) rfl (by kernel_rfl) (by kernel_rfl) (by kernel_rfl) (fun _ _ _ h => h) (Or.inl ⟨by rfl, ?_⟩) (by assumption) ?_
                  rotate_left
                  · (intro w hSw; (try dsimp only at hSw); go_simp; try with_reducible rfl)
                  try simp only [Act.put, List.setIfInBounds_toArray, List.set_cons_zero, List.set_cons_succ]
                  refine wpAnyH_take (i := 3) (oi := { dst := some 151, op := Go.Op.move (Go.Operand.tmp 150), type := 4, pos := "law.go:93", after := #[{ on := 2, ground := Go.Ground.data }], guard := none }) (v := ?_) rfl (by kernel_rfl) (by kernel_rfl) (by kernel_rfl) (fun _ _ _ h => h) (Or.inl ⟨by rfl, ?_⟩) (by assumption) ?_
                  rotate_left
                  · (intro w hSw; (try dsimp only at hSw); go_simp; try with_reducible rfl)
                  try simp only [Act.put, List.setIfInBounds_toArray, List.set_cons_zero, List.set_cons_succ]
                  refine wpAnyH_take (i := 4) (oi := { dst := some 152, op := Go.Op.move (Go.Operand.tmp 13), type := 34, pos := "law.go:93", after := #[{ on := 3, ground := Go.Ground.guard }], guard := some (3, false) }) (v := ?_) rfl (by kernel_rfl) (by kernel_rfl) (by kernel_rfl) (fun _ _ _ h => h) (Or.inl ⟨by rfl, ?_⟩) (by assumption) ?_
                  rotate_left
                  · (intro w hSw; (try dsimp only at hSw); go_simp; try with_reducible rfl)
                  try simp only [Act.put, List.setIfInBounds_toArray, List.set_cons_zero, List.set_cons_succ]
                  refine wpAnyH_take (i := 5) (oi := { dst := some 153, op := Go.Op.move (Go.Operand.tmp 15), type := 34, pos := "law.go:93", after := #[{ on := 3, ground := Go.Ground.guard }], guard := some (3, false) }) (v := ?_) rfl (by kernel_rfl) (by kernel_rfl) (by kernel_rfl) (fun _ _ _ h => h) (Or.inl ⟨by rfl, ?_⟩) (by assumption) ?_
                  rotate_left
                  · (intro w hSw; (try dsimp only at hSw); go_simp; try with_reducible rfl)
                  try simp only [Act.put, List.setIfInBounds_toArray, List.set_cons_zero, List.set_cons_succ]
                  refine wpAnyH_ready (rs := [6]) (by kernel_rfl) (by simp) ?_
                  refine AllReadyH.cons (o := { dst := some 154, op := Go.Op.call { callee := Go.Callee.value (Go.Operand.func 28), args := #[Go.Operand.tmp 152, Go.Operand.tmp 153], argTypes := #[34, 34] }, type := 4, pos := "law.go:93", after := #[{ on := 4, ground := Go.Ground.data }, { on := 5, ground := Go.Ground.data }, { on := 3, ground := Go.Ground.chain }, { on := 3, ground := Go.Ground.guard }], guard := some (3, false) }) rfl (fun K hK => ?_) AllReadyH.nil
                  go_simp
                  refine (same_eq w3.drew _ _ _ _ _ _ (Dk.seen d' m) HS1.out.drew HS3.out.drew).mono ?_
                  rintro e w5 ⟨rfl, m5, rfl⟩
                  refine hK.out _ _ (by exact ⟨c0, cm⟩) (fun hHeld => ?_)
                  clear hK K
                  try simp only [Act.put, List.setIfInBounds_toArray, List.set_cons_zero, List.set_cons_succ]
                  refine wpAnyH_take (i := 7) (oi := { dst := some 155, op := Go.Op.unOp Go.UnOp.not 4 (Go.Operand.tmp 154), type := 4, pos := "law.go:93", after := #[{ on := 6, ground := Go.Ground.data }, { on := 3, ground := Go.Ground.guard }], guard := some (3, false) }) (v := ?_) rfl (by kernel_rfl) (by kernel_rfl) (by kernel_rfl) (fun _ _ _ h => h) (Or.inl ⟨by rfl, ?_⟩) (by assumption) ?_
                  rotate_left
                  · (intro w hSw; (try dsimp only at hSw); go_simp; try with_reducible rfl)
                  try simp only [Act.put, List.setIfInBounds_toArray, List.set_cons_zero, List.set_cons_succ]
                  refine wpAnyH_take (i := 8) (oi := { dst := some 156, op := Go.Op.pick (Go.Operand.tmp 151) (Go.Operand.const (Go.Value.bool true)) (Go.Operand.tmp 155), type := 4, pos := "law.go:93", after := #[{ on := 3, ground := Go.Ground.data }, { on := 7, ground := Go.Ground.data }], guard := none }) (v := ?_) rfl (by kernel_rfl) (by kernel_rfl) (by kernel_rfl) (fun _ _ _ h => h) (Or.inl ⟨by rfl, ?_⟩) (by assumption) ?_
                  rotate_left
                  · (intro w hSw; (try dsimp only at hSw); go_simp; try with_reducible rfl)
                  try simp only [Act.put, List.setIfInBounds_toArray, List.set_cons_zero, List.set_cons_succ]
                  refine wpAnyH_take (i := 9) (oi := { dst := some 157, op := Go.Op.move (Go.Operand.tmp 156), type := 4, pos := "law.go:93", after := #[{ on := 8, ground := Go.Ground.data }, { on := 6, ground := Go.Ground.chain }], guard := none }) (v := ?_) rfl (by kernel_rfl) (by kernel_rfl) (by kernel_rfl) (fun _ _ _ h => h) (Or.inl ⟨by rfl, ?_⟩) (by assumption) ?_
                  rotate_left
                  · (intro w hSw; (try dsimp only at hSw); go_simp; try with_reducible rfl)
                  try simp only [Act.put, List.setIfInBounds_toArray, List.set_cons_zero, List.set_cons_succ]
                  refine wpAnyH_take (i := 10) (oi := { dst := some 158, op := Go.Op.move (Go.Operand.tmp 12), type := 3, pos := "law.go:93", after := #[{ on := 9, ground := Go.Ground.guard }], guard := some (9, false) }) (v := ?_) rfl (by kernel_rfl) (by kernel_rfl) (by kernel_rfl) (fun _ _ _ h => h) (Or.inl ⟨by rfl, ?_⟩) (by assumption) ?_
                  rotate_left
                  · (intro w hSw; (try dsimp only at hSw); go_simp; try with_reducible rfl)
                  try simp only [Act.put, List.setIfInBounds_toArray, List.set_cons_zero, List.set_cons_succ]
                  refine wpAnyH_take (i := 11) (oi := { dst := some 159, op := Go.Op.binOp Go.BinOp.geq 3 (Go.Operand.tmp 158) (Go.Operand.const (Go.Value.int Go.IntKind.i64 0)) 3, type := 4, pos := "law.go:93", after := #[{ on := 10, ground := Go.Ground.data }, { on := 9, ground := Go.Ground.guard }], guard := some (9, false) }) (v := ?_) rfl (by kernel_rfl) (by kernel_rfl) (by kernel_rfl) (fun _ _ _ h => h) (Or.inl ⟨by rfl, ?_⟩) (by assumption) ?_
                  rotate_left
                  · (intro w hSw; (try dsimp only at hSw); go_simp; try with_reducible rfl)
                  try simp only [Act.put, List.setIfInBounds_toArray, List.set_cons_zero, List.set_cons_succ]
                  refine wpAnyH_take (i := 12) (oi := { dst := some 160, op := Go.Op.move (Go.Operand.tmp 159), type := 4, pos := "law.go:93", after := #[{ on := 11, ground := Go.Ground.data }, { on := 9, ground := Go.Ground.chain }, { on := 9, ground := Go.Ground.guard }], guard := some (9, false) }) (v := ?_) rfl (by kernel_rfl) (by kernel_rfl) (by kernel_rfl) (fun _ _ _ h => h) (Or.inl ⟨by rfl, ?_⟩) (by assumption) ?_
                  rotate_left
                  · (intro w hSw; (try dsimp only at hSw); go_simp; try with_reducible rfl)
                  try simp only [Act.put, List.setIfInBounds_toArray, List.set_cons_zero, List.set_cons_succ]
                  refine wpAnyH_take (i := 13) (oi := { dst := some 161, op := Go.Op.move (Go.Operand.tmp 12), type := 3, pos := "law.go:93", after := #[{ on := 12, ground := Go.Ground.guard }], guard := some (12, true) }) (v := ?_) rfl (by kernel_rfl) (by kernel_rfl) (by kernel_rfl) (fun _ _ _ h => h) (Or.inl ⟨by rfl, ?_⟩) (by assumption) ?_
                  rotate_left
                  · (intro w hSw; (try dsimp only at hSw); go_simp; try with_reducible rfl)
                  try simp only [Act.put, List.setIfInBounds_toArray, List.set_cons_zero, List.set_cons_succ]
                  refine wpAnyH_take (i := 14) (oi := { dst := some 162, op := Go.Op.move (Go.Operand.tmp 5), type := 3, pos := "law.go:93", after := #[{ on := 12, ground := Go.Ground.guard }], guard := some (12, true) }) (v := ?_) rfl (by kernel_rfl) (by kernel_rfl) (by kernel_rfl) (fun _ _ _ h => h) (Or.inl ⟨by rfl, ?_⟩) (by assumption) ?_
                  rotate_left
                  · (intro w hSw; (try dsimp only at hSw); go_simp; try with_reducible rfl)
                  try simp only [Act.put, List.setIfInBounds_toArray, List.set_cons_zero, List.set_cons_succ]
                  refine wpAnyH_take (i := 15) (oi := { dst := some 163, op := Go.Op.binOp Go.BinOp.lss 3 (Go.Operand.tmp 161) (Go.Operand.tmp 162) 3, type := 4, pos := "law.go:93", after := #[{ on := 13, ground := Go.Ground.data }, { on := 14, ground := Go.Ground.data }, { on := 12, ground := Go.Ground.guard }], guard := some (12, true) }) (v := ?_) rfl (by kernel_rfl) (by kernel_rfl) (by kernel_rfl) (fun _ _ _ h => h) (Or.inl ⟨by rfl, ?_⟩) (by assumption) ?_
                  rotate_left
                  · (intro w hSw; (try dsimp only at hSw); go_simp; try with_reducible rfl)
                  try simp only [Act.put, List.setIfInBounds_toArray, List.set_cons_zero, List.set_cons_succ]
                  refine wpAnyH_take (i := 16) (oi := { dst := some 164, op := Go.Op.pick (Go.Operand.tmp 160) (Go.Operand.tmp 163) (Go.Operand.const (Go.Value.bool false)), type := 4, pos := "law.go:93", after := #[{ on := 12, ground := Go.Ground.data }, { on := 15, ground := Go.Ground.data }, { on := 9, ground := Go.Ground.guard }], guard := some (9, false) }) (v := ?_) rfl (by kernel_rfl) (by kernel_rfl) (by kernel_rfl) (fun _ _ _ h => h) (Or.inl ⟨by rfl, ?_⟩) (by assumption) ?_
                  rotate_left
                  · (intro w hSw; (try dsimp only at hSw); go_simp; try with_reducible rfl)
                  try simp only [Act.put, List.setIfInBounds_toArray, List.set_cons_zero, List.set_cons_succ]
                  refine wpAnyH_take (i := 17) (oi := { dst := some 165, op := Go.Op.move (Go.Operand.tmp 164), type := 4, pos := "law.go:93", after := #[{ on := 16, ground := Go.Ground.data }, { on := 12, ground := Go.Ground.chain }, { on := 9, ground := Go.Ground.guard }], guard := some (9, false) }) (v := ?_) rfl (by kernel_rfl) (by kernel_rfl) (by kernel_rfl) (fun _ _ _ h => h) (Or.inl ⟨by rfl, ?_⟩) (by assumption) ?_
                  rotate_left
                  · (intro w hSw; (try dsimp only at hSw); go_simp; try with_reducible rfl)
                  try simp only [Act.put, List.setIfInBounds_toArray, List.set_cons_zero, List.set_cons_succ]
                  refine wpAnyH_take (i := 18) (oi := { dst := some 166, op := Go.Op.move (Go.Operand.tmp 6), type := 25, pos := "law.go:93", after := #[{ on := 17, ground := Go.Ground.guard }], guard := some (17, true) }) (v := ?_) rfl (by kernel_rfl) (by kernel_rfl) (by kernel_rfl) (fun _ _ _ h => h) (Or.inl ⟨by rfl, ?_⟩) (by assumption) ?_
                  rotate_left
                  · (intro w hSw; (try dsimp only at hSw); go_simp; try with_reducible rfl)
                  try simp only [Act.put, List.setIfInBounds_toArray, List.set_cons_zero, List.set_cons_succ]
                  refine wpAnyH_take (i := 19) (oi := { dst := some 167, op := Go.Op.move (Go.Operand.tmp 12), type := 3, pos := "law.go:93", after := #[{ on := 17, ground := Go.Ground.guard }], guard := some (17, true) }) (v := ?_) rfl (by kernel_rfl) (by kernel_rfl) (by kernel_rfl) (fun _ _ _ h => h) (Or.inl ⟨by rfl, ?_⟩) (by assumption) ?_
                  rotate_left
                  · (intro w hSw; (try dsimp only at hSw); go_simp; try with_reducible rfl)
                  try simp only [Act.put, List.setIfInBounds_toArray, List.set_cons_zero, List.set_cons_succ]
                  refine wpAnyH_take (i := 21) (oi := { dst := some 169, op := Go.Op.move (Go.Operand.tmp 7), type := 27, pos := "law.go:93", after := #[{ on := 17, ground := Go.Ground.guard }], guard := some (17, true) }) (v := ?_) rfl (by kernel_rfl) (by kernel_rfl) (by kernel_rfl) (fun _ _ _ h => h) (Or.inl ⟨by rfl, ?_⟩) (by assumption) ?_
                  rotate_left
                  · (intro w hSw; (try dsimp only at hSw); go_simp; try with_reducible rfl)
                  try simp only [Act.put, List.setIfInBounds_toArray, List.set_cons_zero, List.set_cons_succ]
                  refine wpAnyH_take (i := 22) (oi := { dst := some 170, op := Go.Op.nilCheck (Go.Operand.tmp 169), type := 0, pos := "law.go:93", after := #[{ on := 21, ground := Go.Ground.data }, { on := 17, ground := Go.Ground.guard }], guard := some (17, true) }) (v := ?_) rfl (by kernel_rfl) (by kernel_rfl) (by kernel_rfl) (fun _ _ _ h => h) (Or.inl ⟨by rfl, ?_⟩) (by assumption) ?_
                  rotate_left
                  · (intro w hSw; (try dsimp only at hSw); go_simp; try with_reducible rfl)
                  try simp only [Act.put, List.setIfInBounds_toArray, List.set_cons_zero, List.set_cons_succ]
                  refine wpAnyH_take (i := 23) (oi := { dst := some 171, op := Go.Op.fieldAddr 42 (Go.Operand.tmp 170) 0, type := 0, pos := "law.go:93", after := #[{ on := 22, ground := Go.Ground.data }, { on := 17, ground := Go.Ground.guard }], guard := some (17, true) }) (v := ?_) rfl (by kernel_rfl) (by kernel_rfl) (by kernel_rfl) (fun _ _ _ h => h) (Or.inl ⟨by rfl, ?_⟩) (by assumption) ?_
                  rotate_left
                  · (intro w hSw; (try dsimp only at hSw); go_simp; try with_reducible rfl)
                  try simp only [Act.put, List.setIfInBounds_toArray, List.set_cons_zero, List.set_cons_succ]
                  refine wpAnyH_take (i := 24) (oi := { dst := some 172, op := Go.Op.load 39 (Go.Operand.tmp 171), type := 39, pos := "law.go:93", after := #[{ on := 23, ground := Go.Ground.data }, { on := 17, ground := Go.Ground.guard }], guard := some (17, true) }) (v := ?_) rfl (by kernel_rfl) (by kernel_rfl) (by kernel_rfl) (fun _ _ _ h => h) (Or.inl ⟨by rfl, ?_⟩) (by assumption) ?_
                  rotate_left
                  · (intro w hSw; (try dsimp only at hSw); go_simp; try with_reducible rfl)
                  try simp only [Act.put, List.setIfInBounds_toArray, List.set_cons_zero, List.set_cons_succ]
                  refine wpAnyH_take (i := 25) (oi := { dst := some 173, op := Go.Op.move (Go.Operand.tmp 12), type := 3, pos := "law.go:93", after := #[{ on := 17, ground := Go.Ground.guard }], guard := some (17, true) }) (v := ?_) rfl (by kernel_rfl) (by kernel_rfl) (by kernel_rfl) (fun _ _ _ h => h) (Or.inl ⟨by rfl, ?_⟩) (by assumption) ?_
                  rotate_left
                  · (intro w hSw; (try dsimp only at hSw); go_simp; try with_reducible rfl)
                  try simp only [Act.put, List.setIfInBounds_toArray, List.set_cons_zero, List.set_cons_succ]
                  refine wpAnyH_take (i := 26) (oi := { dst := some 174, op := Go.Op.indexAddr 39 (Go.Operand.tmp 172) (Go.Operand.tmp 173), type := 0, pos := "law.go:93", after := #[{ on := 24, ground := Go.Ground.data }, { on := 25, ground := Go.Ground.data }, { on := 17, ground := Go.Ground.guard }], guard := some (17, true) }) (v := ?_) rfl (by kernel_rfl) (by kernel_rfl) (by kernel_rfl) (fun _ _ _ h => h) (Or.inl ⟨by rfl, ?_⟩) (by assumption) ?_
                  rotate_left
                  · (intro w hSw; (try dsimp only at hSw); go_simp; try with_reducible rfl)
                  try simp only [Act.put, List.setIfInBounds_toArray, List.set_cons_zero, List.set_cons_succ]
                  refine wpAnyH_take (i := 27) (oi := { dst := some 175, op := Go.Op.load 34 (Go.Operand.tmp 174), type := 34, pos := "law.go:93", after := #[{ on := 26, ground := Go.Ground.data }, { on := 17, ground := Go.Ground.guard }], guard := some (17, true) }) (v := ?_) rfl (by kernel_rfl) (by kernel_rfl) (by kernel_rfl) (fun _ _ _ h => h) (Or.inl ⟨by rfl, ?_⟩) (by assumption) ?_
                  rotate_left
                  · (intro w hSw; (try dsimp only at hSw); go_simp; try with_reducible rfl)
                  try simp only [Act.put, List.setIfInBounds_toArray, List.set_cons_zero, List.set_cons_succ]
                  refine wpAnyH_ready (rs := [20]) (by kernel_rfl) (by simp) ?_
                  refine AllReadyH.cons (o := { dst := some 168, op := Go.Op.call { callee := Go.Callee.value (Go.Operand.func 29), args := #[Go.Operand.tmp 166, Go.Operand.tmp 167], argTypes := #[25, 3] }, type := 34, pos := "law.go:93", after := #[{ on := 18, ground := Go.Ground.data }, { on := 19, ground := Go.Ground.data }, { on := 17, ground := Go.Ground.chain }, { on := 17, ground := Go.Ground.guard }], guard := some (17, true) }) rfl (fun K hK => ?_) AllReadyH.nil
                  go_simp
                  refine (psafe _ p q _ _ (HP3.out.drewN (1 + m5)) m hmp).mono ?_
                  rintro e w4 ⟨g4, l4, rfl, _, e4, n4, t4, R4, B4⟩
                  rw [HL3.out] at e4
                  injection e4 with e4
                  subst e4
                  have S4 : (fun w' : World => w'.cell? ⟨q, 0, none⟩ = some (.slice (some ⟨gs, 0, none⟩) N cs) ∧ w'.cell? ⟨gs, m, none⟩ = some (.slice (some ⟨gl, 0, none⟩) 1024 cl)) w4 := ⟨(B4.cell (p := ⟨q, 0, none⟩) lq).trans c0, (B4.cell (p := ⟨gs, m, none⟩) lgs).trans cm⟩
                  refine hK.out _ _ (by exact S4) (fun hHeld => ?_)
                  clear hK K
                  try simp only [Act.put, List.setIfInBounds_toArray, List.set_cons_zero, List.set_cons_succ]
                  refine wpAnyH_ready (rs := [28]) (by kernel_rfl) (by simp) ?_
                  refine AllReadyH.cons (o := { dst := some 176, op := Go.Op.call { callee := Go.Callee.value (Go.Operand.func 28), args := #[Go.Operand.tmp 168, Go.Operand.tmp 175], argTypes := #[34, 34] }, type := 4, pos := "law.go:93", after := #[{ on := 20, ground := Go.Ground.data }, { on := 27, ground := Go.Ground.data }, { on := 20, ground := Go.Ground.chain }, { on := 17, ground := Go.Ground.guard }], guard := some (17, true) }) rfl (fun K hK => ?_) AllReadyH.nil
                  go_simp
                  refine (same_eq w4 _ _ _ _ _ _ l (R4.bs' t4 n4 (by omega)) ((HBL.out.drewN (1 + m5)).on B4)).mono ?_
                  rintro e w7 ⟨rfl, m7, rfl⟩
                  refine hK.out _ _ (by exact S4) (fun hHeld => ?_)
                  clear hK K
                  try simp only [Act.put, List.setIfInBounds_toArray, List.set_cons_zero, List.set_cons_succ]
                  refine wpAnyH_take (i := 29) (oi := { dst := some 177, op := Go.Op.unOp Go.UnOp.not 4 (Go.Operand.tmp 176), type := 4, pos := "law.go:93", after := #[{ on := 28, ground := Go.Ground.data }, { on := 17, ground := Go.Ground.guard }], guard := some (17, true) }) (v := ?_) rfl (by kernel_rfl) (by kernel_rfl) (by kernel_rfl) (fun _ _ _ h => h) (Or.inl ⟨by rfl, ?_⟩) (by assumption) ?_
                  rotate_left
                  · (intro w hSw; (try dsimp only at hSw); go_simp; try with_reducible rfl)
                  try simp only [Act.put, List.setIfInBounds_toArray, List.set_cons_zero, List.set_cons_succ]
                  refine wpAnyH_take (i := 30) (oi := { dst := some 178, op := Go.Op.pick (Go.Operand.tmp 165) (Go.Operand.tmp 177) (Go.Operand.const (Go.Value.bool false)), type := 4, pos := "law.go:93", after := #[{ on := 17, ground := Go.Ground.data }, { on := 29, ground := Go.Ground.data }, { on := 9, ground := Go.Ground.guard }], guard := some (9, false) }) (v := ?_) rfl (by kernel_rfl) (by kernel_rfl) (by kernel_rfl) (fun _ _ _ h => h) (Or.inl ⟨by rfl, ?_⟩) (by assumption) ?_
                  rotate_left
                  · (intro w hSw; (try dsimp only at hSw); go_simp; try with_reducible rfl)
                  try simp only [Act.put, List.setIfInBounds_toArray, List.set_cons_zero, List.set_cons_succ]
                  refine wpAnyH_take (i := 31) (oi := { dst := some 179, op := Go.Op.pick (Go.Operand.tmp 157) (Go.Operand.const (Go.Value.bool true)) (Go.Operand.tmp 178), type := 4, pos := "law.go:93", after := #[{ on := 9, ground := Go.Ground.data }, { on := 30, ground := Go.Ground.data }], guard := none }) (v := ?_) rfl (by kernel_rfl) (by kernel_rfl) (by kernel_rfl) (fun _ _ _ h => h) (Or.inl ⟨by rfl, ?_⟩) (by assumption) ?_
                  rotate_left
                  · (intro w hSw; (try dsimp only at hSw); go_simp; try with_reducible rfl)
                  try simp only [Act.put, List.setIfInBounds_toArray, List.set_cons_zero, List.set_cons_succ]
                  refine wpAnyH_take (i := 32) (oi := { dst := some 180, op := Go.Op.move (Go.Operand.tmp 179), type := 4, pos := "law.go:93", after := #[{ on := 31, ground := Go.Ground.data }, { on := 28, ground := Go.Ground.chain }], guard := none }) (v := ?_) rfl (by kernel_rfl) (by kernel_rfl) (by kernel_rfl) (fun _ _ _ h => h) (Or.inl ⟨by rfl, ?_⟩) (by assumption) ?_
                  rotate_left
                  · (intro w hSw; (try dsimp only at hSw); go_simp; try with_reducible rfl)
                  try simp only [Act.put, List.setIfInBounds_toArray, List.set_cons_zero, List.set_cons_succ]
                  refine wpAnyH_take (i := 33) (oi := { dst := some 181, op := Go.Op.move (Go.Operand.tmp 12), type := 3, pos := "law.go:93", after := #[{ on := 32, ground := Go.Ground.guard }], guard := some (32, false) }) (v := ?_) rfl (by kernel_rfl) (by kernel_rfl) (by kernel_rfl) (fun _ _ _ h => h) (Or.inl ⟨by rfl, ?_⟩) (by assumption) ?_
                  rotate_left
                  · (intro w hSw; (try dsimp only at hSw); go_simp; try with_reducible rfl)
                  try simp only [Act.put, List.setIfInBounds_toArray, List.set_cons_zero, List.set_cons_succ]
                  refine wpAnyH_take (i := 34) (oi := { dst := some 182, op := Go.Op.binOp Go.BinOp.lss 3 (Go.Operand.tmp 181) (Go.Operand.const (Go.Value.int Go.IntKind.i64 0)) 3, type := 4, pos := "law.go:93", after := #[{ on := 33, ground := Go.Ground.data }, { on := 32, ground := Go.Ground.guard }], guard := some (32, false) }) (v := ?_) rfl (by kernel_rfl) (by kernel_rfl) (by kernel_rfl) (fun _ _ _ h => h) (Or.inl ⟨by rfl, ?_⟩) (by assumption) ?_
                  rotate_left
                  · (intro w hSw; (try dsimp only at hSw); go_simp; try with_reducible rfl)
                  try simp only [Act.put, List.setIfInBounds_toArray, List.set_cons_zero, List.set_cons_succ]
                  refine wpAnyH_take (i := 35) (oi := { dst := some 183, op := Go.Op.move (Go.Operand.tmp 182), type := 4, pos := "law.go:93", after := #[{ on := 34, ground := Go.Ground.data }, { on := 32, ground := Go.Ground.chain }, { on := 32, ground := Go.Ground.guard }], guard := some (32, false) }) (v := ?_) rfl (by kernel_rfl) (by kernel_rfl) (by kernel_rfl) (fun _ _ _ h => h) (Or.inl ⟨by rfl, ?_⟩) (by assumption) ?_
                  rotate_left
                  · (intro w hSw; (try dsimp only at hSw); go_simp; try with_reducible rfl)
                  try simp only [Act.put, List.setIfInBounds_toArray, List.set_cons_zero, List.set_cons_succ]
                  refine wpAnyH_take (i := 36) (oi := { dst := some 184, op := Go.Op.move (Go.Operand.tmp 12), type := 3, pos := "law.go:93", after := #[{ on := 35, ground := Go.Ground.guard }], guard := some (35, false) }) (v := ?_) rfl (by kernel_rfl) (by kernel_rfl) (by kernel_rfl) (fun _ _ _ h => h) (Or.inl ⟨by rfl, ?_⟩) (by assumption) ?_
                  rotate_left
                  · (intro w hSw; (try dsimp only at hSw); go_simp; try with_reducible rfl)
                  try simp only [Act.put, List.setIfInBounds_toArray, List.set_cons_zero, List.set_cons_succ]
                  refine wpAnyH_take (i := 37) (oi := { dst := some 185, op := Go.Op.move (Go.Operand.tmp 5), type := 3, pos := "law.go:93", after := #[{ on := 35, ground := Go.Ground.guard }], guard := some (35, false) }) (v := ?_) rfl (by kernel_rfl) (by kernel_rfl) (by kernel_rfl) (fun _ _ _ h => h) (Or.inl ⟨by rfl, ?_⟩) (by assumption) ?_
                  rotate_left
                  · (intro w hSw; (try dsimp only at hSw); go_simp; try with_reducible rfl)
                  try simp only [Act.put, List.setIfInBounds_toArray, List.set_cons_zero, List.set_cons_succ]
                  refine wpAnyH_take (i := 38) (oi := { dst := some 186, op := Go.Op.binOp Go.BinOp.geq 3 (Go.Operand.tmp 184) (Go.Operand.tmp 185) 3, type := 4, pos := "law.go:93", after := #[{ on := 36, ground := Go.Ground.data }, { on := 37, ground := Go.Ground.data }, { on := 35, ground := Go.Ground.guard }], guard := some (35, false) }) (v := ?_) rfl (by kernel_rfl) (by kernel_rfl) (by kernel_rfl) (fun _ _ _ h => h) (Or.inl ⟨by rfl, ?_⟩) (by assumption) ?_
                  rotate_left
                  · (intro w hSw; (try dsimp only at hSw); go_simp; try with_reducible rfl)
                  try simp only [Act.put, List.setIfInBounds_toArray, List.set_cons_zero, List.set_cons_succ]
                  refine wpAnyH_take (i := 39) (oi := { dst := some 187, op := Go.Op.pick (Go.Operand.tmp 183) (Go.Operand.const (Go.Value.bool true)) (Go.Operand.tmp 186), type := 4, pos := "law.go:93", after := #[{ on := 35, ground := Go.Ground.data }, { on := 38, ground := Go.Ground.data }, { on := 32, ground := Go.Ground.guard }], guard := some (32, false) }) (v := ?_) rfl (by kernel_rfl) (by kernel_rfl) (by kernel_rfl) (fun _ _ _ h => h) (Or.inl ⟨by rfl, ?_⟩) (by assumption) ?_
                  rotate_left
                  · (intro w hSw; (try dsimp only at hSw); go_simp; try with_reducible rfl)
                  try simp only [Act.put, List.setIfInBounds_toArray, List.set_cons_zero, List.set_cons_succ]
                  refine wpAnyH_take (i := 40) (oi := { dst := some 188, op := Go.Op.move (Go.Operand.tmp 187), type := 4, pos := "law.go:93", after := #[{ on := 39, ground := Go.Ground.data }, { on := 35, ground := Go.Ground.chain }, { on := 32, ground := Go.Ground.guard }], guard := some (32, false) }) (v := ?_) rfl (by kernel_rfl) (by kernel_rfl) (by kernel_rfl) (fun _ _ _ h => h) (Or.inl ⟨by rfl, ?_⟩) (by assumption) ?_
                  rotate_left
                  · (intro w hSw; (try dsimp only at hSw); go_simp; try with_reducible rfl)
                  try simp only [Act.put, List.setIfInBounds_toArray, List.set_cons_zero, List.set_cons_succ]
                  refine wpAnyH_take (i := 41) (oi := { dst := some 189, op := Go.Op.move (Go.Operand.tmp 6), type := 25, pos := "law.go:93", after := #[{ on := 40, ground := Go.Ground.guard }], guard := some (40, true) }) (v := undef) rfl (by kernel_rfl) (by kernel_rfl) (by kernel_rfl) (fun _ _ _ h => h) (Or.inr ⟨by rfl, rfl⟩) (by assumption) ?_
                  try simp only [Act.put, List.setIfInBounds_toArray, List.set_cons_zero, List.set_cons_succ]
                  refine wpAnyH_take (i := 42) (oi := { dst := some 190, op := Go.Op.move (Go.Operand.tmp 12), type := 3, pos := "law.go:93", after := #[{ on := 40, ground := Go.Ground.guard }], guard := some (40, true) }) (v := undef) rfl (by kernel_rfl) (by kernel_rfl) (by kernel_rfl) (fun _ _ _ h => h) (Or.inr ⟨by rfl, rfl⟩) (by assumption) ?_
                  try simp only [Act.put, List.setIfInBounds_toArray, List.set_cons_zero, List.set_cons_succ]
                  refine wpAnyH_take (i := 43) (oi := { dst := some 191, op := Go.Op.call { callee := Go.Callee.value (Go.Operand.func 29), args := #[Go.Operand.tmp 189, Go.Operand.tmp 190], argTypes := #[25, 3] }, type := 34, pos := "law.go:93", after := #[{ on := 41, ground := Go.Ground.data }, { on := 42, ground := Go.Ground.data }, { on := 40, ground := Go.Ground.chain }, { on := 40, ground := Go.Ground.guard }], guard := some (40, true) }) (v := undef) rfl (by kernel_rfl) (by kernel_rfl) (by kernel_rfl) (fun _ _ _ h => h) (Or.inr ⟨by rfl, rfl⟩) (by assumption) ?_
                  try simp only [Act.put, List.setIfInBounds_toArray, List.set_cons_zero, List.set_cons_succ]
                  refine wpAnyH_take (i := 44) (oi := { dst := some 192, op := Go.Op.call { callee := Go.Callee.builtin Go.Builtin.len, args := #[Go.Operand.tmp 191], argTypes := #[34] }, type := 3, pos := "law.go:93", after := #[{ on := 43, ground := Go.Ground.data }, { on := 40, ground := Go.Ground.guard }], guard := some (40, true) }) (v := undef) rfl (by kernel_rfl) (by kernel_rfl) (by kernel_rfl) (fun _ _ _ h => h) (Or.inr ⟨by rfl, rfl⟩) (by assumption) ?_
                  try simp only [Act.put, List.setIfInBounds_toArray, List.set_cons_zero, List.set_cons_succ]
                  refine wpAnyH_take (i := 45) (oi := { dst := some 193, op := Go.Op.binOp Go.BinOp.gtr 3 (Go.Operand.tmp 192) (Go.Operand.const (Go.Value.int Go.IntKind.i64 0)) 3, type := 4, pos := "law.go:93", after := #[{ on := 44, ground := Go.Ground.data }, { on := 40, ground := Go.Ground.guard }], guard := some (40, true) }) (v := undef) rfl (by kernel_rfl) (by kernel_rfl) (by kernel_rfl) (fun _ _ _ h => h) (Or.inr ⟨by rfl, rfl⟩) (by assumption) ?_
                  try simp only [Act.put, List.setIfInBounds_toArray, List.set_cons_zero, List.set_cons_succ]
                  refine wpAnyH_take (i := 46) (oi := { dst := some 194, op := Go.Op.pick (Go.Operand.tmp 188) (Go.Operand.tmp 193) (Go.Operand.const (Go.Value.bool false)), type := 4, pos := "law.go:93", after := #[{ on := 40, ground := Go.Ground.data }, { on := 45, ground := Go.Ground.data }, { on := 32, ground := Go.Ground.guard }], guard := some (32, false) }) (v := ?_) rfl (by kernel_rfl) (by kernel_rfl) (by kernel_rfl) (fun _ _ _ h => h) (Or.inl ⟨by rfl, ?_⟩) (by assumption) ?_
                  rotate_left
                  · (intro w hSw; (try dsimp only at hSw); go_simp; try with_reducible rfl)
                  try simp only [Act.put, List.setIfInBounds_toArray, List.set_cons_zero, List.set_cons_succ]
                  refine wpAnyH_take (i := 47) (oi := { dst := some 195, op := Go.Op.pick (Go.Operand.tmp 180) (Go.Operand.const (Go.Value.bool true)) (Go.Operand.tmp 194), type := 4, pos := "law.go:93", after := #[{ on := 32, ground := Go.Ground.data }, { on := 46, ground := Go.Ground.data }], guard := none }) (v := ?_) rfl (by kernel_rfl) (by kernel_rfl) (by kernel_rfl) (fun _ _ _ h => h) (Or.inl ⟨by rfl, ?_⟩) (by assumption) ?_
                  rotate_left
                  · (intro w hSw; (try dsimp only at hSw); go_simp; try with_reducible rfl)
                  try simp only [Act.put, List.setIfInBounds_toArray, List.set_cons_zero, List.set_cons_succ]
                  refine wpAnyH_done (by kernel_rfl) ?_ _
                  refine NoPanic.normal ?_
                  have HPe := Lib.hid (((HP3.out.drewN (1 + m5)).on B4).drewN m7)
                  clear S4 R4 B4 c0 cm
                  go_wp2
                  go_roundw
                  case rel => exact ⟨(m : Int) + 1, by go_num, by omega, by omega, HPe.out⟩
                  case measure => simp [intOf]; omega
            · have hzN' : decide (z ≤ (N : Int)) = false := by simpa using hzN
              go_wp2
              go_roundw
              case rel => exact ⟨k + 1, d', by omega, by omega, by go_num, hp', hw', HPz.out⟩
              case measure => simp [intOf]; omega
      · have z2 : ¬ ((k : Int) < 60) := by omega
        have z2' : decide ((k : Int) < 60) = false := by simp; omega
        have HE := Lib.hid (onto HB0.out HP.out.below)
        go_wp2
        go_ret
        exact ⟨rfl, HE.out⟩
    · have z1 : ¬ ((k : Int) < (n : Int)) := by omega
      have z1' : decide ((k : Int) < (n : Int)) = false := by simp; omega
      have HE := Lib.hid (onto HB0.out HP.out.below)
      go_wp2
      go_ret
      exact ⟨rfl, HE.out⟩

end Go.Proofs.Ytakoajbfkinlcaa
