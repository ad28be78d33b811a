/-
  DiskOthers: a write touches its page alone: all others are seen, and safe, as they were; what is handed in, and what is told, may be written over.
-/
import Derived.Test.YtakoajbfkinlcaaDkPair
import Derived.Test.YtakoajbfkinlcaaDkWrH
import Derived.Test.YtakoajbfkinlcaaDkRdG
import Derived.Test.YtakoajbfkinlcaaDkStays
import Derived.Test.YtakoajbfkinlcaaDkEnds
namespace Go.Proofs.Ytakoajbfkinlcaa
open Go.RowKit Go.Deep
set_option linter.unusedVariables false

theorem Row.frz {w : World} {g : Nat} {l : List Nat} (h : Row w g l) (j : Nat) : w.frozen? ⟨g, j, none⟩ = false := frozen_of_row w g j _ _ h
/-- A block that came later is written. -/
theorem below_set {w w1 : World} (h : Below w.heap.size w w1) {g i : Nat} (hg : w.heap.size ≤ g) (v : Value) : Below w.heap.size w (w1.setCell ⟨g, i, none⟩ v) :=
  h.trans ⟨rfl, rfl, rfl, by simp [World.setCell], fun j hj => heap_setCell_other w1 _ j v (fun e => by have e' : j = g := e; omega)⟩
theorem Bs.other {w : World} {A : Option Addr} {n c g i : Nat} {l : List Nat} (h : Bs w A n c l) (v : Value) (hn : ∀ b off, A = some ⟨b, off, none⟩ → b ≠ g) : Bs (w.setCell ⟨g, i, none⟩ v) A n c l := by
  obtain ⟨h1, h2, h3, h4, h5⟩ := h
  refine ⟨h1, h2, h3, h4, fun hp => ?_⟩
  obtain ⟨b, off, e, hlt, hc⟩ := h5 hp
  exact ⟨b, off, e, by simpa [World.setCell] using hlt, fun j x hx => (World.cell?_of_block (a := ⟨b, off + j, none⟩) (heap_setCell_other w _ b v (hn b off e))).trans (hc j x hx)⟩
theorem calm_push {P : List (List Nat)} {m : Nat} {d : Dk.Pd} (h : Calm P m d) (no : Nat) (l : List Nat) : Dk.code (Dk.act (Dk.push d no l)) = 0 ∧ Calm P (m + 1) (Dk.act (Dk.push d no l)) := by
  have e : Dk.act (Dk.push d no l) = Dk.push d no l := act_calm h.left
  rw [e]
  refine ⟨?_, h.pages, h.left, h.down, ?_⟩
  · show Dk.code (Dk.push d no l) = 0
    unfold Dk.code
    rw [show (Dk.push d no l).down = d.down from rfl, h.down]; rfl
  · show (d.waits ++ [(no, l)]).length ≤ m + 1
    rw [List.length_append]; have := h.waits; simp; omega
/-- The two disks behind the two writes, and the row that was handed in written over. -/
theorem pair_over {wb u0 u1 u2 u3 u4 : World} {H H' : Hd} {G G' : Gd} {d d' : Dk.Pd} {g0 : Nat} (hD : Dsk u0 H d) (hR : Rfd u0 G d) (ha : ∀ k, H.own k → ¬ G.own k) (h1 : ∀ k, H.own k → wb.heap.size ≤ k) (h2 : ∀ k, G.own k → wb.heap.size ≤ k) (hB : Below wb.heap.size wb u0)
    (B1 : Below u0.heap.size u0 u1) (hg0 : u0.heap.size ≤ g0) (hg1 : g0 < u1.heap.size) (hD' : Dsk u2 H' d') (St : Step u1 H u2 H') (DG : ∀ g0, u0.heap.size ≤ g0 → g0 < u1.heap.size → DskG u2 H' d' g0) (B3 : Below u2.heap.size u2 u3)
    (hR' : Rfd u4 G' d') (Rt : Rtep u3 G u4 G') (RG : ∀ g0, u0.heap.size ≤ g0 → g0 < u3.heap.size → RfdG u4 G' d' g0) (i : Nat) (v : Value) : Pair wb (u4.setCell ⟨g0, i, none⟩ v) H.p G.q d' d' := by
  have hR2 : Rfd u2 G d := (hR.on B1).off St.off (hD.on B1).free (fun k hk hh => ha k hh hk)
  have hap : ∀ k, H'.own k → ¬ G.own k := fun k hk hg => by
    rcases St.own k hk with a | a
    · exact ha k a hg
    · have := hR.lt hg; have := B1.size; omega
  have o24 : Off G.own u2 u4 := (Off.of_below B3).trans Rt.off
  have D4 := (DG g0 hg0 hg1).off o24 hR2.free hap
  have hg3 : g0 < u3.heap.size := Nat.lt_of_lt_of_le hg1 (Nat.le_trans St.off.size B3.size)
  have o5 : Off (fun k => (fun _ => False) k ∨ k = g0) u4 (u4.setCell ⟨g0, i, none⟩ v) := (Off.refl _ _).set _ (.inr rfl)
  have b4 : Below wb.heap.size wb u4 := (onto hB B1).trans ((St.off.below h1 (onto hB B1).size).trans (o24.below h2 (Nat.le_trans (onto hB B1).size St.off.size)))
  refine ⟨H', G', St.same, Rt.same, D4 _ _ o5 (fun _ _ _ h => h.elim) (fun _ _ h => h), RG g0 hg0 hg3 _ _ o5 (fun _ _ _ h => h.elim) (fun _ _ h => h), fun k hk hg => ?_, fun k hk => ?_, fun k hk => ?_, ?_⟩
  · rcases Rt.own k hg with a | a
    · exact hap k hk a
    · have := hD'.lt hk; have := B3.size; omega
  · rcases St.own k hk with a | a
    · exact h1 k a
    · have := hB.size; have := B1.size; omega
  · rcases Rt.own k hk with a | a
    · exact h2 k a
    · have := hB.size; have := B1.size; have := St.off.size; have := B3.size; omega
  · exact b4.trans (o5.below (fun k hk => by have := hB.size; rcases hk with a | a; exact a.elim; omega) b4.size)

set_option maxRecDepth 100000 in
set_option maxHeartbeats 4000000 in
theorem diskOthers_walk (w : World) (q0 x0 : Nat) (A : Option Addr) (n c : Nat) (L : List Dov) (hq : q0 < 256) (hx0 : x0 < 256) (hL : Dos w A n c L) :
    Calls Try.prog 7 #[.int .u8 (q0 : Int), .int .u8 (x0 : Int), .slice A n c] w fun e w' => e = .returned (.bool true) ∧ Below w.heap.size w w' := by
  have hcm := hL.2.2.1
  have hnc := hL.2.1
  unfold maxLen at hcm
  have HL := Lib.hid hL
  clear hL
  obtain ⟨N, hN, hN13⟩ : ∃ N : Nat, (q0 : Int) % 12 = (N : Int) ∧ N < 12 := ⟨q0 % 12, by omega, by omega⟩
  obtain ⟨Z, HZ, hmk⟩ := make_zeros
  go_enter Try.func7, Try.ntmps7
  go_wp2_with fail
  refine (awake_any _).mono ?_
  rintro e v0 ⟨rfl, B0⟩
  go_wp2_with fail
  refine (small_any v0 A n c L (HL.out.on B0)).mono ?_
  rintro e v1 ⟨rfl, rfl⟩
  cases hs1 : smallTo L 60 with
  | false =>
    have HB := Lib.hid B0
    go_wp2
    go_ret
    exact ⟨rfl, HB.out⟩
  | true =>
  clear hs1
  go_wp2_with fail
  refine (newD_any v0 12 12 (by omega)).mono ?_
  rintro e v1 ⟨H, rfl, hD, h1, B1⟩
  go_wp2_with fail
  refine (rnew_any v1 12 (by omega)).mono ?_
  rintro e v2 ⟨G, rfl, hR, h2, B2⟩
  have P2 := Lib.hid (Pair.made hD h1 B1 hR h2 B2)
  have HB0 := Lib.hid B0
  clear hD h1 B1 hR h2 B2 B0
  generalize H.p = p at *
  generalize G.q = q at *
  clear H G
  go_upto_block 0 with fail
  go_cut [] from 26 to 67 (fun wx => ∃ d, Calm (Dk.fresh 12).pages 60 d ∧ Pair v0 wx p q d d)
  case first =>
    go_wp2_with fail
    go_loopw [9] (fun i wr => ∃ (k : Nat) (d : Dk.Pd), k ≤ n ∧ k ≤ 60 ∧ i = .int .i64 (k : Int) ∧ Calm (Dk.fresh 12).pages k d ∧ Pair v0 wr p q d d) (fun i _ => n - (intOf i).toNat)
    case atStart => exact ⟨0, _, Nat.zero_le _, Nat.zero_le _, rfl, Calm.fresh 12, P2.out⟩
    case round =>
      obtain ⟨k, d, hk, hk6, rfl, hC, hP⟩ := hrel
      have HP := Lib.hid hP
      have HC := Lib.hid hC
      clear hC hP
      by_cases hlt : k < n
      · have z1 : (k : Int) < (n : Int) := by omega
        by_cases hlt6 : k < 60
        · have z2 : (k : Int) < 60 := by omega
          obtain ⟨b, off, x, rfl, hb, hx, hd⟩ := HL.out.get hlt
          have CE := Lib.hid (fun (W : World) (hW : Below w.heap.size w W) => (hd.on hb hW))
          have Bw := Lib.hid (onto HB0.out HP.out.below)
          have hdw := CE.out wr Bw.out
          have ck := hdw.kind
          have cn := hdw.no
          have cb := hdw.byte
          have hby := hd.byteI
          have hwl : d.waits.length < 1000 := by have := HC.out.waits; omega
          clear hdw hd hx
          generalize x.kind = kd at *
          by_cases hkd : kd = 0
          · subst hkd
            obtain ⟨l1, hl1⟩ : ∃ l, l = List.replicate 1024 x.byte := ⟨_, rfl⟩
            have l1n : Hid (l1.length = 1024) := by show _ = _; rw [hl1]; exact List.length_replicate
            have l1t : Hid (∀ x ∈ l1, x < 256) := by intro y hy; rw [hl1] at hy; have := List.eq_of_mem_replicate hy; omega
            have F1 := Lib.hid (fun W => filled_any W x.byte hby)
            rw [← hl1] at F1
            clear hl1
            have CW := Lib.hid (HC.out.write x.no l1n.out)
            go_wp2_with fail
            go_region_held3 (fun w' => w'.cell? ⟨b, off + k * 5 + 1, none⟩ = some (.int .i64 x.no) ∧ w'.cell? ⟨b, off + k * 5 + 2, none⟩ = some (.int .u8 (x.byte : Int))) (first | assumption | exact ⟨cn, cb⟩ | go_keep) (first
              | (go_at_call 13; refine (F1.out _).mono ?_; rintro e w3 ⟨g3, rfl, _, R3, B3⟩; have P3 := HP.out.drew.on B3; have E3 := CE.out w3 (onto HB0.out P3.below); have S3 : (fun w' : World => w'.cell? ⟨b, off + k * 5 + 1, none⟩ = some (.int .i64 x.no) ∧ w'.cell? ⟨b, off + k * 5 + 2, none⟩ = some (.int .u8 (x.byte : Int))) w3 := ⟨E3.no, E3.byte⟩)
              | (go_at_call 12; refine (pwrite _ p q _ _ P3 x.no 1024 1024 _ l1 (R3.bs' l1t.out l1n.out (by omega)) hwl).mono ?_; rintro e w4 ⟨rfl, P4, K4⟩; have E4 := CE.out w4 (onto HB0.out P4.below); have S4 : (fun w' : World => w'.cell? ⟨b, off + k * 5 + 1, none⟩ = some (.int .i64 x.no) ∧ w'.cell? ⟨b, off + k * 5 + 2, none⟩ = some (.int .u8 (x.byte : Int))) w4 := ⟨E4.no, E4.byte⟩))
            have f1 := E4.no
            have f2 := E4.byte
            have HP4 := Lib.hid P4
            clear ck cn cb S3 S4 E3 E4 R3 B3 P3 P4 K4
            go_wp2_with fail
            go_region_held3 (fun w' => w'.cell? ⟨b, off + k * 5 + 1, none⟩ = some (.int .i64 x.no) ∧ w'.cell? ⟨b, off + k * 5 + 2, none⟩ = some (.int .u8 (x.byte : Int))) (first | assumption | exact ⟨f1, f2⟩ | go_keep) (first
              | (go_at_call 13; refine (F1.out _).mono ?_; rintro e w5 ⟨g5, rfl, _, R5, B5⟩; have P5 := HP4.out.drew.on B5; have E5 := CE.out w5 (onto HB0.out P5.below); have S5 : (fun w' : World => w'.cell? ⟨b, off + k * 5 + 1, none⟩ = some (.int .i64 x.no) ∧ w'.cell? ⟨b, off + k * 5 + 2, none⟩ = some (.int .u8 (x.byte : Int))) w5 := ⟨E5.no, E5.byte⟩)
              | (go_at_call 14; refine (qwrite _ p q _ _ P5 x.no 1024 1024 _ l1 (R5.bs' l1t.out l1n.out (by omega)) hwl).mono ?_; rintro e w6 ⟨rfl, P6, K6⟩; have E6 := CE.out w6 (onto HB0.out P6.below); have S6 : (fun w' : World => w'.cell? ⟨b, off + k * 5 + 1, none⟩ = some (.int .i64 x.no) ∧ w'.cell? ⟨b, off + k * 5 + 2, none⟩ = some (.int .u8 (x.byte : Int))) w6 := ⟨E6.no, E6.byte⟩))
            have HP6 := Lib.hid P6
            clear P5 P6 K6 S5 S6 E5 E6 R5 B5 f1 f2 HP4
            go_wp2
            go_roundw
            case rel => exact ⟨k + 1, _, by omega, by omega, by go_num, CW.out, HP6.out⟩
            case measure => simp [intOf]; omega
          · have hkd' : (kd == 0) = false := by simpa using hkd
            go_wp2
            go_roundw
            case rel => exact ⟨k + 1, _, by omega, by omega, by go_num, HC.out.mono (by omega), HP.out⟩
            case measure => simp [intOf]; omega
        · have z2 : ¬ ((k : Int) < 60) := by omega
          have z2' : decide ((k : Int) < 60) = false := by simp; omega
          go_wp2
          go_meet
          exact ⟨d, HC.out.mono hk6, HP.out⟩
      · have z1 : ¬ ((k : Int) < (n : Int)) := by omega
        have z1' : decide ((k : Int) < (n : Int)) = false := by simp; omega
        go_wp2
        go_meet
        exact ⟨d, HC.out.mono hk6, HP.out⟩
  case rest =>
    obtain ⟨d, C, hP⟩ := hcut
    obtain ⟨u0, hu0⟩ : ∃ u0 : World, u0 = wc := ⟨_, rfl⟩
    subst hu0
    clear P2
    obtain ⟨lx, hlx⟩ : ∃ l, l = List.replicate 1024 x0 := ⟨_, rfl⟩
    have lxn : Hid (lx.length = 1024) := by show _ = _; rw [hlx]; exact List.length_replicate
    have lxt : Hid (∀ x ∈ lx, x < 256) := by intro y hy; rw [hlx] at hy; have := List.eq_of_mem_replicate hy; omega
    have lx0 : Hid (lx[0]? = some x0) := by show _ = _; rw [hlx]; exact rep_at (by omega)
    have FX := Lib.hid (fun W => filled_any W x0 hx0)
    rw [← hlx] at FX
    clear hlx
    obtain ⟨H, G, hpp, hqq, hD, hR, ha, h1, h2, hB⟩ := hP
    subst hpp hqq
    have hno : N < d.pages.length := by rw [C.pages, fresh_len]; exact hN13
    have hwl : d.waits.length < 1000 := by have := C.waits; omega
    have CP := calm_push C N lx
    have HBu := Lib.hid (onto HB0.out hB)
    go_wp2_with fail
    refine (FX.out _).mono ?_
    rintro e u1 ⟨g0, rfl, hg0, R0, B1⟩
    have hg1 := R0.lt
    go_wp2_with fail
    refine (write_okG (T := fun _ => False) u0 u1 H d N 1024 _ lx hD (Off.of_below B1) (fun _ _ _ h => h.elim) (fun _ _ h => h) hno (R0.bs' lxt.out lxn.out (by omega)) C.down hwl).mono ?_
    rintro e u2 ⟨H', rfl, hD', St, DG⟩
    rw [CP.1]
    have R2 := R0.off St.off (hD.on B1).free
    have hR2 : Rfd u2 G d := (hR.on B1).off St.off (hD.on B1).free (fun k hk hh => ha k hh hk)
    go_wp2_with fail
    refine (FX.out _).mono ?_
    rintro e u3 ⟨g3, rfl, _, R3, B3⟩
    have hOT : Off H.own u0 u3 := ((Off.of_below B1).trans St.off).trans (Off.of_below B3)
    go_wp2_with fail
    refine (rwrite_okG (T := H.own) u0 u3 G d N 1024 _ lx hR hOT hD.free (fun k hk hh => ha k hh hk) hno (R3.bs' lxt.out lxn.out (by omega)) C.down hwl).mono ?_
    rintro e u4 ⟨G', rfl, hR', Rt, RG⟩
    rw [CP.1]
    have R4 := (R2.on B3).off Rt.off (hR2.on B3).free
    have c40 := R4.cell lx0.out
    have f40 := R4.frz 0
    have PO := Lib.hid (fun i v => pair_over hD hR ha h1 h2 hB B1 hg0 hg1 hD' St DG B3 hR' Rt RG i v)
    have C5 := Lib.hid CP.2
    generalize Dk.act (Dk.push d N lx) = d5 at *
    have hp5 : d5.pages = (Dk.fresh 12).pages := C5.out.pages
    have hw5 : d5.waits.length < 1000 := by have := C5.out.waits; omega
    generalize H.p = p at *
    generalize G.q = q at *
    clear hD hR ha h1 h2 hB B1 hg1 hD' St DG B3 hR' Rt RG R0 R2 R3 R4 hR2 hOT CP C hno hwl hg0
    go_upto_block 2 with fail
    generalize hu5 : u4.setCell ⟨g0, 0, none⟩ _ = u5
    have P5 := PO.out 0 (.int .u8 (((x0 : Int) + 1) % 256))
    rw [hu5] at P5
    have HP5 := Lib.hid P5
    clear P5 hu5 PO c40 f40
    have hl5 : d5.pages.length = 12 := by rw [hp5, fresh_len]
    have HZ5 : Hid (∀ k, k < 12 → d5.pages[k]? = some (List.replicate 1024 0)) := by
      intro k hk
      rw [hp5]
      show (List.replicate 12 _)[k]? = _
      rw [List.getElem?_replicate, if_pos hk]
    clear hp5 C5
    go_wp2_with fail
    go_loopw [12] (fun i wr => ∃ k : Nat, k ≤ 12 ∧ i = .int .i64 (k : Int) ∧ Pair v0 wr p q d5 d5) (fun i _ => 12 - (intOf i).toNat)
    case atStart => exact ⟨0, Nat.zero_le _, rfl, HP5.out⟩
    case round =>
      obtain ⟨k, hk, rfl, hPr⟩ := hrel
      have HP := Lib.hid hPr
      clear hPr HP5
      by_cases hlt : k < 12
      · have z1 : (k : Int) < 12 := by omega
        have hkp : k < d5.pages.length := by omega
        go_wp2_with fail
        refine (pread _ p q _ _ HP.out k hkp).mono ?_
        rintro e w1 ⟨g1, rfl, hg1, n1, t1, R1, B1⟩
        have P1 := HP.out.on B1
        have hg1' := R1.lt
        go_wp2_with fail
        refine (qreadG _ p q _ _ P1 k hkp hw5).mono ?_
        rintro e w2 ⟨A2, c2, rfl, s2, B2, hf2⟩
        have R2 := R1.on B2
        go_wp2_with fail
        refine (same_eq w2 _ _ _ _ _ _ (Dk.seen d5 k) (R2.bs' t1 n1 (by omega)) s2).mono ?_
        rintro e w3 ⟨rfl, m3, rfl⟩
        obtain ⟨y, hy⟩ : ∃ y, (Dk.seen d5 k)[5]? = some y := ⟨_, List.getElem?_eq_getElem (by omega)⟩
        have c5 := R2.cell hy
        have f5 := R2.frz 5
        have PV := Lib.hid (fun v => HP.out.on (below_set (below_drewN (onto B1 B2) m3) (i := 5) hg1 v))
        have SV := Lib.hid (fun v => ((s2.drewN m3).other (i := 5) (g := g1) v fun b off e => by have := hf2 b off e; omega))
        have hfl : ((0 : Int) != 0) = false := rfl
        clear B1 B2 R1 R2 P1 s2 hf2 hy HP n1 t1 hg1 hg1'
        go_wp2_with fail
        generalize hw4 : (w2.drewN m3).setCell ⟨g1, 5, none⟩ _ = w4
        have P4 := PV.out (.int .u8 (((y : Int) + 1) % 256))
        have s4 := SV.out (.int .u8 (((y : Int) + 1) % 256))
        rw [hw4] at P4 s4
        clear PV SV hw4 c5 f5
        refine (pread _ p q _ _ P4 k hkp).mono ?_
        rintro e w5 ⟨g5, rfl, _, n5, t5, R5, B5⟩
        have HP5 := Lib.hid (P4.on B5)
        have HS5 := Lib.hid (s4.on B5)
        have HR5 := Lib.hid (R5.bs' t5 n5 (by omega))
        clear P4 s4 B5 R5 n5 t5
        go_wp2_with fail
        go_region_held3 (fun _ => True) (trivial) (first
          | (go_at_call 29; refine (psafe _ p q _ _ (by first | with_reducible exact P6 | exact P6.alloc _) k hkp).mono ?_; rintro e w11 ⟨g11, l11, rfl, _, e11, n11, t11, R11, B11⟩; rw [HZ5.out k hlt] at e11; injection e11 with e11; subst e11)
          | (go_at_call 28; refine (same_eq _ _ _ _ _ _ _ (List.replicate 1024 0) (by first | with_reducible exact R11.bs' t11 n11 (by omega) | exact (R11.on ((Below.refl _ _).alloc (Nat.le_refl _) _)).bs' t11 n11 (by omega)) (by first | with_reducible exact (zrow HZ.out w11).bs' t11 n11 (by omega) | exact ((zrow HZ.out (w5.drewN (1 + m6))).on B11).bs' t11 n11 (by omega))).mono ?_; rintro e w13 ⟨rfl, m13, rfl⟩)
          | (go_at_call 28; refine (same_eq w5.drew _ _ _ _ _ _ (Dk.seen d5 k) HR5.out.drew HS5.out.drew).mono ?_; rintro e w6 ⟨rfl, m6, rfl⟩; have P6 := HP5.out.drewN (1 + m6)))
        · have HE := Lib.hid (((P6.on B11).alloc (.cells Z 5)).drewN m13)
          clear R11 B11 P6
          go_wp2
          go_roundw
          case rel => exact ⟨k + 1, by omega, by go_num, HE.out⟩
          case measure => simp [intOf]; omega
        · have HE := Lib.hid (((P6.alloc (.cells Z 5)).on B11).drewN m13)
          clear R11 B11 P6
          go_wp2
          go_roundw
          case rel => exact ⟨k + 1, by omega, by go_num, HE.out⟩
          case measure => simp [intOf]; omega
      · have hk' : k = 12 := by omega
        have z1 : ¬ ((k : Int) < 12) := by omega
        have HE := Lib.hid (onto HB0.out HP.out.below)
        clear hk' hlt
        go_wp2
        go_ret
        exact ⟨rfl, HE.out⟩

end Go.Proofs.Ytakoajbfkinlcaa
