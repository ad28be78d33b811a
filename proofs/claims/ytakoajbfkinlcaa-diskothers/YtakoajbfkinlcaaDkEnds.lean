/-
  DiskEnds: the power goes in just the act that is armed, and no act is done till it comes again; a disk has as many pages as are asked for.
-/
import Derived.Test.YtakoajbfkinlcaaDkAwake
import Derived.Test.YtakoajbfkinlcaaSame
import Derived.Deep.OwnRows
namespace Go.Proofs.Ytakoajbfkinlcaa
open Go.RowKit Go.Deep
set_option linter.unusedVariables false

/-! plainly -/
theorem act_two {d : Dk.Pd} (h : 2 ≤ d.left) : Dk.act d = { d with left := d.left - 1, down := false } := by
  unfold Dk.act
  rw [if_neg (by omega), show decide (d.left = 1) = false from by simp; omega]
theorem act_one {d : Dk.Pd} (h : d.left = 1) : Dk.act d = { d with left := 0, down := true } := by
  unfold Dk.act
  rw [if_neg (by omega), h]; rfl
theorem write_two {d : Dk.Pd} {no : Nat} {l : List Nat} (h : 2 ≤ d.left) (hd : d.down = false) (hn : no < d.pages.length) (hl : l.length = 1024) : Dk.write d (no : Int) l = { Dk.push d no l with left := d.left - 1, down := false } ∧ Dk.writeCode d (no : Int) l = 0 := by
  have hc : Dk.has d (no : Int) ∧ l.length = 1024 := ⟨⟨by omega, by omega⟩, hl⟩
  have ha : Dk.act (Dk.push d no l) = { Dk.push d no l with left := d.left - 1, down := false } := act_two (d := Dk.push d no l) h
  unfold Dk.write Dk.writeCode
  rw [if_pos hc, if_pos hc, hd, Int.toNat_natCast, ha]
  exact ⟨rfl, rfl⟩
theorem off_write {d : Dk.Pd} {no : Nat} {l : List Nat} (hd : d.down = true) (hn : no < d.pages.length) (hl : l.length = 1024) : Dk.write d (no : Int) l = d ∧ Dk.writeCode d (no : Int) l = 3 := by
  have hc : Dk.has d (no : Int) ∧ l.length = 1024 := ⟨⟨by omega, by omega⟩, hl⟩
  unfold Dk.write Dk.writeCode
  rw [if_pos hc, if_pos hc, hd]
  exact ⟨rfl, rfl⟩
theorem off_sync {d : Dk.Pd} (hd : d.down = true) : Dk.sync d = d ∧ Dk.syncCode d = 3 := by
  unfold Dk.sync Dk.syncCode
  rw [hd]
  exact ⟨rfl, rfl⟩
theorem sync_one {d : Dk.Pd} (h : d.left = 1) (hd : d.down = false) : Dk.sync d = { d with left := 0, down := true } ∧ Dk.syncCode d = 3 := by
  unfold Dk.sync Dk.syncCode
  rw [hd, act_one h]
  exact ⟨rfl, rfl⟩
theorem crash_all (d : Dk.Pd) (n : Nat) (t : Int) (hp : d.pages = (Dk.fresh n).pages) : Dk.crashed d [] t = Dk.fresh n := by
  unfold Dk.crashed
  rw [Dk.crTo_nil, hp]; rfl
/-- k is armed, j writes have come. -/
structure Ends (n k j : Nat) (d : Dk.Pd) : Prop where
  pages : d.pages = (Dk.fresh n).pages
  waits : d.waits.length = j
  left : d.left = k - j
  down : d.down = false
theorem Ends.first (n k : Nat) : Ends n k 0 (Dk.armed (Dk.fresh n) k) := ⟨rfl, rfl, rfl, rfl⟩
theorem Ends.len {n k j : Nat} {d : Dk.Pd} (h : Ends n k j d) : d.pages.length = n := by rw [h.pages, fresh_len]
theorem Ends.next {n k j : Nat} {d : Dk.Pd} (h : Ends n k j d) (hj : j + 1 < k) {no : Nat} {l : List Nat} (hn : no < n) (hl : l.length = 1024) : Ends n k (j + 1) (Dk.write d (no : Int) l) ∧ Dk.writeCode d (no : Int) l = 0 := by
  have hw := write_two (d := d) (no := no) (l := l) (by have := h.left; omega) h.down (by rw [h.len]; exact hn) hl
  rw [hw.1]
  refine ⟨⟨h.pages, ?_, ?_, rfl⟩, hw.2⟩
  · show (d.waits ++ [(no, l)]).length = j + 1
    rw [List.length_append, h.waits]; rfl
  · show d.left - 1 = k - (j + 1)
    have := h.left; omega

/-- make([]byte, 1024), the block under a letter. -/
theorem make_zeros : ∃ Z : Array Value, Hid (Z = (bv (List.replicate 1024 0)).toArray) ∧ ∀ W : World, (Instr.makeSlice 34 (.int .i64 1024) (.int .i64 1024)).run Try.prog W = .ok (.slice (some ⟨W.heap.size, 0, none⟩) 1024 1024) (W.alloc (.cells Z 5)) := by
  refine ⟨_, rfl, fun W => ?_⟩
  have e : madeCells #[Value.int .u8 0] 1024 = (bv (List.replicate 1024 0)).toArray := by
    apply Array.ext'
    rw [toList_madeCells_one]; simp only [bv, List.map_replicate]; rfl
  have := run_make_row' (P := Try.prog) 34 5 (.int .u8 0) 1 Try.underlying34 Try.info5 rfl .i64 .i64 1024 (by omega) (by omega) W
  rw [e] at this
  exact this
theorem zrow {Z : Array Value} (hZ : Z = (bv (List.replicate 1024 0)).toArray) (w : World) : Row (w.alloc (.cells Z 5)) w.heap.size (List.replicate 1024 0) := by subst hZ; exact heap_alloc_new w _
/-- What comes behind the loss, on a disk that is as it was made. -/
theorem fresh_end {wb w : World} {p n m : Nat} {l : List Nat} (h : Has (fun _ => False) wb w p (Dk.fresh n)) (hm : m < n) (hl : l.length = 1024) : ∃ d6 d7 : Dk.Pd, Has (fun _ => False) wb w p d6 ∧ Hid (d6.down = false) ∧ Hid (Dk.sync d6 = d6 ∧ Dk.syncCode d6 = 0) ∧ Hid (d6.waits.length < 1000) ∧ Hid (Dk.writeCode d6 0 l = 0) ∧ Hid (Dk.write d6 0 l = d7) ∧ Hid (d7.pages[m]? = some (List.replicate 1024 0)) ∧ Hid (m < d7.pages.length) := by
  have WC := write_calm (d := Dk.fresh n) (no := 0) (l := l) rfl rfl (by rw [fresh_len]; omega) hl
  refine ⟨_, _, h, rfl, sync_calm (d := Dk.fresh n) rfl rfl, (show 0 < 1000 by omega), WC.2, WC.1, ?_, ?_⟩
  · show (List.replicate n _)[m]? = _; rw [List.getElem?_replicate, if_pos hm]
  show m < (Dk.fresh n).pages.length
  rw [fresh_len]; exact hm

set_option maxRecDepth 100000 in
set_option maxHeartbeats 600000 in
theorem diskEnds_some (w : World) (n : Nat) (q : Nat) (hq : q < 256) (h0 : 0 < n) (h1 : n ≤ 300 ∨ 2000 ≤ n ∧ n ≤ 2048) :
    Calls Try.prog 5 #[.int .i64 (n : Int), .int .u8 (q : Int)] w fun e w' => e = .returned (.bool true) ∧ Below w.heap.size w w' := by
  obtain ⟨l1, hl1⟩ : ∃ l, l = List.replicate 1024 1 := ⟨_, rfl⟩
  have l1n : Hid (l1.length = 1024) := by show _ = _; rw [hl1]; exact List.length_replicate
  have l1t : Hid (∀ x ∈ l1, x < 256) := by intro x hx; rw [hl1] at hx; have := List.eq_of_mem_replicate hx; omega
  have F1 := Lib.hid (fun W => filled_any W 1 (by omega))
  rw [← hl1] at F1
  clear hl1
  obtain ⟨l2, hl2⟩ : ∃ l, l = List.replicate 1024 2 := ⟨_, rfl⟩
  have l2n : Hid (l2.length = 1024) := by show _ = _; rw [hl2]; exact List.length_replicate
  have l2t : Hid (∀ x ∈ l2, x < 256) := by intro x hx; rw [hl2] at hx; have := List.eq_of_mem_replicate hx; omega
  have F2 := Lib.hid (fun W => filled_any W 2 (by omega))
  rw [← hl2] at F2
  clear hl2
  obtain ⟨l3, hl3⟩ : ∃ l, l = List.replicate 1024 3 := ⟨_, rfl⟩
  have l3n : Hid (l3.length = 1024) := by show _ = _; rw [hl3]; exact List.length_replicate
  have l3t : Hid (∀ x ∈ l3, x < 256) := by intro x hx; rw [hl3] at hx; have := List.eq_of_mem_replicate hx; omega
  have F3 := Lib.hid (fun W => filled_any W 3 (by omega))
  rw [← hl3] at F3
  clear hl3
  obtain ⟨Z, HZ, hmk⟩ := make_zeros
  obtain ⟨K, hK⟩ : ∃ K : Nat, 1 + (q : Int) % 40 = (K : Int) := ⟨1 + q % 40, by omega⟩
  have K1 : 1 ≤ K := by omega
  have K2 : K ≤ 40 := by omega
  have hN := Lib.hid (fun W => hnew W (n : Int) n (by omega))
  have hfl : ((n : Int) != (n : Int)) = false := by simp
  have hnz : ((n : Int) == 0) = false := by simp; omega
  have hmx : ¬ ((n : Int) < 0) := by omega
  have hm2 : ¬ ((2048 : Int) < (n : Int)) := by omega
  have hm3 : (n : Int) ≤ 2048 := by omega
  have hm4 : n ≠ 0 := by omega
  obtain ⟨m, xn, hm0⟩ : ∃ m : Nat, (n : Int) - 1 = (m : Int) ∧ m < n := ⟨n - 1, by omega, by omega⟩
  have xm : IntKind.i64.wrap (m : Int) = (m : Int) := IntWalk.i64_in _ ⟨by omega, by omega⟩
  rcases h1 with h1 | h1
  · have m1 : ¬ ((300 : Int) < (n : Int)) := by omega
    have m1' : decide ((300 : Int) < (n : Int)) = false := by simp; omega
    clear h1
    go_enter Try.func5, Try.ntmps5
    go_wp2_with fail
    refine (awake_any _).mono ?_
    rintro e v0 ⟨rfl, B0⟩
    go_wp2_with fail
    refine (hN.out _).mono ?_
    rintro e v1 ⟨p, rfl, h1⟩
    go_wp2_with fail
    refine (hpages v1 p _ h1).mono ?_
    rintro e v2 ⟨rfl, rfl⟩
    rw [fresh_len]
    go_wp2_with fail
    refine (harm v1 p _ h1 (K : Int) (by omega)).mono ?_
    rintro e v2 ⟨rfl, h2⟩
    rw [Int.toNat_natCast] at h2
    have H2 := Lib.hid h2
    clear h1 h2
    go_wp2_with fail
    go_loopw [8] (fun i wr => ∃ (k : Nat) (d : Dk.Pd), 1 ≤ k ∧ k ≤ K ∧ i = .int .i64 (k : Int) ∧ Ends n K (k - 1) d ∧ Has (fun _ => False) v0 wr p d) (fun i _ => K - (intOf i).toNat)
    case atStart => exact ⟨1, _, Nat.le_refl _, K1, rfl, Ends.first n K, H2.out⟩
    case round =>
      obtain ⟨k, d, hk1, hk, rfl, hE, hD⟩ := hrel
      by_cases hlt : k < K
      · have z1 : (k : Int) < (K : Int) := by omega
        obtain ⟨r, hr, hr2, hrn⟩ : ∃ r : Nat, Int.tmod (k : Int) (n : Int) = (r : Int) ∧ (k : Int) % (n : Int) = (r : Int) ∧ r < n := ⟨k % n, (Int.ofNat_tmod k n).symm, (Int.natCast_emod k n).symm, Nat.mod_lt _ (by omega)⟩
        have hnx := hE.next (no := r) (l := l1) (by omega) hrn l1n.out
        rw [show k - 1 + 1 = k from by omega] at hnx
        have hwl : d.waits.length < 1000 := by rw [hE.waits]; omega
        have HD := Lib.hid hD
        have HX := Lib.hid hnx
        clear hD hnx hE H2
        go_wp2_with fail
        go_region_held3 (fun _ => True) (trivial) (first | (go_at_call 13; refine (F1.out _).mono ?_; rintro e w3 ⟨g3, rfl, _, R3, B3⟩) | (go_at_call 12; refine (hwrite _ p _ (HD.out.drew.on B3) (r : Int) 1024 1024 _ l1 (R3.bs' l1t.out l1n.out (by omega)) hwl).mono ?_; rintro e w4 ⟨rfl, h4⟩; rw [HX.out.2]) | (go_at_call 21; refine (hdown w4 p _ h4).mono ?_; rintro e w5 ⟨rfl, rfl⟩; rw [HX.out.1.down]))
        have H4 := Lib.hid h4
        clear h4 R3 B3 HD hr hr2 hrn
        go_wp2
        go_roundw
        case rel => exact ⟨k + 1, _, by omega, by omega, by go_num, HX.out.1, H4.out⟩
        case measure => simp [intOf]; omega
      · have hk' : k = K := by omega
        subst hk'
        have hf : ¬ ((k : Int) < (k : Int)) := by omega
        obtain ⟨j, xk⟩ : ∃ j : Nat, (k : Int) - 1 = (j : Int) := ⟨k - 1, by omega⟩
        have hs1 := sync_one (d := d) (by have := hE.left; omega) hE.down
        have hwl : d.waits.length < 1000 := by rw [hE.waits]; omega
        have ej : k - 1 = j := by omega
        obtain ⟨d1, hd1, hd1p, hd1w, hd1d⟩ : ∃ d1 : Dk.Pd, Dk.sync d = d1 ∧ d1.pages = (Dk.fresh n).pages ∧ d1.waits.length = j ∧ d1.down = true := ⟨_, hs1.1, hE.pages, ej ▸ hE.waits, rfl⟩
        have P1 := Lib.hid hd1p
        have W1 := Lib.hid hd1w
        have D1 := Lib.hid hd1d
        have S1 := Lib.hid hs1.2
        have hjj : ((j : Int) != (j : Int)) = false := by simp
        have hj9 : j < 1000 := by omega
        have hd1n : 0 < d1.pages.length := by rw [hd1p, fresh_len]; omega
        have S2 := Lib.hid (off_sync (d := d1) hd1d)
        have WD := Lib.hid (off_write (d := d1) (no := 0) (l := l2) hd1d hd1n l2n.out)
        have CR := Lib.hid (crash_all d1 n 0 hd1p)
        clear hE hs1 hd1p hd1w hd1d ej H2 hd1n
        go_wp2_with fail
        refine (hsync wr p _ hD hwl).mono ?_
        rintro e w1 ⟨rfl, h1⟩
        rw [S1.out]
        have h1' := h1.pf hd1
        clear hD h1 hd1 S1 hwl
        go_wp2_with fail
        refine (hdown w1 p _ h1').mono ?_
        rintro e w2 ⟨rfl, rfl⟩
        rw [D1.out]
        go_wp2_with fail
        refine (F2.out _).mono ?_
        rintro e w2 ⟨g2, rfl, _, R2, B2⟩
        have h2 := h1'.on B2
        have s2 := R2.bs' l2t.out l2n.out (by omega)
        clear h1' B2 R2
        go_wp2_with fail
        refine (hwrite w2 p _ h2 0 1024 1024 _ l2 s2 (by rw [W1.out]; exact hj9)).mono ?_
        rintro e w3 ⟨rfl, h3⟩
        have h3' := h3.pf WD.out.1
        rw [show Dk.writeCode d1 0 l2 = 3 from WD.out.2]
        clear h2 s2 h3
        go_wp2_with fail
        refine (hsync w3 p _ h3' (by rw [W1.out]; exact hj9)).mono ?_
        rintro e w4 ⟨rfl, h4⟩
        have h4' := h4.pf S2.out.1
        rw [S2.out.2]
        clear h3' h4
        go_wp2_with fail
        refine (hwaiting w4 p _ h4' (by rw [W1.out]; exact hj9)).mono ?_
        rintro e w5 ⟨A5, c5, rfl, _, B5⟩
        have h5 := h4'.on B5
        rw [W1.out]
        clear h4' B5
        go_wp2_with fail
        refine (hcrash w5 p _ h5 none 0 0 [] 0 (Rd.nil_ _ _ _ (Nat.zero_le _)) (fun b off e => by cases e) (by rw [W1.out]; exact hj9)).mono ?_
        rintro e w6 ⟨rfl, h6⟩
        obtain ⟨d6, d7, h6', D6, S6, W6, C6, E7, P7, L7⟩ := fresh_end (h6.pf CR.out) hm0 l3n.out
        have H6 := Lib.hid h6'.drew
        clear h5 h6 h6' CR WD S2 P1 W1 D1 hjj xk hf hK
        go_wp2_with fail
        go_region_held3 (fun _ => True) (trivial) (first
          | (go_at_call 21; refine (hdown _ p _ H6.out).mono ?_; rintro e w7 ⟨rfl, rfl⟩; rw [D6.out])
          | (go_at_call 15; refine (hsync _ p _ H6.out W6.out).mono ?_; rintro e w8 ⟨rfl, h8⟩; rw [S6.out.2]; have h8' := h8.pf S6.out.1; clear h8)
          | (go_at_call 13; refine (F3.out _).mono ?_; rintro e w9 ⟨g9, rfl, _, R9, B9⟩; have h9 := h8'.on B9; have s9 := R9.bs' l3t.out l3n.out (by omega); clear h8' R9 B9)
          | (go_at_call 12; refine (hwrite _ p _ h9 0 1024 1024 _ l3 s9 W6.out).mono ?_; rintro e w10 ⟨rfl, h10⟩; rw [C6.out]; have h10' := h10.pf E7.out; clear h10 h9 s9)
          | (go_at_call 29; refine (hsafe _ p _ (by first | with_reducible exact h10' | exact h10'.on ((Below.refl _ _).alloc (Nat.le_refl _) _)) m L7.out).mono ?_; rintro e w11 ⟨g11, l11, rfl, _, e11, n11, t11, R11, B11⟩; rw [P7.out] at e11; injection e11 with e11; subst e11)
          | (go_at_call 28; refine (same_eq _ _ _ _ _ _ _ (List.replicate 1024 0) (by first | with_reducible exact R11.bs' t11 n11 (by omega) | exact (R11.on ((Below.refl _ _).alloc (Nat.le_refl _) _)).bs' t11 n11 (by omega)) (by first | with_reducible exact (zrow HZ.out w11).bs' t11 n11 (by omega) | exact ((zrow HZ.out w10).on B11).bs' t11 n11 (by omega))).mono ?_; rintro e w13 ⟨rfl, m13, rfl⟩))
        · have HE : Hid (Below w.heap.size w (w11.alloc (.cells Z 5))) := onto (onto (onto B0 h10'.below) B11) ((Below.refl _ _).alloc (Nat.le_refl _) _)
          clear R11 B11 h10'
          go_wp2
          go_ret
          exact ⟨rfl, below_drewN HE.out m13⟩
        · have HE : Hid (Below w.heap.size w w11) := onto (onto (onto B0 h10'.below) ((Below.refl _ _).alloc (Nat.le_refl _) _)) B11
          clear R11 B11 h10'
          go_wp2
          go_ret
          exact ⟨rfl, below_drewN HE.out m13⟩
  · have m1 : (300 : Int) < (n : Int) := by omega
    have m2 : ¬ ((n : Int) < 2000) := by omega
    have m2' : decide ((n : Int) < 2000) = false := by simp; omega
    clear h1
    go_enter Try.func5, Try.ntmps5
    go_wp2_with fail
    refine (awake_any _).mono ?_
    rintro e v0 ⟨rfl, B0⟩
    go_wp2_with fail
    refine (hN.out _).mono ?_
    rintro e v1 ⟨p, rfl, h1⟩
    go_wp2_with fail
    refine (hpages v1 p _ h1).mono ?_
    rintro e v2 ⟨rfl, rfl⟩
    rw [fresh_len]
    go_wp2_with fail
    refine (harm v1 p _ h1 (K : Int) (by omega)).mono ?_
    rintro e v2 ⟨rfl, h2⟩
    rw [Int.toNat_natCast] at h2
    have H2 := Lib.hid h2
    clear h1 h2
    go_wp2_with fail
    go_loopw [8] (fun i wr => ∃ (k : Nat) (d : Dk.Pd), 1 ≤ k ∧ k ≤ K ∧ i = .int .i64 (k : Int) ∧ Ends n K (k - 1) d ∧ Has (fun _ => False) v0 wr p d) (fun i _ => K - (intOf i).toNat)
    case atStart => exact ⟨1, _, Nat.le_refl _, K1, rfl, Ends.first n K, H2.out⟩
    case round =>
      obtain ⟨k, d, hk1, hk, rfl, hE, hD⟩ := hrel
      by_cases hlt : k < K
      · have z1 : (k : Int) < (K : Int) := by omega
        obtain ⟨r, hr, hr2, hrn⟩ : ∃ r : Nat, Int.tmod (k : Int) (n : Int) = (r : Int) ∧ (k : Int) % (n : Int) = (r : Int) ∧ r < n := ⟨k % n, (Int.ofNat_tmod k n).symm, (Int.natCast_emod k n).symm, Nat.mod_lt _ (by omega)⟩
        have hnx := hE.next (no := r) (l := l1) (by omega) hrn l1n.out
        rw [show k - 1 + 1 = k from by omega] at hnx
        have hwl : d.waits.length < 1000 := by rw [hE.waits]; omega
        have HD := Lib.hid hD
        have HX := Lib.hid hnx
        clear hD hnx hE H2
        go_wp2_with fail
        go_region_held3 (fun _ => True) (trivial) (first | (go_at_call 13; refine (F1.out _).mono ?_; rintro e w3 ⟨g3, rfl, _, R3, B3⟩) | (go_at_call 12; refine (hwrite _ p _ (HD.out.drew.on B3) (r : Int) 1024 1024 _ l1 (R3.bs' l1t.out l1n.out (by omega)) hwl).mono ?_; rintro e w4 ⟨rfl, h4⟩; rw [HX.out.2]) | (go_at_call 21; refine (hdown w4 p _ h4).mono ?_; rintro e w5 ⟨rfl, rfl⟩; rw [HX.out.1.down]))
        have H4 := Lib.hid h4
        clear h4 R3 B3 HD hr hr2 hrn
        go_wp2
        go_roundw
        case rel => exact ⟨k + 1, _, by omega, by omega, by go_num, HX.out.1, H4.out⟩
        case measure => simp [intOf]; omega
      · have hk' : k = K := by omega
        subst hk'
        have hf : ¬ ((k : Int) < (k : Int)) := by omega
        obtain ⟨j, xk⟩ : ∃ j : Nat, (k : Int) - 1 = (j : Int) := ⟨k - 1, by omega⟩
        have hs1 := sync_one (d := d) (by have := hE.left; omega) hE.down
        have hwl : d.waits.length < 1000 := by rw [hE.waits]; omega
        have ej : k - 1 = j := by omega
        obtain ⟨d1, hd1, hd1p, hd1w, hd1d⟩ : ∃ d1 : Dk.Pd, Dk.sync d = d1 ∧ d1.pages = (Dk.fresh n).pages ∧ d1.waits.length = j ∧ d1.down = true := ⟨_, hs1.1, hE.pages, ej ▸ hE.waits, rfl⟩
        have P1 := Lib.hid hd1p
        have W1 := Lib.hid hd1w
        have D1 := Lib.hid hd1d
        have S1 := Lib.hid hs1.2
        have hjj : ((j : Int) != (j : Int)) = false := by simp
        have hj9 : j < 1000 := by omega
        have hd1n : 0 < d1.pages.length := by rw [hd1p, fresh_len]; omega
        have S2 := Lib.hid (off_sync (d := d1) hd1d)
        have WD := Lib.hid (off_write (d := d1) (no := 0) (l := l2) hd1d hd1n l2n.out)
        have CR := Lib.hid (crash_all d1 n 0 hd1p)
        clear hE hs1 hd1p hd1w hd1d ej H2 hd1n
        go_wp2_with fail
        refine (hsync wr p _ hD hwl).mono ?_
        rintro e w1 ⟨rfl, h1⟩
        rw [S1.out]
        have h1' := h1.pf hd1
        clear hD h1 hd1 S1 hwl
        go_wp2_with fail
        refine (hdown w1 p _ h1').mono ?_
        rintro e w2 ⟨rfl, rfl⟩
        rw [D1.out]
        go_wp2_with fail
        refine (F2.out _).mono ?_
        rintro e w2 ⟨g2, rfl, _, R2, B2⟩
        have h2 := h1'.on B2
        have s2 := R2.bs' l2t.out l2n.out (by omega)
        clear h1' B2 R2
        go_wp2_with fail
        refine (hwrite w2 p _ h2 0 1024 1024 _ l2 s2 (by rw [W1.out]; exact hj9)).mono ?_
        rintro e w3 ⟨rfl, h3⟩
        have h3' := h3.pf WD.out.1
        rw [show Dk.writeCode d1 0 l2 = 3 from WD.out.2]
        clear h2 s2 h3
        go_wp2_with fail
        refine (hsync w3 p _ h3' (by rw [W1.out]; exact hj9)).mono ?_
        rintro e w4 ⟨rfl, h4⟩
        have h4' := h4.pf S2.out.1
        rw [S2.out.2]
        clear h3' h4
        go_wp2_with fail
        refine (hwaiting w4 p _ h4' (by rw [W1.out]; exact hj9)).mono ?_
        rintro e w5 ⟨A5, c5, rfl, _, B5⟩
        have h5 := h4'.on B5
        rw [W1.out]
        clear h4' B5
        go_wp2_with fail
        refine (hcrash w5 p _ h5 none 0 0 [] 0 (Rd.nil_ _ _ _ (Nat.zero_le _)) (fun b off e => by cases e) (by rw [W1.out]; exact hj9)).mono ?_
        rintro e w6 ⟨rfl, h6⟩
        obtain ⟨d6, d7, h6', D6, S6, W6, C6, E7, P7, L7⟩ := fresh_end (h6.pf CR.out) hm0 l3n.out
        have H6 := Lib.hid h6'.drew
        clear h5 h6 h6' CR WD S2 P1 W1 D1 hjj xk hf hK
        go_wp2_with fail
        go_region_held3 (fun _ => True) (trivial) (first
          | (go_at_call 21; refine (hdown _ p _ H6.out).mono ?_; rintro e w7 ⟨rfl, rfl⟩; rw [D6.out])
          | (go_at_call 15; refine (hsync _ p _ H6.out W6.out).mono ?_; rintro e w8 ⟨rfl, h8⟩; rw [S6.out.2]; have h8' := h8.pf S6.out.1; clear h8)
          | (go_at_call 13; refine (F3.out _).mono ?_; rintro e w9 ⟨g9, rfl, _, R9, B9⟩; have h9 := h8'.on B9; have s9 := R9.bs' l3t.out l3n.out (by omega); clear h8' R9 B9)
          | (go_at_call 12; refine (hwrite _ p _ h9 0 1024 1024 _ l3 s9 W6.out).mono ?_; rintro e w10 ⟨rfl, h10⟩; rw [C6.out]; have h10' := h10.pf E7.out; clear h10 h9 s9)
          | (go_at_call 29; refine (hsafe _ p _ (by first | with_reducible exact h10' | exact h10'.on ((Below.refl _ _).alloc (Nat.le_refl _) _)) m L7.out).mono ?_; rintro e w11 ⟨g11, l11, rfl, _, e11, n11, t11, R11, B11⟩; rw [P7.out] at e11; injection e11 with e11; subst e11)
          | (go_at_call 28; refine (same_eq _ _ _ _ _ _ _ (List.replicate 1024 0) (by first | with_reducible exact R11.bs' t11 n11 (by omega) | exact (R11.on ((Below.refl _ _).alloc (Nat.le_refl _) _)).bs' t11 n11 (by omega)) (by first | with_reducible exact (zrow HZ.out w11).bs' t11 n11 (by omega) | exact ((zrow HZ.out w10).on B11).bs' t11 n11 (by omega))).mono ?_; rintro e w13 ⟨rfl, m13, rfl⟩))
        · have HE : Hid (Below w.heap.size w (w11.alloc (.cells Z 5))) := onto (onto (onto B0 h10'.below) B11) ((Below.refl _ _).alloc (Nat.le_refl _) _)
          clear R11 B11 h10'
          go_wp2
          go_ret
          exact ⟨rfl, below_drewN HE.out m13⟩
        · have HE : Hid (Below w.heap.size w w11) := onto (onto (onto B0 h10'.below) ((Below.refl _ _).alloc (Nat.le_refl _) _)) B11
          clear R11 B11 h10'
          go_wp2
          go_ret
          exact ⟨rfl, below_drewN HE.out m13⟩

end Go.Proofs.Ytakoajbfkinlcaa
