/-
  DiskStays: what is safe stays, whatever is written behind it and lost; behind a Sync that answered OK all that is seen is safe.
-/
import Derived.Test.YtakoajbfkinlcaaDkDo
import Derived.Test.YtakoajbfkinlcaaRfNew
import Derived.Test.YtakoajbfkinlcaaSame
import Derived.Outline
import Derived.Deep.CutBlock
namespace Go.Proofs.Ytakoajbfkinlcaa
open Go.RowKit Go.Deep
set_option linter.unusedVariables false

/-! plainly -/
/-- Nothing is armed, the pages are P, at most m writes wait. -/
structure Calm (P : List (List Nat)) (m : Nat) (d : Dk.Pd) : Prop where
  pages : d.pages = P
  left : d.left = 0
  down : d.down = false
  waits : d.waits.length ≤ m
theorem Calm.write {P : List (List Nat)} {m : Nat} {d : Dk.Pd} (h : Calm P m d) (no : Int) {l : List Nat} (hl : l.length = 1024) : Calm P (m + 1) (Dk.write d no l) := by
  by_cases hn : Dk.has d no
  · obtain ⟨n, rfl⟩ : ∃ n : Nat, no = (n : Int) := ⟨no.toNat, by have := hn.1; omega⟩
    rw [(write_calm h.left h.down (by have := hn.2; omega) hl).1]
    refine ⟨h.pages, h.left, h.down, ?_⟩
    show (d.waits ++ [(n, l)]).length ≤ m + 1
    rw [List.length_append]; have := h.waits; simp; omega
  · rw [(write_out hn).1]
    exact ⟨h.pages, h.left, h.down, by have := h.waits; omega⟩
theorem Calm.mono {P : List (List Nat)} {m m' : Nat} {d : Dk.Pd} (h : Calm P m d) (hm : m ≤ m') : Calm P m' d := ⟨h.pages, h.left, h.down, Nat.le_trans h.waits hm⟩
theorem Calm.fresh (n : Nat) : Calm (Dk.fresh n).pages 0 (Dk.fresh n) := ⟨rfl, rfl, rfl, Nat.le_refl _⟩
/-- Behind the sync. -/
theorem Calm.sync {P : List (List Nat)} {m : Nat} {d : Dk.Pd} (h : Calm P m d) : Dk.syncCode d = 0 ∧ Calm (Dk.stTo d d.waits.length) 0 (Dk.sync d) ∧ (Dk.sync d).waits.length = 0 := by
  have hs := sync_calm h.left h.down
  rw [hs.1]
  exact ⟨hs.2, ⟨rfl, h.left, h.down, Nat.le_refl _⟩, rfl⟩
theorem settled_at {d : Dk.Pd} (hi : ∀ x ∈ d.waits, x.1 < d.pages.length) {k : Nat} (hk : k < d.pages.length) : (Dk.stTo d d.waits.length)[k]? = some (Dk.seen d k) := by
  have e := Dk.st_seen d hi k d.waits.length
  rw [List.getD_eq_getElem?_getD] at e
  have hl : k < (Dk.stTo d d.waits.length).length := by rw [Dk.stTo_len]; exact hk
  rw [List.getElem?_eq_getElem hl] at e ⊢
  exact congrArg some e
/-- Behind the loss. -/
theorem Calm.lost {P : List (List Nat)} {m : Nat} {d : Dk.Pd} (h : Calm P m d) (t : Int) {k : Nat} {l : List Nat} (hk : P[k]? = some l) : (Dk.crashed d [] t).pages[k]? = some l ∧ Dk.seen (Dk.crashed d [] t) k = l := by
  have hp : (Dk.crashed d [] t).pages = P := by show Dk.crTo _ _ _ _ = _; rw [Dk.crTo_nil, h.pages]
  rw [hp]
  refine ⟨hk, ?_⟩
  show Dk.seenTo _ k 0 = l
  show (Dk.crashed d [] t).pages.getD k [] = l
  rw [hp, List.getD_eq_getElem?_getD, hk]; rfl

/-! the pages that were read, in a row of the call's own -/
structure Saw (u0 w : World) (H : Hd) (d : Dk.Pd) (v : Value) (k : Nat) : Prop where
  disk : Dsk w H d
  seen : ∃ vs, Sq w v ((List.range k).map (Dk.seen d)) vs
  new : ∀ j, v.ownBlock = some j → u0.heap.size ≤ j
  bel : Below u0.heap.size u0 w
theorem Saw.step {u0 w w1 w3 : World} {H : Hd} {d : Dk.Pd} {v : Value} {k g g' cap : Nat} {vs : List Value} {o : Obj} (h : Saw u0 w H d v k) (low : ∀ j, H.own j → j < u0.heap.size)
    (hs : Sq w v ((List.range k).map (Dk.seen d)) vs) (B1 : Below w.heap.size w w1) (hP : PgV w1 (.slice (some ⟨g, 0, none⟩) 1024 1024) (Dk.seen d k))
    (O3 : w3.ownsRow 0 34 1 (.slice (some ⟨g', 0, none⟩) (k + 1) cap) (k + 1) (vs ++ [.slice (some ⟨g, 0, none⟩) 1024 1024])) (g3 : (w1.alloc o).grownBy w3 v.ownBlock) (hl : v.ownBlock = some g' ∨ (w1.alloc o).heap.size ≤ g') :
    Saw u0 w3 H d (.slice (some ⟨g', 0, none⟩) (k + 1) cap) (k + 1) := by
  have B2 : Below w.heap.size w (w1.alloc o) := B1.alloc B1.size o
  have hs2 := hs.on B2
  have o3 : Off (fun j => v.ownBlock = some j) (w1.alloc o) w3 := Off.of_grown g3 fun j hj => hj
  have hf : Free (fun j => v.ownBlock = some j) (w1.alloc o) := by
    intro j cs m hj hh
    obtain ⟨cs', hc⟩ := own_type hs2.row.own hj; rw [hc] at hh; simp at hh
  have hsz : u0.heap.size ≤ (w1.alloc o).heap.size := Nat.le_trans h.bel.size B2.size
  refine ⟨(h.disk.on B2).off o3 hf (fun j hj e => by have := low j hj; have := h.new j e; omega), ⟨vs ++ [.slice (some ⟨g, 0, none⟩) 1024 1024], ?_⟩, ?_, ?_⟩
  · rw [List.range_succ, List.map_append]
    exact Sq.snoc (v := v) (hs2.row.along.mono fun x y hr => hr.off o3 hf) hs.full (by simp) O3 ((hP.on ((Below.refl _ _).alloc (Nat.le_refl _) o)).off o3 hf)
  · intro j hj
    injection hj with hj
    have hj : g' = j := hj
    subst hj
    rcases hl with a | a
    · exact h.new _ a
    · exact Nat.le_trans hsz a
  · exact (h.bel.trans (B2.mono h.bel.size)).trans (o3.below h.new hsz)

set_option maxRecDepth 100000 in
set_option maxHeartbeats 2000000 in
theorem diskStays_walk (w : World) (A A' : Option Addr) (n c n' c' : Nat) (L L' : List Dov) (hL : Dos w A n c L) (hL' : Dos w A' n' c' L') :
    Calls Try.prog 4 #[.slice A n c, .slice A' n' c'] w fun e w' => e = .returned (.bool true) ∧ Below w.heap.size w w' := by
  have hcm := hL.2.2.1
  have hnc := hL.2.1
  have hcm' := hL'.2.2.1
  have hnc' := hL'.2.1
  unfold maxLen at hcm hcm'
  have HL := Lib.hid hL
  have HL' := Lib.hid hL'
  clear hL hL'
  obtain ⟨i0, hi, hz0, hz1, hz2⟩ := info_parts Try.info34
  go_enter Try.func4, Try.ntmps4
  go_wp2_with fail
  refine (awake_any _).mono ?_
  rintro e v0 ⟨rfl, B0⟩
  go_wp2_with fail
  refine (small_any v0 A n c L (HL.out.on B0)).mono ?_
  rintro e v1 ⟨rfl, rfl⟩
  cases hs1 : smallTo L 60 with
  | false =>
    have HB := Lib.hid B0
    go_wp2
    go_ret
    exact ⟨rfl, HB.out⟩
  | true =>
  go_wp2_with fail
  refine (small_any v0 A' n' c' L' (HL'.out.on B0)).mono ?_
  rintro e v1 ⟨rfl, rfl⟩
  cases hs2 : smallTo L' 60 with
  | false =>
    have HB := Lib.hid B0
    go_wp2
    go_ret
    exact ⟨rfl, HB.out⟩
  | true =>
  clear hs1 hs2
  go_wp2_with fail
  refine (hnew v0 12 12 (by omega)).mono ?_
  rintro e v1 ⟨p, rfl, h1⟩
  have H1 := Lib.hid h1
  have HB0 := Lib.hid B0
  clear h1 B0
  go_upto_block 0 with fail
  go_cut [] from 26 to 54 (fun wx => ∃ d, Calm (Dk.fresh 12).pages 60 d ∧ Has (fun _ => False) v0 wx p d)
  case first =>
    go_wp2_with fail
    go_loopw [6] (fun i wr => ∃ (k : Nat) (d : Dk.Pd), k ≤ n ∧ k ≤ 60 ∧ i = .int .i64 (k : Int) ∧ Calm (Dk.fresh 12).pages k d ∧ Has (fun _ => False) v0 wr p d) (fun i _ => n - (intOf i).toNat)
    case atStart => exact ⟨0, _, Nat.zero_le _, Nat.zero_le _, rfl, Calm.fresh 12, H1.out⟩
    case round =>
      obtain ⟨k, d, hk, hk6, rfl, hC, hD⟩ := hrel
      have HD := Lib.hid hD
      have HC := Lib.hid hC
      clear hC hD
      by_cases hlt : k < n
      · have z1 : (k : Int) < (n : Int) := by omega
        by_cases hlt6 : k < 60
        · have z2 : (k : Int) < 60 := by omega
          obtain ⟨b, off, x, rfl, hb, hx, hd⟩ := HL.out.get hlt
          have Bw := Lib.hid (onto HB0.out (HD.out).below)
          have cn0 := Lib.hid hd.no
          have cb0 := Lib.hid hd.byte
          have hbw : b < wr.heap.size := Nat.lt_of_lt_of_le hb Bw.out.size
          have hdw := hd.on hb Bw.out
          have ck := hdw.kind
          have cn := hdw.no
          have cb := hdw.byte
          have hby := hd.byteI
          have hkI := Lib.hid hd.kindI
          have hwl : d.waits.length < 1000 := by have := HC.out.waits; omega
          clear hdw hd hx
          generalize x.kind = kd at *
          generalize x.no = no at *
          generalize x.byte = by_ at *
          by_cases hkd : kd = 0
          · subst hkd
            obtain ⟨l1, hl1⟩ : ∃ l, l = List.replicate 1024 by_ := ⟨_, rfl⟩
            have l1n : Hid (l1.length = 1024) := by show _ = _; rw [hl1]; exact List.length_replicate
            have l1t : Hid (∀ x ∈ l1, x < 256) := by intro x hx; rw [hl1] at hx; have := List.eq_of_mem_replicate hx; omega
            have F1 := Lib.hid (fun W => filled_any W by_ hby)
            rw [← hl1] at F1
            clear hl1
            have CW := Lib.hid (HC.out.write no l1n.out)
            go_wp2_with fail
            go_region_held3 (fun w' => w'.cell? ⟨b, off + k * 5 + 1, none⟩ = some (.int .i64 no) ∧ w'.cell? ⟨b, off + k * 5 + 2, none⟩ = some (.int .u8 (by_ : Int))) (first | assumption | exact ⟨cn, cb⟩ | go_keep) (first
              | (go_at_call 13; refine (F1.out _).mono ?_; rintro e w3 ⟨g3, rfl, _, R3, B3⟩; have S3 : (fun w' : World => w'.cell? ⟨b, off + k * 5 + 1, none⟩ = some (.int .i64 no) ∧ w'.cell? ⟨b, off + k * 5 + 2, none⟩ = some (.int .u8 (by_ : Int))) w3 := ⟨(B3.cell (p := ⟨b, off + k * 5 + 1, none⟩) hbw).trans cn, (B3.cell (p := ⟨b, off + k * 5 + 2, none⟩) hbw).trans cb⟩)
              | (go_at_call 12; refine (hwrite _ p _ (HD.out.drew.on B3) no 1024 1024 _ l1 (R3.bs' l1t.out l1n.out (by omega)) hwl).mono ?_; rintro e w4 ⟨rfl, h4⟩; have S4 : (fun w' : World => w'.cell? ⟨b, off + k * 5 + 1, none⟩ = some (.int .i64 no) ∧ w'.cell? ⟨b, off + k * 5 + 2, none⟩ = some (.int .u8 (by_ : Int))) w4 := by have Q := onto HB0.out (h4).below; exact ⟨(Q.cell (p := ⟨b, off + k * 5 + 1, none⟩) hb).trans cn0.out, (Q.cell (p := ⟨b, off + k * 5 + 2, none⟩) hb).trans cb0.out⟩))
            have H4 := Lib.hid h4
            clear h4 R3 B3 S3 S4 cn cb ck
            go_wp2
            go_roundw
            case rel => exact ⟨k + 1, _, by omega, by omega, by go_num, CW.out, H4.out⟩
            case measure => simp [intOf]; omega
          · have hkd' : (kd == 0) = false := by simpa using hkd
            go_wp2
            go_roundw
            case rel => exact ⟨k + 1, _, by omega, by omega, by go_num, HC.out.mono (by omega), HD.out⟩
            case measure => simp [intOf]; omega
        · have z2 : ¬ ((k : Int) < 60) := by omega
          have z2' : decide ((k : Int) < 60) = false := by simp; omega
          go_wp2
          go_meet
          exact ⟨d, HC.out.mono hk6, HD.out⟩
      · have z1 : ¬ ((k : Int) < (n : Int)) := by omega
        have z1' : decide ((k : Int) < (n : Int)) = false := by simp; omega
        go_wp2
        go_meet
        exact ⟨d, HC.out.mono hk6, HD.out⟩
  case rest =>
    obtain ⟨d, hC, hD⟩ := hcut
    have Bu := onto HB0.out hD.below
    obtain ⟨H, hp, hDs, ho, hO⟩ := hD
    subst hp
    obtain ⟨u0, hu0⟩ : ∃ u0 : World, u0 = wc := ⟨_, rfl⟩
    subst hu0
    have hp12 : d.pages.length = 12 := by rw [hC.pages, fresh_len]
    have low : ∀ j, H.own j → j < u0.heap.size := fun j hj => hDs.lt hj
    have hOwn : ∀ j, H.own j → w.heap.size ≤ j := fun j hj => Nat.le_trans HB0.out.size ((ho j hj).resolve_left id)
    have HDs := Lib.hid hDs
    have HC := Lib.hid hC
    have HBu := Lib.hid Bu
    have LOW := Lib.hid low
    have OWN := Lib.hid hOwn
    clear hC hDs ho hO Bu low hOwn H1
    go_upto_block 2 with fail
    go_cut [7] from 55 to 68 (fun v7 wx => Saw u0 wx H d v7 12)
    case first =>
      go_wp2_with fail
      go_loopw [7, 8] (fun v i wr => ∃ k : Nat, k ≤ 12 ∧ i = .int .i64 (k : Int) ∧ Saw u0 wr H d v k) (fun _ i _ => 12 - (intOf i).toNat)
      case atStart => exact ⟨0, Nat.zero_le _, rfl, HDs.out, ⟨[], ⟨World.ownsRow_nil _ _ _ _, Along.nil_⟩, fun i u h => by simp at h⟩, (fun j hj => by cases hj), Below.refl _ _⟩
      case round =>
        obtain ⟨k, hk, rfl, hS⟩ := hrel
        by_cases hlt : k < 12
        · have z1 : (k : Int) < 12 := by omega
          obtain ⟨vs, hs⟩ := hS.seen
          have hD := hS.disk
          have HS := Lib.hid hS
          have HQ := Lib.hid hs
          clear hS hs
          go_wp2_with fail
          refine (read_any wr H d k hD (by rw [hp12]; exact hlt)).mono ?_
          rintro e w1 ⟨g1, rfl, _, n1, t1, R1, B1⟩
          have P1 := Lib.hid (PgV.of_row R1 n1 t1)
          have HB1 := Lib.hid B1
          have O2 := Lib.hid ((own_on HQ.out.row.own B1).alloc (.cells #[.slice (some ⟨g1, 0, none⟩) 1024 1024] 34))
          rw [show ((List.range k).map (Dk.seen d)).length = k from by simp] at O2
          clear R1 B1 n1 t1 hD
          go_wp2_with (at_builtin; refine wpList_append_lies _ rfl _ _ 39 rfl 0 34 i0 (.slice none 0 0) 1 24 Try.underlying39 hi hz0 hz1 hz2 rfl (by decide) _ _ _ rfl O2.out ⟨w1.heap.size, 0, none⟩ 1 1 [.slice (some ⟨g1, 0, none⟩) 1024 1024] (by simp [Act.eval]) rfl (cell_one_new w1 _ _) (by simp [Value.oneCell']) (by decide) (by unfold maxLen; omega) (by omega) (Nat.zero_le _) _ rfl ?_; intro g' cap w3 O3 g3 hl3 hg3)
          have S3 := HS.out.step LOW.out HQ.out HB1.out P1.out O3 g3 (hl3.imp id fun h => Nat.le_of_eq h.symm)
          exact ⟨⟨k + 1, by omega, by go_num, S3⟩, by simp [intOf]; omega⟩
        · have hk' : k = 12 := by omega
          have z1 : ¬ ((k : Int) < 12) := by omega
          rw [hk'] at hS
          have HS := Lib.hid hS
          clear hS hk' hlt
          go_wp2
          go_meet
          exact HS.out
    case rest =>
      obtain ⟨u1, hu1⟩ : ∃ u1 : World, u1 = wc := ⟨_, rfl⟩
      subst hu1
      obtain ⟨vs, hs⟩ := hcut.seen
      have hlen : ((List.range 12).map (Dk.seen d)).length = 12 := by simp
      obtain ⟨gs, cs, _, _, hv, hcs, hx1, hx2, hx3⟩ := hs.get (k := 0) (by rw [hlen]; omega)
      rw [hlen] at hv hcs
      clear hx1 hx2 hx3
      subst hv
      have BU1 := Lib.hid (HBu.out.trans (hcut.bel.mono HBu.out.size))
      have FR := Lib.hid hcut.disk.free
      have NS : Hid (∀ j, (Value.slice (some ⟨gs, 0, none⟩) 12 cs).ownBlock = some j → ¬ H.own j) := fun j hj e => by have h1 := LOW.out j e; have h2 := hcut.new j hj; omega
      have HQ := Lib.hid hs
      have h2 : Has H.own u1 u1 H.p d := ⟨H, rfl, hcut.disk, fun k hk => .inl hk, Off.refl _ _⟩
      have hins := h2.ins
      have SY := Lib.hid HC.out.sync
      have ST := Lib.hid (fun k (hk : k < 12) => settled_at hins (k := k) (by rw [hp12]; exact hk))
      have hwl : d.waits.length < 1000 := by have := HC.out.waits; omega
      have SL : Hid ((Dk.stTo d d.waits.length).length = 12) := by show _ = _; rw [Dk.stTo_len, hp12]
      clear hcut hs hlen HC LOW HDs hins
      generalize Dk.stTo d d.waits.length = P at *
      generalize hsd : Dk.seen d = sd at *
      clear hsd
      go_wp2_with fail
      refine (hsync u1 H.p d h2 hwl).mono ?_
      rintro e u2 ⟨rfl, h3⟩
      rw [SY.out.1]
      have C3 := Lib.hid SY.out.2.1
      have W3 := Lib.hid SY.out.2.2
      generalize Dk.sync d = d2 at *
      clear h2 SY hwl
      go_wp2_with fail
      refine (hwaiting u2 H.p d2 h3 (by rw [W3.out]; omega)).mono ?_
      rintro e u3 ⟨A3, c3, rfl, _, B3⟩
      rw [W3.out]
      have H3 := Lib.hid (h3.on B3)
      clear h3 B3
      go_upto_block 4 with fail
      go_cut [] from 78 to 106 (fun wx => ∃ d, Calm P 60 d ∧ Has H.own u1 wx H.p d)
      case first =>
        go_wp2_with fail
        go_loopw [11] (fun i wr => ∃ (k : Nat) (d : Dk.Pd), k ≤ n' ∧ k ≤ 60 ∧ i = .int .i64 (k : Int) ∧ Calm P k d ∧ Has H.own u1 wr H.p d) (fun i _ => n' - (intOf i).toNat)
        case atStart => exact ⟨0, _, Nat.zero_le _, Nat.zero_le _, rfl, C3.out, H3.out⟩
        case round =>
          obtain ⟨k, d, hk, hk6, rfl, hC, hD⟩ := hrel
          have HD := Lib.hid hD
          have HC := Lib.hid hC
          clear hC hD
          by_cases hlt : k < n'
          · have z1 : (k : Int) < (n' : Int) := by omega
            by_cases hlt6 : k < 60
            · have z2 : (k : Int) < 60 := by omega
              obtain ⟨b, off, x, rfl, hb, hx, hd⟩ := HL'.out.get hlt
              have Bw := Lib.hid (BU1.out.trans ((HD.out).off.below OWN.out BU1.out.size))
              have cn0 := Lib.hid hd.no
              have cb0 := Lib.hid hd.byte
              have hbw : b < wr.heap.size := Nat.lt_of_lt_of_le hb Bw.out.size
              have hdw := hd.on hb Bw.out
              have ck := hdw.kind
              have cn := hdw.no
              have cb := hdw.byte
              have hby := hd.byteI
              have hkI := Lib.hid hd.kindI
              have hwl : d.waits.length < 1000 := by have := HC.out.waits; omega
              clear hdw hd hx
              generalize x.kind = kd at *
              generalize x.no = no at *
              generalize x.byte = by_ at *
              by_cases hkd : kd = 0
              · subst hkd
                obtain ⟨l1, hl1⟩ : ∃ l, l = List.replicate 1024 by_ := ⟨_, rfl⟩
                have l1n : Hid (l1.length = 1024) := by show _ = _; rw [hl1]; exact List.length_replicate
                have l1t : Hid (∀ x ∈ l1, x < 256) := by intro x hx; rw [hl1] at hx; have := List.eq_of_mem_replicate hx; omega
                have F1 := Lib.hid (fun W => filled_any W by_ hby)
                rw [← hl1] at F1
                clear hl1
                have CW := Lib.hid (HC.out.write no l1n.out)
                go_wp2_with fail
                go_region_held3 (fun w' => w'.cell? ⟨b, off + k * 5 + 1, none⟩ = some (.int .i64 no) ∧ w'.cell? ⟨b, off + k * 5 + 2, none⟩ = some (.int .u8 (by_ : Int))) (first | assumption | exact ⟨cn, cb⟩ | go_keep) (first
                  | (go_at_call 13; refine (F1.out _).mono ?_; rintro e w3 ⟨g3, rfl, _, R3, B3⟩; have S3 : (fun w' : World => w'.cell? ⟨b, off + k * 5 + 1, none⟩ = some (.int .i64 no) ∧ w'.cell? ⟨b, off + k * 5 + 2, none⟩ = some (.int .u8 (by_ : Int))) w3 := ⟨(B3.cell (p := ⟨b, off + k * 5 + 1, none⟩) hbw).trans cn, (B3.cell (p := ⟨b, off + k * 5 + 2, none⟩) hbw).trans cb⟩)
                  | (go_at_call 12; refine (hwrite _ H.p _ (HD.out.drew.on B3) no 1024 1024 _ l1 (R3.bs' l1t.out l1n.out (by omega)) hwl).mono ?_; rintro e w4 ⟨rfl, h4⟩; have S4 : (fun w' : World => w'.cell? ⟨b, off + k * 5 + 1, none⟩ = some (.int .i64 no) ∧ w'.cell? ⟨b, off + k * 5 + 2, none⟩ = some (.int .u8 (by_ : Int))) w4 := by have Q := BU1.out.trans ((h4).off.below OWN.out BU1.out.size); exact ⟨(Q.cell (p := ⟨b, off + k * 5 + 1, none⟩) hb).trans cn0.out, (Q.cell (p := ⟨b, off + k * 5 + 2, none⟩) hb).trans cb0.out⟩))
                have H4 := Lib.hid h4
                clear h4 R3 B3 S3 S4 cn cb ck
                go_wp2
                go_roundw
                case rel => exact ⟨k + 1, _, by omega, by omega, by go_num, CW.out, H4.out⟩
                case measure => simp [intOf]; omega
              · have hkd' : (kd == 0) = false := by simpa using hkd
                go_wp2
                go_roundw
                case rel => exact ⟨k + 1, _, by omega, by omega, by go_num, HC.out.mono (by omega), HD.out⟩
                case measure => simp [intOf]; omega
            · have z2 : ¬ ((k : Int) < 60) := by omega
              have z2' : decide ((k : Int) < 60) = false := by simp; omega
              go_wp2
              go_meet
              exact ⟨d, HC.out.mono hk6, HD.out⟩
          · have z1 : ¬ ((k : Int) < (n' : Int)) := by omega
            have z1' : decide ((k : Int) < (n' : Int)) = false := by simp; omega
            go_wp2
            go_meet
            exact ⟨d, HC.out.mono hk6, HD.out⟩
      case rest =>
        obtain ⟨d3, C4, h4⟩ := hcut
        obtain ⟨u4, hu4⟩ : ∃ u4 : World, u4 = wc := ⟨_, rfl⟩
        subst hu4
        have LO := Lib.hid (fun k l (hk : P[k]? = some l) => C4.lost 0 hk)
        have hwl : d3.waits.length < 1000 := by have := C4.waits; omega
        have hpl : (Dk.crashed d3 [] 0).pages.length = 12 := by
          show (Dk.crTo _ _ _ _).length = 12
          rw [Dk.crTo_len, C4.pages]; exact SL.out
        clear H3
        go_wp2_with fail
        refine (hcrash u4 H.p d3 h4 none 0 0 [] 0 (Rd.nil_ _ _ _ (Nat.zero_le _)) (fun b off e => by cases e) hwl).mono ?_
        rintro e u5 ⟨rfl, h5⟩
        have H5 := Lib.hid h5
        clear h4 h5 C4 hwl
        generalize Dk.crashed d3 [] 0 = d4 at *
        go_wp2_with fail
        go_loopw [12] (fun i wr => ∃ k : Nat, k ≤ 12 ∧ i = .int .i64 (k : Int) ∧ Has H.own u1 wr H.p d4) (fun i _ => 12 - (intOf i).toNat)
        case atStart => exact ⟨0, Nat.zero_le _, rfl, H5.out⟩
        case round =>
          obtain ⟨k, hk, rfl, hD⟩ := hrel
          by_cases hlt : k < 12
          · have z1 : (k : Int) < 12 := by omega
            obtain ⟨pg, se⟩ := LO.out k _ (ST.out k hlt)
            obtain ⟨gs', cs', u, l', hv', hx1, hl', hu, cu⟩ := (HQ.out.off hD.off FR.out NS.out).get (k := k) (by simp; exact hlt)
            injection hv' with hv' hx2 hx3
            injection hv' with hv'
            injection hv' with hv' hx4 hx5
            clear hx1 hx2 hx3 hx4 hx5
            subst hv'
            obtain ⟨gl, cl, rfl, hbl, hx6, hx7⟩ := hu.form
            clear hx6 hx7
            have el : sd k = l' := by
              rw [List.getElem?_map, List.getElem?_range hlt] at hl'
              injection hl'
            subst el
            have lgs : gs < wr.heap.size := by
              rcases Nat.lt_or_ge gs wr.heap.size with h | h
              · exact h
              · simp [World.cell?, Array.getElem?_eq_none h] at cu
            generalize sd k = l at *
            have HD := Lib.hid hD
            have HBL := Lib.hid hbl
            have PG := Lib.hid pg
            clear hD hbl hu hl' pg
            go_wp2_with fail
            refine (hread wr H.p d4 HD.out k (by rw [hpl]; exact hlt)).mono ?_
            rintro e w1 ⟨g1, rfl, _, n1, t1, R1, B1⟩
            rw [se] at n1 t1 R1
            have c1 := (B1.cell (p := ⟨gs, k, none⟩) lgs).trans cu
            have lg1 : gs < w1.heap.size := Nat.lt_of_lt_of_le lgs B1.size
            have s1 := R1.bs' t1 n1 (by omega)
            have s2 := HBL.out.on B1
            have h1 := HD.out.on B1
            clear cu R1 B1 se HD HBL
            go_wp2_with fail
            go_region_held3 (fun w' => w'.cell? ⟨gs, k, none⟩ = some (.slice (some ⟨gl, 0, none⟩) 1024 cl)) (first | exact c3 | exact c1 | go_keep) (first
              | (go_at_call 29; refine (hsafe _ H.p d4 (h1.drewN (1 + m2)) k (by rw [hpl]; exact hlt)).mono ?_; rintro e w3 ⟨g3, l3, rfl, _, e3, n3, t3, R3, B3⟩; rw [PG.out] at e3; injection e3 with e3; subst e3; have c3 := (B3.cell (p := ⟨gs, k, none⟩) lg1).trans c1)
              | (go_at_call 28; refine (same_eq w3 _ _ _ _ _ _ l (R3.bs' t3 n3 (by omega)) ((s2.drewN (1 + m2)).on B3)).mono ?_; rintro e w4 ⟨rfl, m4, rfl⟩)
              | (go_at_call 28; refine (same_eq w1.drew _ _ _ _ _ _ l s1.drew s2.drew).mono ?_; rintro e w2 ⟨rfl, m2, rfl⟩))
            have H3 := Lib.hid (((h1.drewN (1 + m2)).on B3).drewN m4)
            clear h1 s1 s2 R3 B3 c1 c3 PG
            go_wp2
            go_roundw
            case rel => exact ⟨k + 1, by omega, by go_num, H3.out⟩
            case measure => simp [intOf]; omega
          · have hk' : k = 12 := by omega
            have z1 : ¬ ((k : Int) < 12) := by omega
            have HE := Lib.hid (BU1.out.trans (hD.off.below OWN.out BU1.out.size))
            clear hD hk' hlt
            go_wp2
            go_ret
            exact ⟨rfl, HE.out⟩

end Go.Proofs.Ytakoajbfkinlcaa
