/-
  A chain's page: the document's FromLink.
-/
import Derived.Test.YtachclcpldnofaaNdRfLk
namespace Go.Proofs.Ytachclcpldnofaa.Nn
open Go.RowKit
set_option linter.unusedVariables false

theorem bs_lit (w : World) : Bs (w.alloc (.cells #[.int .u8 0] 5)) (some ⟨w.heap.size, 0, none⟩) 1 1 [0] := by
  have hn := heap_alloc_new w (.cells #[.int .u8 0] 5)
  refine ⟨rfl, Nat.le_refl _, by unfold maxLen; omega, by simp, fun _ => ⟨w.heap.size, 0, rfl, by simp, fun j x hx => ?_⟩⟩
  have hj : j = 0 := by have := (List.getElem?_eq_some_iff.1 hx).1; simp at this; exact this
  subst hj
  simp at hx
  subst hx
  have c0 := cell_of_row _ _ 0 _ _ (0, 0) hn
  rw [Nat.add_zero, c0]; rfl
/-- What is said, and so many bytes 0. -/
def fillTo (l : List Nat) (k : Nat) : List Nat := l ++ List.replicate (k - l.length) 0
theorem fillTo_len {l : List Nat} {k : Nat} (h : l.length ≤ k) : (fillTo l k).length = k := by unfold fillTo; rw [List.length_append, List.length_replicate]; omega
theorem fillTo_self (l : List Nat) : fillTo l l.length = l := by unfold fillTo; simp
theorem fillTo_succ {l : List Nat} {k : Nat} (h : l.length ≤ k) : fillTo l k ++ [0] = fillTo l (k + 1) := by
  unfold fillTo
  rw [List.append_assoc, ← List.replicate_succ', show k + 1 - l.length = (k - l.length) + 1 by omega]
theorem fillTo_lt {l : List Nat} {k : Nat} (h : ∀ x ∈ l, x < 256) : ∀ x ∈ fillTo l k, x < 256 := by
  intro x hx
  rcases List.mem_append.1 hx with h1 | h1
  · exact h x h1
  · have := List.eq_of_mem_replicate h1; omega

set_option maxRecDepth 100000 in
set_option maxHeartbeats 2000000 in
theorem refFromLink_any (w : World) (A : Option Addr) (n c : Nat) (b : List Nat) (h : Bs w A n c b) :
    Calls Try.prog 15 #[.slice A n c] w fun e w' => (∃ A' n' c', e = .returned (.tuple #[.int .i64 (lz b : Int), .slice A' n' c', .int .i64 (lk b : Int)]) ∧ Bs w' A' n' c' (ll b)) ∧ Below w.heap.size w w' := by
  obtain ⟨i0, hi, hz0, hz1, hz2⟩ := info_parts Try.info5
  have hb := h.1
  have hlt := h.2.2.2.1
  by_cases hn : n = 1016
  · subst hn
    obtain ⟨x, hx⟩ : ∃ x, b[4]? = some x := ⟨_, List.getElem?_eq_getElem (by omega)⟩
    obtain ⟨y, hy⟩ : ∃ y, b[5]? = some y := ⟨_, List.getElem?_eq_getElem (by omega)⟩
    have hcnt := Nd.lcount_two hx hy
    have hx256 := hlt x (List.mem_of_getElem? hx)
    have hy256 := hlt y (List.mem_of_getElem? hy)
    have CS := Lib.hid (fun (W : World) (hW : Below w.heap.size w W) => short_any W A 1016 c b (h.on hW) 4 x y hx hy)
    have HI := Lib.hid (Nd.lsays_iff hb hlt)
    have CG := Lib.hid (fun (W : World) (hW : Below w.heap.size w W) => refGet32_any W A 1016 c b (h.on hW))
    obtain ⟨bb, off, rfl, hbl, _⟩ := h.2.2.2.2 (by omega)
    have hcc := h.2.1
    have HS := Lib.hid h
    rw [← hcnt] at CS
    generalize hq : Nd.lcount b = q at *
    have HQ := Lib.hid hq
    have hq9 : q < 65536 := by omega
    have BD := Lib.hid (fun m => below_drewN (Below.refl w.heap.size w) m)
    clear h hx hy hcnt hq
    go_enter Try.func15, Try.ntmps15
    go_wp2_with fail
    refine (CS.out _ (Below.refl _ _)).mono ?_
    rintro e w1 ⟨rfl, m1, rfl⟩
    by_cases h1 : 1010 < q
    · have d1 : decide ((q : Int) > 1010) = true := by simp; omega
      have hs : ¬ Nd.LSays b := fun h' => by have := (HI.out.1 h').1.1.2; omega
      have HE : Hid (lz b = 0 ∧ ll b = [] ∧ lk b = 5) := ⟨if_neg hs, if_neg hs, if_neg hs⟩
      clear hs
      go_wp2
      go_ret3
      obtain ⟨h1, h2, h3⟩ := HE.out
      exact ⟨⟨_, _, _, by rw [h1, h3]; rfl, by rw [h2]; exact Bs.nil_ _ _ _ (Nat.zero_le _)⟩, BD.out _⟩
    · have d1 : decide ((q : Int) > 1010) = false := by simp; omega
      go_wp2_with fail
      refine (CS.out _ (BD.out _)).mono ?_
      rintro e w2 ⟨rfl, m2, rfl⟩
      by_cases h2 : q < 1
      · have d2 : decide ((q : Int) < 1) = true := by simp; omega
        have hs : ¬ Nd.LSays b := fun h' => by have := (HI.out.1 h').1.1.1; omega
        have HE : Hid (lz b = 0 ∧ ll b = [] ∧ lk b = 5) := ⟨if_neg hs, if_neg hs, if_neg hs⟩
        clear hs
        go_wp2
        go_ret3
        obtain ⟨h1, h2, h3⟩ := HE.out
        exact ⟨⟨_, _, _, by rw [h1, h3]; rfl, by rw [h2]; exact Bs.nil_ _ _ _ (Nat.zero_le _)⟩, BD.out _⟩
      · have d2 : decide ((q : Int) < 1) = false := by simp; omega
        have B2 : Below w.heap.size w ((w.drewN m1).drewN m2) := by rw [World.drewN_drewN]; exact BD.out _
        generalize (w.drewN m1).drewN m2 = w2 at *
        have hs2 := B2.size
        have hbq : Nd.lbytes b = (b.drop 6).take q := by unfold Nd.lbytes; rw [HQ.out]
        go_wp2_with fail
        refine (CG.out _ B2).mono ?_
        rintro e w3 ⟨rfl, rfl⟩
        have hnx : Nm.fromBe (pad4 b) = Nd.lnext b := by unfold Nd.lnext pad4; rw [show 4 - b.length = 0 by omega, List.replicate_zero, List.append_nil]
        rw [hnx]
        have hzl : Nd.lnext b < 4294967296 := by
          have h1 := Nm.fromBe_lt (b.take 4) fun x hx => hlt x (List.mem_of_mem_take hx)
          have h2 : 256 ^ (b.take 4).length = 4294967296 := by rw [List.length_take, hb]; decide
          unfold Nd.lnext; omega
        generalize hz : Nd.lnext b = z at *
        have HZ := Lib.hid hz
        have wz : IntKind.i64.wrap (z : Int) = (z : Int) := IntWalk.i64_in _ ⟨by omega, by omega⟩
        have BA : Below w.heap.size w (w2.alloc (.cells #[] 5)) := B2.alloc hs2 _
        have OA : Hid ((w2.alloc (.cells #[] 5)).ownsRow w2.heap.size 5 1 (.slice (some ⟨w2.heap.size, 0, none⟩) 0 0) 0 (bv [])) := World.ownsRow_made (base := w2.heap.size) (e := 5) (size := 1) w2 #[] 0 (Nat.le_refl _) (Nat.zero_le _) rfl
        have CS2 := Lib.hid (CS.out _ BA)
        have BN : Hid (Below w2.heap.size w2 (w2.alloc (.cells #[] 5))) := (Below.refl _ _).alloc (Nat.le_refl _) _
        clear hnx hz
        go_wp2_with fail
        refine CS2.out.mono ?_
        rintro e w4 ⟨rfl, m4, rfl⟩
        have hw6 : IntKind.i64.wrap (6 + (q : Int)) = 6 + (q : Int) := IntWalk.i64_in _ ⟨by omega, by omega⟩
        have j1 : (6 : Int) + (q : Int) ≤ 1016 := by omega
        have j2 : (6 : Int) ≤ 6 + (q : Int) := by omega
        have j3 : (6 : Int) + (q : Int) ≤ (c : Int) := by omega
        have hc6 : ¬ c = 6 := by omega
        have s4 := (((HS.out.below BA (Nat.le_refl _)).cut_far 6 (by omega)).first (6 + q - 6) (by omega)).drewN m4
        have O4 : ((w2.alloc (.cells #[] 5)).drewN m4).ownsRow w2.heap.size 5 1 (.slice (some ⟨w2.heap.size, 0, none⟩) 0 0) 0 (bv []) := OA.out
        have B4 : Hid (Below w.heap.size w ((w2.alloc (.cells #[] 5)).drewN m4)) := below_drewN BA _
        have BN4 : Hid (Below w2.heap.size w2 ((w2.alloc (.cells #[] 5)).drewN m4)) := below_drewN BN.out _
        have hs4 := BN4.out.size
        clear CS2 OA BN BA
        generalize (w2.alloc (.cells #[] 5)).drewN m4 = w4 at *
        go_wp2_with (at_builtin; refine wpList_append_bs _ rfl _ _ 22 rfl w2.heap.size 5 i0 (.int .u8 0) Try.underlying22 hi hz0 hz1 hz2 rfl _ _ _ rfl O4 _ _ _ _ rfl s4 (by omega) hs4 ?_; intro v5 w5 O5 g5)
        have B5' := below_own BN4.out O4 g5 hs4 (Nat.le_refl _)
        have B5 := Lib.hid (B2.trans (B5'.mono hs2))
        rw [bv_app, List.nil_append, show 0 + (6 + q - 6) = q by omega, show 6 + q - 6 = q by omega, ← hbq] at O5
        have hql : (Nd.lbytes b).length = q := by rw [hbq, List.length_take, List.length_drop]; omega
        have r5 : ∃ A5 c5, v5 = .slice A5 q c5 ∧ Bs w5 A5 q c5 (Nd.lbytes b) := by
          have h := O5
          rw [← hql] at h
          obtain ⟨A5, c5, e, r⟩ := Bs.of_own h (fun x hx => hlt x (List.mem_of_mem_drop (List.mem_of_mem_take (by rw [hbq] at hx; exact hx))))
          rw [hql] at e r
          exact ⟨A5, c5, e, r⟩
        obtain ⟨A5, c5, rfl, r5⟩ := r5
        have C6 := Lib.hid (refLink_any w5 (z : Int) A5 q c5 _ r5)
        have HR5 := Lib.hid r5
        clear O4 O5 g5 s4 B4 BN4 r5 B5'
        refine C6.out.mono ?_
        rintro e w6 ⟨⟨A6, n6, c6, rfl, r6, O6⟩, b6⟩
        have B6 := Lib.hid (B5.out.trans (b6.mono B5.out.size))
        have hs6 := b6.size
        have HB6 := Lib.hid b6
        clear C6 b6
        by_cases hm : Nd.LMay (z : Int) (Nd.lbytes b)
        · rw [linkOf_yes hm] at r6 O6
          have hll := Nd.link_len (z : Int) (Nd.lbytes b)
          rw [hql] at hll
          have hn6 : n6 = 6 + q := by rw [← r6.1, hll]
          have d6 : ((n6 : Int) == 0) = false := by simp; omega
          have hc6' := r6.2.1
          have HLT := Lib.hid r6.2.2.2.1
          have HM := Lib.hid hm
          have HLL := Lib.hid hll
          have O6' : w6.ownsRow w5.heap.size 5 1 (.slice A6 n6 c6) n6 (bv (fillTo (Nd.link (z : Int) (Nd.lbytes b)) n6)) := by rw [show fillTo (Nd.link (z : Int) (Nd.lbytes b)) n6 = Nd.link (z : Int) (Nd.lbytes b) from by rw [hn6, ← hll, fillTo_self]]; exact O6
          have HN6 := Lib.hid hn6
          have hn6a : n6 ≤ 1016 := by omega
          clear r6 O6 hm hn6
          go_wp2_with fail
          go_loopw [7] (fun v wr => ∃ (k : Nat) (A : Option Addr) (c' : Nat), v = .slice A k c' ∧ n6 ≤ k ∧ k ≤ 1016 ∧ k ≤ c' ∧ wr.ownsRow w5.heap.size 5 1 (.slice A k c') k (bv (fillTo (Nd.link (z : Int) (Nd.lbytes b)) k)) ∧ Below w5.heap.size w6 wr) (fun v _ => 1016 - lenV v)
          case atStart => exact ⟨n6, A6, c6, rfl, Nat.le_refl _, by omega, hc6', O6', Below.refl _ _⟩
          case round =>
            clear O6' hc6'
            obtain ⟨k, A7, c7, rfl, hk1, hk2, hkc, hown, hbel⟩ := hrel
            have hsw := hbel.size
            have hs56 : w5.heap.size ≤ wr.heap.size := Nat.le_trans hs6 hsw
            by_cases hlt' : k < 1016
            · have S1 := bs_lit wr
              have O7 := hown.alloc (.cells #[Value.int .u8 0] 5)
              have B7 := hbel.alloc hs56 (.cells #[Value.int .u8 0] 5)
              have k1 : (k : Int) < 1016 := by omega
              clear hown
              go_wp2_with (at_builtin; refine wpList_append_bs _ rfl _ _ 22 rfl w5.heap.size 5 i0 (.int .u8 0) Try.underlying22 hi hz0 hz1 hz2 rfl _ _ _ rfl O7 _ _ _ _ rfl S1 (by omega) (by simp; omega) ?_; intro v8 w8 O8 g8)
              have B8 := below_own B7 O7 g8 (by simp; omega) (Nat.le_refl _)
              rw [bv_app, fillTo_succ (by rw [HLL.out, ← HN6.out]; omega)] at O8
              obtain ⟨A8, c8, rfl, hc8, _⟩ := own_form O8
              clear O7 B7 S1 g8 hbel
              go_roundw
              case rel => exact ⟨k + 1, A8, c8, rfl, by omega, by omega, hc8, O8, B8⟩
              case measure => simp [lenV]; omega
            · obtain rfl : k = 1016 := by omega
              have e : fillTo (Nd.link (z : Int) (Nd.lbytes b)) 1016 = Nd.linkFull (z : Int) (Nd.lbytes b) := rfl
              rw [e] at hown
              have hfl := Nd.linkFull_len (next := (z : Int)) (b := Nd.lbytes b) (by omega)
              have r7 := own_bs hown hfl (Nd.linkFull_lt fun x hx => hlt x (List.mem_of_mem_drop (List.mem_of_mem_take hx)))
              have B7 : Below w.heap.size w wr := B6.out.trans (hbel.mono (by have := B5.out.size; omega))
              have C9 := Lib.hid (same_any wr _ _ _ _ _ _ _ _ r7 (HS.out.below B7 (Nat.le_refl _)))
              have R5 := Lib.hid (HR5.out.below (HB6.out.trans hbel) (Nat.le_refl _))
              clear hown r7 hbel
              go_wp2_with fail
              refine C9.out.mono ?_
              rintro e w9 ⟨rfl, m9, rfl⟩
              by_cases hf : Nd.linkFull (z : Int) (Nd.lbytes b) = b
              · rw [decide_eq_true hf]
                have hs : Nd.LSays b := ⟨hb, by rw [HZ.out]; exact HM.out, by rw [HZ.out]; exact hf⟩
                have HE : Hid (lz b = z ∧ ll b = Nd.lbytes b ∧ lk b = 0) := ⟨by unfold lz; rw [if_pos hs, HZ.out], by unfold ll; rw [if_pos hs], if_pos hs⟩
                clear hs hf
                go_wp2
                go_ret3
                obtain ⟨h1, h2, h3⟩ := HE.out
                exact ⟨⟨_, _, _, by rw [h1, h3]; rfl, by rw [h2]; exact R5.out⟩, below_drewN B7 _⟩
              · rw [decide_eq_false hf]
                have hs : ¬ Nd.LSays b := fun h' => hf (by have := h'.2.2; rwa [HZ.out] at this)
                have HE : Hid (lz b = 0 ∧ ll b = [] ∧ lk b = 5) := ⟨if_neg hs, if_neg hs, if_neg hs⟩
                clear hs hf
                go_wp2
                go_ret3
                obtain ⟨h1, h2, h3⟩ := HE.out
                exact ⟨⟨_, _, _, by rw [h1, h3]; rfl, by rw [h2]; exact Bs.nil_ _ _ _ (Nat.zero_le _)⟩, below_drewN B7 _⟩
        · rw [linkOf_no hm] at r6
          obtain rfl : n6 = 0 := r6.1.symm
          have hs : ¬ Nd.LSays b := fun h' => hm (by have := h'.2.1; rwa [HZ.out] at this)
          have HE : Hid (lz b = 0 ∧ ll b = [] ∧ lk b = 5) := ⟨if_neg hs, if_neg hs, if_neg hs⟩
          clear hs hm r6 O6
          go_wp2
          go_ret3
          obtain ⟨h1, h2, h3⟩ := HE.out
          exact ⟨⟨_, _, _, by rw [h1, h3]; rfl, by rw [h2]; exact Bs.nil_ _ _ _ (Nat.zero_le _)⟩, B6.out⟩
  · have d : ((n : Int) != 1016) = true := by simp; omega
    have hs : ¬ Nd.LSays b := fun h' => hn (hb.symm.trans h'.1)
    have HE : Hid (lz b = 0 ∧ ll b = [] ∧ lk b = 5) := ⟨if_neg hs, if_neg hs, if_neg hs⟩
    clear h hs hlt
    go_enter Try.func15, Try.ntmps15
    go_wp2
    go_ret3
    obtain ⟨h1, h2, h3⟩ := HE.out
    exact ⟨⟨_, _, _, by rw [h1, h3]; rfl, by rw [h2]; exact Bs.nil_ _ _ _ (Nat.zero_le _)⟩, Below.refl _ _⟩
end Go.Proofs.Ytachclcpldnofaa.Nn
