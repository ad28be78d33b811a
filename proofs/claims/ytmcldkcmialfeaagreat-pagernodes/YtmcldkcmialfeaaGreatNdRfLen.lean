/-
  The document's nodes: how long, which pages, which keys.
-/
import Derived.Test.YtmcldkcmialfeaaGreatNdOf
import Derived.Test.YtmcldkcmialfeaaGreatGrNode9
namespace Go.Proofs.YtmcldkcmialfeaaGreat.Nn
open Go.RowKit
set_option linter.unusedVariables false

set_option maxRecDepth 100000 in
theorem refPage_any (w : World) (z : Int) : Calls Tryz.prog 70 #[.int .i64 z] w fun e w' => e = .returned (.bool (decide (Nd.Page z))) ∧ w = w' := by
  by_cases h : 2 ≤ z
  · rw [show decide (Nd.Page z) = decide (z ≤ 2147483647) from by rw [decide_eq_decide]; unfold Nd.Page; omega]
    have h' : decide (z ≥ 2) = true := by simpa using h
    go_enter Tryz.func70, Tryz.ntmps70
    go_wp2
    go_ret
    exact ⟨rfl, rfl⟩
  · rw [show decide (Nd.Page z) = false from by simp; unfold Nd.Page; omega]
    have h' : decide (z ≥ 2) = false := by simpa using h
    go_enter Tryz.func70, Tryz.ntmps70
    go_wp2
    go_ret
    exact ⟨rfl, rfl⟩

set_option maxRecDepth 100000 in
set_option maxHeartbeats 2000000 in
theorem refKeys_any (w : World) (A : Option Addr) (n c : Nat) (ls : List (List Nat)) (h : Ks w A n c ls) (hn9 : n ≤ 100000) :
    Calls Tryz.prog 71 #[.slice A n c] w fun e w' => e = .returned (.bool (decide (Nd.Keys ls))) ∧ ∃ m, w' = w.drewN m := by
  have hl := h.len
  have HK := Lib.hid h
  clear h
  go_enter Tryz.func71, Tryz.ntmps71
  go_wp2
  go_loopw [3] (fun i wr => ∃ k m : Nat, k ≤ n ∧ i = .int .i64 (k : Int) ∧ Hid (Nd.Keys (ls.take k)) ∧ wr = w.drewN m) (fun i _ => n - (intOf i).toNat)
  case atStart => exact ⟨0, 0, Nat.zero_le _, rfl, Nd.keys_take_zero ls, rfl⟩
  case round =>
    obtain ⟨k, m, hk, rfl, HF, rfl⟩ := hrel
    by_cases hlt : k < n
    · obtain ⟨b, off, A1, n1, c1, y, rfl, hbl, hy, c0, r1, l1⟩ := HK.out.get hlt
      have hl1 := r1.1
      have hc1 := r1.2.1
      have hj1 : (k : Int) < (n : Int) := by omega
      have HL1 := Lib.hid hl1
      by_cases h1 : n1 < 1
      · have d1 : decide ((n1 : Int) < 1) = true := by simp; omega
        have HN : Hid (decide (Nd.Keys ls) = false) := decide_eq_false fun hm => by have := (hm.1 y (List.mem_of_getElem? hy)).1; omega
        clear r1 hy h1 hl1
        go_wp2_with fail
        go_quiet (fail)
        go_wp2
        go_ret
        exact ⟨by rw [HN.out]; rfl, _, by first | rfl | rw [World.drewN_drewN]⟩
      · have d1 : decide ((n1 : Int) < 1) = false := by simp; omega
        by_cases h2 : 100 < n1
        · have d2 : decide ((n1 : Int) > 100) = true := by simp; omega
          have HN : Hid (decide (Nd.Keys ls) = false) := decide_eq_false fun hm => by have := (hm.1 y (List.mem_of_getElem? hy)).2; omega
          clear r1 hy hl1
          go_wp2_with fail
          go_quiet (fail)
          go_wp2
          go_ret
          exact ⟨by rw [HN.out]; rfl, _, by first | rfl | rw [World.drewN_drewN]⟩
        · have d2 : decide ((n1 : Int) > 100) = false := by simp; omega
          by_cases hk0 : k = 0
          · have dk : decide ((k : Int) > 0) = false := by simp; omega
            have HF2 : Hid (Nd.Keys (ls.take (k + 1))) := by
              show Nd.Keys _
              rw [hk0] at hy ⊢
              exact (Nd.keys_take_one hy).2 ⟨by omega, by omega⟩
            have hk00 : ¬ 0 < k := by omega
            clear r1 hy hl1 hk0
            go_wp2_with fail
            go_quiet (fail)
            go_wp2
            go_roundw
            case rel => exact ⟨k + 1, _, by omega, by go_num, HF2, by first | rfl | rw [World.drewN_drewN]⟩
            case measure => simp [intOf]; omega
          · obtain ⟨k', hk'⟩ : ∃ k', k = k' + 1 := ⟨k - 1, by omega⟩
            obtain ⟨_, _, A0, n0, c0', x, e5, _, hx, cx, r0, _⟩ := HK.out.get (k := k') (by omega)
            injection e5 with e5
            injection e5 with e5 e6
            subst e5 e6
            have HS : Hid (Nd.Keys (ls.take (k + 1)) ↔ Nd.Keys (ls.take k) ∧ Nd.KeyOk y ∧ Nm.lexLess x y = true) := by
              show _ ↔ _
              rw [hk'] at hy ⊢
              exact Nd.keys_take_succ hx hy
            have hKO : Nd.KeyOk y := ⟨by omega, by omega⟩
            have hpos : 0 < k := by omega
            have hw2 : IntKind.i64.wrap ((k : Int) - 1) = (k' : Int) := by rw [IntWalk.i64_in _ ⟨by omega, by omega⟩]; omega
            have hj2 : (k' : Int) < (n : Int) := by omega
            have CL : Hid (∀ q : Nat, Calls Tryz.prog 94 #[.slice A0 n0 c0', .slice A1 n1 c1] (w.drewN (m + q)) fun e w'' => e = .returned (.bool (Nm.lexLess x y)) ∧ ∃ nn, w'' = w.drewN (m + nn)) := fun q => (less_any (w.drewN (m + q)) A0 A1 n0 c0' n1 c1 x y (r0.drewN _) (r1.drewN _)).mono (by rintro e w'' ⟨rfl, m2, rfl⟩; exact ⟨rfl, q + m2, by rw [World.drewN_drewN, Nat.add_assoc]⟩)
            have HNY := Lib.hid (List.mem_of_getElem? hy)
            clear r1 r0 hy hx hl1 hk' hk0
            by_cases hle : Nm.lexLess x y = true
            · rw [hle] at CL
              have HF2 : Hid (Nd.Keys (ls.take (k + 1))) := HS.out.2 ⟨HF.out, hKO, hle⟩
              clear hle HS
              go_wp2_with fail
              go_quiet ((first | (go_at_call 94; exact CL.out _)))
              go_wp2
              go_roundw
              case rel => exact ⟨k + 1, _, by omega, by go_num, HF2, by first | rfl | rw [World.drewN_drewN]⟩
              case measure => simp [intOf]; omega
            · have hle' : Nm.lexLess x y = false := by simpa using hle
              rw [hle'] at CL
              have HN : Hid (decide (Nd.Keys ls) = false) := decide_eq_false fun hm => hle (HS.out.1 (Nd.keys_take (k + 1) hm)).2.2
              clear hle hle' HS
              go_wp2_with fail
              go_quiet ((first | (go_at_call 94; exact CL.out _)))
              go_wp2
              go_ret
              exact ⟨by rw [HN.out]; rfl, _, by first | rfl | rw [World.drewN_drewN]⟩
    · obtain rfl : k = n := by omega
      have HE : Hid (decide (Nd.Keys ls) = true) := decide_eq_true (by have := HF.out; rwa [List.take_of_length_le (by omega)] at this)
      go_wp2
      go_ret
      exact ⟨by rw [HE.out]; rfl, m, rfl⟩

set_option maxRecDepth 100000 in
set_option maxHeartbeats 2000000 in
theorem refLen_branch (w : World) (x : Nv) (ks : List (List Nat)) (h : Ks w x.kA x.kn x.kc ks) (hb : x.br = true) (hf : Nd.branchLen ks ≤ 1000000000) :
    Calls Tryz.prog 69 #[x.val] w fun e w' => e = .returned (.int .i64 (Nd.branchLen ks : Int)) ∧ Below w.heap.size w w' := by
  obtain ⟨br, cA, cn, cc_, kA, kn, kc, pA, pn, pc⟩ := x
  simp only at hb h
  subst hb
  have hn := h.len
  have B1 : Below w.heap.size w (w.alloc (.cells #[.bool true, .slice cA cn cc_, .slice kA kn kc, .slice pA pn pc] 65)) := (Below.refl _ _).alloc (Nat.le_refl _) _
  have HK := Lib.hid (h.on B1)
  obtain ⟨b0, b1, b2, b3⟩ := four_cells (heap_alloc_new w (.cells #[.bool true, .slice cA cn cc_, .slice kA kn kc, .slice pA pn pc] 65))
  have HB := Lib.hid B1
  have hn9 : kn ≤ 1000000000 := by have := kcount_le ks; unfold Nd.branchLen at hf; omega
  clear h B1
  unfold Nd.branchLen at hf ⊢
  unfold Nv.val
  go_enter Tryz.func69, Tryz.ntmps69
  go_wp2
  generalize w.alloc (.cells #[.bool true, .slice cA cn cc_, .slice kA kn kc, .slice pA pn pc] 65) = w1 at *
  go_loop [3, 4] (fun v i => ∃ k : Nat, k ≤ kn ∧ i = .int .i64 (k : Int) ∧ v = .int .i64 ((7 + Nd.klens (ks.take k) : Nat) : Int)) (fun _ i => kn - (intOf i).toNat)
  case atStart => exact ⟨0, Nat.zero_le _, rfl, rfl⟩
  case round =>
    obtain ⟨k, hk, rfl, rfl⟩ := hrel
    by_cases hlt : k < kn
    · obtain ⟨b, off, A1, n1, c1, y, rfl, hbl, hy, c0, r1, _⟩ := HK.out.get hlt
      have hl := klens_take_le ks (k + 1)
      have HL := Lib.hid (klens_take hy)
      have hj1 : (k : Int) < (kn : Int) := by omega
      have HL1 := Lib.hid r1.1
      have hy9 : Nd.klens (ks.take k) + (5 + n1) ≤ 1000000000 := by have := HL.out; have := HL1.out; omega
      clear r1 hy
      go_wp2
      go_round
      case rel => exact ⟨k + 1, by omega, by go_num, by rw [HL.out, HL1.out]; go_num⟩
      case measure => simp [intOf]; omega
    · obtain rfl : k = kn := by omega
      rw [List.take_of_length_le (by omega)]
      go_wp2
      go_ret
      exact ⟨rfl, HB.out⟩

set_option maxRecDepth 100000 in
set_option maxHeartbeats 2000000 in
theorem refLen_leaf (w : World) (x : Nv) (cs : List Nd.Cell) (h : Cs w x.cA x.cn x.cc cs) (hb : x.br = false) (hf : Nd.leafLen cs ≤ 1000000000) :
    Calls Tryz.prog 69 #[x.val] w fun e w' => e = .returned (.int .i64 (Nd.leafLen cs : Int)) ∧ Below w.heap.size w w' := by
  obtain ⟨br, cA, cn, cc_, kA, kn, kc, pA, pn, pc⟩ := x
  simp only at hb h
  subst hb
  have hn := h.len
  have B1 : Below w.heap.size w (w.alloc (.cells #[.bool false, .slice cA cn cc_, .slice kA kn kc, .slice pA pn pc] 65)) := (Below.refl _ _).alloc (Nat.le_refl _) _
  have HK := Lib.hid (h.on B1)
  obtain ⟨b0, b1, b2, b3⟩ := four_cells (heap_alloc_new w (.cells #[.bool false, .slice cA cn cc_, .slice kA kn kc, .slice pA pn pc] 65))
  have HB := Lib.hid B1
  have hn9 : cn ≤ 1000000000 := by have := count_le cs; unfold Nd.leafLen at hf; omega
  clear h B1
  unfold Nd.leafLen at hf ⊢
  unfold Nv.val
  go_enter Tryz.func69, Tryz.ntmps69
  go_wp2
  generalize w.alloc (.cells #[.bool false, .slice cA cn cc_, .slice kA kn kc, .slice pA pn pc] 65) = w1 at *
  go_loop [5, 6] (fun v i => ∃ k : Nat, k ≤ cn ∧ i = .int .i64 (k : Int) ∧ v = .int .i64 ((3 + Nd.lens (cs.take k) : Nat) : Int)) (fun _ i => cn - (intOf i).toNat)
  case atStart => exact ⟨0, Nat.zero_le _, rfl, rfl⟩
  case round =>
    obtain ⟨k, hk, rfl, rfl⟩ := hrel
    by_cases hlt : k < cn
    · obtain ⟨b, off, x, y, rfl, hbl, hy, hcr, c0, c1, c2, c3⟩ := HK.out.get hlt
      obtain ⟨⟨A1, n1, k1, e1, r1, _⟩, ⟨A2, n2, k2, e2, r2, _⟩, e3, e4, _, _⟩ := hcr
      rw [e1] at c0
      rw [e2] at c1
      rw [e3] at c2
      have hl := lens_take_le cs (k + 1)
      have HL := Lib.hid (lens_take hy)
      have hj1 : (k : Int) < (cn : Int) := by omega
      have HL1 := Lib.hid r1.1
      have HL2 := Lib.hid r2.1
      have hlen : y.len = 3 + n1 + (if y.size = 0 then n2 else 6) := by unfold Nd.Cell.len; rw [HL1.out, HL2.out]
      have HLE := Lib.hid hlen
      have hy9 : Nd.lens (cs.take k) + y.len ≤ 1000000000 := by have := HL.out; omega
      clear r1 r2 hy hlen
      generalize Nd.lens (cs.take k) = T at *
      by_cases hs : y.size = 0
      · have hle := HLE.out
        rw [if_pos hs] at hle
        have hd : (y.size != 0) = false := by simp [hs]
        have HY := Lib.hid hle
        have hb9 : T + (3 + n1 + n2) ≤ 1000000000 := by omega
        clear hle hs HLE
        go_wp2
        go_round
        case rel => exact ⟨k + 1, by omega, by go_num, by rw [HL.out, HY.out]; go_num⟩
        case measure => simp [intOf]; omega
      · have hle := HLE.out
        rw [if_neg hs] at hle
        have hd : (y.size != 0) = true := by simp [hs]
        have HY := Lib.hid hle
        have hb9 : T + (3 + n1 + 6) ≤ 1000000000 := by omega
        clear hle hs HLE
        go_wp2
        go_round
        case rel => exact ⟨k + 1, by omega, by go_num, by rw [HL.out, HY.out]; go_num⟩
        case measure => simp [intOf]; omega
    · obtain rfl : k = cn := by omega
      rw [List.take_of_length_le (by omega)]
      go_wp2
      go_ret
      exact ⟨rfl, HB.out⟩
end Go.Proofs.YtmcldkcmialfeaaGreat.Nn
