/-
  The program's leaves: how long, whether they may be, what their pages say.
-/
import Derived.Test.YtmcldkcmialfeaaGreatGrNode9
namespace Go.Proofs.YtmcldkcmialfeaaGreat.Nn
open Go.RowKit
set_option linter.unusedVariables false

set_option maxRecDepth 100000 in
set_option maxHeartbeats 400000 in
theorem length_any (w : World) (x : CV) (c : Nd.Cell) (hx : CR w x c) (hf : c.len ≤ 1000000000) :
    Calls Tryz.prog 181 #[x.v] w fun e w' => e = .returned (.int .i64 (c.len : Int)) ∧ Below w.heap.size w w' := by
  obtain ⟨⟨A1, n1, c1, e1, r1, _⟩, ⟨A2, n2, c2, e2, r2, _⟩, e3, e4, _, _⟩ := hx
  obtain ⟨xk, xi, xs', xh⟩ := x
  simp only at e1 e2 e3 e4
  subst e1 e2 e3 e4
  unfold CV.v
  have hl1 := r1.1
  have hl2 := r2.1
  have HB := Lib.hid ((Below.refl w.heap.size w).alloc (Nat.le_refl _) (.cells #[.slice A1 n1 c1, .slice A2 n2 c2, .int .i64 c.size, .int .i64 c.head] 134))
  have CI := Lib.hid (fun W => inChain_any W (.slice A1 n1 c1) (.slice A2 n2 c2) c.size c.head)
  have hlen : c.len = 3 + n1 + (if c.size = 0 then n2 else 6) := by unfold Nd.Cell.len; rw [hl1, hl2]
  clear r1 r2
  by_cases h : c.size = 0
  · rw [if_pos h] at hlen
    have hlen' : (c.len : Int) = 1 + (n1 : Int) + 2 + (n2 : Int) := by omega
    rw [hlen']
    have q1 : IntKind.i64.wrap (1 + (n1 : Int)) = 1 + (n1 : Int) := IntWalk.i64_in _ ⟨by omega, by omega⟩
    have q2 : IntKind.i64.wrap (1 + (n1 : Int) + 2) = 1 + (n1 : Int) + 2 := IntWalk.i64_in _ ⟨by omega, by omega⟩
    have q3 : IntKind.i64.wrap (1 + (n1 : Int) + 2 + (n2 : Int)) = 1 + (n1 : Int) + 2 + (n2 : Int) := IntWalk.i64_in _ ⟨by omega, by omega⟩
    have hd : decide (c.size ≠ 0) = false := by simp [h]
    clear hlen hlen' h
    go_enter Tryz.func181, Tryz.ntmps181
    go_wp2_with fail
    have M := four_cells (heap_alloc_new w (.cells #[.slice A1 n1 c1, .slice A2 n2 c2, .int .i64 c.size, .int .i64 c.head] 134))
    refine (CI.out _).mono ?_
    rintro e w2 ⟨rfl, b2⟩
    rw [hd]
    have c1' := (b2.cell (p := ⟨w.heap.size, 1, none⟩) (by simp)).trans M.2.1
    have B := Lib.hid (HB.out.trans (b2.mono (by simp)))
    clear M b2
    go_wp2
    go_ret
    exact ⟨rfl, B.out⟩
  · rw [if_neg h] at hlen
    have hlen' : (c.len : Int) = 1 + (n1 : Int) + 2 + 4 + 2 := by omega
    rw [hlen']
    have q1 : IntKind.i64.wrap (1 + (n1 : Int)) = 1 + (n1 : Int) := IntWalk.i64_in _ ⟨by omega, by omega⟩
    have q2 : IntKind.i64.wrap (1 + (n1 : Int) + 2) = 1 + (n1 : Int) + 2 := IntWalk.i64_in _ ⟨by omega, by omega⟩
    have q3 : IntKind.i64.wrap (1 + (n1 : Int) + 2 + 4) = 1 + (n1 : Int) + 2 + 4 := IntWalk.i64_in _ ⟨by omega, by omega⟩
    have q4 : IntKind.i64.wrap (1 + (n1 : Int) + 2 + 4 + 2) = 1 + (n1 : Int) + 2 + 4 + 2 := IntWalk.i64_in _ ⟨by omega, by omega⟩
    have hd : decide (c.size ≠ 0) = true := by simp [h]
    clear hlen hlen' h
    go_enter Tryz.func181, Tryz.ntmps181
    go_wp2_with fail
    refine (CI.out _).mono ?_
    rintro e w2 ⟨rfl, b2⟩
    rw [hd]
    have B := Lib.hid (HB.out.trans (b2.mono (by simp)))
    clear b2
    go_wp2
    go_ret
    exact ⟨rfl, B.out⟩

set_option maxRecDepth 100000 in
theorem mayBeNo_any (w : World) (z : Int) : Calls Tryz.prog 173 #[.int .i64 z] w fun e w' => e = .returned (.bool (decide (Nd.Page z))) ∧ w = w' := by
  by_cases h : 2 ≤ z
  · rw [show decide (Nd.Page z) = decide (z ≤ 2147483647) from by rw [decide_eq_decide]; unfold Nd.Page; omega]
    have h' : decide (2 ≤ z) = true := by simpa using h
    go_enter Tryz.func173, Tryz.ntmps173
    go_wp2
    go_ret
    exact ⟨rfl, rfl⟩
  · rw [show decide (Nd.Page z) = false from by simp; unfold Nd.Page; omega]
    have h' : decide (2 ≤ z) = false := by simpa using h
    go_enter Tryz.func173, Tryz.ntmps173
    go_wp2
    go_ret
    exact ⟨rfl, rfl⟩

set_option maxRecDepth 100000 in
set_option maxHeartbeats 400000 in
theorem mayFollow_any (w : World) (A A' : Option Addr) (n c n' c' : Nat) (la lb : List Nat) (ha : Bs w A n c la) (hb : Bs w A' n' c' lb) :
    Calls Tryz.prog 174 #[.slice A n c, .slice A' n' c'] w fun e w' => e = .returned (.bool (decide (Nd.KeyOk lb ∧ Nm.lexLess la lb = true))) ∧ w = w' := by
  have C := Lib.hid (compare_any w A A' n c n' c' la lb ha hb)
  have hl := hb.1
  have hP : (Nd.KeyOk lb ∧ Nm.lexLess la lb = true) ↔ (1 ≤ n' ∧ n' ≤ 100) ∧ Nm.lexLess la lb = true := by unfold Nd.KeyOk; rw [hl]
  generalize hD : decide (Nd.KeyOk lb ∧ Nm.lexLess la lb = true) = D
  clear ha hb
  by_cases h1 : 1 ≤ n'
  · have d1 : decide ((1 : Int) ≤ (n' : Int)) = true := by simp; omega
    by_cases h2 : n' ≤ 100
    · have d2 : decide ((n' : Int) ≤ 100) = true := by simp; omega
      have e : D = Nm.lexLess la lb := by rw [← hD, Bool.eq_iff_iff, decide_eq_true_eq, hP]; simp [h1, h2]
      rw [e]
      clear hD e hP
      go_enter Tryz.func174, Tryz.ntmps174
      go_wp2_with fail
      refine C.out.mono ?_
      rintro e w1 ⟨⟨z, rfl, hz⟩, rfl⟩
      have HZ := Lib.hid hz
      clear hz
      go_wp2
      go_ret
      exact ⟨by rw [← HZ.out]; rfl, rfl⟩
    · have d2 : decide ((n' : Int) ≤ 100) = false := by simp; omega
      have e : D = false := by rw [← hD, decide_eq_false_iff_not, hP]; simp [h2]
      rw [e]
      clear hD e hP
      go_enter Tryz.func174, Tryz.ntmps174
      go_wp2
      go_ret
      exact ⟨rfl, rfl⟩
  · have d1 : decide ((1 : Int) ≤ (n' : Int)) = false := by simp; omega
    have e : D = false := by rw [← hD, decide_eq_false_iff_not, hP]; omega
    rw [e]
    clear hD e hP
    go_enter Tryz.func174, Tryz.ntmps174
    go_wp2
    go_ret
    exact ⟨rfl, rfl⟩

set_option maxRecDepth 100000 in
set_option maxHeartbeats 800000 in
theorem mayHold_any (w : World) (x : CV) (c : Nd.Cell) (hx : CR w x c) :
    Calls Tryz.prog 182 #[x.v] w fun e w' => e = .returned (.bool (decide c.Ok)) ∧ Below w.heap.size w w' := by
  obtain ⟨⟨A1, n1, c1, e1, r1, _⟩, ⟨A2, n2, c2, e2, r2, _⟩, e3, e4, _, _⟩ := hx
  obtain ⟨xk, xi, xs', xh⟩ := x
  simp only at e1 e2 e3 e4
  subst e1 e2 e3 e4
  unfold CV.v
  have hl2 := r2.1
  have HB := Lib.hid ((Below.refl w.heap.size w).alloc (Nat.le_refl _) (.cells #[.slice A1 n1 c1, .slice A2 n2 c2, .int .i64 c.size, .int .i64 c.head] 134))
  have CI := Lib.hid (fun W => inChain_any W (.slice A1 n1 c1) (.slice A2 n2 c2) c.size c.head)
  have CN := Lib.hid (fun W => mayBeNo_any W c.head)
  have hP : c.Ok ↔ (c.size = 0 ∧ c.head = 0 ∧ n2 ≤ 200) ∨ ((200 < c.size ∧ c.size ≤ 16384) ∧ Nd.Page c.head ∧ n2 = 0) := by unfold Nd.Cell.Ok Nd.Cell.Plain Nd.Cell.Chain; rw [hl2]
  generalize hD : decide c.Ok = D
  have hD : D = true ↔ (c.size = 0 ∧ c.head = 0 ∧ n2 ≤ 200) ∨ ((200 < c.size ∧ c.size ≤ 16384) ∧ Nd.Page c.head ∧ n2 = 0) := by rw [← hD, decide_eq_true_eq]; exact hP
  clear r1 r2 hl2 hP
  generalize c.size = s at *
  generalize c.head = hd at *
  have M := four_cells (heap_alloc_new w (.cells #[.slice A1 n1 c1, .slice A2 n2 c2, .int .i64 s, .int .i64 hd] 134))
  go_enter Tryz.func182, Tryz.ntmps182
  go_wp2_with fail
  refine (CI.out _).mono ?_
  rintro e w2 ⟨rfl, b2⟩
  have f1 := (b2.cell (p := ⟨w.heap.size, 1, none⟩) (by simp)).trans M.2.1
  have f2 := (b2.cell (p := ⟨w.heap.size, 2, none⟩) (by simp)).trans M.2.2.1
  have f3 := (b2.cell (p := ⟨w.heap.size, 3, none⟩) (by simp)).trans M.2.2.2
  have B := Lib.hid (HB.out.trans (b2.mono (by simp)))
  clear M b2 HB CI
  by_cases h : s = 0
  · rw [show decide (s ≠ 0) = false from by simp [h]]
    by_cases g1 : n2 ≤ 200
    · have d1 : decide ((n2 : Int) ≤ 200) = true := by simp; omega
      have e : D = (hd == 0) := by rw [Bool.eq_iff_iff, hD, beq_iff_eq]; omega
      subst e
      clear hD
      go_wp2
      go_ret
      exact ⟨rfl, B.out⟩
    · have d1 : decide ((n2 : Int) ≤ 200) = false := by simp; omega
      have e : D = false := by rw [← Bool.not_eq_true, hD]; omega
      subst e
      clear hD
      go_wp2
      go_ret
      exact ⟨rfl, B.out⟩
  · rw [show decide (s ≠ 0) = true from by simp [h]]
    by_cases g1 : n2 = 0
    · have d1 : ((n2 : Int) == 0) = true := by simp [g1]
      by_cases g2 : 200 < s
      · have d2 : decide (200 < s) = true := by simpa using g2
        by_cases g3 : s ≤ 16384
        · have d3 : decide (s ≤ 16384) = true := by simpa using g3
          have e : D = decide (Nd.Page hd) := by
            rw [Bool.eq_iff_iff, hD, decide_eq_true_eq]
            exact ⟨fun h' => by rcases h' with h' | h'; exact absurd h'.1 h; exact h'.2.1, fun h' => .inr ⟨⟨g2, g3⟩, h', g1⟩⟩
          subst e
          clear hD
          go_wp2_with fail
          refine (CN.out _).mono ?_
          rintro e w3 ⟨rfl, rfl⟩
          go_wp2
          go_ret
          exact ⟨rfl, B.out⟩
        · have d3 : decide (s ≤ 16384) = false := by simpa using g3
          have e : D = false := by rw [← Bool.not_eq_true, hD]; omega
          subst e
          clear hD
          go_wp2
          go_ret
          exact ⟨rfl, B.out⟩
      · have d2 : decide (200 < s) = false := by simpa using g2
        have e : D = false := by rw [← Bool.not_eq_true, hD]; omega
        subst e
        clear hD
        go_wp2
        go_ret
        exact ⟨rfl, B.out⟩
    · have d1 : ((n2 : Int) == 0) = false := by simp [g1]
      have e : D = false := by rw [← Bool.not_eq_true, hD]; omega
      subst e
      clear hD
      go_wp2
      go_ret
      exact ⟨rfl, B.out⟩

theorem lens_take {cs : List Nd.Cell} {k : Nat} {c : Nd.Cell} (h : cs[k]? = some c) : Nd.lens (cs.take (k + 1)) = Nd.lens (cs.take k) + c.len := by
  rw [List.take_add_one, h]; exact Nd.lens_snoc _ _
theorem lens_take_le (cs : List Nd.Cell) (k : Nat) : Nd.lens (cs.take k) ≤ Nd.lens cs := by
  have h' : Nd.lens (cs.take k ++ cs.drop k) = Nd.lens (cs.take k) + Nd.lens (cs.drop k) := by unfold Nd.lens; rw [List.map_append, List.sum_append]
  rw [List.take_append_drop] at h'
  omega
theorem count_le : ∀ cs : List Nd.Cell, cs.length ≤ Nd.lens cs
  | [] => by simp
  | c :: r => by have := count_le r; rw [Nd.lens_cons, List.length_cons]; unfold Nd.Cell.len; omega
theorem cell_lt {w : World} {p : Addr} {v : Value} (h : w.cell? p = some v) : p.block < w.heap.size := by
  unfold World.cell? at h
  rcases Nat.lt_or_ge p.block w.heap.size with hlt | hge
  · exact hlt
  · rw [Array.getElem?_eq_none hge] at h; simp at h

set_option maxRecDepth 100000 in
set_option maxHeartbeats 1000000 in
theorem leafLen_any (w : World) (g : Nat) (cs : List Nd.Cell) (h : LeafAt w g cs) (hf : Nd.leafLen cs ≤ 1000000000) :
    Calls Tryz.prog 177 #[.pointer (some ⟨g, 0, none⟩)] w fun e w' => e = .returned (.int .i64 (Nd.leafLen cs : Int)) ∧ Below w.heap.size w w' := by
  obtain ⟨hg, A, n, c, hc, hr⟩ := h
  have hn := hr.len
  have HR := Lib.hid hr
  clear hr
  unfold Nd.leafLen at hf ⊢
  have hn9 : n ≤ 1000000000 := by have := count_le cs; omega
  go_enter Tryz.func177, Tryz.ntmps177
  go_wp2
  go_loopw [3, 11] (fun v i wr => ∃ k : Nat, k ≤ n ∧ i = .int .i64 k ∧ v = .int .i64 ((3 + Nd.lens (cs.take k) : Nat) : Int) ∧ Below w.heap.size w wr) (fun _ i _ => n - (intOf i).toNat)
  case atStart => exact ⟨0, Nat.zero_le _, rfl, rfl, Below.refl _ _⟩
  case round =>
    obtain ⟨k, hk, rfl, rfl, hbel⟩ := hrel
    by_cases hlt : k < n
    · obtain ⟨b, off, x, y, rfl, hbl, hy, hcr, c0, c1, c2, c3⟩ := HR.out.get hlt
      have HC := Lib.hid hcr
      obtain ⟨⟨A1, n1, k1, e1, r1, _⟩, ⟨A2, n2, k2, e2, r2, _⟩, e3, e4, _, _⟩ := hcr
      have f0 := (hbel.cell (p := ⟨b, off + k * 4, none⟩) hbl).trans c0
      have f1 := (hbel.cell (p := ⟨b, off + k * 4 + 1, none⟩) hbl).trans c1
      have f2 := (hbel.cell (p := ⟨b, off + k * 4 + 2, none⟩) hbl).trans c2
      have f3 := (hbel.cell (p := ⟨b, off + k * 4 + 3, none⟩) hbl).trans c3
      rw [e1] at f0
      rw [e2] at f1
      have hl := lens_take_le cs (k + 1)
      have HL := Lib.hid (lens_take hy)
      have hj1 : (k : Int) < (n : Int) := by omega
      clear c0 c1 c2 c3 r1 r2 hy
      have L := length_any (wr.alloc (.cells #[.slice A1 n1 k1, .slice A2 n2 k2, .int .i64 y.size, .int .i64 y.head] 134)) x y ((HC.out.on hbel).on ((Below.refl _ _).alloc (Nat.le_refl _) _)) (by have := HL.out; omega)
      rw [show x.v = .agg #[.slice A1 n1 k1, .slice A2 n2 k2, .int .i64 y.size, .int .i64 y.head] from by unfold CV.v; rw [e1, e2, e3, e4]] at L
      have CL := Lib.hid L
      have hy9 : Nd.lens (cs.take k) + y.len ≤ 1000000000 := by have := HL.out; omega
      clear L
      go_wp2_with fail
      refine CL.out.mono ?_
      rintro e w2 ⟨rfl, b2⟩
      have B2 := hbel.trans ((((Below.refl wr.heap.size wr).alloc (Nat.le_refl _) _).trans (b2.mono (by simp))).mono hbel.size)
      clear b2 hbel f0 f1 f2 f3 CL
      go_wp2
      go_roundw
      case rel => exact ⟨k + 1, by omega, by go_num, by rw [HL.out]; go_num, B2⟩
      case measure => simp [intOf]; omega
    · obtain rfl : k = n := by omega
      rw [List.take_of_length_le (by omega)]
      go_wp2
      go_ret
      exact ⟨rfl, hbel⟩
end Go.Proofs.YtmcldkcmialfeaaGreat.Nn
