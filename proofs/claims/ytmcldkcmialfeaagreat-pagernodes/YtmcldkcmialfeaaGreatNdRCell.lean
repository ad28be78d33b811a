/-
  The program's reader: the next cell.
-/
import Derived.Test.YtmcldkcmialfeaaGreatGrNode9
import Derived.Deep.Cut
namespace Go.Proofs.YtmcldkcmialfeaaGreat.Nn
open Go.RowKit
set_option linter.unusedVariables false

def set4 (w : World) (g : Nat) (b0 b1 b2 b3 : Value) : World := (((w.setCell ⟨g, 0, none⟩ b0).setCell ⟨g, 1, none⟩ b1).setCell ⟨g, 2, none⟩ b2).setCell ⟨g, 3, none⟩ b3
theorem set4_at {w : World} {g t : Nat} {a0 a1 a2 a3 : Value} (h : w.heap[g]? = some (.cells #[a0, a1, a2, a3] t (0, 0))) (b0 b1 b2 b3 : Value) : (set4 w g b0 b1 b2 b3).heap[g]? = some (.cells #[b0, b1, b2, b3] t (0, 0)) := by
  unfold set4
  simp [World.setCell, Array.getElem?_modify, h]
theorem off_set4 {S : Nat → Prop} {w w1 : World} (h : Off S w w1) {p : Nat} (hp : S p) (b0 b1 b2 b3 : Value) : Off S w (set4 w1 p b0 b1 b2 b3) := (((h.set b0 hp).set b1 hp).set b2 hp).set b3 hp
theorem pcell_short {r : List Nat} (h : (Nd.nb 2 (Nd.pkey r).2).1 ≤ 200) : Nd.pcell r = (⟨(Nd.pkey r).1, (Nd.tk (Nd.nb 2 (Nd.pkey r).2).1 (Nd.nb 2 (Nd.pkey r).2).2).1, 0, 0⟩, (Nd.tk (Nd.nb 2 (Nd.pkey r).2).1 (Nd.nb 2 (Nd.pkey r).2).2).2) := by
  unfold Nd.pcell; simp only; rw [if_pos h]
theorem pcell_long {r : List Nat} (h : ¬ (Nd.nb 2 (Nd.pkey r).2).1 ≤ 200) : Nd.pcell r = (⟨(Nd.pkey r).1, [], ((Nd.nb 2 (Nd.pkey r).2).1 : Int), ((Nd.nb 4 (Nd.nb 2 (Nd.pkey r).2).2).1 : Int)⟩, (Nd.tk 2 (Nd.nb 4 (Nd.nb 2 (Nd.pkey r).2).2).2).2) := by
  unfold Nd.pcell; simp only; rw [if_neg h]

set_option maxRecDepth 100000 in
set_option maxHeartbeats 2000000 in
theorem rcell_any (w : World) (g D : Nat) (r : List Nat) (h : Rd w g D r) :
    Calls Tryz.prog 142 #[.pointer (some ⟨g, 0, none⟩)] w fun e w' => ∃ x : CV, e = .returned x.v ∧ CR w' x (Nd.pcell r).1 ∧ InD D x.k ∧ InD D x.i ∧ Rd w' g D (Nd.pcell r).2 ∧ Off (At1 g) w w' := by
  have hg := h.lt
  have hd := h.dlt
  have hbt := h.bytes
  have HT := Lib.hid (fun (a b : World) (h : Off (At1 g) a b) => (h.mono (fun k hk => .inl (.inl hk)) : Off (fun k => k = g ∨ w.heap.size ≤ k) a b))
  have hne := h.ne
  have hDT : ¬ (D = g ∨ w.heap.size ≤ D) := by omega
  have Z := heap_alloc_new w (.cells #[.slice none 0 0, .slice none 0 0, .int .i64 0, .int .i64 0] 134)
  have B0 : Below w.heap.size w (w.alloc (.cells #[.slice none 0 0, .slice none 0 0, .int .i64 0, .int .i64 0] 134)) := (Below.refl _ _).alloc (Nat.le_refl _) _
  have C1 := Lib.hid (rkey_any _ g D r (h.on B0))
  have s0 : w.heap.size < (w.alloc (.cells #[.slice none 0 0, .slice none 0 0, .int .i64 0, .int .i64 0] 134)).heap.size := by simp
  have O0 : Off (fun k => k = g ∨ w.heap.size ≤ k) w (w.alloc (.cells #[.slice none 0 0, .slice none 0 0, .int .i64 0, .int .i64 0] 134)) := Off.of_below B0
  have HZ := Lib.hid Z
  have HO0 := Lib.hid O0
  clear Z B0 O0 h
  go_enter Tryz.func142, Tryz.ntmps142
  go_wp2_with fail
  generalize w.alloc (.cells #[.slice none 0 0, .slice none 0 0, .int .i64 0, .int .i64 0] 134) = w0 at *
  refine C1.out.mono ?_
  rintro e w1 ⟨v1, rfl, sv1, in1, rd1, of1⟩
  have hl1 := of1.size
  have Z1 := of1.at_ HZ.out (show ¬ At1 g w.heap.size from fun e => by have : w.heap.size = g := e; omega)
  have OF1 := Lib.hid (HO0.out.trans (HT.out _ _ of1))
  have Y := heap_alloc_new w1 (.cells #[v1, .slice none 0 0, .int .i64 0, .int .i64 0] 134)
  have B2 : Below w1.heap.size w1 (w1.alloc (.cells #[v1, .slice none 0 0, .int .i64 0, .int .i64 0] 134)) := (Below.refl _ _).alloc (Nat.le_refl _) _
  have C2 := Lib.hid (number_any _ g D _ (rd1.on B2) 2 (.inr (.inl rfl)))
  have s2 : w1.heap.size < (w1.alloc (.cells #[v1, .slice none 0 0, .int .i64 0, .int .i64 0] 134)).heap.size := by simp
  have HY := Lib.hid Y
  have HB2 := Lib.hid B2
  have HZ1 := Lib.hid Z1
  have SV1 := Lib.hid sv1
  have IN1 := Lib.hid in1
  have one1 := sv1.one
  obtain ⟨A1, n1, k1, rfl, _, _⟩ := sv1
  clear Z1 rd1 of1 C1 HZ HO0 Y B2 in1 one1
  go_wp2_with fail
  generalize w1.alloc (.cells #[.slice A1 n1 k1, .slice none 0 0, .int .i64 0, .int .i64 0] 134) = w2 at *
  refine C2.out.mono ?_
  rintro e w3 ⟨rfl, rd3, of3⟩
  have ngc : ¬ At1 g w1.heap.size := fun e => by have : w1.heap.size = g := e; omega
  have ngr : ¬ At1 g w.heap.size := fun e => by have : w.heap.size = g := e; omega
  have Y3 := of3.at_ HY.out ngc
  have Z3 := of3.at_ ((HB2.out.block _ (by omega)).trans HZ1.out) ngr
  have O13 : Off (fun k => k = g ∨ w.heap.size ≤ k) w1 w3 := (Off.of_below HB2.out).trans (HT.out _ _ of3)
  have hl3 := of3.size
  have hb2 := (Nd.nb_lt (k := 2) (Nd.pkey_lt hbt).2).1
  rw [Nd.p2] at hb2
  by_cases hs : (Nd.nb 2 (Nd.pkey r).2).1 ≤ 200
  · have E := Lib.hid (pcell_short hs)
    have d : decide ((((Nd.nb 2 (Nd.pkey r).2).1 : Nat) : Int) ≤ 200) = true := by simp; omega
    have C4 := Lib.hid (take_any w3 g D _ rd3 (Nd.nb 2 (Nd.pkey r).2).1 (by omega))
    have HY3 := Lib.hid Y3
    have HZ3 := Lib.hid Z3
    have HO := Lib.hid O13
    clear Y3 Z3 O13 rd3 of3 C2 HY HB2 HZ1
    go_wp2_with fail
    refine C4.out.mono ?_
    rintro e w4 ⟨v4, rfl, sv4, in4, rd4, of4⟩
    have Y4 := of4.at_ HY3.out ngc
    have Z4 := of4.at_ HZ3.out ngr
    have hl4 := of4.size
    have O14 := Lib.hid (HO.out.trans (HT.out _ _ of4))
    obtain ⟨f0, f1, f2, f3⟩ := four_cells Y4
    have fz := frozen_of_row w4 w1.heap.size 1 _ _ Y4
    have SV4 := Lib.hid sv4
    have IN4 := Lib.hid in4
    have RD4 := Lib.hid rd4
    obtain ⟨A4, n4, k4, rfl, _, _⟩ := sv4
    have Y5 : (w4.setCell ⟨w1.heap.size, 1, none⟩ (.slice A4 n4 k4)).heap[w1.heap.size]? = some (.cells #[.slice A1 n1 k1, .slice A4 n4 k4, .int .i64 0, .int .i64 0] 134 (0, 0)) := by
      have := heap_setCell_same w4 w1.heap.size 1 _ _ (.slice A4 n4 k4) Y4
      simpa using this
    obtain ⟨e0, e1, e2, e3⟩ := four_cells Y5
    have O45 : Off (fun k => k = w1.heap.size) w4 (w4.setCell ⟨w1.heap.size, 1, none⟩ (.slice A4 n4 k4)) := (Off.refl _ _).set _ rfl
    have Z5 := O45.at_ Z4 (by omega)
    have Z6 := Lib.hid (set4_at Z5 (.slice A1 n1 k1) (.slice A4 n4 k4) (.int .i64 0) (.int .i64 0))
    have fr0 := frozen_of_row _ w.heap.size 0 _ _ Z5
    obtain ⟨g0, g1, g2, g3⟩ := four_cells Z5
    have O46 : Off (fun k => w.heap.size ≤ k) w4 (set4 (w4.setCell ⟨w1.heap.size, 1, none⟩ (.slice A4 n4 k4)) w.heap.size (.slice A1 n1 k1) (.slice A4 n4 k4) (.int .i64 0) (.int .i64 0)) := off_set4 ((Off.refl _ _).set _ (by omega)) (Nat.le_refl _) _ _ _ _
    have HO46 := Lib.hid O46
    have HF := Lib.hid (And.intro (four_cells Y5) (And.intro (four_cells Z5) (fun i => frozen_of_row _ w.heap.size i _ _ Z5)))
    clear Y4 Z4 of4 C4 HY3 HZ3 HO in4 rd4 Y5 O45 Z5 O46 e0 e1 e2 e3 g0 g1 g2 g3 fr0
    go_upto_region 5 with fail
    obtain ⟨⟨e0, e1, e2, e3⟩, ⟨g0, g1, g2, g3⟩, fr⟩ := HF.out
    clear HF f0 f1 f2 f3 fz
    generalize w4.setCell ⟨w1.heap.size, 1, none⟩ (.slice A4 n4 k4) = w5 at *
    have ngg : w1.heap.size ≠ w.heap.size := by omega
    generalize hgc : w1.heap.size = gc at *
    generalize hgr : w.heap.size = gr at *
    go_wp2
    have p := four_cells Z6.out
    unfold set4 at p
    obtain ⟨p0, p1, p2, p3⟩ := p
    have O16 : Off (fun k => k = g ∨ gr ≤ k) w1 _ := O14.out.trans (HO46.out.mono fun k hk => .inl (.inr hk))
    have nD : ¬ gr ≤ D := by omega
    refine bodyPost_ret (v := .agg #[.slice A1 n1 k1, .slice A4 n4 k4, .int .i64 0, .int .i64 0]) (by simp [results, Tryz.results142, go_sem, p0, p1, p2, p3]) rfl ⟨⟨.slice A1 n1 k1, .slice A4 n4 k4, 0, 0⟩, rfl, ?_⟩
    rw [E.out]
    refine ⟨⟨SV1.out.off O16 fun k hk => by rw [IN1.out k hk]; exact hDT, SV4.out.off HO46.out fun k hk => by rw [IN4.out k hk]; exact nD, rfl, rfl, by unfold I64; simp, by unfold I64; simp⟩, IN1.out, IN4.out, RD4.out.off HO46.out (by omega) nD, (OF1.out.trans O16).mono fun k hk => ?_⟩
    rcases hk with hk | hk
    · exact .inl hk
    · exact .inr (by omega)
  · have E := Lib.hid (pcell_long hs)
    have d : decide ((((Nd.nb 2 (Nd.pkey r).2).1 : Nat) : Int) ≤ 200) = false := by simp; omega
    have hb4 := (Nd.nb_lt (k := 4) (Nd.nb_lt (k := 2) (Nd.pkey_lt hbt).2).2).1
    rw [Nd.p4] at hb4
    obtain ⟨f0, f1, f2, f3⟩ := four_cells Y3
    have fz := frozen_of_row w3 w1.heap.size 2 _ _ Y3
    have O34 : Off (fun k => w.heap.size ≤ k) w3 (w3.setCell ⟨w1.heap.size, 2, none⟩ (.int .i64 (((Nd.nb 2 (Nd.pkey r).2).1 : Nat) : Int))) := (Off.refl _ _).set _ (by omega)
    have O34' : Off (fun k => k = w1.heap.size) w3 (w3.setCell ⟨w1.heap.size, 2, none⟩ (.int .i64 (((Nd.nb 2 (Nd.pkey r).2).1 : Nat) : Int))) := (Off.refl _ _).set _ rfl
    have Y4 : (w3.setCell ⟨w1.heap.size, 2, none⟩ (.int .i64 (((Nd.nb 2 (Nd.pkey r).2).1 : Nat) : Int))).heap[w1.heap.size]? = some (.cells #[.slice A1 n1 k1, .slice none 0 0, .int .i64 (((Nd.nb 2 (Nd.pkey r).2).1 : Nat) : Int), .int .i64 0] 134 (0, 0)) := by
      have := heap_setCell_same w3 w1.heap.size 2 _ _ (.int .i64 (((Nd.nb 2 (Nd.pkey r).2).1 : Nat) : Int)) Y3
      simpa using this
    have Z4 := O34'.at_ Z3 (by omega)
    have C5 := Lib.hid (number_any _ g D _ (rd3.off O34 (by omega) (by omega)) 4 (.inr (.inr rfl)))
    have O14 := Lib.hid (O13.trans (O34.mono (S := fun k => k = g ∨ w.heap.size ≤ k) fun k hk => .inl (.inr hk)))
    have HY4 := Lib.hid Y4
    have HZ4 := Lib.hid Z4
    have hl4 := O34.size
    clear Y3 Z3 O13 rd3 of3 C2 HY HB2 HZ1 O34 O34' Y4 Z4
    go_wp2_with fail
    generalize w3.setCell ⟨w1.heap.size, 2, none⟩ (.int .i64 (((Nd.nb 2 (Nd.pkey r).2).1 : Nat) : Int)) = w4 at *
    refine C5.out.mono ?_
    rintro e w5 ⟨rfl, rd5, of5⟩
    have Y5 := of5.at_ HY4.out ngc
    have Z5 := of5.at_ HZ4.out ngr
    have hl5 := of5.size
    clear f0 f1 f2 f3 fz
    obtain ⟨f0, f1, f2, f3⟩ := four_cells Y5
    have fz := frozen_of_row w5 w1.heap.size 3 _ _ Y5
    have O56 : Off (fun k => w.heap.size ≤ k) w5 (w5.setCell ⟨w1.heap.size, 3, none⟩ (.int .i64 (((Nd.nb 4 (Nd.nb 2 (Nd.pkey r).2).2).1 : Nat) : Int))) := (Off.refl _ _).set _ (by omega)
    have O56' : Off (fun k => k = w1.heap.size) w5 (w5.setCell ⟨w1.heap.size, 3, none⟩ (.int .i64 (((Nd.nb 4 (Nd.nb 2 (Nd.pkey r).2).2).1 : Nat) : Int))) := (Off.refl _ _).set _ rfl
    have Y6 : (w5.setCell ⟨w1.heap.size, 3, none⟩ (.int .i64 (((Nd.nb 4 (Nd.nb 2 (Nd.pkey r).2).2).1 : Nat) : Int))).heap[w1.heap.size]? = some (.cells #[.slice A1 n1 k1, .slice none 0 0, .int .i64 (((Nd.nb 2 (Nd.pkey r).2).1 : Nat) : Int), .int .i64 (((Nd.nb 4 (Nd.nb 2 (Nd.pkey r).2).2).1 : Nat) : Int)] 134 (0, 0)) := by
      have := heap_setCell_same w5 w1.heap.size 3 _ _ (.int .i64 (((Nd.nb 4 (Nd.nb 2 (Nd.pkey r).2).2).1 : Nat) : Int)) Y5
      simpa using this
    have Z6 := O56'.at_ Z5 (by omega)
    have C7 := Lib.hid (take_any _ g D _ (rd5.off O56 (by omega) (by omega)) 2 (by omega))
    have O16 := Lib.hid ((O14.out.trans (HT.out _ _ of5)).trans (O56.mono (S := fun k => k = g ∨ w.heap.size ≤ k) fun k hk => .inl (.inr hk)))
    have HY6 := Lib.hid Y6
    have HZ6 := Lib.hid Z6
    clear Y5 Z5 O14 rd5 of5 C5 HY4 HZ4 O56 O56' Y6 Z6
    go_wp2_with fail
    generalize w5.setCell ⟨w1.heap.size, 3, none⟩ (.int .i64 (((Nd.nb 4 (Nd.nb 2 (Nd.pkey r).2).2).1 : Nat) : Int)) = w6 at *
    refine C7.out.mono ?_
    rintro e w7 ⟨v7, rfl, sv7, in7, rd7, of7⟩
    have Y7 := of7.at_ HY6.out ngc
    have Z7 := of7.at_ HZ6.out ngr
    have O17 := O16.out.trans (HT.out _ _ of7)
    clear f0 f1 f2 f3 fz
    obtain ⟨e0, e1, e2, e3⟩ := four_cells Y7
    obtain ⟨g0, g1, g2, g3⟩ := four_cells Z7
    have fr := fun i => frozen_of_row _ w.heap.size i _ _ Z7
    generalize (Nd.nb 2 (Nd.pkey r).2).1 = sz at *
    have HE := Lib.hid E
    have RD7 := Lib.hid rd7
    have Z8 := Lib.hid (set4_at Z7 (.slice A1 n1 k1) (.slice none 0 0) (.int .i64 (sz : Int)) (.int .i64 (((Nd.nb 4 (Nd.nb 2 (Nd.pkey r).2).2).1 : Nat) : Int)))
    have O78 := Lib.hid (off_set4 (S := fun k => w.heap.size ≤ k) (Off.refl _ w7) (Nat.le_refl _) (.slice A1 n1 k1) (.slice none 0 0) (.int .i64 (sz : Int)) (.int .i64 (((Nd.nb 4 (Nd.nb 2 (Nd.pkey r).2).2).1 : Nat) : Int)))
    have HO17 := Lib.hid O17
    have ngg : w1.heap.size ≠ w.heap.size := by omega
    generalize hhd : (Nd.nb 4 (Nd.nb 2 (Nd.pkey r).2).2).1 = hd4 at *
    clear E rd7 Y7 Z7 of7 C7 HY6 HZ6 O16 O17 sv7 in7
    generalize hgc : w1.heap.size = gc at *
    generalize hgr : w.heap.size = gr at *
    go_wp2
    have p := four_cells Z8.out
    unfold set4 at p
    obtain ⟨p0, p1, p2, p3⟩ := p
    have O18 : Off (fun k => k = g ∨ gr ≤ k) w1 _ := HO17.out.trans (O78.out.mono fun k hk => .inl (.inr hk))
    have nD : ¬ gr ≤ D := by omega
    refine bodyPost_ret (v := .agg #[.slice A1 n1 k1, .slice none 0 0, .int .i64 (sz : Int), .int .i64 (hd4 : Int)]) (by simp [results, Tryz.results142, go_sem, p0, p1, p2, p3]) rfl ⟨⟨.slice A1 n1 k1, .slice none 0 0, (sz : Int), (hd4 : Int)⟩, rfl, ?_⟩
    rw [HE.out.out]
    refine ⟨⟨SV1.out.off O18 fun k hk => by rw [IN1.out k hk]; exact hDT, SlV.nil_ _, rfl, rfl, by unfold I64; simp only; omega, by unfold I64; simp only; omega⟩, IN1.out, InD.nil_ _, RD7.out.off O78.out (by omega) nD, (OF1.out.trans O18).mono fun k hk => ?_⟩
    rcases hk with hk | hk
    · exact .inl hk
    · exact .inr (by omega)
end Go.Proofs.YtmcldkcmialfeaaGreat.Nn
