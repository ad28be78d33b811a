/-
  The law's Of: the program's node of a plain one; the document's Small.
-/
import Derived.Test.YtmcldkcmialfeaaGreatNdRBranch
import Derived.Deep.RegionHeldLaw
namespace Go.Proofs.YtmcldkcmialfeaaGreat.Nn
open Go.RowKit
set_option linter.unusedVariables false

/-- A plain node as a value. -/
structure Nv where
  br : Bool
  cA : Option Addr
  cn : Nat
  cc : Nat
  kA : Option Addr
  kn : Nat
  kc : Nat
  pA : Option Addr
  pn : Nat
  pc : Nat
def Nv.vs (x : Nv) : Array Value := #[.bool x.br, .slice x.cA x.cn x.cc, .slice x.kA x.kn x.kc, .slice x.pA x.pn x.pc]
def Nv.val (x : Nv) : Value := .agg #[.bool x.br, .slice x.cA x.cn x.cc, .slice x.kA x.kn x.kc, .slice x.pA x.pn x.pc]
structure NvIs (w : World) (x : Nv) (cs : List Nd.Cell) (ks : List (List Nat)) (ps : List Int) : Prop where
  cs : Cs w x.cA x.cn x.cc cs
  ks : Ks w x.kA x.kn x.kc ks
  ps : Is w x.pA x.pn x.pc ps
  pb : x.pn ≤ 140737488355328
theorem NvIs.on {w w' : World} {x : Nv} {cs : List Nd.Cell} {ks : List (List Nat)} {ps : List Int} (h : NvIs w x cs ks ps) (hb : Below w.heap.size w w') : NvIs w' x cs ks ps := ⟨h.cs.on hb, h.ks.on hb, h.ps.on hb, h.pb⟩

set_option maxRecDepth 100000 in
set_option maxHeartbeats 400000 in
theorem of_branch (w : World) (x : Nv) (cs : List Nd.Cell) (ks : List (List Nat)) (ps : List Int) (h : NvIs w x cs ks ps) (hb : x.br = true) :
    Calls Tryz.prog 36 #[x.val] w fun e w' => (∃ g, e = .returned (.iface 74 (.pointer (some ⟨g, 0, none⟩))) ∧ BranchAt w' g ks ps) ∧ Below w.heap.size w w' := by
  obtain ⟨br, cA, cn, cc_, kA, kn, kc, pA, pn, pc⟩ := x
  simp only at hb
  subst hb
  have B1 : Below w.heap.size w (w.alloc (.cells #[.bool true, .slice cA cn cc_, .slice kA kn kc, .slice pA pn pc] 65)) := (Below.refl _ _).alloc (Nat.le_refl _) _
  have h1 := h.on B1
  have B2 := Lib.hid (onto B1 ((Below.refl _ _).alloc (Nat.le_refl _) (.cells #[.slice kA kn kc, .slice pA pn pc] 129)))
  have HB : Hid (BranchAt ((w.alloc (.cells #[.bool true, .slice cA cn cc_, .slice kA kn kc, .slice pA pn pc] 65)).alloc (.cells #[.slice kA kn kc, .slice pA pn pc] 129)) (w.heap.size + 1) ks ps) := by
    show BranchAt _ _ _ _
    have z := heap_alloc_new (w.alloc (.cells #[.bool true, .slice cA cn cc_, .slice kA kn kc, .slice pA pn pc] 65)) (.cells #[.slice kA kn kc, .slice pA pn pc] 129)
    rw [show (w.alloc (.cells #[.bool true, .slice cA cn cc_, .slice kA kn kc, .slice pA pn pc] 65)).heap.size = w.heap.size + 1 by simp] at z
    obtain ⟨c0, c1⟩ := two_cells z
    have b := (Below.refl _ (w.alloc (.cells #[.bool true, .slice cA cn cc_, .slice kA kn kc, .slice pA pn pc] 65))).alloc (Nat.le_refl _) (.cells #[.slice kA kn kc, .slice pA pn pc] 129)
    exact ⟨by simp, _, _, _, _, _, _, c0, c1, h1.ks.on b, h1.ps.on b⟩
  clear h h1 B1
  unfold Nv.val
  go_enter Tryz.func36, Tryz.ntmps36
  go_wp2
  go_ret
  exact ⟨⟨_, rfl, HB.out⟩, B2.out⟩

/-- One cell more. -/
theorem of_step {w wA wC : World} {v : Value} {k gn cap : Nat} {ys : List Value} {o z1 : Obj} {new : List Value} (HZ1 : wA.heap[w.heap.size]? = some z1) (HOW : wA.ownsRow (w.heap.size + 2) 134 4 v k ys) (HBE : Below w.heap.size w wA) (sz : w.heap.size + 2 ≤ wA.heap.size)
    (OC : wC.ownsRow (w.heap.size + 2) 134 4 (.slice (some ⟨gn, 0, none⟩) (k + 1) cap) (k + 1) (ys ++ new)) (gC : (wA.alloc o).grownBy wC v.ownBlock) (zC : wC.heap[w.heap.size + 1]? = some (.cells #[v] 133 (0, 0))) :
    (wC.setCell ⟨w.heap.size + 1, 0, none⟩ (.slice (some ⟨gn, 0, none⟩) (k + 1) cap)).heap[w.heap.size]? = some z1 ∧ (wC.setCell ⟨w.heap.size + 1, 0, none⟩ (.slice (some ⟨gn, 0, none⟩) (k + 1) cap)).heap[w.heap.size + 1]? = some (.cells #[.slice (some ⟨gn, 0, none⟩) (k + 1) cap] 133 (0, 0)) ∧
    (wC.setCell ⟨w.heap.size + 1, 0, none⟩ (.slice (some ⟨gn, 0, none⟩) (k + 1) cap)).ownsRow (w.heap.size + 2) 134 4 (.slice (some ⟨gn, 0, none⟩) (k + 1) cap) (k + 1) (ys ++ new) ∧ Below w.heap.size w (wC.setCell ⟨w.heap.size + 1, 0, none⟩ (.slice (some ⟨gn, 0, none⟩) (k + 1) cap)) ∧ w.heap.size + 2 ≤ (wC.setCell ⟨w.heap.size + 1, 0, none⟩ (.slice (some ⟨gn, 0, none⟩) (k + 1) cap)).heap.size := by
  obtain ⟨q1, q2⟩ := set1 zC (.slice (some ⟨gn, 0, none⟩) (k + 1) cap)
  have o1 : Off (fun k => v.ownBlock = some k) wA wC := ((Off.refl _ wA).alloc o).trans (Off.of_grown gC fun k h => h)
  have o2 : Off (fun k => w.heap.size + 1 ≤ k) wA (wC.setCell ⟨w.heap.size + 1, 0, none⟩ (.slice (some ⟨gn, 0, none⟩) (k + 1) cap)) := (o1.mono fun k hk => .inl (by have := (HOW.lt k hk).1; omega)).trans (q2.mono fun k hk => .inl (Nat.le_of_eq (Eq.symm hk)))
  have hgn := (OC.lt gn rfl).1
  refine ⟨o2.at_ HZ1 (by omega), q1, q2.own OC (fun j hj e => ?_), HBE.trans (o2.below (fun j hj => by omega) (by omega)), Nat.le_trans sz o2.size⟩
  have h1 : gn = j := by simpa [Value.ownBlock] using hj
  have h2 : j = w.heap.size + 1 := e
  omega

set_option maxRecDepth 100000 in
set_option maxHeartbeats 2000000 in
theorem of_leaf (w : World) (x : Nv) (cs : List Nd.Cell) (h : Cs w x.cA x.cn x.cc cs) (hb : x.br = false) (hn9 : cs.length ≤ 100000) :
    Calls Tryz.prog 36 #[x.val] w fun e w' => (∃ g, e = .returned (.iface 130 (.pointer (some ⟨g, 0, none⟩))) ∧ LeafAt w' g cs) ∧ Below w.heap.size w w' := by
  obtain ⟨i0, hi, hz0, hz1, hz2⟩ := info_three infoC
  obtain ⟨br, cA, cn, cc_, kA, kn, kc, pA, pn, pc⟩ := x
  simp only at hb h
  subst hb
  have hn := h.len
  obtain ⟨xs, hrw, hal⟩ := h
  have hxl : xs.length = cn := by rw [hal.len, hn]
  have B1 : Below w.heap.size w (w.alloc (.cells #[.bool false, .slice cA cn cc_, .slice kA kn kc, .slice pA pn pc] 65)) := (Below.refl _ _).alloc (Nat.le_refl _) _
  have B2 := onto B1 ((Below.refl _ _).alloc (Nat.le_refl _) (.cells #[.slice none 0 0] 133))
  have Z1 := heap_alloc_new w (.cells #[.bool false, .slice cA cn cc_, .slice kA kn kc, .slice pA pn pc] 65)
  have s1 : (w.alloc (.cells #[.bool false, .slice cA cn cc_, .slice kA kn kc, .slice pA pn pc] 65)).heap.size = w.heap.size + 1 := by simp
  have Z2 := heap_alloc_new (w.alloc (.cells #[.bool false, .slice cA cn cc_, .slice kA kn kc, .slice pA pn pc] 65)) (.cells #[.slice none 0 0] 133)
  have Z1' := ((Below.refl _ _).alloc (Nat.le_refl _) (.cells #[.slice none 0 0] 133)).block w.heap.size (by rw [s1]; omega) |>.trans Z1
  rw [s1] at Z2
  have s2 : ((w.alloc (.cells #[.bool false, .slice cA cn cc_, .slice kA kn kc, .slice pA pn pc] 65)).alloc (.cells #[.slice none 0 0] 133)).heap.size = w.heap.size + 2 := by simp
  have HRW := Lib.hid hrw
  have HAL := Lib.hid hal
  have HX := Lib.hid hxl
  have hcn9 : cn ≤ 100000 := by omega
  clear hrw hal Z1 hxl B1
  unfold Nv.val
  go_enter Tryz.func36, Tryz.ntmps36
  go_wp2
  generalize (w.alloc (.cells #[.bool false, .slice cA cn cc_, .slice kA kn kc, .slice pA pn pc] 65)).alloc (.cells #[.slice none 0 0] 133) = w2 at *
  go_loopw [4] (fun i wr => ∃ (k : Nat) (v : Value), k ≤ cn ∧ i = .int .i64 (k : Int) ∧ wr.heap[w.heap.size]? = some (.cells #[.bool false, .slice cA cn cc_, .slice kA kn kc, .slice pA pn pc] 65 (0, 0)) ∧ wr.heap[w.heap.size + 1]? = some (.cells #[v] 133 (0, 0)) ∧ wr.ownsRow (w.heap.size + 2) 134 4 v k (cc (xs.take k)) ∧ Below w.heap.size w wr ∧ w.heap.size + 2 ≤ wr.heap.size) (fun i _ => cn - (intOf i).toNat)
  case atStart => exact ⟨0, _, Nat.zero_le _, rfl, Z1', Z2, World.ownsRow_nil _ _ _ _, B2, by omega⟩
  case round =>
    clear Z1' Z2 B2 s2
    obtain ⟨k, v, hk, rfl, z1, z2, hown, hbel, hsz⟩ := hrel
    obtain ⟨b0, b1, b2, b3⟩ := four_cells z1
    by_cases hlt : k < cn
    · obtain ⟨x, y, hx, hy, hr⟩ := HAL.out.get (i := k) (by omega)
      obtain ⟨b, off, rfl, hbl, hc⟩ := HRW.out.get (by omega)
      obtain ⟨a0, a1, a2, a3⟩ := cc_at xs k x hx
      have f0 := (hbel.cell (p := ⟨b, off + k * 4, none⟩) hbl).trans (hc _ _ a0)
      have f1 := (hbel.cell (p := ⟨b, off + k * 4 + 1, none⟩) hbl).trans (hc _ _ a1)
      have f2 := (hbel.cell (p := ⟨b, off + k * 4 + 2, none⟩) hbl).trans (hc _ _ a2)
      have f3 := (hbel.cell (p := ⟨b, off + k * 4 + 3, none⟩) hbl).trans (hc _ _ a3)
      have ONE := Lib.hid hr.one
      obtain ⟨xk, xi, xs4, xh⟩ := x
      obtain ⟨⟨A1, n1, k1, e1, r1, _⟩, ⟨A2, n2, k2, e2, r2, _⟩, e3, e4, _, _⟩ := hr
      simp only at e1 e2 e3 e4 f0 f1 f2 f3
      subst e1 e2
      have hj1 : (k : Int) < (cn : Int) := by omega
      have HTK : Hid (cc (xs.take (k + 1)) = cc (xs.take k) ++ [.slice A1 n1 k1, .slice A2 n2 k2, .int .i64 xs4, .int .i64 xh]) := by
        show _ = _
        rw [List.take_add_one, hx, cc_app]; rfl
      clear a0 a1 a2 a3 hc hx hy r1 r2 e3 e4
      go_wp2_with fail
      have bA : Below wr.heap.size wr (wr.alloc (.cells #[.slice A1 n1 k1, .slice A2 n2 k2, .int .i64 xs4, .int .i64 xh] 125)) := (Below.refl _ _).alloc (Nat.le_refl _) _
      have zc := heap_alloc_new wr (.cells #[.slice A1 n1 k1, .slice A2 n2 k2, .int .i64 xs4, .int .i64 xh] 125)
      have z1A := (bA.block _ (by omega)).trans z1
      have z2A := (bA.block _ (by omega)).trans z2
      have ownA := hown.alloc (.cells #[.slice A1 n1 k1, .slice A2 n2 k2, .int .i64 xs4, .int .i64 xh] 125)
      have belA := hbel.trans (bA.mono hbel.size)
      have szA := bA.size
      generalize hgc : wr.heap.size = gc at *
      generalize wr.alloc (.cells #[.slice A1 n1 k1, .slice A2 n2 k2, .int .i64 xs4, .int .i64 xh] 125) = wA at *
      obtain ⟨q0, q1, q2, q3⟩ := four_cells zc
      have c0 := cell_of_row wA (w.heap.size + 1) 0 _ _ (0, 0) z2A
      simp at c0
      have HZ1 := Lib.hid z1A
      have HZ2 := Lib.hid z2A
      have HOW := Lib.hid ownA
      have HBE := Lib.hid belA
      have HZC := Lib.hid zc
      clear bA zc z1A z2A ownA belA z1 z2 hown hbel b0 b1 b2 b3 f0 f1 f2 f3
      have NA := Lib.hid (news_lit wA #[.slice A1 n1 k1, .slice A2 n2 k2, .int .i64 xs4, .int .i64 xh] 134)
      have OA := Lib.hid (HOW.out.alloc (.cells #[.slice A1 n1 k1, .slice A2 n2 k2, .int .i64 xs4, .int .i64 xh] 134))
      have cB := ((Below.refl wA.heap.size wA).alloc (Nat.le_refl _) (.cells #[.slice A1 n1 k1, .slice A2 n2 k2, .int .i64 xs4, .int .i64 xh] 134)).cell (p := ⟨w.heap.size + 1, 0, none⟩) (by show w.heap.size + 1 < wA.heap.size; omega)
      rw [c0] at cB
      have SQ := Lib.hid (four_cells HZC.out)
      have qB : Hid (∀ o : Obj, (wA.alloc o).cell? ⟨gc, 0, none⟩ = some (.slice A1 n1 k1) ∧ (wA.alloc o).cell? ⟨gc, 1, none⟩ = some (.slice A2 n2 k2) ∧ (wA.alloc o).cell? ⟨gc, 2, none⟩ = some (.int .i64 xs4) ∧ (wA.alloc o).cell? ⟨gc, 3, none⟩ = some (.int .i64 xh)) := fun o => four_cells ((((Below.refl wA.heap.size wA).alloc (Nat.le_refl _) o).block gc (Array.getElem?_eq_some_iff.1 HZC.out).1).trans HZC.out)
      have KC : Hid (∀ {wC : World} {o : Obj}, (wA.alloc o).grownBy wC v.ownBlock → wC.cell? ⟨gc, 0, none⟩ = some (.slice A1 n1 k1) ∧ wC.cell? ⟨gc, 1, none⟩ = some (.slice A2 n2 k2) ∧ wC.cell? ⟨gc, 2, none⟩ = some (.int .i64 xs4) ∧ wC.cell? ⟨gc, 3, none⟩ = some (.int .i64 xh)) := fun {wC o} gC => by
        have hl := (Array.getElem?_eq_some_iff.1 HZC.out).1
        have z := (((Below.refl wA.heap.size wA).alloc (Nat.le_refl _) o).block gc hl).trans HZC.out
        refine four_cells ((gC.block gc (by simp; omega) fun e => ?_).trans z)
        obtain ⟨cs', hcs⟩ := own_type HOW.out e.symm
        rw [HZC.out] at hcs
        injection hcs with hcs
        injection hcs with _ hcs
        cases hcs
      have KS : Hid (∀ (W : World) (u : Value), (W.cell? ⟨gc, 0, none⟩ = some (.slice A1 n1 k1) ∧ W.cell? ⟨gc, 1, none⟩ = some (.slice A2 n2 k2) ∧ W.cell? ⟨gc, 2, none⟩ = some (.int .i64 xs4) ∧ W.cell? ⟨gc, 3, none⟩ = some (.int .i64 xh)) → (W.setCell ⟨w.heap.size + 1, 0, none⟩ u).cell? ⟨gc, 0, none⟩ = some (.slice A1 n1 k1) ∧ (W.setCell ⟨w.heap.size + 1, 0, none⟩ u).cell? ⟨gc, 1, none⟩ = some (.slice A2 n2 k2) ∧ (W.setCell ⟨w.heap.size + 1, 0, none⟩ u).cell? ⟨gc, 2, none⟩ = some (.int .i64 xs4) ∧ (W.setCell ⟨w.heap.size + 1, 0, none⟩ u).cell? ⟨gc, 3, none⟩ = some (.int .i64 xh)) := fun W u h => by
        have hne : gc ≠ w.heap.size + 1 := by omega
        unfold World.cell? at h ⊢
        simp only at h ⊢
        rw [heap_setCell_other W ⟨w.heap.size + 1, 0, none⟩ gc u hne]
        exact h
      have H4 := And.intro q0 (And.intro q1 (And.intro q2 q3))
      refine wp_region_noPanic ?_
      refine wp_region_held_drew (S := (fun w' : World => w'.cell? ⟨gc, 0, none⟩ = some (.slice A1 n1 k1) ∧ w'.cell? ⟨gc, 1, none⟩ = some (.slice A2 n2 k2) ∧ w'.cell? ⟨gc, 2, none⟩ = some (.int .i64 xs4) ∧ w'.cell? ⟨gc, 3, none⟩ = some (.int .i64 xh))) (by kernel_rfl) (by exact H4) (fun hHeld => ?_)
      refine wpAnyH_take (i := 0) (oi := { dst := some 29, op := Go.Op.move (Go.Operand.tmp 3), type := 130, pos := "law.go:34", after := #[], guard := none }) (v := ?_) rfl (by kernel_rfl) (by kernel_rfl) (by kernel_rfl) (fun _ _ _ h => h) (Or.inl ⟨by rfl, ?_⟩) (by assumption) ?_
      rotate_left
      · (intro w hSw; (try dsimp only at hSw); go_simp; try with_reducible rfl)
      try simp only [Act.put, List.setIfInBounds_toArray, List.set_cons_zero, List.set_cons_succ]
      refine wpAnyH_take (i := 1) (oi := { dst := some 30, op := Go.Op.move (Go.Operand.tmp 3), type := 130, pos := "law.go:34", after := #[], guard := none }) (v := ?_) rfl (by kernel_rfl) (by kernel_rfl) (by kernel_rfl) (fun _ _ _ h => h) (Or.inl ⟨by rfl, ?_⟩) (by assumption) ?_
      rotate_left
      · (intro w hSw; (try dsimp only at hSw); go_simp; try with_reducible rfl)
      try simp only [Act.put, List.setIfInBounds_toArray, List.set_cons_zero, List.set_cons_succ]
      refine wpAnyH_take (i := 2) (oi := { dst := some 31, op := Go.Op.nilCheck (Go.Operand.tmp 30), type := 0, pos := "law.go:34", after := #[{ on := 1, ground := Go.Ground.data }], guard := none }) (v := ?_) rfl (by kernel_rfl) (by kernel_rfl) (by kernel_rfl) (fun _ _ _ h => h) (Or.inl ⟨by rfl, ?_⟩) (by assumption) ?_
      rotate_left
      · (intro w hSw; (try dsimp only at hSw); go_simp; try with_reducible rfl)
      try simp only [Act.put, List.setIfInBounds_toArray, List.set_cons_zero, List.set_cons_succ]
      refine wpAnyH_take (i := 3) (oi := { dst := some 32, op := Go.Op.fieldAddr 133 (Go.Operand.tmp 31) 0, type := 0, pos := "law.go:34", after := #[{ on := 2, ground := Go.Ground.data }], guard := none }) (v := ?_) rfl (by kernel_rfl) (by kernel_rfl) (by kernel_rfl) (fun _ _ _ h => h) (Or.inl ⟨by rfl, ?_⟩) (by assumption) ?_
      rotate_left
      · (intro w hSw; (try dsimp only at hSw); go_simp; try with_reducible rfl)
      try simp only [Act.put, List.setIfInBounds_toArray, List.set_cons_zero, List.set_cons_succ]
      refine wpAnyH_take (i := 5) (oi := { dst := some 34, op := Go.Op.fieldAddr 125 (Go.Operand.tmp 5) 0, type := 0, pos := "law.go:34", after := #[], guard := none }) (v := ?_) rfl (by kernel_rfl) (by kernel_rfl) (by kernel_rfl) (fun _ _ _ h => h) (Or.inl ⟨by rfl, ?_⟩) (by assumption) ?_
      rotate_left
      · (intro w hSw; (try dsimp only at hSw); go_simp; try with_reducible rfl)
      try simp only [Act.put, List.setIfInBounds_toArray, List.set_cons_zero, List.set_cons_succ]
      refine wpAnyH_take (i := 6) (oi := { dst := some 35, op := Go.Op.load 43 (Go.Operand.tmp 34), type := 43, pos := "law.go:34", after := #[{ on := 5, ground := Go.Ground.data }], guard := none }) (v := ?_) rfl (by kernel_rfl) (by kernel_rfl) (by kernel_rfl) (fun _ _ _ h => h) (Or.inl ⟨by rfl, ?_⟩) (by assumption) ?_
      rotate_left
      · (intro w hSw; (try dsimp only at hSw); go_simp; try with_reducible rfl)
      try simp only [Act.put, List.setIfInBounds_toArray, List.set_cons_zero, List.set_cons_succ]
      refine wpAnyH_take (i := 7) (oi := { dst := some 36, op := Go.Op.fieldAddr 125 (Go.Operand.tmp 5) 1, type := 0, pos := "law.go:34", after := #[], guard := none }) (v := ?_) rfl (by kernel_rfl) (by kernel_rfl) (by kernel_rfl) (fun _ _ _ h => h) (Or.inl ⟨by rfl, ?_⟩) (by assumption) ?_
      rotate_left
      · (intro w hSw; (try dsimp only at hSw); go_simp; try with_reducible rfl)
      try simp only [Act.put, List.setIfInBounds_toArray, List.set_cons_zero, List.set_cons_succ]
      refine wpAnyH_take (i := 8) (oi := { dst := some 37, op := Go.Op.load 43 (Go.Operand.tmp 36), type := 43, pos := "law.go:34", after := #[{ on := 7, ground := Go.Ground.data }], guard := none }) (v := ?_) rfl (by kernel_rfl) (by kernel_rfl) (by kernel_rfl) (fun _ _ _ h => h) (Or.inl ⟨by rfl, ?_⟩) (by assumption) ?_
      rotate_left
      · (intro w hSw; (try dsimp only at hSw); go_simp; try with_reducible rfl)
      try simp only [Act.put, List.setIfInBounds_toArray, List.set_cons_zero, List.set_cons_succ]
      refine wpAnyH_take (i := 9) (oi := { dst := some 38, op := Go.Op.fieldAddr 125 (Go.Operand.tmp 5) 2, type := 0, pos := "law.go:34", after := #[], guard := none }) (v := ?_) rfl (by kernel_rfl) (by kernel_rfl) (by kernel_rfl) (fun _ _ _ h => h) (Or.inl ⟨by rfl, ?_⟩) (by assumption) ?_
      rotate_left
      · (intro w hSw; (try dsimp only at hSw); go_simp; try with_reducible rfl)
      try simp only [Act.put, List.setIfInBounds_toArray, List.set_cons_zero, List.set_cons_succ]
      refine wpAnyH_take (i := 10) (oi := { dst := some 39, op := Go.Op.load 3 (Go.Operand.tmp 38), type := 3, pos := "law.go:34", after := #[{ on := 9, ground := Go.Ground.data }], guard := none }) (v := ?_) rfl (by kernel_rfl) (by kernel_rfl) (by kernel_rfl) (fun _ _ _ h => h) (Or.inl ⟨by rfl, ?_⟩) (by assumption) ?_
      rotate_left
      · (intro w hSw; (try dsimp only at hSw); go_simp; try with_reducible rfl)
      try simp only [Act.put, List.setIfInBounds_toArray, List.set_cons_zero, List.set_cons_succ]
      refine wpAnyH_take (i := 11) (oi := { dst := some 40, op := Go.Op.fieldAddr 125 (Go.Operand.tmp 5) 3, type := 0, pos := "law.go:34", after := #[], guard := none }) (v := ?_) rfl (by kernel_rfl) (by kernel_rfl) (by kernel_rfl) (fun _ _ _ h => h) (Or.inl ⟨by rfl, ?_⟩) (by assumption) ?_
      rotate_left
      · (intro w hSw; (try dsimp only at hSw); go_simp; try with_reducible rfl)
      try simp only [Act.put, List.setIfInBounds_toArray, List.set_cons_zero, List.set_cons_succ]
      refine wpAnyH_take (i := 12) (oi := { dst := some 41, op := Go.Op.load 3 (Go.Operand.tmp 40), type := 3, pos := "law.go:34", after := #[{ on := 11, ground := Go.Ground.data }], guard := none }) (v := ?_) rfl (by kernel_rfl) (by kernel_rfl) (by kernel_rfl) (fun _ _ _ h => h) (Or.inl ⟨by rfl, ?_⟩) (by assumption) ?_
      rotate_left
      · (intro w hSw; (try dsimp only at hSw); go_simp; try with_reducible rfl)
      try simp only [Act.put, List.setIfInBounds_toArray, List.set_cons_zero, List.set_cons_succ]
      refine wpAnyH_take (i := 13) (oi := { dst := some 42, op := Go.Op.build 134 #[(0, Go.Operand.tmp 35), (1, Go.Operand.tmp 37), (2, Go.Operand.tmp 39), (3, Go.Operand.tmp 41)], type := 134, pos := "law.go:34", after := #[{ on := 6, ground := Go.Ground.data }, { on := 8, ground := Go.Ground.data }, { on := 10, ground := Go.Ground.data }, { on := 12, ground := Go.Ground.data }], guard := none }) (v := ?_) rfl (by kernel_rfl) (by kernel_rfl) (by kernel_rfl) (fun _ _ _ h => h) (Or.inl ⟨by rfl, ?_⟩) (by assumption) ?_
      rotate_left
      · (intro w hSw; (try dsimp only at hSw); go_simp; try with_reducible rfl)
      try simp only [Act.put, List.setIfInBounds_toArray, List.set_cons_zero, List.set_cons_succ]
      refine wpAnyH_ready (rs := [4, 14]) (by kernel_rfl) (by simp) ?_
      refine AllReadyH.cons (o := { dst := some 33, op := Go.Op.load 131 (Go.Operand.tmp 32), type := 131, pos := "law.go:34", after := #[{ on := 3, ground := Go.Ground.data }], guard := none }) rfl (fun K hK => ?_) (AllReadyH.cons (o := { dst := some 43, op := Go.Op.buildSlice 131 1 #[(0, Go.Operand.tmp 42)], type := 131, pos := "law.go:34", after := #[{ on := 13, ground := Go.Ground.data }], guard := none }) rfl (fun K hK => ?_) AllReadyH.nil)
      · skip
        go_simp
        refine hK.out _ _ (by exact H4) (fun hHeld => ?_)
        clear hK K
        try simp only [Act.put, List.setIfInBounds_toArray, List.set_cons_zero, List.set_cons_succ]
        refine wpAnyH_ready (rs := [14]) (by kernel_rfl) (by simp) ?_
        refine AllReadyH.cons (o := { dst := some 43, op := Go.Op.buildSlice 131 1 #[(0, Go.Operand.tmp 42)], type := 131, pos := "law.go:34", after := #[{ on := 13, ground := Go.Ground.data }], guard := none }) rfl (fun K hK => ?_) AllReadyH.nil
        go_simp
        refine hK.out _ _ (by exact (qB.out _)) (fun hHeld => ?_)
        clear hK K
        try simp only [Act.put, List.setIfInBounds_toArray, List.set_cons_zero, List.set_cons_succ]
        refine wpAnyH_ready (rs := [15]) (by kernel_rfl) (by simp) ?_
        refine AllReadyH.cons (o := { dst := some 44, op := Go.Op.call { callee := Go.Callee.builtin Go.Builtin.append, args := #[Go.Operand.tmp 33, Go.Operand.tmp 43], argTypes := #[131, 131] }, type := 131, pos := "law.go:34", after := #[{ on := 4, ground := Go.Ground.data }, { on := 14, ground := Go.Ground.data }], guard := none }) rfl (fun K hK => ?_) AllReadyH.nil
        refine step_append_lies _ rfl (.tmp 33) (.tmp 43) 131 rfl (w.heap.size + 2) 134 i0 _ 4 64 Tryz.underlying131 hi hz0 hz1 hz2 rfl (by decide) v k (cc (xs.take k)) (by simp [Act.eval]) (by exact OA.out) ⟨wA.heap.size, 0, none⟩ 1 1 [.slice A1 n1 k1, .slice A2 n2 k2, .int .i64 xs4, .int .i64 xh] (by simp [Act.eval]) rfl (by exact NA.out) ONE.out (by decide) (by unfold maxLen; omega) (by omega) (by simp; omega) _ rfl ?_
        intro gn cap wC OC gC0 lC hC
        have gC : (wA.alloc (.cells #[.slice A1 n1 k1, .slice A2 n2 k2, .int .i64 xs4, .int .i64 xh] 134)).grownBy wC v.ownBlock := ⟨gC0.os, gC0.tape, gC0.output, gC0.size, gC0.block⟩
        have zB := ((Below.refl wA.heap.size wA).alloc (Nat.le_refl _) (.cells #[.slice A1 n1 k1, .slice A2 n2 k2, .int .i64 xs4, .int .i64 xh] 134)).block (w.heap.size + 1) (by omega)
        rw [HZ2.out] at zB
        have zC := Lib.hid ((gC.block (w.heap.size + 1) (by simp; omega) (fun e => by have := (HOW.out.lt _ e.symm).1; omega)).trans zB)
        have cC := cell_of_row wC (w.heap.size + 1) 0 _ _ (0, 0) zC.out
        simp at cC
        have fC := frozen_of_row wC (w.heap.size + 1) 0 _ _ zC.out
        have qC := KC.out gC
        refine hK.out _ _ (by exact qC) (fun hHeld => ?_)
        clear hK K
        try simp only [Act.put, List.setIfInBounds_toArray, List.set_cons_zero, List.set_cons_succ]
        refine wpAnyH_take (i := 16) (oi := { dst := some 45, op := Go.Op.nilCheck (Go.Operand.tmp 29), type := 0, pos := "law.go:34", after := #[{ on := 0, ground := Go.Ground.data }, { on := 0, ground := Go.Ground.phase }, { on := 1, ground := Go.Ground.phase }, { on := 2, ground := Go.Ground.phase }, { on := 3, ground := Go.Ground.phase }, { on := 4, ground := Go.Ground.phase }, { on := 5, ground := Go.Ground.phase }, { on := 6, ground := Go.Ground.phase }, { on := 7, ground := Go.Ground.phase }, { on := 8, ground := Go.Ground.phase }, { on := 9, ground := Go.Ground.phase }, { on := 10, ground := Go.Ground.phase }, { on := 11, ground := Go.Ground.phase }, { on := 12, ground := Go.Ground.phase }, { on := 13, ground := Go.Ground.phase }, { on := 14, ground := Go.Ground.phase }, { on := 15, ground := Go.Ground.phase }], guard := none }) (v := ?_) rfl (by kernel_rfl) (by kernel_rfl) (by kernel_rfl) (fun _ _ _ h => h) (Or.inl ⟨by rfl, ?_⟩) (by assumption) ?_
        rotate_left
        · (intro w hSw; (try dsimp only at hSw); go_simp; try with_reducible rfl)
        try simp only [Act.put, List.setIfInBounds_toArray, List.set_cons_zero, List.set_cons_succ]
        refine wpAnyH_take (i := 17) (oi := { dst := some 46, op := Go.Op.fieldAddr 133 (Go.Operand.tmp 45) 0, type := 0, pos := "law.go:34", after := #[{ on := 16, ground := Go.Ground.data }, { on := 0, ground := Go.Ground.phase }, { on := 1, ground := Go.Ground.phase }, { on := 2, ground := Go.Ground.phase }, { on := 3, ground := Go.Ground.phase }, { on := 4, ground := Go.Ground.phase }, { on := 5, ground := Go.Ground.phase }, { on := 6, ground := Go.Ground.phase }, { on := 7, ground := Go.Ground.phase }, { on := 8, ground := Go.Ground.phase }, { on := 9, ground := Go.Ground.phase }, { on := 10, ground := Go.Ground.phase }, { on := 11, ground := Go.Ground.phase }, { on := 12, ground := Go.Ground.phase }, { on := 13, ground := Go.Ground.phase }, { on := 14, ground := Go.Ground.phase }, { on := 15, ground := Go.Ground.phase }], guard := none }) (v := ?_) rfl (by kernel_rfl) (by kernel_rfl) (by kernel_rfl) (fun _ _ _ h => h) (Or.inl ⟨by rfl, ?_⟩) (by assumption) ?_
        rotate_left
        · (intro w hSw; (try dsimp only at hSw); go_simp; try with_reducible rfl)
        try simp only [Act.put, List.setIfInBounds_toArray, List.set_cons_zero, List.set_cons_succ]
        refine wpAnyH_ready (rs := [18]) (by kernel_rfl) (by simp) ?_
        refine AllReadyH.cons (o := { dst := none, op := Go.Op.store 131 (Go.Operand.tmp 46) (Go.Operand.tmp 44), type := 0, pos := "law.go:34", after := #[{ on := 17, ground := Go.Ground.data }, { on := 15, ground := Go.Ground.data }, { on := 15, ground := Go.Ground.chain }, { on := 0, ground := Go.Ground.phase }, { on := 1, ground := Go.Ground.phase }, { on := 2, ground := Go.Ground.phase }, { on := 3, ground := Go.Ground.phase }, { on := 4, ground := Go.Ground.phase }, { on := 5, ground := Go.Ground.phase }, { on := 6, ground := Go.Ground.phase }, { on := 7, ground := Go.Ground.phase }, { on := 8, ground := Go.Ground.phase }, { on := 9, ground := Go.Ground.phase }, { on := 10, ground := Go.Ground.phase }, { on := 11, ground := Go.Ground.phase }, { on := 12, ground := Go.Ground.phase }, { on := 13, ground := Go.Ground.phase }, { on := 14, ground := Go.Ground.phase }, { on := 15, ground := Go.Ground.phase }], guard := none }) rfl (fun K hK => ?_) AllReadyH.nil
        go_simp
        refine hK.out _ _ (by exact (KS.out _ _ qC)) (fun hHeld => ?_)
        clear hK K
        try simp only [Act.put, List.setIfInBounds_toArray, List.set_cons_zero, List.set_cons_succ]
        refine wpAnyH_done (by kernel_rfl) ?_ _
        refine NoPanic.normal ?_
        have ST := Lib.hid (of_step HZ1.out HOW.out HBE.out (by omega) OC gC zC.out)
        clear OC gC gC0 lC hC zB zC cC fC qC
        go_wp2
        go_roundw
        case rel =>
          obtain ⟨t1, t2, t3, t4, t5⟩ := ST.out
          exact ⟨k + 1, _, by omega, by go_num, t1, t2, by rw [HTK.out]; exact t3, t4, t5⟩
        case measure => simp [intOf]; omega
      · skip
        go_simp
        refine hK.out _ _ (by exact (qB.out _)) (fun hHeld => ?_)
        clear hK K
        try simp only [Act.put, List.setIfInBounds_toArray, List.set_cons_zero, List.set_cons_succ]
        refine wpAnyH_ready (rs := [4]) (by kernel_rfl) (by simp) ?_
        refine AllReadyH.cons (o := { dst := some 33, op := Go.Op.load 131 (Go.Operand.tmp 32), type := 131, pos := "law.go:34", after := #[{ on := 3, ground := Go.Ground.data }], guard := none }) rfl (fun K hK => ?_) AllReadyH.nil
        go_simp
        refine hK.out _ _ (by exact (qB.out _)) (fun hHeld => ?_)
        clear hK K
        try simp only [Act.put, List.setIfInBounds_toArray, List.set_cons_zero, List.set_cons_succ]
        refine wpAnyH_ready (rs := [15]) (by kernel_rfl) (by simp) ?_
        refine AllReadyH.cons (o := { dst := some 44, op := Go.Op.call { callee := Go.Callee.builtin Go.Builtin.append, args := #[Go.Operand.tmp 33, Go.Operand.tmp 43], argTypes := #[131, 131] }, type := 131, pos := "law.go:34", after := #[{ on := 4, ground := Go.Ground.data }, { on := 14, ground := Go.Ground.data }], guard := none }) rfl (fun K hK => ?_) AllReadyH.nil
        refine step_append_lies _ rfl (.tmp 33) (.tmp 43) 131 rfl (w.heap.size + 2) 134 i0 _ 4 64 Tryz.underlying131 hi hz0 hz1 hz2 rfl (by decide) v k (cc (xs.take k)) (by simp [Act.eval]) (by exact OA.out) ⟨wA.heap.size, 0, none⟩ 1 1 [.slice A1 n1 k1, .slice A2 n2 k2, .int .i64 xs4, .int .i64 xh] (by simp [Act.eval]) rfl (by exact NA.out) ONE.out (by decide) (by unfold maxLen; omega) (by omega) (by simp; omega) _ rfl ?_
        intro gn cap wC OC gC0 lC hC
        have gC : (wA.alloc (.cells #[.slice A1 n1 k1, .slice A2 n2 k2, .int .i64 xs4, .int .i64 xh] 134)).grownBy wC v.ownBlock := ⟨gC0.os, gC0.tape, gC0.output, gC0.size, gC0.block⟩
        have zB := ((Below.refl wA.heap.size wA).alloc (Nat.le_refl _) (.cells #[.slice A1 n1 k1, .slice A2 n2 k2, .int .i64 xs4, .int .i64 xh] 134)).block (w.heap.size + 1) (by omega)
        rw [HZ2.out] at zB
        have zC := Lib.hid ((gC.block (w.heap.size + 1) (by simp; omega) (fun e => by have := (HOW.out.lt _ e.symm).1; omega)).trans zB)
        have cC := cell_of_row wC (w.heap.size + 1) 0 _ _ (0, 0) zC.out
        simp at cC
        have fC := frozen_of_row wC (w.heap.size + 1) 0 _ _ zC.out
        have qC := KC.out gC
        refine hK.out _ _ (by exact qC) (fun hHeld => ?_)
        clear hK K
        try simp only [Act.put, List.setIfInBounds_toArray, List.set_cons_zero, List.set_cons_succ]
        refine wpAnyH_take (i := 16) (oi := { dst := some 45, op := Go.Op.nilCheck (Go.Operand.tmp 29), type := 0, pos := "law.go:34", after := #[{ on := 0, ground := Go.Ground.data }, { on := 0, ground := Go.Ground.phase }, { on := 1, ground := Go.Ground.phase }, { on := 2, ground := Go.Ground.phase }, { on := 3, ground := Go.Ground.phase }, { on := 4, ground := Go.Ground.phase }, { on := 5, ground := Go.Ground.phase }, { on := 6, ground := Go.Ground.phase }, { on := 7, ground := Go.Ground.phase }, { on := 8, ground := Go.Ground.phase }, { on := 9, ground := Go.Ground.phase }, { on := 10, ground := Go.Ground.phase }, { on := 11, ground := Go.Ground.phase }, { on := 12, ground := Go.Ground.phase }, { on := 13, ground := Go.Ground.phase }, { on := 14, ground := Go.Ground.phase }, { on := 15, ground := Go.Ground.phase }], guard := none }) (v := ?_) rfl (by kernel_rfl) (by kernel_rfl) (by kernel_rfl) (fun _ _ _ h => h) (Or.inl ⟨by rfl, ?_⟩) (by assumption) ?_
        rotate_left
        · (intro w hSw; (try dsimp only at hSw); go_simp; try with_reducible rfl)
        try simp only [Act.put, List.setIfInBounds_toArray, List.set_cons_zero, List.set_cons_succ]
        refine wpAnyH_take (i := 17) (oi := { dst := some 46, op := Go.Op.fieldAddr 133 (Go.Operand.tmp 45) 0, type := 0, pos := "law.go:34", after := #[{ on := 16, ground := Go.Ground.data }, { on := 0, ground := Go.Ground.phase }, { on := 1, ground := Go.Ground.phase }, { on := 2, ground := Go.Ground.phase }, { on := 3, ground := Go.Ground.phase }, { on := 4, ground := Go.Ground.phase }, { on := 5, ground := Go.Ground.phase }, { on := 6, ground := Go.Ground.phase }, { on := 7, ground := Go.Ground.phase }, { on := 8, ground := Go.Ground.phase }, { on := 9, ground := Go.Ground.phase }, { on := 10, ground := Go.Ground.phase }, { on := 11, ground := Go.Ground.phase }, { on := 12, ground := Go.Ground.phase }, { on := 13, ground := Go.Ground.phase }, { on := 14, ground := Go.Ground.phase }, { on := 15, ground := Go.Ground.phase }], guard := none }) (v := ?_) rfl (by kernel_rfl) (by kernel_rfl) (by kernel_rfl) (fun _ _ _ h => h) (Or.inl ⟨by rfl, ?_⟩) (by assumption) ?_
        rotate_left
        · (intro w hSw; (try dsimp only at hSw); go_simp; try with_reducible rfl)
        try simp only [Act.put, List.setIfInBounds_toArray, List.set_cons_zero, List.set_cons_succ]
        refine wpAnyH_ready (rs := [18]) (by kernel_rfl) (by simp) ?_
        refine AllReadyH.cons (o := { dst := none, op := Go.Op.store 131 (Go.Operand.tmp 46) (Go.Operand.tmp 44), type := 0, pos := "law.go:34", after := #[{ on := 17, ground := Go.Ground.data }, { on := 15, ground := Go.Ground.data }, { on := 15, ground := Go.Ground.chain }, { on := 0, ground := Go.Ground.phase }, { on := 1, ground := Go.Ground.phase }, { on := 2, ground := Go.Ground.phase }, { on := 3, ground := Go.Ground.phase }, { on := 4, ground := Go.Ground.phase }, { on := 5, ground := Go.Ground.phase }, { on := 6, ground := Go.Ground.phase }, { on := 7, ground := Go.Ground.phase }, { on := 8, ground := Go.Ground.phase }, { on := 9, ground := Go.Ground.phase }, { on := 10, ground := Go.Ground.phase }, { on := 11, ground := Go.Ground.phase }, { on := 12, ground := Go.Ground.phase }, { on := 13, ground := Go.Ground.phase }, { on := 14, ground := Go.Ground.phase }, { on := 15, ground := Go.Ground.phase }], guard := none }) rfl (fun K hK => ?_) AllReadyH.nil
        go_simp
        refine hK.out _ _ (by exact (KS.out _ _ qC)) (fun hHeld => ?_)
        clear hK K
        try simp only [Act.put, List.setIfInBounds_toArray, List.set_cons_zero, List.set_cons_succ]
        refine wpAnyH_done (by kernel_rfl) ?_ _
        refine NoPanic.normal ?_
        have ST := Lib.hid (of_step HZ1.out HOW.out HBE.out (by omega) OC gC zC.out)
        clear OC gC gC0 lC hC zB zC cC fC qC
        go_wp2
        go_roundw
        case rel =>
          obtain ⟨t1, t2, t3, t4, t5⟩ := ST.out
          exact ⟨k + 1, _, by omega, by go_num, t1, t2, by rw [HTK.out]; exact t3, t4, t5⟩
        case measure => simp [intOf]; omega
    · obtain rfl : k = cn := by omega
      have HT : Hid (LeafAt wr (w.heap.size + 1) cs) := by
        show LeafAt _ _ _
        rw [List.take_of_length_le (by rw [HX.out]; exact Nat.le_refl _)] at hown
        obtain ⟨A, c, rfl, hrw⟩ := Rw.of_own (by omega) hown
        have c0 := cell_of_row wr (w.heap.size + 1) 0 _ _ (0, 0) z2
        exact ⟨by omega, A, _, c, by simpa using c0, xs, hrw, HAL.out.mono fun x y h => h.on hbel⟩
      clear z1 z2 hown
      go_wp2
      go_ret
      exact ⟨⟨_, rfl, HT.out⟩, hbel⟩
end Go.Proofs.YtmcldkcmialfeaaGreat.Nn
