/-
  The program's reader: the leaf behind its mark.
-/
import Derived.Test.YtmcldkcmialfeaaGreatNdRCell
import Derived.Test.YtmcldkcmialfeaaGreatNdLeaf
namespace Go.Proofs.YtmcldkcmialfeaaGreat.Nn
open Go.RowKit
set_option linter.unusedVariables false

theorem infoC : (Tryz.prog.info? 134).map (fun i => (i.zero, i.size, i.bytes)) = some (some (.agg #[.slice none 0 0, .slice none 0 0, .int .i64 0, .int .i64 0]), 4, 64) := by kernel_rfl
theorem info_three {P : Program} {t : TypeId} {z : Value} {s b : Nat} (h : (P.info? t).map (fun i => (i.zero, i.size, i.bytes)) = some (some z, s, b)) : ∃ i, P.info? t = some i ∧ i.zero = some z ∧ i.size = s ∧ i.bytes = b := by
  cases hi : P.info? t with
  | none => rw [hi] at h; cases h
  | some i =>
    rw [hi] at h
    simp only [Option.map_some, Option.some.injEq, Prod.mk.injEq] at h
    exact ⟨i, rfl, h.1, h.2.1, h.2.2⟩
/-- Where memory may change below: at g, and from B on. -/
def Tt (g B : Nat) : Nat → Prop := fun k => k = g ∨ B ≤ k
theorem off_t {g B : Nat} {a b : World} (h : Off (At1 g) a b) : Off (Tt g B) a b := h.mono fun k hk => .inl (.inl hk)
theorem off_b {g B : Nat} {a b : World} (h : Off (fun k => B ≤ k) a b) : Off (Tt g B) a b := h.mono fun k hk => .inl (.inr hk)
theorem off_back {g : Nat} {a b : World} (h : Off (Tt g a.heap.size) a b) : Off (At1 g) a b := h.mono fun k hk => hk
theorem off_grown {B : Nat} {a b : World} {v : Value} (h : a.grownBy b v.ownBlock) (hv : ∀ k, v.ownBlock = some k → B ≤ k) : Off (fun k => B ≤ k) a b := Off.of_grown h hv
/-- A cell whose parts lie in D. -/
def CRD (D : Nat) (w : World) (x : CV) (c : Nd.Cell) : Prop := CR w x c ∧ InD D x.k ∧ InD D x.i
theorem CRD.off {S : Nat → Prop} {w w' : World} {D : Nat} {x : CV} {c : Nd.Cell} (h : CRD D w x c) (ho : Off S w w') (hD : ¬ S D) : CRD D w' x c :=
  ⟨h.1.off ho (fun k hk => by rw [h.2.1 k hk]; exact hD) (fun k hk => by rw [h.2.2 k hk]; exact hD), h.2⟩
theorem pcells_step {j : Nat} {r : List Nat} (h : r.length ≠ 0) : Nd.pcells (j + 1) r = (Nd.pcell r).1 :: Nd.pcells j (Nd.pcell r).2 := by rw [Nd.pcells, if_neg h]
theorem pcells_end {j : Nat} {r : List Nat} (h : j = 0 ∨ r.length = 0) : Nd.pcells j r = [] := by
  cases j with
  | zero => rfl
  | succ j => rw [Nd.pcells, if_pos (by omega)]

/-- A row that was just written down. -/
theorem news_lit (w : World) (cs : Array Value) (t : TypeId) : ∀ (j : Nat) (u : Value), cs.toList[j]? = some u → (w.alloc (.cells cs t)).cell? ((⟨w.heap.size, 0, none⟩ : Addr).add j) = some u := by
  intro j u hu
  have e : (⟨w.heap.size, 0, none⟩ : Addr).add j = ⟨w.heap.size, j, none⟩ := by
    by_cases hj : j = 0
    · subst hj; simp [Addr.add]
    · simp [Addr.add, hj]
  rw [e, cell_of_row _ w.heap.size j _ _ (0, 0) (heap_alloc_new w _)]
  simpa using hu

theorem off_undrew {S : Nat → Prop} {w w' : World} {m : Nat} (h : Off S (w.drewN m) w') : Off S w w' := ⟨h.os, h.tape, h.output, h.size, h.block⟩
/-- One cell more. -/
theorem leaf_step {w wr wA wC : World} {g D m : Nat} {v : Value} {acc : List Nd.Cell} {xs : List CV} {x : CV} {c : Nd.Cell} {rr : List Nat} {gn cap : Nat} (hg : g < w.heap.size) (hd : D < w.heap.size) (hne : D ≠ g)
    (hof : Off (Tt g w.heap.size) w wr) (hsz : w.heap.size + 1 ≤ wr.heap.size) (hown : wr.ownsRow (w.heap.size + 1) 134 4 v acc.length (cc xs)) (hal : Along (CRD D wr) xs acc)
    (ofA : Off (At1 g) (wr.drewN m) wA) (crA : CRD D wA x c) (rdA : Rd wA g D rr)
    (OC : wC.ownsRow (w.heap.size + 1) 134 4 (.slice (some ⟨gn, 0, none⟩) (acc.length + 1) cap) (acc.length + 1) (cc xs ++ x.vs))
    (gC : (wA.alloc (.cells x.vs.toArray 134)).grownBy wC v.ownBlock) (zC : wC.heap[w.heap.size]? = some (.cells #[v] 133 (0, 0))) :
    Rd (wC.setCell ⟨w.heap.size, 0, none⟩ (.slice (some ⟨gn, 0, none⟩) (acc.length + 1) cap)) g D rr ∧
    (wC.setCell ⟨w.heap.size, 0, none⟩ (.slice (some ⟨gn, 0, none⟩) (acc.length + 1) cap)).heap[w.heap.size]? = some (.cells #[.slice (some ⟨gn, 0, none⟩) (acc.length + 1) cap] 133 (0, 0)) ∧
    (wC.setCell ⟨w.heap.size, 0, none⟩ (.slice (some ⟨gn, 0, none⟩) (acc.length + 1) cap)).ownsRow (w.heap.size + 1) 134 4 (.slice (some ⟨gn, 0, none⟩) (acc.length + 1) cap) (acc ++ [c]).length (cc (xs ++ [x])) ∧
    Along (CRD D (wC.setCell ⟨w.heap.size, 0, none⟩ (.slice (some ⟨gn, 0, none⟩) (acc.length + 1) cap))) (xs ++ [x]) (acc ++ [c]) ∧
    Off (Tt g w.heap.size) w (wC.setCell ⟨w.heap.size, 0, none⟩ (.slice (some ⟨gn, 0, none⟩) (acc.length + 1) cap)) ∧
    w.heap.size + 1 ≤ (wC.setCell ⟨w.heap.size, 0, none⟩ (.slice (some ⟨gn, 0, none⟩) (acc.length + 1) cap)).heap.size := by
  have hDT : ¬ Tt g w.heap.size D := by unfold Tt; omega
  have ofr : Off (At1 g) wr wA := off_undrew ofA
  obtain ⟨q1, q2⟩ := set1 zC (.slice (some ⟨gn, 0, none⟩) (acc.length + 1) cap)
  have oAC : Off (fun k => w.heap.size ≤ k) wA wC := ((Off.refl _ wA).alloc _).trans (off_grown gC fun k hk => by have := (hown.lt k hk).1; omega)
  have oAD : Off (fun k => w.heap.size ≤ k) wA (wC.setCell ⟨w.heap.size, 0, none⟩ (.slice (some ⟨gn, 0, none⟩) (acc.length + 1) cap)) := oAC.trans (q2.mono fun k hk => .inl (Nat.le_of_eq (Eq.symm hk)))
  have oRD : Off (Tt g w.heap.size) wr (wC.setCell ⟨w.heap.size, 0, none⟩ (.slice (some ⟨gn, 0, none⟩) (acc.length + 1) cap)) := (off_t ofr).trans (off_b oAD)
  have hgn := (OC.lt gn rfl).1
  refine ⟨rdA.off oAD (by omega) (by omega), q1, ?_, (hal.mono fun x y h => h.off oRD hDT).snoc (crA.off oAD (by omega)), hof.trans oRD, Nat.le_trans hsz oRD.size⟩
  rw [cc_app, cc_one, List.length_append]
  exact q2.own OC fun k hk e => by
    have hk' : gn = k := by simpa [Value.ownBlock] using hk
    have : k = w.heap.size := e
    omega

set_option maxRecDepth 100000 in
set_option maxHeartbeats 2000000 in
theorem rleaf_any (w : World) (g D : Nat) (r : List Nat) (h : Rd w g D r) (hr9 : r.length ≤ 1016) :
    Calls Tryz.prog 126 #[.pointer (some ⟨g, 0, none⟩)] w fun e w' => (∃ q, e = .returned (.pointer (some ⟨q, 0, none⟩)) ∧ ∀ B, B ≤ D → B ≤ w.heap.size → LeafOver B w' q (Nd.pcells (Nd.nb 2 r).1 (Nd.nb 2 r).2)) ∧ Off (At1 g) w w' := by
  obtain ⟨i0, hi, hz0, hz1, hz2⟩ := info_three infoC
  have hg := h.lt
  have hd := h.dlt
  have hne := h.ne
  have hDT : ¬ Tt g w.heap.size D := by unfold Tt; omega
  have hgB : ¬ w.heap.size ≤ g := by omega
  have hDB : ¬ w.heap.size ≤ D := by omega
  have Z := heap_alloc_new w (.cells #[.slice none 0 0] 133)
  have B0 : Below w.heap.size w (w.alloc (.cells #[.slice none 0 0] 133)) := (Below.refl _ _).alloc (Nat.le_refl _) _
  have C1 := Lib.hid (number_any _ g D r (h.on B0) 2 (.inr (.inl rfl)))
  have s0 : (w.alloc (.cells #[.slice none 0 0] 133)).heap.size = w.heap.size + 1 := by simp
  have HZ := Lib.hid Z
  have HB0 := Lib.hid B0
  have hlen := (Nd.tk_len 2 r).2.2
  have e2 : (Nd.nb 2 r).2 = (Nd.tk 2 r).2 := rfl
  rw [← e2] at hlen
  clear e2
  have hnlt := (Nd.nb_lt (k := 2) h.bytes).1
  rw [Nd.p2] at hnlt
  clear Z B0 h
  go_enter Tryz.func126, Tryz.ntmps126
  go_wp2_with fail
  generalize w.alloc (.cells #[.slice none 0 0] 133) = w0 at *
  refine C1.out.mono ?_
  rintro e w1 ⟨rfl, rd1, of1⟩
  have Z1 := of1.at_ HZ.out (show ¬ At1 g w.heap.size from fun e => by have : w.heap.size = g := e; omega)
  have O1 : Off (Tt g w.heap.size) w w1 := (Off.of_below HB0.out).trans (off_t of1)
  have hl1 := of1.size
  generalize hn0 : (Nd.nb 2 r).1 = n0 at *
  generalize hr0' : (Nd.nb 2 r).2 = r0 at *
  have HN0 := Lib.hid hn0
  have HR0 := Lib.hid hr0'
  clear of1 C1 HZ HB0 hn0 hr0'
  go_wp2
  go_loopw [4] (fun left wr => ∃ (j : Nat) (rr : List Nat) (acc : List Nd.Cell) (xs : List CV) (v : Value), left = .int .i64 (j : Int) ∧ j ≤ n0 ∧ acc.length + rr.length ≤ 1016 ∧ Rd wr g D rr ∧ wr.heap[w.heap.size]? = some (.cells #[v] 133 (0, 0)) ∧ wr.ownsRow (w.heap.size + 1) 134 4 v acc.length (cc xs) ∧ Along (CRD D wr) xs acc ∧ Off (Tt g w.heap.size) w wr ∧ Hid (acc ++ Nd.pcells j rr = Nd.pcells n0 r0) ∧ w.heap.size + 1 ≤ wr.heap.size) (fun left _ => (intOf left).toNat)
  case atStart => exact ⟨n0, r0, [], [], _, rfl, Nat.le_refl _, by simp; omega, rd1, Z1, World.ownsRow_nil _ _ _ _, Along.nil_, O1, rfl, by omega⟩
  case round =>
    clear rd1 Z1 O1
    obtain ⟨j, rr, acc, xs, v, rfl, hj, hacc, rd, zg, hown, hal, hof, HA, hsz⟩ := hrel
    have CE := Lib.hid (ended_any wr g D rr rd)
    by_cases hgo : 0 < j ∧ rr.length ≠ 0
    · obtain ⟨hj0, hr0⟩ := hgo
      obtain ⟨j, rfl⟩ : ∃ j', j = j' + 1 := ⟨j - 1, by omega⟩
      have dj : decide (((j + 1 : Nat) : Int) > 0) = true := by simp
      have CC := Lib.hid (fun m => rcell_any (wr.drewN m) g D rr (rd.on (below_drewN (Below.refl _ _) m)))
      have c0 := cell_of_row wr w.heap.size 0 _ _ (0, 0) zg
      simp at c0
      have hpl := (Nd.pcell_len rr).2
      have HS := Lib.hid (pcells_step (j := j) hr0)
      have HZ := Lib.hid zg
      have HOW := Lib.hid hown
      have HAL := Lib.hid hal
      have HOF := Lib.hid hof
      clear rd zg hown hal hof
      rw [decide_eq_false hr0] at CE
      go_wp2_with fail
      refine CE.out.mono ?_
      rintro e wq ⟨rfl, rfl⟩
      go_wp2_with fail
      go_region_law (first
        | (go_simp; go_at_call 142; refine (CC.out _).mono ?_; rintro e wA ⟨⟨xk, xi, xs4, xh⟩, rfl, crA, inkA, iniA, rdA, ofA⟩; have zA := Lib.hid (ofA.at_ HZ.out (show ¬ At1 g w.heap.size from fun e => by have : w.heap.size = g := e; omega)); have cA := cell_of_row wA w.heap.size 0 _ _ (0, 0) zA.out; simp at cA; unfold CV.v; simp only; have NA := Lib.hid (news_lit wA #[xk, xi, .int .i64 xs4, .int .i64 xh] 134); have hlA := ofA.size; simp at hlA; have cB := ((Below.refl wA.heap.size wA).alloc (Nat.le_refl _) (.cells #[xk, xi, .int .i64 xs4, .int .i64 xh] 134)).cell (p := ⟨w.heap.size, 0, none⟩) (cell_lt cA); rw [cA] at cB; have OA := Lib.hid ((ofA.own HOW.out (fun k hk e => by have : k = g := e; have := (HOW.out.lt k hk).1; omega)).alloc (.cells #[xk, xi, .int .i64 xs4, .int .i64 xh] 134)); have ONE := Lib.hid crA.one; have CRA := Lib.hid (And.intro crA (And.intro inkA iniA)); have RDA := Lib.hid rdA; have OFA := Lib.hid ofA; clear crA inkA iniA rdA ofA)
        | (refine step_append_lies _ rfl (.tmp 22) (.tmp 25) 131 rfl (w.heap.size + 1) 134 i0 _ 4 64 Tryz.underlying131 hi hz0 hz1 hz2 rfl (by decide) v acc.length (cc xs) (by simp [Act.eval]) OA.out ⟨wA.heap.size, 0, none⟩ 1 1 [xk, xi, .int .i64 xs4, .int .i64 xh] (by simp [Act.eval]) rfl NA.out ONE.out (by decide) (by unfold maxLen; omega) (by omega) (by simp; omega) _ rfl ?_; intro gn cap wC OC gC lC hC; have zB := ((Below.refl wA.heap.size wA).alloc (Nat.le_refl _) (.cells #[xk, xi, .int .i64 xs4, .int .i64 xh] 134)).block w.heap.size (by omega); rw [zA.out] at zB; have zC := Lib.hid ((gC.block w.heap.size (by simp; omega) (fun e => by have := (HOW.out.lt _ e.symm).1; omega)).trans zB); have cC := cell_of_row wC w.heap.size 0 _ _ (0, 0) zC.out; simp at cC; have fC := frozen_of_row wC w.heap.size 0 _ _ zC.out))
      all_goals
        have ST := Lib.hid (leaf_step (x := ⟨xk, xi, xs4, xh⟩) hg hd hne HOF.out hsz HOW.out HAL.out OFA.out CRA.out RDA.out OC gC zC.out)
        clear OC gC lC hC zB zC cC fC OFA CRA RDA OA NA ONE cA cB zA
        go_wp2
        go_roundw
        case rel =>
          obtain ⟨t1, t2, t3, t4, t5, t6⟩ := ST.out
          exact ⟨j, (Nd.pcell rr).2, acc ++ [(Nd.pcell rr).1], xs ++ [⟨xk, xi, xs4, xh⟩], _, by go_num, by omega, by rw [List.length_append, List.length_singleton]; omega, t1, t2, t3, t4, t5, by show _ = _; rw [← HA.out, HS.out, List.append_assoc]; rfl, t6⟩
        case measure => simp [intOf]
    · have HE := Lib.hid (pcells_end (j := j) (r := rr) (by omega))
      have HL : Hid (∀ B, B ≤ D → B ≤ w.heap.size → LeafOver B wr w.heap.size (Nd.pcells n0 r0)) := by
        show ∀ B, B ≤ D → B ≤ w.heap.size → LeafOver B _ _ _
        intro B hB1 hB2 S w' ho hS
        have hown2 := ho.own hown (fun k hk hs => by have := (hown.lt k hk).1; have := hS k hs; omega)
        have zg2 := ho.at_ zg (fun hs => by have := hS _ hs; omega)
        have hal2 := hal.mono fun x y h => (CRD.off h ho (fun hs => by have := hS _ hs; omega)).1
        have hsz2 := ho.size
        have e := HA.out
        rw [HE.out, List.append_nil] at e
        rw [← e]
        obtain ⟨A, c, rfl, hrw⟩ := Rw.of_own (by omega) hown2
        have c0 := cell_of_row w' w.heap.size 0 _ _ (0, 0) zg2
        exact ⟨by omega, A, _, c, by simpa using c0, xs, hrw, hal2⟩
      have HOF := Lib.hid (off_back hof)
      clear rd zg hown hal hof HA HE
      by_cases hj0 : 0 < j
      · have dj : decide (((j : Nat) : Int) > 0) = true := by simp; omega
        rw [decide_eq_true (show rr.length = 0 by omega)] at CE
        go_wp2_with fail
        refine CE.out.mono ?_
        rintro e wq ⟨rfl, rfl⟩
        go_wp2
        go_ret
        exact ⟨⟨_, rfl, by rw [HN0.out, HR0.out]; exact HL.out⟩, HOF.out⟩
      · have dj : decide (((j : Nat) : Int) > 0) = false := by simp; omega
        go_wp2
        go_ret
        exact ⟨⟨_, rfl, by rw [HN0.out, HR0.out]; exact HL.out⟩, HOF.out⟩
end Go.Proofs.YtmcldkcmialfeaaGreat.Nn
