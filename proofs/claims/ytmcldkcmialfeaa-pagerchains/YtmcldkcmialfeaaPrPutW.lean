/-
  The program's pager: PutChain.
-/
import Derived.Test.YtmcldkcmialfeaaPrPutC
namespace Go.Proofs.Ytmcldkcmialfeaa.Pr
open Go.RowKit Go.Shelf
set_option linter.unusedVariables false
attribute [local go_sem] Oper.semAt_some

/-- A part of a value, as its slice reads. -/
theorem part_bs {W : World} {b off n c : Nat} {v : List Nat} (h : Bs W (some ⟨b, off, none⟩) n c v) (i : Pt n) : Bs W (some ⟨b, off + i.1 * 1010, none⟩) (endOf n i.1 - i.1 * 1010) (c - i.1 * 1010) (partAt v i.1) := by
  have hi := i.2
  have h1 := (h.cut_far (i.1 * 1010) hi).first (endOf n i.1 - i.1 * 1010) (by unfold endOf; omega)
  have e : (v.drop (i.1 * 1010)).take (endOf n i.1 - i.1 * 1010) = partAt v i.1 := by
    unfold partAt part endOf
    have hl := h.1
    by_cases hc : i.1 * 1010 + 1010 ≤ n
    · rw [show min n (i.1 * 1010 + 1010) - i.1 * 1010 = 1010 by omega]
    · rw [List.take_of_length_le (by rw [List.length_drop]; omega), List.take_of_length_le (by rw [List.length_drop]; omega)]
  rw [e] at h1
  exact h1
/-- As the loop begins. -/
theorem st_start (w : World) (G : Gh) (a : Pa) (sl : Value) (h : Pgr w G a) {W0 : World}
    (hW : ((((((w.alloc (.cells #[.pointer (some ⟨G.x, 0, none⟩)] 31)).alloc (.cells #[.int .i64 0] 3)).alloc (.cells #[.int .i64 0] 26)).alloc (.cells #[.int .i64 0] 3)).alloc (.cells #[.slice none 0 0] 37)).alloc (.cells #[sl] 22)) = W0) :
    St w G sl W0 a 0 0 0 (.slice none 0 0) ∧ W0.heap.size = w.heap.size + 6 ∧ Below w.heap.size w W0 := by
  subst hW
  have n : ∀ (W : World) (t : TypeId) (v : Value) (k : Nat), W.heap.size = k → Boxed (W.alloc (.cells #[v] t)) k t v := fun W t v k e => e ▸ Boxed.new W t v
  have B : Below w.heap.size w ((((((w.alloc (.cells #[.pointer (some ⟨G.x, 0, none⟩)] 31)).alloc (.cells #[.int .i64 0] 3)).alloc (.cells #[.int .i64 0] 26)).alloc (.cells #[.int .i64 0] 3)).alloc (.cells #[.slice none 0 0] 37)).alloc (.cells #[sl] 22)) := by
    refine Below.alloc (Below.alloc (Below.alloc (Below.alloc (Below.alloc (Below.alloc (Below.refl _ _) ?_ _) ?_ _) ?_ _) ?_ _) ?_ _) ?_ _ <;> simp <;> omega
  refine ⟨⟨fun k hk => h.lt hk, h.on B, Off.of_below B, ((((n w _ _ _ rfl).alloc _).alloc _).alloc _).alloc _ |>.alloc _, (((n _ _ _ _ (by simp)).alloc _).alloc _).alloc _ |>.alloc _, ((n _ _ _ _ (by simp)).alloc _).alloc _ |>.alloc _, (n _ _ _ _ (by simp)).alloc _ |>.alloc _, (n _ _ _ _ (by simp)).alloc _, n _ _ _ _ (by simp)⟩, by simp, B⟩
/-- The loop's two invariants. -/
def PutI (w : World) (G : Gh) (a : Pa) (sl : Value) (v : List Nat) {n : Nat} (pre : List (Pt n)) (W : World) : Prop := ∃ s, Putting2 w G a sl W s (pre.map fun i => partAt v i.1)
def PutX (w : World) (G : Gh) (a : Pa) (sl : Value) (v : List Nat) {n : Nat} (cc : Code) (pre : List (Pt n)) (W : World) : Prop := cc = .ret ∧ Shut2 w G a sl W (pre.map fun i => partAt v i.1)
theorem putI_own (w : World) (G : Gh) (a : Pa) (sl : Value) (v : List Nat) {n B : Nat} (h : B = w.heap.size + 6) : OwnFrom B (PutI w G a sl v (n := n)) := by rw [h]; exact putting_own _
theorem putX_own (w : World) (G : Gh) (a : Pa) (sl : Value) (v : List Nat) {n B : Nat} (h : B = w.heap.size + 6) (cc : Code) : OwnFrom B (PutX w G a sl v (n := n) cc) := by rw [h]; exact shut_own (cc = .ret) _
/-- Behind Put. -/
theorem put_mid {w W wA wB : World} {G : Gh} {sl u : Value} {a1 a2 : Pa} {nx : Int} {n : Nat} {xs : List Value} (hS : St w G sl W a1 0 0 nx u) (hR : W.ownsRow (w.heap.size + 6) 3 1 u n xs) (bA : Below W.heap.size W wA) (pB : Pgr wB G a2) (oB : Off G.own wA wB) :
    St w G sl wB a2 0 0 nx u ∧ wB.ownsRow (w.heap.size + 6) 3 1 u n xs ∧ KeepsFrom (w.heap.size + 6) W wB := by
  refine ⟨(hS.below bA).done pB oB, oB.own (own_on hR bA) fun k hk e => ?_, (kf_below bA).trans (kf_off oB fun k hk => ?_)⟩
  · have h1 := (hR.lt k hk).1
    have h2 := hS.own k e
    omega
  · have h2 := hS.own k hk
    omega
/-- Behind append. -/
theorem put_app {w wB w1 : World} {G : Gh} {sl u v2 : Value} {a2 : Pa} {nx : Int} {n : Nat} {xs : List Value} {o : Obj} (hS : St w G sl wB a2 0 0 nx u) (hR : wB.ownsRow (w.heap.size + 6) 3 1 u n xs) (hg : (wB.alloc o).grownBy w1 u.ownBlock) :
    St w G sl w1 a2 0 0 nx u ∧ St w G sl (w1.setCell ⟨w.heap.size + 4, 0, none⟩ v2) a2 0 0 nx v2 := by
  have h1 := (hS.below ((Below.refl _ _).alloc (Nat.le_refl _) o)).app (hR.alloc _) hg
  exact ⟨h1, h1.set4 v2⟩
theorem setCell_row {W : World} {base e size n C : Nat} {v x : Value} {xs : List Value} (h : W.ownsRow base e size v n xs) (hC : C < base) : (W.setCell ⟨C, 0, none⟩ x).ownsRow base e size v n xs :=
  (Off.of_grown (S := fun k => some C = some k) (grownBy_setCell' W C x) fun k hk => hk).own h fun k hk e => by
    have := (h.lt k hk).1
    injection e with e
    omega
/-- The round's end. -/
theorem put_fin {w W wB w1 : World} {G : Gh} {a a2 : Pa} {sl u v2 : Value} {v p : List Nat} {n m : Nat} {pre : List (Pt n)} {x : Pt n} {s : Pa × Int × List Int} {z : Int} {o : Obj} {B : Nat} (hB : B = w.heap.size + 6)
    (hI : Putting2 w G a sl W s (pre.map fun i => partAt v i.1)) (hps : (pre ++ [x]).map (fun i => partAt v i.1) = pre.map (fun i => partAt v i.1) ++ [p]) (hc : codeC s p = 0) (hst : stepC s p = (a2, z, s.2.2 ++ [z])) (hok : Ok s.1)
    (hSW : St w G sl W s.1 0 0 s.2.1 u) (hS : St w G sl wB a2 0 0 s.2.1 u) (hR : wB.ownsRow (w.heap.size + 6) 3 1 u s.2.2.length (zv s.2.2)) (hK : KeepsFrom (w.heap.size + 6) W wB) (hg : (wB.alloc o).grownBy w1 u.ownBlock) (hm : m = s.2.2.length + 1)
    (hown : w1.ownsRow (w.heap.size + 6) 3 1 v2 m (zv s.2.2 ++ [.int .i64 z])) :
    KeepsFrom B W ((w1.setCell ⟨w.heap.size + 4, 0, none⟩ v2).setCell ⟨w.heap.size + 3, 0, none⟩ (.int .i64 z)) ∧ KpB (w.heap.size + 5) W ((w1.setCell ⟨w.heap.size + 4, 0, none⟩ v2).setCell ⟨w.heap.size + 3, 0, none⟩ (.int .i64 z)) ∧ PutI w G a sl v (pre ++ [x]) ((w1.setCell ⟨w.heap.size + 4, 0, none⟩ v2).setCell ⟨w.heap.size + 3, 0, none⟩ (.int .i64 z)) := by
  have h3 := ((put_app (v2 := v2) hS hR hg).2).set3 z
  refine ⟨?_, hSW.kpb h3, stepC s p, ?_⟩
  · rw [hB]
    exact (((hK.trans ((KeepsOthers.alloc _ _).from _)).trans (kf_row (hR.alloc o) hg)).trans ((KeepsOthers.setCell _ _ _).from _)).trans ((KeepsOthers.setCell _ _ _).from _)
  · rw [hps]
    have hr := setCell_row (setCell_row hown (C := w.heap.size + 4) (x := v2) (by omega)) (C := w.heap.size + 3) (x := .int .i64 z) (by omega)
    rw [← zv_snoc, hm] at hr
    refine hI.next hc hok ?_ ?_ (u := v2)
    · rw [hst]; exact h3
    · rw [hst]
      show World.ownsRow _ _ _ _ _ (s.2.2 ++ [z]).length (zv (s.2.2 ++ [z]))
      rw [List.length_append]
      exact hr
/-- The round's end where there is no room. -/
theorem put_shut {w W wB wC : World} {G : Gh} {a : Pa} {sl u : Value} {v p : List Nat} {n : Nat} {pre : List (Pt n)} {x : Pt n} {s : Pa × Int × List Int} {q nx : Int} {B : Nat} (hB : B = w.heap.size + 6)
    (hI : Putting2 w G a sl W s (pre.map fun i => partAt v i.1)) (hps : (pre ++ [x]).map (fun i => partAt v i.1) = pre.map (fun i => partAt v i.1) ++ [p]) (hc : codeC s p = q) (hq : q ≠ 0)
    (hS : St w G sl wB s.1 0 0 nx u) (hK : KeepsFrom (w.heap.size + 6) W wB) (pC : Pgr wC G (dropAll s.1 s.2.2)) (oC : Off G.own wB wC) :
    St w G sl wC (dropAll s.1 s.2.2) 0 0 nx u ∧ St w G sl (wC.setCell ⟨w.heap.size + 1, 0, none⟩ (.int .i64 0)) (dropAll s.1 s.2.2) 0 0 nx u ∧
    KeepsFrom B W ((wC.setCell ⟨w.heap.size + 1, 0, none⟩ (.int .i64 0)).setCell ⟨w.heap.size + 2, 0, none⟩ (.int .i64 q)) ∧ PutX w G a sl v .ret (pre ++ [x]) ((wC.setCell ⟨w.heap.size + 1, 0, none⟩ (.int .i64 0)).setCell ⟨w.heap.size + 2, 0, none⟩ (.int .i64 q)) := by
  have h1 := hS.done pC oC
  have h2 := h1.set1 0
  refine ⟨h1, h2, ?_, rfl, ?_⟩
  · rw [hB]
    exact ((hK.trans (kf_off oC fun k hk => by have := hS.own k hk; omega)).trans ((KeepsOthers.setCell _ _ _).from _)).trans ((KeepsOthers.setCell _ _ _).from _)
  · rw [hps]
    refine hI.shut (by rw [hc]; exact hq) (nx := nx) (u := u) ?_
    rw [hc]
    exact h2.set2 q
theorem parts_eq {v : List Nat} {n : Nat} (hn : v.length = n) {xs : List (Pt n)} (h : xs.map (·.1) = (List.range (many n)).reverse) : xs.map (fun i => partAt v i.1) = partsOf v := by
  unfold partsOf
  rw [hn, ← h, List.map_map]
  rfl
theorem parts_pre {v : List Nat} {n : Nat} (hn : v.length = n) {xs : List (Pt n)} (h : xs.map (·.1) <+: (List.range (many n)).reverse) : ∃ rest, partsOf v = xs.map (fun i => partAt v i.1) ++ rest := by
  obtain ⟨r, hr⟩ := h
  refine ⟨r.map (partAt v), ?_⟩
  unfold partsOf
  rw [hn, ← hr, List.map_append, List.map_map]
  rfl
theorem put_end {w W : World} {G : Gh} {sl u : Value} {b : Pa} {r1 r2 nx : Int} {D : Nat} (h : St w G sl W b r1 r2 nx u) (hD : w.heap.size + 6 ≤ D) (hK : W.heap[D]? = some (.deferred (some []))) : St w G sl (W.putObj D (.deferred none)) b r1 r2 nx u :=
  h.kept (grownBy_putObj' W D _) fun r e => by
    injection e with e
    subst e
    exact ⟨hD, _, hK, rfl⟩
theorem drew_below (W : World) : Below W.heap.size W W.drew := (Below.refl _ _).drew

set_option maxRecDepth 100000 in
set_option maxHeartbeats 8000000 in
theorem putChain_yes (w : World) (G : Gh) (a : Pa) (h : Pgr w G a) (b off n c : Nat) (v : List Nat) (hb : Bs w (some ⟨b, off, none⟩) n c v) (hA : ¬ G.own b) (h1 : 1 ≤ n) (hn : n ≤ 16384) :
    Calls Try.prog 11 #[.pointer (some ⟨G.x, 0, none⟩), .slice (some ⟨b, off, none⟩) n c] w fun e w' => e = .returned (.tuple #[.int .i64 (putC (a, 0, []) (partsOf v)).2.1, .int .i64 (putC (a, 0, []) (partsOf v)).2.2]) ∧ Pgr w' G (putC (a, 0, []) (partsOf v)).1 ∧ Off G.own w w' := by
  obtain ⟨j0, ji, jz0, jz1, jz2⟩ := info_parts Try.infoZ
  have hlen := hb.1
  have hnc := hb.2.1
  have hcm := hb.2.2.1
  have hmn : many n ≤ 17 := by unfold many; omega
  have HP := Lib.hid h
  have HB := Lib.hid hb
  have HA := Lib.hid hA
  have HCM := Lib.hid hcm
  have hlt : ∀ k, G.own k → k < w.heap.size := fun k hk => h.lt hk
  have HLT := Lib.hid hlt
  have CE := Lib.hid (fun W => (callsIn_wide (n := 3)).2 (fromEnd_any W (.slice (some ⟨b, off, none⟩) n c) _ n c rfl))
  have hmx : Try.prog.follows .mixedOrders = true := by kernel_rfl
  clear h hb hA hcm hlt
  refine (callsIn_wide (n := 4)).1 ?_
  refine callsIn_of_wp_marks Try.func11 rfl trivial ?_ rfl
  simp only [Try.ntmps11, List.size_toArray, List.length_cons, List.length_nil, Nat.reduceAdd, Nat.reduceSub, Array.replicate_succ, Array.replicate_zero, List.push_toArray, List.append_toArray, List.nil_append, List.cons_append]
  have z1 : ((n : Int) == 0) = false := by simp; omega
  have z2 : decide ((n : Int) > 16384) = false := by simp; omega
  gi_wp2_with (refine ⟨trivial, ?_⟩; gi_at_call 28; refine (CE.out _).mono ?_; rintro e w' ⟨rfl, rfl⟩)
  simp only [Nat.add_assoc, Nat.reduceAdd]
  obtain ⟨W0, hW0⟩ : ∃ W0, ((((((w.alloc (.cells #[.pointer (some ⟨G.x, 0, none⟩)] 31)).alloc (.cells #[.int .i64 0] 3)).alloc (.cells #[.int .i64 0] 26)).alloc (.cells #[.int .i64 0] 3)).alloc (.cells #[.slice none 0 0] 37)).alloc (.cells #[.slice (some ⟨b, off, none⟩) n c] 22)) = W0 := ⟨_, rfl⟩
  rw [hW0]
  obtain ⟨hS0, hz0, hB0⟩ := st_start w G a (.slice (some ⟨b, off, none⟩) n c) HP.out hW0
  clear hW0
  have hI0 : PutI w G a (.slice (some ⟨b, off, none⟩) n c) v ([] : List (Pt n)) W0 :=
    ⟨(a, 0, []), fun rest => rfl, rfl, by show I64 0; unfold I64; omega, fun z hz => absurd hz List.not_mem_nil, _, hS0, World.ownsRow_nil _ _ _ _⟩
  have A1 := fromEnd_stops W0 (w.heap.size + 5) b off n c (by omega) hn hnc HCM.out hS0.bv
  refine wpIn_rangeFunc_ownG (α := Pt n) (gf := 44) (lb := #[.pointer (some ⟨w.heap.size + 5, 0, none⟩)]) (encs := encP b off n c) (Kp := KpB (w.heap.size + 5)) rfl (by omega) rfl trivial (enters_of Try.func44 (by kernel_rfl) rfl) A1 KpB.t (KpB.b (by omega)) (Below.refl _ _) (fun _ => rfl)
    (PutI w G a (.slice (some ⟨b, off, none⟩) n c) v) (PutX w G a (.slice (some ⟨b, off, none⟩) n c) v) (putI_own w G a _ v hz0) (putX_own w G a _ v hz0) hI0
    (fun y => { tmps := #[.pointer (some ⟨G.x, 0, none⟩), .slice (some ⟨b, off, none⟩) n c, .pointer (some ⟨w.heap.size, 0, none⟩), undef, .pointer (some ⟨w.heap.size + 1, 0, none⟩), .pointer (some ⟨w.heap.size + 2, 0, none⟩), .pointer (some ⟨w.heap.size + 3, 0, none⟩), .pointer (some ⟨w.heap.size + 4, 0, none⟩),
      .slice (some ⟨b, off + y.1 * 1010, none⟩) (endOf n y.1 - y.1 * 1010) (c - y.1 * 1010), undef, undef, .slice (some ⟨b, off, none⟩) n c, .int .i64 n, .bool false, .bool false, .slice (some ⟨b, off, none⟩) n c, .int .i64 n, .bool false, .bool false, .slice (some ⟨b, off, none⟩) n c,
      .func (.func 44) #[] #[.pointer (some ⟨w.heap.size + 5, 0, none⟩)], .slice (some ⟨b, off + y.1 * 1010, none⟩) (endOf n y.1 - y.1 * 1010) (c - y.1 * 1010), undef, undef, undef, undef, undef, undef, undef, undef, undef, undef, undef, undef, undef, undef, undef, undef, undef, undef, undef, undef], defers := [] }) ?assign ?body ?done ?stop
  case assign =>
    intro l x W K hK
    unfold encP
    gi_wp2
    exact hK
  case body =>
    clear hI0 hS0 A1 CE hB0
    rintro l pre x W ⟨s, hI⟩ hlt
    obtain ⟨u, hSt, hR⟩ := hI.st
    have hok := hSt.pg.ok
    have hpb := part_bs (HB.out.off hSt.off fun _ b' off' e => by injection e with e; injection e with e1 _; exact e1 ▸ HA.out) x
    have HZ := Lib.hid hz0
    clear hz0
    dsimp only
    obtain ⟨p, hp⟩ : ∃ p, partAt v x.1 = p := ⟨_, rfl⟩
    rw [hp] at hpb
    have hps : (pre ++ [x]).map (fun i => partAt v i.1) = pre.map (fun i => partAt v i.1) ++ [p] := by rw [List.map_append, List.map_singleton, hp]
    generalize off + x.1 * 1010 = o at hpb ⊢
    generalize endOf n x.1 - x.1 * 1010 = m at hpb ⊢
    generalize c - x.1 * 1010 = cc at hpb ⊢
    have hpm := hpb.1
    have CL := Lib.hid (fun W' (bW : Below W.heap.size W W') => (callsIn_wide (n := 1)).2 (Nn.plink_new W' s.2.1 (some ⟨b, o, none⟩) m cc p (hpb.on bW)))
    have CP := fun W' A' n' c' (bW : Below W.heap.size W W') (hb' : Bs W' A' n' c' (Nd.linkOf s.2.1 p)) (hN : ∀ b off, A' = some ⟨b, off, none⟩ → ∃ cs m, W'.heap[b]? = some (.cells cs 5 m)) =>
      (callsIn_wide (n := 1)).2 (put_pg W' G s.1 (hSt.pg.on bW) A' n' c' _ hb' fun _ b off e hk => by obtain ⟨cs, m, h⟩ := hN b off e; exact (hSt.pg.on bW).free b cs m hk h)
    have hsc : codeC s p = putCode s.1 (Nd.linkOf s.2.1 p) := rfl
    have hst : stepC s p = (put s.1 (Nd.linkOf s.2.1 p), putNo s.1 (Nd.linkOf s.2.1 p), s.2.2 ++ [putNo s.1 (Nd.linkOf s.2.1 p)]) := rfl
    have hzi := putNo_i64 hok (Nd.linkOf s.2.1 p)
    have hsame : codeC s p ≠ 0 → put s.1 (Nd.linkOf s.2.1 p) = s.1 := put_same
    rw [hsc] at hsame
    have HI := Lib.hid hI
    have HST := Lib.hid hSt
    have HRR := Lib.hid hR
    have HPS := Lib.hid hps
    have c1 := hSt.bp.cell
    have c2 := hSt.nx.cell
    have hsz := hSt.size
    generalize put s.1 (Nd.linkOf s.2.1 p) = a2 at CP hst hsame
    generalize putNo s.1 (Nd.linkOf s.2.1 p) = z at CP hst hzi
    generalize putCode s.1 (Nd.linkOf s.2.1 p) = q at CP hsc hsame
    obtain ⟨nx, hnx⟩ : ∃ nx, s.2.1 = nx := ⟨_, rfl⟩
    rw [hnx] at c2 CL CP
    replace CP := Lib.hid CP
    have HQ := Lib.hid (And.intro hsc (And.intro hst (And.intro hzi (And.intro hsame hok))))
    clear hI hSt hR hps hsc hst hzi hsame hok hp hpb hnx
    by_cases hq0 : q = 0
    · subst hq0
      gi_wp2
      gi_region_with_o (first
        | (refine ⟨trivial, ?_⟩; gi_at_call 29; refine (CallsIn.inRound l (CL.out _ (by first | exact drew_below _ | exact Below.refl _ _))).mono ?_; rintro e wA ⟨⟨A', n', c', rfl, rA, nA⟩, bA⟩; have HA2 := Lib.hid (And.intro rA (And.intro nA bA)); have cA := (bA.cell (p := ⟨w.heap.size, 0, none⟩) (by simp; omega)).trans c1; clear rA nA bA)
        | (refine ⟨trivial, ?_⟩; gi_at_call 19; refine (CallsIn.inRound l (CP.out _ _ _ _ ((drew_below W).trans (HA2.out.2.2.mono (by simp))) HA2.out.1 (fun b off e => (HA2.out.2.1 b off e).2))).mono ?_; rintro e wB ⟨rfl, pB, oB⟩))
      all_goals
        have bWA := (drew_below W).trans (HA2.out.2.2.mono (by simp))
        obtain ⟨hSB, hRB, hKB⟩ := put_mid HST.out HRR.out bWA pB oB
        have HSB := Lib.hid hSB
        have HRB := Lib.hid hRB
        have HKB := Lib.hid hKB
        have hszB := hSB.size
        have d1 := hSB.pt.cell
        have hll : s.2.2.length ≤ 17 := by have := HI.out.len; rw [List.length_map] at this; omega
        clear hSB hRB hKB pB oB bWA cA c1 c2 HA2
        gi_wp2_with (gi_at_builtin; refine wpListIn_append_own _ rfl _ _ 37 rfl (w.heap.size + 6) 3 j0 (.int .i64 0) 1 8 Try.underlying37 ji jz0 jz1 jz2 rfl (by decide) _ _ _ rfl (HRB.out.alloc _) ⟨wB.heap.size, 0, none⟩ 1 1 [.int .i64 z] rfl rfl (cell_one_new _ _ _) (by simp [Value.oneCell']) (by unfold maxLen; omega) (by omega) (by simp; omega) ?_; intro v2 w1 hown hgrow _; obtain ⟨g2, cap2, rfl⟩ := ownsRow_succ hown; obtain ⟨hS1, hS2⟩ := put_app (v2 := .slice (some ⟨g2, 0, none⟩) (s.2.2.length + 1) cap2) HSB.out HRB.out hgrow; have e1 := hS1.pt.cell; have e2 := hS1.pt.frozen; have e3 := hS2.nx.cell; have e4 := hS2.nx.frozen; have HOG := Lib.hid (And.intro hown hgrow); clear hS1 hS2 hown hgrow)
        exact put_fin HZ.out HI.out HPS.out HQ.out.1 HQ.out.2.1 HQ.out.2.2.2.2 HST.out HSB.out HRB.out HKB.out HOG.out.2 rfl HOG.out.1
    · have d0 : (q != 0) = true := by simpa using hq0
      have HQN := Lib.hid hq0
      clear hq0
      gi_wp2
      gi_region_with_o (first
        | (refine ⟨trivial, ?_⟩; gi_at_call 29; refine (CallsIn.inRound l (CL.out _ (by first | exact drew_below _ | exact Below.refl _ _))).mono ?_; rintro e wA ⟨⟨A', n', c', rfl, rA, nA⟩, bA⟩; have HA2 := Lib.hid (And.intro rA (And.intro nA bA)); have cA := (bA.cell (p := ⟨w.heap.size, 0, none⟩) (by simp; omega)).trans c1; clear rA nA bA)
        | (refine ⟨trivial, ?_⟩; gi_at_call 19; refine (CallsIn.inRound l (CP.out _ _ _ _ ((drew_below W).trans (HA2.out.2.2.mono (by simp))) HA2.out.1 (fun b off e => (HA2.out.2.1 b off e).2))).mono ?_; rintro e wB ⟨rfl, pB, oB⟩))
      all_goals
        have bWA := (drew_below W).trans (HA2.out.2.2.mono (by simp))
        obtain ⟨hSB, hRB, hKB⟩ := put_mid HST.out HRR.out bWA pB oB
        rw [HQ.out.2.2.2.1 HQN.out] at hSB
        have HSB := Lib.hid hSB
        have HKB := Lib.hid hKB
        have d1 := hSB.bp.cell
        have d2 := hSB.pt.cell
        obtain ⟨A3, c3, hu, _, _⟩ := own_form hRB
        rw [hu] at hRB d2
        have CD := Lib.hid ((callsIn_wide (n := 1)).2 (dropAll_any wB G s.1 hSB.pg A3 _ c3 s.2.2 hRB HI.out.nums))
        obtain ⟨k3, hk3⟩ : ∃ k3, s.2.2.length = k3 := ⟨_, rfl⟩
        rw [hk3] at CD d2
        clear hSB hRB hKB pB oB bWA cA c1 c2 HA2 hu hk3
        gi_wp2_with (refine ⟨trivial, ?_⟩; gi_at_call 30; refine (CallsIn.inRound l CD.out).mono ?_; rintro e wC ⟨rfl, pC, oC⟩; obtain ⟨hT1, hT2, hT3⟩ := put_shut HZ.out HI.out HPS.out HQ.out.1 HQN.out HSB.out HKB.out pC oC; have HT3 := Lib.hid hT3; have e1 := hT1.b1.cell; have e2 := hT1.b1.frozen; have e3 := hT2.b2.cell; have e4 := hT2.b2.frozen; clear hT1 hT2 hT3 pC oC)
        exact HT3.out
  case done =>
    clear hI0 hS0 CE A1 hB0
    rintro D xs W hD hS ⟨s, hI⟩ hK
    obtain ⟨u, hSt, hR⟩ := hI.st
    have hT := (hSt.set1 s.2.1).set2 0
    have hK2 := (((KeepsOthers.setCell W ⟨w.heap.size + 1, 0, none⟩ (.int .i64 s.2.1)).trans (KeepsOthers.setCell _ ⟨w.heap.size + 2, 0, none⟩ (.int .i64 0))).same D _ hK rfl)
    have hF := put_end hT (by omega) hK2
    have hgo := hI.go []
    rw [List.append_nil, parts_eq hlen hS] at hgo
    have hgo : putC (a, 0, []) (partsOf v) = (s.1, s.2.1, 0) := hgo
    have HF := Lib.hid (And.intro hF (And.intro hgo hK2))
    have c1 := hSt.b1.cell
    have f1 := hSt.b1.frozen
    have c2 := (hSt.set1 s.2.1).b2.cell
    have f2 := (hSt.set1 s.2.1).b2.frozen
    have c3 := hSt.nx.cell
    clear hI hS hSt hR hK hT hK2 hF hgo
    gi_wp2
    obtain ⟨hF, hgo, hK2⟩ := HF.out
    refine ⟨by simp, .inl ⟨_, _, rfl, run_takeDeferred hK2, ?_⟩⟩
    have e1 := hF.b1.cell
    have e2 := hF.b2.cell
    refine ⟨.tuple #[.int .i64 s.2.1, .int .i64 0], ?_, by rw [hgo], by rw [hgo]; exact hF.pg, hF.off⟩
    simp [results, Try.f11, go_sem, e1, e2]
  case stop =>
    clear hI0 hS0 CE A1 hB0
    rintro D cc pre W hD hpre ⟨rfl, hI⟩ hK
    obtain ⟨b1, code, nx, u, hgo, hSt⟩ := hI.st
    obtain ⟨rest, hrest⟩ := parts_pre hlen hpre
    have hgo2 := hgo rest
    rw [← hrest] at hgo2
    have hF := put_end hSt (by omega) hK
    have HF := Lib.hid (And.intro hF (And.intro hgo2 hK))
    clear hI hgo hSt hrest hgo2 hF hpre hK
    gi_wp2
    obtain ⟨hF, hgo, hK2⟩ := HF.out
    refine ⟨by simp, .inl ⟨_, _, rfl, run_takeDeferred hK2, ?_⟩⟩
    have e1 := hF.b1.cell
    have e2 := hF.b2.cell
    refine ⟨.tuple #[.int .i64 0, .int .i64 code], ?_, by rw [hgo], by rw [hgo]; exact hF.pg, hF.off⟩
    simp [results, Try.f11, go_sem, e1, e2]

set_option maxRecDepth 100000 in
set_option maxHeartbeats 2000000 in
theorem putChain_no (w : World) (G : Gh) (a : Pa) (h : Pgr w G a) (A : Option Addr) (n c : Nat) (hc : c ≤ maxLen) (hnc : n ≤ c) (hn : n < 1 ∨ 16384 < n) :
    Calls Try.prog 11 #[.pointer (some ⟨G.x, 0, none⟩), .slice A n c] w fun e w' => e = .returned (.tuple #[.int .i64 0, .int .i64 1]) ∧ Pgr w' G a ∧ Off G.own w w' := by
  unfold maxLen at hc
  have HP := Lib.hid h
  clear h
  obtain ⟨W3, hW3⟩ : ∃ W3, (((w.alloc (.cells #[.pointer (some ⟨G.x, 0, none⟩)] 31)).alloc (.cells #[.int .i64 0] 3)).alloc (.cells #[.int .i64 1] 26)) = W3 := ⟨_, rfl⟩
  have n1 : ∀ (W : World) (t : TypeId) (v : Value) (k : Nat), W.heap.size = k → Boxed (W.alloc (.cells #[v] t)) k t v := fun W t v k e => e ▸ Boxed.new W t v
  have B : Below w.heap.size w (((w.alloc (.cells #[.pointer (some ⟨G.x, 0, none⟩)] 31)).alloc (.cells #[.int .i64 0] 3)).alloc (.cells #[.int .i64 1] 26)) := by
    refine Below.alloc (Below.alloc (Below.alloc (Below.refl _ _) ?_ _) ?_ _) ?_ _ <;> simp <;> omega
  have e1 : Boxed (((w.alloc (.cells #[.pointer (some ⟨G.x, 0, none⟩)] 31)).alloc (.cells #[.int .i64 0] 3)).alloc (.cells #[.int .i64 1] 26)) (w.heap.size + 1) 3 (.int .i64 0) := (n1 _ _ _ _ (by simp)).alloc _
  have e2 : Boxed (((w.alloc (.cells #[.pointer (some ⟨G.x, 0, none⟩)] 31)).alloc (.cells #[.int .i64 0] 3)).alloc (.cells #[.int .i64 1] 26)) (w.heap.size + 1 + 1) 26 (.int .i64 1) := n1 _ _ _ _ (by simp)
  rw [hW3] at B e1 e2
  have HB := Lib.hid (And.intro B (And.intro e1.cell e2.cell))
  have HW := Lib.hid hW3
  clear B e1 e2 hW3 n1
  by_cases h0 : n = 0
  · subst h0
    go_enter Try.func11, Try.ntmps11
    go_wp2
    rw [HW.out]
    obtain ⟨B, e1, e2⟩ := HB.out
    refine bodyPost_ret (v := .tuple #[.int .i64 0, .int .i64 1]) ?_ rfl ⟨rfl, HP.out.on B, Off.of_below B⟩
    simp [results, Try.f11, go_sem, e1, e2]
  · have z1 : ((n : Int) == 0) = false := by simp; omega
    have z2 : decide ((n : Int) > 16384) = true := by simp; omega
    go_enter Try.func11, Try.ntmps11
    go_wp2
    rw [HW.out]
    obtain ⟨B, e1, e2⟩ := HB.out
    refine bodyPost_ret (v := .tuple #[.int .i64 0, .int .i64 1]) ?_ rfl ⟨rfl, HP.out.on B, Off.of_below B⟩
    simp [results, Try.f11, go_sem, e1, e2]

theorem putChain_any (w : World) (G : Gh) (a : Pa) (h : Pgr w G a) (A : Option Addr) (n c : Nat) (v : List Nat) (hb : Bs w A n c v) (hA : 0 < n → ∀ b off, A = some ⟨b, off, none⟩ → ¬ G.own b) :
    Calls Try.prog 11 #[.pointer (some ⟨G.x, 0, none⟩), .slice A n c] w fun e w' => e = .returned (.tuple #[.int .i64 (putChain a v).2.1, .int .i64 (putChain a v).2.2]) ∧ Pgr w' G (putChain a v).1 ∧ Off G.own w w' := by
  unfold putChain
  have hl := hb.1
  by_cases hn : v.length < 1 ∨ 16384 < v.length
  · rw [if_pos hn]
    exact putChain_no w G a h A n c hb.2.2.1 hb.2.1 (by omega)
  · rw [if_neg hn]
    obtain ⟨b, off, rfl, _⟩ := hb.2.2.2.2 (by omega)
    exact putChain_yes w G a h b off n c v hb (hA (by omega) b off rfl) (by omega) (by omega)
theorem gputChain {S : Nat → Prop} {wb : World} (w : World) (x pp dp : Nat) (a : Pa) (h : HasG S wb w x pp dp a) (A : Option Addr) (n c : Nat) (v : List Nat) (hb : Bs w A n c v) (hA : Out S wb w A n) :
    Calls Try.prog 11 #[.pointer (some ⟨x, 0, none⟩), .slice A n c] w fun e w' => e = .returned (.tuple #[.int .i64 (putChain a v).2.1, .int .i64 (putChain a v).2.2]) ∧ HasG S wb w' x pp dp (putChain a v).1 := by
  obtain ⟨G, rfl, h2, h3, hG, ho, hO⟩ := h
  refine (putChain_any w G a hG A n c v hb fun h0 b off e hk => ?_).mono ?_
  · rcases hA h0 b off e with ⟨g1, g2⟩ | ⟨cs, m, hc⟩
    · rcases ho b hk with a | a
      · exact g1 a
      · omega
    · exact hG.free b cs m hk hc
  · rintro e w' ⟨rfl, h', t'⟩
    exact ⟨rfl, HasG.stay rfl h2 h3 ho hO h' (Stay.of_off t')⟩

end Go.Proofs.Ytmcldkcmialfeaa.Pr
