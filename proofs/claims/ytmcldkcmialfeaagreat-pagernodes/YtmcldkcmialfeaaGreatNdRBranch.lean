/-
  The program's reader: the branch behind its mark.
-/
import Derived.Test.YtmcldkcmialfeaaGreatNdRLeaf
import Derived.Test.YtmcldkcmialfeaaGreatNdBranch
import Derived.Deep.CutBlock
namespace Go.Proofs.YtmcldkcmialfeaaGreat.Nn
open Go.RowKit
set_option linter.unusedVariables false

theorem infoI : (Tryz.prog.info? 3).map (fun i => (i.zero, i.size, i.bytes)) = some (some (.int .i64 0), 1, 8) := by kernel_rfl
theorem infoS : (Tryz.prog.info? 43).map (fun i => (i.zero, i.size, i.bytes)) = some (some (.slice none 0 0), 1, 24) := by kernel_rfl
theorem two_cells {w : World} {g t : Nat} {a0 a1 : Value} (h : w.heap[g]? = some (.cells #[a0, a1] t (0, 0))) : w.cell? ⟨g, 0, none⟩ = some a0 ∧ w.cell? ⟨g, 1, none⟩ = some a1 :=
  ⟨cell_of_row w g 0 _ _ (0, 0) h, cell_of_row w g 1 _ _ (0, 0) h⟩
theorem own_ne {w : World} {base base' e e' s s' n n' : Nat} {v v' : Value} {xs xs' : List Value} (h : w.ownsRow base e s v n xs) (h' : w.ownsRow base' e' s' v' n' xs') (hne : e ≠ e') : v.ownBlock = none ∨ v.ownBlock ≠ v'.ownBlock := by
  cases hv : v.ownBlock with
  | none => exact .inl rfl
  | some k =>
    refine .inr fun hk => hne ?_
    obtain ⟨cs, h1⟩ := own_type h hv
    obtain ⟨cs', h2⟩ := own_type h' hk.symm
    rw [h1] at h2
    injection h2 with h2
    injection h2
/-- A branch under way. -/
structure Bst (w : World) (g D : Nat) (wr : World) (rr : List Nat) (ks : List (List Nat)) (ps : List Int) (vk vp : Value) (xs : List Value) : Prop where
  rd : Rd wr g D rr
  at_ : wr.heap[w.heap.size]? = some (.cells #[vk, vp] 129 (0, 0))
  kown : wr.ownsRow (w.heap.size + 1) 43 1 vk ks.length xs
  kal : Along (fun x y => SlV wr x y ∧ InD D x) xs ks
  pown : wr.ownsRow (w.heap.size + 1) 3 1 vp ps.length (iv ps)
  pin : ∀ z ∈ ps, I64 z
  off : Off (Tt g w.heap.size) w wr
  size : w.heap.size + 1 ≤ wr.heap.size
  hg : g < w.heap.size
  hd : D < w.heap.size
section
variable {w wr wA wC : World} {g D m : Nat} {rr rr' : List Nat} {ks : List (List Nat)} {ps : List Int} {vk vp : Value} {xs : List Value}
theorem Bst.keptA (h : Bst w g D wr rr ks ps vk vp xs) (ofA : Off (At1 g) (wr.drewN m) wA) : wA.heap[w.heap.size]? = some (.cells #[vk, vp] 129 (0, 0)) :=
  (off_undrew ofA).at_ h.at_ fun e => by have : w.heap.size = g := e; have := h.hg; omega
theorem Bst.keptC (h : Bst w g D wr rr ks ps vk vp xs) (ofA : Off (At1 g) (wr.drewN m) wA) {o : Obj} {v : Value} (gC : (wA.alloc o).grownBy wC v.ownBlock) (hv : ∀ k, v.ownBlock = some k → w.heap.size + 1 ≤ k) : wC.heap[w.heap.size]? = some (.cells #[vk, vp] 129 (0, 0)) := by
  have zA := h.keptA ofA
  have hl : w.heap.size < wA.heap.size := (Array.getElem?_eq_some_iff.1 zA).1
  refine (gC.block w.heap.size (by simp; omega) fun e => ?_).trans ((((Below.refl wA.heap.size wA).alloc (Nat.le_refl _) o).block w.heap.size hl).trans zA)
  have := hv _ e.symm
  omega
theorem Bst.keptP (h : Bst w g D wr rr ks ps vk vp xs) (ofA : Off (At1 g) (wr.drewN m) wA) {o : Obj} (gC : (wA.alloc o).grownBy wC vp.ownBlock) : wC.heap[w.heap.size]? = some (.cells #[vk, vp] 129 (0, 0)) := h.keptC ofA gC fun k hk => (h.pown.lt k hk).1
theorem Bst.keptK (h : Bst w g D wr rr ks ps vk vp xs) (ofA : Off (At1 g) (wr.drewN m) wA) {o : Obj} (gC : (wA.alloc o).grownBy wC vk.ownBlock) : wC.heap[w.heap.size]? = some (.cells #[vk, vp] 129 (0, 0)) := h.keptC ofA gC fun k hk => (h.kown.lt k hk).1
theorem set_two {g t : Nat} {a0 a1 : Value} (h : wC.heap[g]? = some (.cells #[a0, a1] t (0, 0))) (v : Value) : ((wC.setCell ⟨g, 0, none⟩ v).heap[g]? = some (.cells #[v, a1] t (0, 0)) ∧ Off (At1 g) wC (wC.setCell ⟨g, 0, none⟩ v)) ∧ (wC.setCell ⟨g, 1, none⟩ v).heap[g]? = some (.cells #[a0, v] t (0, 0)) ∧ Off (At1 g) wC (wC.setCell ⟨g, 1, none⟩ v) := by
  refine ⟨⟨?_, (Off.refl _ _).set v rfl⟩, ?_, (Off.refl _ _).set v rfl⟩
  · have := heap_setCell_same wC g 0 #[a0, a1] t v h
    simpa using this
  · have := heap_setCell_same wC g 1 #[a0, a1] t v h
    simpa using this
theorem own_not_g (hg : g < w.heap.size) {e s n : Nat} {v : Value} {zs : List Value} (h : wr.ownsRow (w.heap.size + 1) e s v n zs) : ∀ k, v.ownBlock = some k → ¬ At1 g k := fun k hk e => by have : k = g := e; have := (h.lt k hk).1; omega
theorem own_not_gb {e s n : Nat} {v : Value} {zs : List Value} (h : wr.ownsRow (w.heap.size + 1) e s v n zs) : ∀ k, v.ownBlock = some k → ¬ At1 w.heap.size k := fun k hk e => by have : k = w.heap.size := e; have := (h.lt k hk).1; omega
/-- One kid more. -/
theorem Bst.kid {gn cap : Nat} {z : Int} (h : Bst w g D wr rr ks ps vk vp xs) (ofA : Off (At1 g) (wr.drewN m) wA) (rdA : Rd wA g D rr') (hz : I64 z)
    (OC : wC.ownsRow (w.heap.size + 1) 3 1 (.slice (some ⟨gn, 0, none⟩) (ps.length + 1) cap) (ps.length + 1) (iv ps ++ [.int .i64 z])) (gC : (wA.alloc (.cells #[.int .i64 z] 3)).grownBy wC vp.ownBlock) :
    Bst w g D (wC.setCell ⟨w.heap.size, 1, none⟩ (.slice (some ⟨gn, 0, none⟩) (ps.length + 1) cap)) rr' ks (ps ++ [z]) vk (.slice (some ⟨gn, 0, none⟩) (ps.length + 1) cap) xs := by
  have hDT : ¬ Tt g w.heap.size D := by have := h.hd; have := h.rd.ne; unfold Tt; omega
  have zC := h.keptP ofA gC
  have ofr := off_undrew ofA
  obtain ⟨_, q1, q2⟩ := set_two zC (.slice (some ⟨gn, 0, none⟩) (ps.length + 1) cap)
  have oAC : Off (fun k => w.heap.size ≤ k) wA wC := ((Off.refl _ wA).alloc _).trans (off_grown gC fun k hk => by have := (h.pown.lt k hk).1; omega)
  have oAD := oAC.trans (q2.mono (S := fun k => w.heap.size ≤ k) fun k hk => .inl (Nat.le_of_eq (Eq.symm hk)))
  have oRD := (off_t (B := w.heap.size) ofr).trans (off_b (g := g) oAD)
  have hhg := h.hg
  have hhd := h.hd
  have kA := ofr.own h.kown (own_not_g h.hg h.kown)
  have pA := ofr.own h.pown (own_not_g h.hg h.pown)
  have kB := kA.alloc (.cells #[.int .i64 z] 3)
  have kC := kB.kept gC (own_ne kA pA (by decide))
  refine ⟨rdA.off oAD (by omega) (by omega), q1, q2.own kC (own_not_gb kC), h.kal.mono fun x y h => ⟨h.1.off oRD fun k hk => by rw [h.2 k hk]; exact hDT, h.2⟩, ?_, fun y hy => ?_, h.off.trans oRD, Nat.le_trans h.size oRD.size, h.hg, h.hd⟩
  · rw [List.length_append, show iv (ps ++ [z]) = iv ps ++ [.int .i64 z] from by simp [iv]]
    exact q2.own OC (own_not_gb OC)
  · rcases List.mem_append.1 hy with h1 | h1
    · exact h.pin y h1
    · simp at h1; subst h1; exact hz
/-- One key more. -/
theorem Bst.key {gn cap : Nat} {x : Value} {y : List Nat} (h : Bst w g D wr rr ks ps vk vp xs) (ofA : Off (At1 g) (wr.drewN m) wA) (rdA : Rd wA g D rr') (hx : SlV wA x y ∧ InD D x)
    (OC : wC.ownsRow (w.heap.size + 1) 43 1 (.slice (some ⟨gn, 0, none⟩) (ks.length + 1) cap) (ks.length + 1) (xs ++ [x])) (gC : (wA.alloc (.cells #[x] 43)).grownBy wC vk.ownBlock) :
    Bst w g D (wC.setCell ⟨w.heap.size, 0, none⟩ (.slice (some ⟨gn, 0, none⟩) (ks.length + 1) cap)) rr' (ks ++ [y]) ps (.slice (some ⟨gn, 0, none⟩) (ks.length + 1) cap) vp (xs ++ [x]) := by
  have hDT : ¬ Tt g w.heap.size D := by have := h.hd; have := h.rd.ne; unfold Tt; omega
  have zC := h.keptK ofA gC
  have ofr := off_undrew ofA
  obtain ⟨⟨q1, q2⟩, _⟩ := set_two zC (.slice (some ⟨gn, 0, none⟩) (ks.length + 1) cap)
  have oAC : Off (fun k => w.heap.size ≤ k) wA wC := ((Off.refl _ wA).alloc _).trans (off_grown gC fun k hk => by have := (h.kown.lt k hk).1; omega)
  have oAD := oAC.trans (q2.mono (S := fun k => w.heap.size ≤ k) fun k hk => .inl (Nat.le_of_eq (Eq.symm hk)))
  have oRD := (off_t (B := w.heap.size) ofr).trans (off_b (g := g) oAD)
  have hhg := h.hg
  have hhd := h.hd
  have kA := ofr.own h.kown (own_not_g h.hg h.kown)
  have pA := ofr.own h.pown (own_not_g h.hg h.pown)
  have pB := pA.alloc (.cells #[x] 43)
  have pC := pB.kept gC (own_ne pA kA (by decide))
  refine ⟨rdA.off oAD (by omega) (by omega), q1, ?_, (h.kal.mono fun x y h => ⟨h.1.off oRD fun k hk => by rw [h.2 k hk]; exact hDT, h.2⟩).snoc ⟨hx.1.off oAD fun k hk => by rw [hx.2 k hk]; omega, hx.2⟩, q2.own pC (own_not_gb pC), h.pin, h.off.trans oRD, Nat.le_trans h.size oRD.size, h.hg, h.hd⟩
  rw [List.length_append]
  exact q2.own OC (own_not_gb OC)
end
theorem pkids_step {j : Nat} {r : List Nat} (h : r.length ≠ 0) : Nd.pkids (j + 1) r = ((Nd.pkey r).1, ((Nd.nb 4 (Nd.pkey r).2).1 : Int)) :: Nd.pkids j (Nd.nb 4 (Nd.pkey r).2).2 := by rw [Nd.pkids, if_neg h]
theorem pkids_end {j : Nat} {r : List Nat} (h : j = 0 ∨ r.length = 0) : Nd.pkids j r = [] := by
  cases j with
  | zero => rfl
  | succ j => rw [Nd.pkids, if_pos (by omega)]
theorem i64_u32 {z : Nat} (h : z < 4294967296) : I64 (z : Int) := by unfold I64; omega

set_option maxRecDepth 100000 in
set_option maxHeartbeats 4000000 in
theorem rbranch_any (w : World) (g D : Nat) (r : List Nat) (h : Rd w g D r) (hr9 : r.length ≤ 1016) :
    Calls Tryz.prog 127 #[.pointer (some ⟨g, 0, none⟩)] w fun e w' => (∃ q, e = .returned (.pointer (some ⟨q, 0, none⟩)) ∧ ∀ B, B ≤ D → B ≤ w.heap.size → BranchOver B w' q ((Nd.pkids (Nd.nb 2 r).1 (Nd.nb 4 (Nd.nb 2 r).2).2).map Prod.fst) (((Nd.nb 4 (Nd.nb 2 r).2).1 : Int) :: (Nd.pkids (Nd.nb 2 r).1 (Nd.nb 4 (Nd.nb 2 r).2).2).map Prod.snd)) ∧ Off (At1 g) w w' := by
  obtain ⟨i3, hi3, hz03, hz13, hz23⟩ := info_three infoI
  obtain ⟨i2, hi2, hz02, hz12, hz22⟩ := info_three infoS
  have hg := h.lt
  have hd := h.dlt
  have hne := h.ne
  have Z := heap_alloc_new w (.cells #[.slice none 0 0, .slice none 0 0] 129)
  have B0 : Below w.heap.size w (w.alloc (.cells #[.slice none 0 0, .slice none 0 0] 129)) := (Below.refl _ _).alloc (Nat.le_refl _) _
  have C1 := Lib.hid (number_any _ g D r (h.on B0) 2 (.inr (.inl rfl)))
  have s0 : (w.alloc (.cells #[.slice none 0 0, .slice none 0 0] 129)).heap.size = w.heap.size + 1 := by simp
  have HZ := Lib.hid Z
  have HB0 := Lib.hid B0
  have hlen := (Nd.tk_len 2 r).2.2
  have e2 : (Nd.nb 2 r).2 = (Nd.tk 2 r).2 := rfl
  rw [← e2] at hlen
  clear e2
  have hnlt := (Nd.nb_lt (k := 2) h.bytes).1
  have hbt := (Nd.nb_lt (k := 2) h.bytes).2
  rw [Nd.p2] at hnlt
  clear Z B0 h
  go_enter Tryz.func127, Tryz.ntmps127
  go_wp2_with fail
  generalize w.alloc (.cells #[.slice none 0 0, .slice none 0 0] 129) = w0 at *
  refine C1.out.mono ?_
  rintro e w1 ⟨rfl, rd1, of1⟩
  have Z1 := of1.at_ HZ.out (show ¬ At1 g w.heap.size from fun e => by have : w.heap.size = g := e; omega)
  have O1 : Off (Tt g w.heap.size) w w1 := (Off.of_below HB0.out).trans (off_t of1)
  have hl1 := of1.size
  generalize hn0 : (Nd.nb 2 r).1 = n0 at *
  generalize hr0' : (Nd.nb 2 r).2 = r0 at *
  have HN0 := Lib.hid hn0
  have HR0 := Lib.hid hr0'
  have CN := Lib.hid (fun m => number_any (w1.drewN m) g D r0 (rd1.on (below_drewN (Below.refl _ _) m)) 4 (.inr (.inr rfl)))
  have BS := Lib.hid (Bst.mk rd1 Z1 (World.ownsRow_nil _ _ _ _) Along.nil_ (World.ownsRow_nil _ _ _ _) (by intro z hz; cases hz) O1 (by omega) hg hd : Bst w g D w1 r0 [] [] (.slice none 0 0) (.slice none 0 0) [])
  have hb4 := (Nd.nb_lt (k := 4) hbt).1
  have hlen4 := (Nd.tk_len 4 r0).2.2
  have e4 : (Nd.nb 4 r0).2 = (Nd.tk 4 r0).2 := rfl
  rw [← e4] at hlen4
  rw [Nd.p4] at hb4
  have c0 := (two_cells Z1).2
  clear of1 C1 HZ HB0 hn0 hr0' Z1 O1 rd1 hbt e4
  obtain ⟨vp, hvp⟩ : ∃ vp : Value, vp = .slice none 0 0 := ⟨_, rfl⟩
  obtain ⟨vk, hvk⟩ : ∃ vk : Value, vk = .slice none 0 0 := ⟨_, rfl⟩
  obtain ⟨ps0, hps0⟩ : ∃ ps0 : List Int, ps0 = [] := ⟨_, rfl⟩
  rw [← hvp] at c0
  have BS : Hid (Bst w g D w1 r0 [] ps0 vk vp []) := by show Bst _ _ _ _ _ _ _ _ _ _; rw [hvk, hvp, hps0]; exact BS.out
  have hpl0 : ps0.length ≤ 1016 := by rw [hps0]; simp
  have hsz := BS.out.size
  have HPS0 := Lib.hid hps0
  clear hvk hvp hps0
  go_wp2_with fail
  go_cut [] from 9 to 19 (fun wx => ∃ vp', Bst w g D wx (Nd.nb 4 r0).2 [] (ps0 ++ [((Nd.nb 4 r0).1 : Int)]) vk vp' [])
  case first =>
    go_region_law (first
          | (go_simp; go_at_call 100; refine (CN.out _).mono ?_; rintro e wA ⟨rfl, rdA, ofA⟩; generalize hz : (Nd.nb 4 r0).1 = zz at *; have NA := Lib.hid (news_lit wA #[.int .i64 (zz : Int)] 3); have zA := Lib.hid (BS.out.keptA (m := _) ofA); have cA := (two_cells zA.out).2; have hlA := ofA.size; simp at hlA; have cB := ((Below.refl wA.heap.size wA).alloc (Nat.le_refl _) (.cells #[.int .i64 (zz : Int)] 3)).cell (p := ⟨w.heap.size, 1, none⟩) (cell_lt cA); rw [cA] at cB; have OA := Lib.hid ((off_undrew ofA).own BS.out.pown (fun k hk e => by have : k = g := e; have := (BS.out.pown.lt k hk).1; omega)); have OB := Lib.hid (OA.out.alloc (.cells #[.int .i64 (zz : Int)] 3)); have RDA := Lib.hid rdA; have OFA := Lib.hid ofA; clear rdA ofA)
          | (refine step_append_lies _ rfl (.tmp 13) (.tmp 16) 50 rfl (w.heap.size + 1) 3 i3 _ 1 8 Tryz.underlying50 hi3 hz03 hz13 hz23 rfl (by decide) vp ps0.length (iv ps0) (by simp [Act.eval]) OB.out ⟨wA.heap.size, 0, none⟩ 1 1 [.int .i64 (zz : Int)] (by simp [Act.eval]) rfl NA.out (by simp; rfl) (by decide) (by unfold maxLen; omega) (by omega) (by simp; omega) _ rfl ?_; intro gn cap wC OC gC lC hC; have zC := Lib.hid (BS.out.keptP OFA.out gC); have cC := (two_cells zC.out).2; have fC := frozen_of_row wC w.heap.size 1 _ _ zC.out))
    all_goals
      have ST := Lib.hid (BS.out.kid OFA.out RDA.out (i64_u32 (by omega)) OC gC)
      clear OC gC lC hC zC cC fC OFA RDA OA OB NA cA cB zA
      go_wp2_with fail
      go_meet
      subst hz
      exact ⟨_, ST.out⟩
  case rest =>
    obtain ⟨vp1, BS1⟩ := hcut
    rw [HPS0.out] at BS1
    clear BS CN c0 HPS0 hpl0 hsz
    generalize hkid : (((Nd.nb 4 r0).1 : Nat) : Int) = kid at *
    generalize hr1 : (Nd.nb 4 r0).2 = r1 at *
    have HK := Lib.hid hkid
    have HR1 := Lib.hid hr1
    clear hkid hr1
    go_wp2
    go_loopw [4] (fun left wr => ∃ (j : Nat) (rr : List Nat) (acc : List (List Nat × Int)) (vk vp : Value) (xs : List Value), left = .int .i64 (j : Int) ∧ j ≤ n0 ∧ acc.length + rr.length ≤ 1016 ∧ Bst w g D wr rr (acc.map Prod.fst) (kid :: acc.map Prod.snd) vk vp xs ∧ Hid (acc ++ Nd.pkids j rr = Nd.pkids n0 r1)) (fun left _ => (intOf left).toNat)
    case atStart => exact ⟨n0, r1, [], _, _, _, rfl, Nat.le_refl _, by simp; omega, BS1, rfl⟩
    case round =>
      clear BS1
      obtain ⟨j, rr, acc, vk, vp, xs, rfl, hj, hacc, BS0, HA⟩ := hrel
      have CE := Lib.hid (ended_any wr g D rr BS0.rd)
      by_cases hgo : 0 < j ∧ rr.length ≠ 0
      · obtain ⟨hj0, hr0⟩ := hgo
        obtain ⟨j, rfl⟩ : ∃ j', j = j' + 1 := ⟨j - 1, by omega⟩
        have dj : decide (((j + 1 : Nat) : Int) > 0) = true := by simp
        have CC := Lib.hid (fun m => rkey_any (wr.drewN m) g D rr (BS0.rd.on (below_drewN (Below.refl _ _) m)))
        have c0 := (two_cells BS0.at_).1
        have hpl := (Nd.pkey_len rr).2
        have HS := Lib.hid (pkids_step (j := j) hr0)
        have hbt := BS0.rd.bytes
        obtain ⟨ks, hks⟩ : ∃ ks, ks = acc.map Prod.fst := ⟨_, rfl⟩
        obtain ⟨ps, hps⟩ : ∃ ps, ps = kid :: acc.map Prod.snd := ⟨_, rfl⟩
        rw [← hks, ← hps] at BS0
        have hkl : ks.length ≤ 1016 := by rw [hks, List.length_map]; omega
        have hpsl : ps.length ≤ 1017 := by rw [hps, List.length_cons, List.length_map]; omega
        have HKS := Lib.hid hks
        have HPS := Lib.hid hps
        have hsz := BS0.size
        have BS := Lib.hid BS0
        clear BS0 hks hps
        rw [decide_eq_false hr0] at CE
        go_wp2_with fail
        refine CE.out.mono ?_
        rintro e wq ⟨rfl, rfl⟩
        go_wp2_with fail
        go_cut [] from 29 to 39 (fun wx => ∃ vk' xs', Bst w g D wx (Nd.pkey rr).2 (ks ++ [(Nd.pkey rr).1]) ps vk' vp xs')
        case first =>
          go_region_law (first
          | (go_simp; go_at_call 143; refine (CC.out _).mono ?_; rintro e wA ⟨xk, rfl, svA, inA, rdA, ofA⟩; have NA := Lib.hid (news_lit wA #[xk] 43); have zA := Lib.hid (BS.out.keptA (m := _) ofA); have cA := (two_cells zA.out).1; have hlA := ofA.size; simp at hlA; have cB := ((Below.refl wA.heap.size wA).alloc (Nat.le_refl _) (.cells #[xk] 43)).cell (p := ⟨w.heap.size, 0, none⟩) (cell_lt cA); rw [cA] at cB; have OA := Lib.hid ((off_undrew ofA).own BS.out.kown (fun k hk e => by have : k = g := e; have := (BS.out.kown.lt k hk).1; omega)); have OB := Lib.hid (OA.out.alloc (.cells #[xk] 43)); have ONE := Lib.hid svA.one; have SVA := Lib.hid (And.intro svA inA); have RDA := Lib.hid rdA; have OFA := Lib.hid ofA; obtain ⟨Ak, nk, ck, rfl, _, _⟩ := svA; clear inA rdA ofA)
          | (refine step_append_lies _ rfl (.tmp 33) (.tmp 36) 63 rfl (w.heap.size + 1) 43 i2 _ 1 24 Tryz.underlying63 hi2 hz02 hz12 hz22 rfl (by decide) vk ks.length xs (by simp [Act.eval]) OB.out ⟨wA.heap.size, 0, none⟩ 1 1 [.slice Ak nk ck] (by simp [Act.eval]) rfl NA.out (by simp; rfl) (by decide) (by unfold maxLen; omega) (by omega) (by simp; omega) _ rfl ?_; intro gn cap wC OC gC lC hC; have zC := Lib.hid (BS.out.keptK OFA.out gC); have cC := (two_cells zC.out).1; have fC := frozen_of_row wC w.heap.size 0 _ _ zC.out))
          all_goals
            have ST := Lib.hid (BS.out.key OFA.out RDA.out SVA.out OC gC)
            clear OC gC lC hC zC cC fC OFA RDA OA OB NA cA cB zA SVA ONE
            go_wp2_with fail
            go_meet
            exact ⟨_, _, ST.out⟩
        case rest =>
          obtain ⟨vk', xs', BS0⟩ := hcut
          clear BS CC c0 CE
          have CN := Lib.hid (fun m => number_any (wc.drewN m) g D (Nd.pkey rr).2 (BS0.rd.on (below_drewN (Below.refl _ _) m)) 4 (.inr (.inr rfl)))
          have c0 := (two_cells BS0.at_).2
          have hb4 := (Nd.nb_lt (k := 4) (Nd.pkey_lt hbt).2).1
          rw [Nd.p4] at hb4
          have hlen4 := (Nd.tk_len 4 (Nd.pkey rr).2).2.2
          have e4 : (Nd.nb 4 (Nd.pkey rr).2).2 = (Nd.tk 4 (Nd.pkey rr).2).2 := rfl
          rw [← e4] at hlen4
          clear e4 hbt
          have hsz := BS0.size
          have BS := Lib.hid BS0
          clear BS0
          go_wp2_with fail
          go_region_law (first
          | (go_simp; go_at_call 100; refine (CN.out _).mono ?_; rintro e wA ⟨rfl, rdA, ofA⟩; generalize hz : (Nd.nb 4 (Nd.pkey rr).2).1 = zz at *; have NA := Lib.hid (news_lit wA #[.int .i64 (zz : Int)] 3); have zA := Lib.hid (BS.out.keptA (m := _) ofA); have cA := (two_cells zA.out).2; have hlA := ofA.size; simp at hlA; have cB := ((Below.refl wA.heap.size wA).alloc (Nat.le_refl _) (.cells #[.int .i64 (zz : Int)] 3)).cell (p := ⟨w.heap.size, 1, none⟩) (cell_lt cA); rw [cA] at cB; have OA := Lib.hid ((off_undrew ofA).own BS.out.pown (fun k hk e => by have : k = g := e; have := (BS.out.pown.lt k hk).1; omega)); have OB := Lib.hid (OA.out.alloc (.cells #[.int .i64 (zz : Int)] 3)); have RDA := Lib.hid rdA; have OFA := Lib.hid ofA; clear rdA ofA)
          | (refine step_append_lies _ rfl (.tmp 44) (.tmp 47) 50 rfl (w.heap.size + 1) 3 i3 _ 1 8 Tryz.underlying50 hi3 hz03 hz13 hz23 rfl (by decide) vp ps.length (iv ps) (by simp [Act.eval]) OB.out ⟨wA.heap.size, 0, none⟩ 1 1 [.int .i64 (zz : Int)] (by simp [Act.eval]) rfl NA.out (by simp; rfl) (by decide) (by unfold maxLen; omega) (by omega) (by simp; omega) _ rfl ?_; intro gn cap wC OC gC lC hC; have zC := Lib.hid (BS.out.keptP OFA.out gC); have cC := (two_cells zC.out).2; have fC := frozen_of_row wC w.heap.size 1 _ _ zC.out))
          all_goals
            have ST := Lib.hid (BS.out.kid OFA.out RDA.out (i64_u32 (by omega)) OC gC)
            clear OC gC lC hC zC cC fC OFA RDA OA OB NA cA cB zA
            go_wp2
            go_roundw
            case rel =>
              refine ⟨j, (Nd.nb 4 (Nd.pkey rr).2).2, acc ++ [((Nd.pkey rr).1, (zz : Int))], vk', .slice (some ⟨gn, 0, none⟩) (ps.length + 1) cap, xs', by go_num, by omega, by rw [List.length_append, List.length_singleton]; omega, ?_, ?_⟩
              · have s := ST.out
                rw [List.map_append, List.map_append, List.map_cons, List.map_cons, List.map_nil, List.map_nil, ← List.cons_append, ← HKS.out, ← HPS.out]
                exact s
              · show _ = _
                rw [← HA.out, HS.out, List.append_assoc]; rfl
            case measure => simp [intOf]
      · have HE := Lib.hid (pkids_end (j := j) (r := rr) (by omega))
        have HL : Hid (∀ B, B ≤ D → B ≤ w.heap.size → BranchOver B wr w.heap.size ((Nd.pkids n0 r1).map Prod.fst) (kid :: (Nd.pkids n0 r1).map Prod.snd)) := by
          show ∀ B, B ≤ D → B ≤ w.heap.size → BranchOver B _ _ _ _
          intro B hB1 hB2 S w' ho hS
          have kown2 := ho.own BS0.kown (fun k hk hs => by have := (BS0.kown.lt k hk).1; have := hS k hs; omega)
          have pown2 := ho.own BS0.pown (fun k hk hs => by have := (BS0.pown.lt k hk).1; have := hS k hs; omega)
          have at2 := ho.at_ BS0.at_ (fun hs => by have := hS _ hs; omega)
          have kal2 := BS0.kal.mono fun x y h => h.1.off ho (fun k hk hs => by have := h.2 k hk; have := hS _ hs; omega)
          have hsz2 := ho.size
          have e := HA.out
          rw [HE.out, List.append_nil] at e
          rw [← e]
          obtain ⟨c0, c1⟩ := two_cells at2
          obtain ⟨A, c, rfl, hrw⟩ := Rw.of_own (by omega) kown2
          obtain ⟨A', c', rfl, hrw'⟩ := Rw.of_own (by omega) pown2
          exact ⟨by have := BS0.size; omega, A, _, c, A', _, c', c0, c1, ⟨xs, hrw, kal2⟩, hrw', BS0.pin⟩
        have HOF := Lib.hid (off_back BS0.off)
        clear BS0 HA HE
        by_cases hj0 : 0 < j
        · have dj : decide (((j : Nat) : Int) > 0) = true := by simp; omega
          rw [decide_eq_true (show rr.length = 0 by omega)] at CE
          go_wp2_with fail
          refine CE.out.mono ?_
          rintro e wq ⟨rfl, rfl⟩
          go_wp2
          go_ret
          exact ⟨⟨_, rfl, by rw [HN0.out, HR0.out, HK.out, HR1.out]; exact HL.out⟩, HOF.out⟩
        · have dj : decide (((j : Nat) : Int) > 0) = false := by simp; omega
          go_wp2
          go_ret
          exact ⟨⟨_, rfl, by rw [HN0.out, HR0.out, HK.out, HR1.out]; exact HL.out⟩, HOF.out⟩
end Go.Proofs.YtmcldkcmialfeaaGreat.Nn
