/-
  The program's pager: Chain, DropChain.
-/
import Derived.Test.YtmcldkcmialfeaaPrChainM
namespace Go.Proofs.Ytmcldkcmialfeaa.Pr
open Go.RowKit
set_option linter.unusedVariables false

/-- Bytes are appended to a row of the call's own; however long. -/
theorem wpList_append_long {P : Program} (w : World) {ops : Array Oper} {rest : List Oper} {o : Oper} {a : Act} {Q : Exit → Act → World → Prop} (hgd : o.guard = none) (s x : Operand) (t : TypeId)
    (ho : o.op = .call { callee := .builtin .append, args := #[s, x], argTypes := #[t, t] })
    (base : Nat) (e : TypeId) (i : TypeInfo) (z : Value) (ht : P.underlying t = some (.slice e)) (hi : P.info? e = some i) (hz : i.zero = some z)
    (hsize : i.size = 1) (hby : i.bytes = 1) (hzs : z.cells.size = 1)
    (v : Value) (n : Nat) (xs : List Value) (hs : a.eval s = v) (hown : w.ownsRow base e 1 v n xs)
    (A : Option Addr) (m c : Nat) (l : List Nat) (hx : a.eval x = .slice A m c) (hr : Bs w A m c l) (hsum : n + m ≤ 1000000000) (hbase : base ≤ w.heap.size)
    (h : ∀ v' w', w'.ownsRow base e 1 v' (n + m) (xs ++ bv l) → w.grownBy w' v.ownBlock → wpList P ops Q rest (a.put o.dst v') w') : wpList P ops Q (o :: rest) a w := by
  obtain ⟨h1, _, _, _, h5⟩ := hr
  match A, hx, h5 with
  | none, hx, h5 =>
    have hm : m = 0 := by
      rcases Nat.eq_zero_or_pos m with h0 | h0
      · exact h0
      · obtain ⟨_, _, hh, _⟩ := h5 h0
        cases hh
    subst hm
    have hl : l = [] := List.eq_nil_of_length_eq_zero h1
    subst hl
    refine wpList_plain hgd fun K hK => ?_
    have hrun := run_add_nothing (P := P) w base t o.type e i ht hi v n xs hown c
    unfold Oper.wp execOp
    simp only [ho, resolve, invoke, builtin, Sem.run_bind, Sem.run_pure, Result.andThen_ok, List.map_toArray, List.map_cons, List.map_nil, hs, hx, hrun]
    exact hK _ _ (h v w (by simpa [bv] using hown) (World.grownBy.refl w _))
  | some ad, hx, h5 =>
    refine wpList_append_own w hgd s x t ho base e i z 1 1 ht hi hz hsize hby hzs (by decide) v n xs hs hown ad m c (bv l) hx (by rw [bv_len]; omega) ?_ (bv_one l) (by unfold maxLen; omega) (by omega) hbase fun v' w' h2 h3 _ => h v' w' h2 h3
    intro j u hu
    have hj : j < l.length := by have := (List.getElem?_eq_some_iff.1 hu).1; rwa [bv_len] at this
    obtain ⟨b, off, hh, _, hc⟩ := h5 (by omega)
    injection hh with hh
    subst hh
    have hcj := hc j l[j] (List.getElem?_eq_getElem hj)
    have hu' : u = .int .u8 (l[j] : Int) := by
      have := hu
      simp only [bv, List.getElem?_map, List.getElem?_eq_getElem hj, Option.map_some, Option.some.injEq] at this
      exact this.symm
    rw [hu']
    by_cases hj0 : j = 0
    · subst hj0; simpa [Addr.add] using hcj
    · simpa [Addr.add, hj0] using hcj
theorem Try.infoZ : (Try.prog.info? 3).map (fun i => (i.zero, i.size, i.bytes)) = some (some (.int .i64 0), 1, 8) := by kernel_rfl
theorem zv_snoc (l : List Int) (z : Int) : zv (l ++ [z]) = zv l ++ [.int .i64 z] := by simp [zv]
theorem zv_len (l : List Int) : (zv l).length = l.length := by simp [zv]
/-- A row of one's own stays while a row of another type grows. -/
theorem own_other {w w' : World} {base base' e e' size size' n n' : Nat} {v u : Value} {xs ys : List Value} (h : w.ownsRow base e size v n xs) (hu : w.ownsRow base' e' size' u n' ys) (he : e ≠ e') (hg : w.grownBy w' u.ownBlock) :
    w'.ownsRow base e size v n xs := by
  refine (Off.of_grown (S := fun k => u.ownBlock = some k) hg fun k hk => hk).own h fun k hk hk' => ?_
  obtain ⟨c1, h1⟩ := own_type h hk
  obtain ⟨c2, h2⟩ := own_type hu hk'
  rw [h1] at h2
  injection h2 with h2
  injection h2 with _ h2
  exact he h2

/-- What a chain is answered as. -/
def ChainSays (w : World) (r : List Nat × List Int × Int) (e : Ending) (w' : World) : Prop :=
  ∃ A n c B m c2, e = .returned (.tuple #[.slice A n c, .slice B m c2, .int .i64 r.2.2]) ∧ Bs w' A n c r.1 ∧ w'.ownsRow w.heap.size 3 1 (.slice B m c2) m (zv r.2.1) ∧ (∀ z ∈ r.2.1, I64 z) ∧ Below w.heap.size w w'
theorem chainSays_none {w w' : World} {c : Int} (hB : Below w.heap.size w w') : ChainSays w ([], [], c) (.returned (.tuple #[.slice none 0 0, .slice none 0 0, .int .i64 c])) w' :=
  ⟨_, _, _, _, _, _, rfl, Bs.nil_ _ _ _ (Nat.zero_le _), World.ownsRow_nil _ _ _ _, by simp, hB⟩
/-- How far a chain has been read. -/
structure Rdg (w wr : World) (a : Pa) (size most : Int) (r : List Nat × List Int × Int) (vv pv : Value) (no : Int) (val : List Nat) (pages : List Int) (k : Nat) : Prop where
  ino : I64 no
  len : pages.length = k
  few : k ≤ 2048
  vlen : val.length ≤ 1010 * k
  byte : ∀ x ∈ val, x < 256
  nums : ∀ z ∈ pages, I64 z
  go : r = chainGo (says a) size most (2050 - k) no val pages
  ov : wr.ownsRow w.heap.size 5 1 vv val.length (bv val)
  op : wr.ownsRow w.heap.size 3 1 pv k (zv pages)
  bel : Below w.heap.size w wr
def lenV : Value → Nat
  | .slice _ n _ => n
  | _ => 0
theorem lz_i64 (b : List Nat) : I64 (Nn.lz b : Int) := by
  unfold Nn.lz I64
  split
  · rename_i h
    have := h.2.1.2
    omega
  · omega
theorem ll_short (b : List Nat) : (Nn.ll b).length ≤ 1010 := by
  unfold Nn.ll
  split
  · rename_i h; exact h.2.1.1.2
  · simp
theorem lk_i64 (b : List Nat) : (Nn.lk b : Int) = 0 ∨ ((Nn.lk b : Int) != 0) = true := by
  unfold Nn.lk
  split
  · exact .inl rfl
  · exact .inr rfl

set_option maxRecDepth 100000 in
set_option maxHeartbeats 2000000 in
theorem chain_any {S : Nat → Prop} {wb : World} (w : World) (x pp dp : Nat) (a : Pa) (h : HasG S wb w x pp dp a) (head size : Int) (hi : I64 head) (hs : I64 size) :
    Calls Try.prog 13 #[.pointer (some ⟨x, 0, none⟩), .int .i64 head, .int .i64 size] w (ChainSays w (chain a head size)) := by
  obtain ⟨i0, ii, iz0, iz1, iz2⟩ := info_parts Try.info5
  obtain ⟨j0, ji, jz0, jz1, jz2⟩ := info_parts Try.infoZ
  have HG := Lib.hid h
  have CP := Lib.hid (pagesFor_any w size hs)
  have hpo : 0 ≤ pagesOf size ∧ pagesOf size ≤ 9223372036854775807 := by unfold pagesOf; unfold I64 at hs; split <;> omega
  have hr : chain a head size = chainGo (says a) size (min (pagesOf size) 2048) 2050 head [] [] := rfl
  generalize chain a head size = r at hr ⊢
  generalize pagesOf size = po at hpo hr CP
  have HR := Lib.hid hr
  have HI := Lib.hid hi
  unfold I64 at hs
  clear h hr hi
  go_enter Try.func13, Try.ntmps13
  go_wp2_with fail
  refine CP.out.mono ?_
  rintro e w0 ⟨rfl, rfl⟩
  obtain ⟨mo, hmo⟩ : ∃ mo, min po 2048 = mo := ⟨_, rfl⟩
  have hm2 : 0 ≤ mo ∧ mo ≤ 2048 := by omega
  rw [hmo] at HR
  have HMO := Lib.hid hmo
  clear CP hpo hmo
  go_wp2_with fail
  rw [HMO.out]
  go_loopw [9, 10, 12] (fun vv pv nv wr => ∃ (k : Nat) (val : List Nat) (pages : List Int) (no : Int), nv = .int .i64 no ∧ Rdg w wr a size mo r vv pv no val pages k) (fun _ pv _ _ => 2048 - lenV pv)
  case atStart => exact ⟨0, [], [], head, rfl, HI.out, rfl, by omega, by simp, by simp, by simp, HR.out, World.ownsRow_nil _ _ _ _, World.ownsRow_nil _ _ _ _, Below.refl _ _⟩
  case round =>
    obtain ⟨k, val, pages, no, rfl, hR⟩ := hrel
    obtain ⟨A, c, rfl, hnc, hcm⟩ := own_form hR.ov
    obtain ⟨B, c2, rfl, hnc2, hcm2⟩ := own_form hR.op
    unfold maxLen at hcm hcm2
    have hgo := hR.go
    have hfew := hR.few
    have hvl := hR.vlen
    have hpl := hR.len
    have HRD := Lib.hid hR
    clear hR HR HI
    obtain ⟨f, hf⟩ : ∃ f, 2050 - k = f + 1 := ⟨2049 - k, by omega⟩
    rw [hf] at hgo
    by_cases h0 : no = 0
    · subst h0
      have d0 : ((0 : Int) != 0) = false := by decide
      rw [chain_end rfl] at hgo
      by_cases hz : (val.length : Int) = size
      · have d1 : ((val.length : Int) != size) = false := by simpa using hz
        rw [if_pos hz] at hgo
        subst hgo
        clear hz
        go_wp2
        go_ret3
        obtain ⟨A', c', e1, b1⟩ := Bs.of_own HRD.out.ov HRD.out.byte
        injection e1 with e1 _ e2
        subst e1 e2
        exact ⟨_, _, _, _, _, _, rfl, b1, HRD.out.op, HRD.out.nums, HRD.out.bel⟩
      · have d1 : ((val.length : Int) != size) = true := by simpa using hz
        rw [if_neg hz] at hgo
        subst hgo
        clear hz
        go_wp2
        go_ret3
        exact chainSays_none HRD.out.bel
    · have d0 : (no != 0) = true := by simpa using h0
      by_cases hv : size ≤ (val.length : Int)
      · have d1 : decide ((val.length : Int) ≥ size) = true := by simpa using hv
        rw [chain_full h0 (.inl hv)] at hgo
        subst hgo
        clear h0
        go_wp2
        go_ret3
        exact chainSays_none HRD.out.bel
      · have d1 : decide ((val.length : Int) ≥ size) = false := by simpa using hv
        by_cases hp : mo ≤ (pages.length : Int)
        · rw [chain_full h0 (.inr hp)] at hgo
          rw [hpl] at hp
          have d2 : decide ((k : Int) ≥ mo) = true := by simpa using hp
          subst hgo
          clear h0 hv
          go_wp2
          go_ret3
          exact chainSays_none HRD.out.bel
        · have hn : ¬ (size ≤ (val.length : Int) ∨ mo ≤ (pages.length : Int)) := fun h => h.elim hv hp
          rw [hpl] at hp
          have d2 : decide ((k : Int) ≥ mo) = false := by simpa using hp
          have CL := Lib.hid (glink wr x pp dp a (HG.out.on HRD.out.bel) no HRD.out.ino)
          have H0 := Lib.hid (And.intro h0 hn)
          have HF := Lib.hid hf
          have HGO := Lib.hid hgo
          have hk2 : k < 2048 := by omega
          clear h0 hn hv hp hf hgo
          go_wp2_with fail
          refine CL.out.mono ?_
          rintro e w2 hsl
          cases hsy : says a no with
          | none =>
            rw [hsy] at hsl
            obtain ⟨hB, rfl⟩ := hsl
            have RS : Hid (r = ([], [], 4) ∧ Below w.heap.size w w2) := ⟨by rw [HGO.out]; exact chain_shut H0.out.1 H0.out.2 hsy, onto HRD.out.bel hB⟩
            clear hsy hB CL
            go_wp2
            go_ret3
            rw [RS.out.1]
            exact chainSays_none RS.out.2
          | some b =>
            rw [hsy] at hsl
            obtain ⟨hB, A2, n2, cb, rfl, r2⟩ := hsl
            have hgo := HGO.out
            rw [chain_next H0.out.1 H0.out.2 hsy] at hgo
            have hll := ll_short b
            have hlz := lz_i64 b
            have hrl := r2.1
            by_cases hk0 : Nn.lk b = 0
            · rw [if_pos hk0] at hgo
              rw [hk0]
              generalize Nn.lz b = z at hgo hlz ⊢
              generalize Nn.ll b = l at hgo hll hrl r2
              have hB2 := onto HRD.out.bel hB
              have hsz := hB2.size
              have O1 := Lib.hid (own_on HRD.out.ov hB)
              have P1 := Lib.hid (own_on HRD.out.op hB)
              have S2 := Lib.hid r2
              have HB2 := Lib.hid hB2
              have HZ := Lib.hid hlz
              have HG3 := Lib.hid hgo
              have HLT := Lib.hid r2.2.2.2.1
              have HRL := Lib.hid hrl
              clear hsy hB hB2 hgo hlz r2 CL hk0
              go_wp2_with (first
                | (at_builtin; refine wpList_append_long _ rfl _ _ 22 rfl w.heap.size 5 i0 (.int .u8 0) Try.underlying22 ii iz0 iz1 iz2 rfl _ _ _ rfl O1.out _ _ _ _ rfl S2.out (by omega) hsz ?_; intro v3 w3 O3 g3; have hB3 := below_own HB2.out O1.out g3 hsz (Nat.le_refl _); have P3 := Lib.hid (own_other P1.out O1.out (by decide) g3); have HB3 := Lib.hid hB3; have hs3 := hB3.size; have HO3 := Lib.hid O3; clear O3 g3 hB3)
                | (at_builtin; refine wpList_append_lies _ rfl _ _ 37 rfl w.heap.size 3 j0 (.int .i64 0) 1 8 Try.underlying37 ji jz0 jz1 jz2 rfl (by decide) _ _ _ rfl (P3.out.alloc _) ⟨w3.heap.size, 0, none⟩ 1 1 [.int .i64 no] rfl rfl (cell_one_new _ _ _) (by simp [Value.oneCell']) (by decide) (by unfold maxLen; omega) (by omega) (by simp; omega) _ rfl ?_; intro g' cap w4 O4 g4 hl4 hg4; have HO4 := Lib.hid O4; have HO34 := Lib.hid (own_other (HO3.out.alloc (.cells #[.int .i64 no] 3)) (P3.out.alloc _) (by decide) g4); have HB4 := Lib.hid (below_own (HB3.out.alloc hs3 (.cells #[.int .i64 no] 3)) (P3.out.alloc _) g4 (by simp; omega) (Nat.le_refl _)); clear O4 g4 hl4 hg4))
              go_roundw
              case rel =>
                have hf2 : f = 2050 - (k + 1) := by have := HF.out; omega
                have hgo := HG3.out
                rw [hf2] at hgo
                refine ⟨k + 1, val ++ l, pages ++ [no], (z : Int), rfl, HZ.out, by rw [List.length_append, hpl]; rfl, by omega, by rw [List.length_append]; omega, fun y hy => ?_, fun y hy => ?_, hgo, ?_, ?_, HB4.out⟩
                · rcases List.mem_append.1 hy with h | h
                  · exact HRD.out.byte y h
                  · exact HLT.out y h
                · rcases List.mem_append.1 hy with h | h
                  · exact HRD.out.nums y h
                  · simp at h; subst h; exact HRD.out.ino
                · have := HO34.out
                  rw [bv_app, ← HRL.out, ← List.length_append] at this
                  exact this
                · have := HO4.out
                  rw [← zv_snoc] at this
                  exact this
              case measure => simp [lenV]; omega
            · rw [if_neg hk0] at hgo
              have d2' : ((Nn.lk b : Int) != 0) = true := (lk_i64 b).resolve_left (by omega)
              generalize Nn.lk b = q at hgo d2' ⊢
              have RS := Lib.hid (And.intro hgo (onto HRD.out.bel hB))
              clear hsy hB hgo hk0 r2 CL
              go_wp2
              go_ret3
              rw [RS.out.1]
              exact chainSays_none RS.out.2

set_option maxRecDepth 100000 in
theorem dropChain_any {S : Nat → Prop} {wb : World} (w : World) (x pp dp : Nat) (a : Pa) (h : HasG S wb w x pp dp a) (head size : Int) (hi : I64 head) (hs : I64 size) :
    Calls Try.prog 15 #[.pointer (some ⟨x, 0, none⟩), .int .i64 head, .int .i64 size] w fun e w' => e = .returned (.int .i64 (chain a head size).2.2) ∧ HasG S wb w' x pp dp (if (chain a head size).2.2 = 0 then dropAll a (chain a head size).2.1 else a) := by
  have C := chain_any w x pp dp a h head size hi hs
  have HG := Lib.hid h
  clear h hi hs
  generalize chain a head size = r at C ⊢
  obtain ⟨r1, r2, r3⟩ := r
  simp only
  replace C := Lib.hid C
  by_cases h0 : r3 = 0
  · subst h0
    rw [if_pos rfl]
    have d : ((0 : Int) != 0) = false := by decide
    go_enter Try.func15, Try.ntmps15
    go_wp2_with fail
    refine C.out.mono ?_
    rintro e w1 ⟨A, n, c, B, m, c2, rfl, _, hO, hI, hB⟩
    obtain ⟨G, rfl, h2, h3, hG, ho, hOf⟩ := HG.out.on hB
    have CD := Lib.hid (dropAll_any w1 G a hG B m c2 r2 hO hI)
    have HH := Lib.hid (And.intro h2 (And.intro h3 (And.intro ho hOf)))
    clear hG hO hI hB C HG h2 h3 ho hOf
    go_wp2_with fail
    refine CD.out.mono ?_
    rintro e w2 ⟨rfl, hG2, hO2⟩
    have RS := Lib.hid (And.intro hG2 hO2)
    clear hG2 hO2 CD
    go_wp2
    go_ret
    obtain ⟨h2, h3, ho, hO⟩ := HH.out
    exact ⟨rfl, HasG.stay rfl h2 h3 ho hO RS.out.1 (Stay.of_off RS.out.2)⟩
  · rw [if_neg h0]
    have d : (r3 != 0) = true := by simpa using h0
    clear h0
    go_enter Try.func15, Try.ntmps15
    go_wp2_with fail
    refine C.out.mono ?_
    rintro e w1 ⟨A, n, c, B, m, c2, rfl, _, hO, hI, hB⟩
    have H1 := Lib.hid (HG.out.on hB)
    clear hO hI hB C HG
    go_wp2
    go_ret
    exact ⟨rfl, H1.out⟩

end Go.Proofs.Ytmcldkcmialfeaa.Pr
