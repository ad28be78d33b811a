/-
  PoolOnce: the walk.
-/
import Derived.Test.YtbfofhgnamheeaaPoFrees
namespace Go.Proofs.Ytbfofhgnamheeaa.Pq
open Go.RowKit
set_option linter.unusedVariables false

def iv (H : List Int) : List Value := H.map (Value.int .i64)
theorem iv_len (H : List Int) : (iv H).length = H.length := by simp [iv]
theorem iv_app (a b : List Int) : iv (a ++ b) = iv a ++ iv b := by simp [iv]
theorem infoI : (Try.prog.info? 3).map (fun i => (i.zero, i.size, i.bytes)) = some (some (.int .i64 0), 1, 8) := by kernel_rfl
/-- One number is appended to a row of the call's own. -/
theorem run_append_int (w : World) (base : Nat) (ty : TypeId) (v : Value) (H : List Int) (x : Int) (hown : w.ownsRow base 3 1 v H.length (iv H)) (hsum : H.length ≤ 100000) (hbase : base ≤ w.heap.size) :
    ∃ v' w', (Builtin.append_ #[55, 55] ty #[v, .slice (some ⟨w.heap.size, 0, none⟩) 1 1]).run Try.prog (w.alloc (.cells #[.int .i64 x] 3)) = .ok v' w' ∧ w'.ownsRow base 3 1 v' (H ++ [x]).length (iv (H ++ [x])) ∧ (w.alloc (.cells #[.int .i64 x] 3)).grownBy w' v.ownBlock := by
  obtain ⟨i0, hi, hz0, hz1, hz2⟩ := info_parts infoI
  obtain ⟨v', w', h1, h2, h3, _⟩ := run_append_own (P := Try.prog) (w.alloc (.cells #[.int .i64 x] 3)) base 55 ty 3 i0 (.int .i64 0) 1 8 Try.underlying55 hi hz0 hz1 hz2 rfl (by decide) v H.length (iv H) (hown.alloc _) ⟨w.heap.size, 0, none⟩ 1 1 [.int .i64 x] rfl
    (World.news_of_block (cs := #[.int .i64 x]) (t := 3) (fr := (0, 0)) (heap_alloc_new w _)) (by simp [Value.oneCell']) (by unfold maxLen; omega) (by omega) (by simp; omega)
  exact ⟨v', w', h1, by rw [iv_app, List.length_append]; exact h2, h3⟩

set_option maxRecDepth 100000 in
theorem without_any (w : World) (base : Nat) (A : Option Addr) (n c : Nat) (H : List Int) (x : Int) (hown : w.ownsRow base 3 1 (.slice A n c) n (iv H)) (hl : H.length = n) (hn : n ≤ 100) :
    Calls Try.prog 29 #[.slice A n c, .int .i64 x] w fun e w' => ∃ v', e = .returned v' ∧ w'.ownsRow w.heap.size 3 1 v' (H.filter (· != x)).length (iv (H.filter (· != x))) ∧ Below w.heap.size w w' := by
  obtain ⟨A', c', hv, hnc, hcm⟩ := own_form hown
  injection hv with h1 _ hc
  subst h1 hc
  unfold maxLen at hcm
  have HO := Lib.hid hown
  have HL := Lib.hid hl
  clear hown hl
  go_enter Try.func29, Try.ntmps29
  go_wp2_with fail
  go_loopw [5, 6] (fun o i wr => ∃ (k : Nat) (ov : Value), ov = o ∧ k ≤ n ∧ i = .int .i64 (k : Int) ∧ wr.ownsRow w.heap.size 3 1 ov ((H.take k).filter (· != x)).length (iv ((H.take k).filter (· != x))) ∧ Below w.heap.size w wr) (fun _ i _ => n - (intOf i).toNat)
  case atStart => exact ⟨0, _, rfl, Nat.zero_le _, rfl, World.ownsRow_nil _ _ _ _, Below.refl _ _⟩
  case round =>
    obtain ⟨k, ov, rfl, hk, rfl, hO, hb⟩ := hrel
    by_cases hlt : k < n
    · have z1 : (k : Int) < (n : Int) := by omega
      obtain ⟨y, hx⟩ : ∃ y, H[k]? = some y := ⟨_, List.getElem?_eq_getElem (by rw [HL.out]; omega)⟩
      have hOw := own_on HO.out hb
      obtain ⟨g, rfl, cS⟩ : ∃ g, A = some ⟨g, 0, none⟩ ∧ wr.cell? ⟨g, k, none⟩ = some (.int .i64 y) := by
        rcases hOw.2 with ⟨_, h0⟩ | ⟨g, cap, cur, hv, _, _⟩
        · omega
        · injection hv with h1 _ h3
          subst h1 h3
          refine ⟨g, rfl, ?_⟩
          rw [hOw.cellAt k (by omega)]; unfold iv; rw [List.getElem?_map, hx]; rfl
      have hta : H.take (k + 1) = H.take k ++ [y] := by rw [List.take_add_one, hx]; rfl
      clear hOw hx
      have hfl : ((H.take k).filter (· != x)).length ≤ 100 := by have := List.length_filter_le (· != x) (H.take k); rw [List.length_take] at this; omega
      by_cases hy : y = x
      · have z2 : (y != x) = false := by simpa using hy
        have hf : (H.take (k + 1)).filter (· != x) = (H.take k).filter (· != x) := by rw [hta, List.filter_append]; simp [hy]
        rw [← hf] at hO
        have HH := Lib.hid (And.intro hO hb)
        clear hO hb hf hta hy hfl
        go_wp2
        go_roundw
        case rel => exact ⟨k + 1, _, rfl, by omega, by go_num, HH.out.1, HH.out.2⟩
        case measure => simp [intOf]; omega
      · have z2 : (y != x) = true := by simpa using hy
        have hf : (H.take (k + 1)).filter (· != x) = (H.take k).filter (· != x) ++ [y] := by rw [hta, List.filter_append]; simp [hy]
        have hbs := hb.size
        have AP := Lib.hid (fun ty => run_append_int wr w.heap.size ty ov _ y hO (by omega) hb.size)
        have HF := Lib.hid hf
        have HB2 := Lib.hid (hb.alloc hbs (.cells #[.int .i64 y] 3))
        have HO2 := Lib.hid (hO.alloc (.cells #[.int .i64 y] 3))
        clear hO hb hf hta hy
        go_wp2_with (first
          | (at_builtin; refine wpList_append_ran _ rfl _ _ 55 55 rfl ov (.slice (some ⟨wr.heap.size, 0, none⟩) 1 1) rfl rfl _ (AP.out _) ?_; rintro v2 w2 ⟨O2, g2⟩))
        have b2 := below_own HB2.out HO2.out g2 HB2.out.size (Nat.le_refl _)
        rw [← HF.out] at O2
        go_roundw
        case rel => exact ⟨k + 1, _, rfl, by omega, by go_num, O2, b2⟩
        case measure => simp [intOf]; omega
    · have z1 : ¬ ((k : Int) < (n : Int)) := by omega
      rw [List.take_of_length_le (by rw [HL.out]; omega)] at hO
      have HH := Lib.hid (And.intro hO hb)
      clear hO hb
      go_wp2
      go_ret
      exact ⟨_, rfl, HH.out.1, HH.out.2⟩

/-- What is held. -/
def Held (d : Pl.Pd) (H : List Int) : Prop := ∀ h ∈ H, 2 ≤ h ∧ h < d.high ∧ Pl.look d.l h = none
theorem own_mine {w w' : World} {p mb : Nat} {d : Pl.Pd} {base n : Nat} {v : Value} {xs : List Value} (hP : Po w p mb d) (ho : Off (Mine p mb) w w') (h : w.ownsRow base 3 1 v n xs) : w'.ownsRow base 3 1 v n xs :=
  ho.own h fun k hk hm => by
    obtain ⟨cs, hc⟩ := own_type h hk
    rcases hm with rfl | rfl
    · rw [hP.str] at hc; simp at hc
    · obtain ⟨es, c, hb⟩ := hP.map.block
      rw [hb] at hc; cases hc
theorem po_grown {w w' : World} {p mb : Nat} {d : Pl.Pd} {base n : Nat} {v : Value} {xs : List Value} (hP : Po w p mb d) (h : w.ownsRow base 3 1 v n xs) (hg : w.grownBy w' v.ownBlock) : Po w' p mb d :=
  hP.off (S := fun k => v.ownBlock = some k) (Off.of_grown hg fun k hk => hk) fun k hm hk => by
    obtain ⟨cs, hc⟩ := own_type h hk
    rcases hm with rfl | rfl
    · rw [hP.str] at hc; simp at hc
    · obtain ⟨es, c, hb⟩ := hP.map.block
      rw [hb] at hc; cases hc
theorem held_alloc {d : Pl.Pd} (hd : Pl.Ok d) {hz : Nat} {H : List Int} (h : Held d H) : Held (Pl.alloc d hz) H := fun x hx => by
  obtain ⟨a, b, c⟩ := h x hx
  exact ⟨a, Int.lt_of_lt_of_le b (Pl.alloc_high hz), Pl.look_alloc hd c⟩
theorem held_new {d : Pl.Pd} (hd : Pl.Ok d) {hz : Nat} {H : List Int} (h : Held d H) (hc : Pl.allocCode d hz = 0) : Held (Pl.alloc d hz) (H ++ [Pl.allocNo d hz]) ∧ Pl.allocNo d hz ∉ H := by
  obtain ⟨a, b, c, hor⟩ := Pl.alloc_told hd hc
  refine ⟨fun x hx => ?_, fun hx => ?_⟩
  · rcases List.mem_append.1 hx with h1 | h1
    · exact held_alloc hd h x h1
    · simp at h1; subst h1; exact ⟨a, b, c⟩
  · obtain ⟨_, h2, h3⟩ := h _ hx
    rcases hor with ⟨e, _⟩ | ⟨i, f, hf, e, _⟩
    · omega
    · rw [e, (Pl.look_iff hd.rises (g := f.2)).2 (List.mem_of_getElem? hf)] at h3; cases h3
theorem held_free {d : Pl.Pd} (hd : Pl.Ok d) {no : Int} {g : Nat} {H : List Int} (h : Held d H) (hc : Pl.freeCode d no = 0) : Held (Pl.free d no g) (H.filter (· != no)) := fun x hx => by
  obtain ⟨hx1, hx2⟩ := List.mem_filter.1 hx
  have hne : x ≠ no := by simpa using hx2
  obtain ⟨a, b, c⟩ := h x hx1
  have hfr : Pl.free d no g = { d with l := Pl.ins d.l no g } := by unfold Pl.free; rw [if_pos hc]
  have hn : Pl.look d.l no = none := by
    unfold Pl.freeCode at hc
    split at hc
    · omega
    · split at hc
      · omega
      · rename_i h2; simpa using h2
  rw [hfr]
  refine ⟨a, b, ?_⟩
  show Pl.look (Pl.ins d.l no g) x = none
  rw [Pl.look_ins hd.rises (Pl.look_none.1 hn), if_neg hne]; exact c
theorem held_trim {d : Pl.Pd} (hd : Pl.Ok d) {hz : Nat} {H : List Int} (h : Held d H) : Held (Pl.trim d hz).1 H := fun x hx => by
  obtain ⟨a, b, c⟩ := h x hx
  exact ⟨a, (Pl.trim_ends (hz := hz) _ (Nat.le_refl _) hd).2 x a b c⟩
theorem free_same {d : Pl.Pd} {no : Int} {g : Nat} (h : Pl.freeCode d no ≠ 0) : Pl.free d no g = d := by unfold Pl.free; rw [if_neg h]
/-- What holds between the steps. -/
structure OnceIn (w wr : World) (p mb : Nat) (d : Pl.Pd) (ov : Value) (H : List Int) (k : Nat) : Prop where
  po : Po wr p mb d
  own : wr.ownsRow w.heap.size 3 1 ov H.length (iv H)
  held : Held d H
  few : H.length ≤ k
  bel : Below w.heap.size w wr

set_option maxRecDepth 100000 in
set_option maxHeartbeats 4000000 in
theorem poolOnce_walk (w : World) (x : Bg) (hx : x.Is w) (A : Option Addr) (n c : Nat) (L : List Dov) (hL : Ds w A n c L) :
    Calls Try.prog 5 #[x.val, .slice A n c] w fun e w' => e = .returned (.bool true) ∧ Below w.heap.size w w' := by
  have HX := Lib.hid hx
  have HD := Lib.hid hL
  have B0 := (Below.refl _ w).alloc (Nat.le_refl _) (.cells #[.int .i64 x.cap, .int .i64 x.high, .slice x.A x.n x.c] 24)
  have HB0 := Lib.hid B0
  have HX0 := Lib.hid (bx_new w x 24)
  have hnc := hx.fs.2.1
  have hcm := hx.fs.2.2.1
  have hln := hL.2.1
  have hlm := hL.2.2.1
  unfold maxLen at hcm hlm
  unfold Bg.val
  clear hx B0 hL
  go_enter Try.func5, Try.ntmps5
  go_wp2_with fail
  refine (awake_any _).mono ?_
  rintro e v1 ⟨rfl, B1⟩
  have hb1 : Below w.heap.size w v1 := onto HB0.out B1
  have hx1 := HX0.out.on (by simp) B1
  have k0 := hx1.c0
  have k1 := hx1.c1
  have k2 := hx1.c2
  have HB1 := Lib.hid hb1
  clear hb1 B1 HB0 hx1
  by_cases hn : x.n ≤ 100
  · have z1 : ¬ ((100 : Int) < (x.n : Int)) := by omega
    have CN := Lib.hid (new_any v1 x.cap x.high x.A x.n x.c x.l (HX.out.fs.on HB1.out) ⟨HX.out.cap, HX.out.high⟩ hn)
    go_wp2_with fail
    refine CN.out.mono ?_
    rintro e v2 ⟨p, mb, rfl, hP, B2⟩
    clear CN k0 k1 k2
    cases hN : newOf x.cap x.high x.l with
    | none =>
      simp only [newV]
      have HB2 := Lib.hid (onto HB1.out B2)
      clear hP B2 hN
      go_wp2
      go_ret
      exact ⟨rfl, HB2.out⟩
    | some d0 =>
      obtain ⟨hP, hp, hm⟩ := hP d0 hN
      simp only [newV]
      have hp' : w.heap.size ≤ p ∧ w.heap.size ≤ mb := by have := HB1.out.size; omega
      have HS := Lib.hid hp'
      have S2 := Lib.hid (And.intro hP (onto HB1.out B2))
      clear hP B2 hN hp hm hp' HB1
      go_wp2_with fail
      go_loopw [7, 8] (fun hv i wr => ∃ (k : Nat) (d : Pl.Pd) (H : List Int) (ov : Value), ov = hv ∧ k ≤ n ∧ k ≤ 60 ∧ i = .int .i64 (k : Int) ∧ OnceIn w wr p mb d ov H k) (fun _ i _ => n - (intOf i).toNat)
      case atStart => exact ⟨0, d0, [], _, rfl, Nat.zero_le _, Nat.zero_le _, rfl, S2.out.1, World.ownsRow_nil _ _ _ _, fun h hh => by simp at hh, Nat.le_refl _, S2.out.2⟩
      case round =>
        obtain ⟨k, d, H, ov, rfl, hk, hk6, rfl, hI⟩ := hrel
        have HI := Lib.hid hI
        clear S2
        by_cases hlt : k < n
        · have y1 : (k : Int) < (n : Int) := by omega
          by_cases hlt6 : k < 60
          · have y2 : (k : Int) < 60 := by omega
            obtain ⟨b, off, s, rfl, hbl, hs, hin, ha⟩ := (HD.out.on hI.bel).get hlt
            have s0 := ha.c0
            have s1 := ha.c1
            have s2 := ha.c2
            have HIn := Lib.hid hin
            have hbs := hI.bel.size
            have hb3 := hI.bel.alloc hbs (.cells #[.int .i64 s.kind, .int .i64 s.page, .int .u64 (s.gen : Int)] 36)
            have hB3 := (Below.refl _ wr).alloc (Nat.le_refl _) (.cells #[.int .i64 s.kind, .int .i64 s.page, .int .u64 (s.gen : Int)] 36)
            have hI3 : OnceIn w (wr.alloc (.cells #[.int .i64 s.kind, .int .i64 s.page, .int .u64 (s.gen : Int)] 36)) p mb d ov H k := ⟨hI.po.on hB3, own_on hI.own hB3, hI.held, hI.few, hb3⟩
            have HI3 := Lib.hid hI3
            have hfew := hI.few
            clear hI ha hin hs hbl hb3 hB3 hI3 HI hbs
            by_cases q0 : s.kind = 0
            · have e0 : (s.kind == 0) = true := by simpa using q0
              have CA := Lib.hid (alloc_any _ p mb d s.gen HI3.out.po)
              clear q0
              go_wp2_with fail
              refine CA.out.mono ?_
              rintro e w1 ⟨rfl, hP1, o1⟩
              have hO1 := own_mine HI3.out.po o1 HI3.out.own
              have hb1 := off_below HI3.out.bel o1 HS.out.1 HS.out.2
              clear o1 CA s0 s1 s2
              by_cases hc : Pl.allocCode d s.gen = 0
              · obtain ⟨hh1, hh2⟩ := held_new HI3.out.po.ok HI3.out.held hc
                obtain ⟨t1, t2, t3, _⟩ := Pl.alloc_told HI3.out.po.ok hc
                rw [hc]
                generalize hno : Pl.allocNo d s.gen = no at *
                generalize hda : Pl.alloc d s.gen = d1 at *
                have HP1 := Lib.hid hP1
                have HO1 := Lib.hid hO1
                have HB1 := Lib.hid hb1
                have HH := Lib.hid (And.intro hh1 hh2)
                have HT := Lib.hid t3
                clear hP1 hO1 hb1 hh1 hh2 t3 hno hda hc
                go_wp2_with fail
                refine (list_any w1 p mb d1 HP1.out).mono ?_
                rintro e w2 ⟨vl, rfl, O2, B2⟩
                have hP2 := HP1.out.on B2
                obtain ⟨lA, lc, rfl, F2⟩ := fs_own O2 (in_ok HP1.out.ok)
                have hO2 := own_on HO1.out B2
                have hb2 := onto HB1.out B2
                have hmc := F2.2.1
                have hmm := F2.2.2.1
                have hf1 := HP1.out.few
                unfold maxLen at hmm
                have HF2 := Lib.hid F2
                have S2 := Lib.hid (And.intro hP2 (And.intro hO2 hb2))
                clear O2 B2 hP2 hO2 hb2 F2 HP1 HO1 HB1
                obtain ⟨m, hm⟩ : ∃ m, m = d1.l.length := ⟨_, rfl⟩
                have HM := Lib.hid hm
                rw [← hm] at hmc HF2 hf1 ⊢
                clear hm
                obtain ⟨hA, hcp, hov, hq1, hq2⟩ := own_form S2.out.2.1
                have hq3 := hq2
                unfold maxLen at hq3
                subst hov
                obtain ⟨hn5, hhn⟩ : ∃ hn5, hn5 = H.length := ⟨_, rfl⟩
                have HHN := Lib.hid hhn
                rw [← hhn] at hfew hq1 ⊢
                clear hhn hq2
                go_wp2_with fail
                obtain ⟨u2, hu2⟩ : ∃ u2 : World, u2 = w2 := ⟨_, rfl⟩
                have HU2 := Lib.hid hu2
                clear hu2
                go_loopw [13] (fun y wx => ∃ j : Nat, j ≤ m ∧ y = .int .i64 (j : Int) ∧ wx = w2) (fun y _ => m - (intOf y).toNat)
                case atStart => exact ⟨0, Nat.zero_le _, rfl, rfl⟩
                case round =>
                  obtain ⟨j, hj, rfl, hwx⟩ := hrel
                  subst hwx
                  by_cases hjm : j < m
                  · have y3 : (j : Int) < (m : Int) := by omega
                    obtain ⟨b2, off2, f, rfl, _, hf, _, r0, r1⟩ := HF2.out.get hjm
                    have y4 : (f.1 == no) = false := by
                      rw [beq_eq_false_iff_ne]
                      intro e
                      exact (Pl.look_none.1 HT.out) ⟨f, List.mem_of_getElem? hf, e⟩
                    clear hf r1
                    go_wp2
                    go_roundw
                    case rel => exact ⟨j + 1, by omega, by go_num, by trivial⟩
                    case measure => simp [intOf]; omega
                  · have y3 : ¬ ((j : Int) < (m : Int)) := by omega
                    have y3' : decide ((j : Int) < (m : Int)) = false := by simp; omega
                    go_wp2_with fail
                    go_loopw [14] (fun y wx => ∃ i : Nat, i ≤ hn5 ∧ y = .int .i64 (i : Int) ∧ wx = u2) (fun y _ => hn5 - (intOf y).toNat)
                    case atStart => exact ⟨0, Nat.zero_le _, rfl, HU2.out.symm⟩
                    case round =>
                      obtain ⟨i, hi, rfl, hwx⟩ := hrel
                      have hu := HU2.out
                      subst hu
                      subst hwx
                      by_cases hih : i < hn5
                      · have y5 : (i : Int) < (hn5 : Int) := by omega
                        obtain ⟨y, hy⟩ : ∃ y, H[i]? = some y := ⟨_, List.getElem?_eq_getElem (by rw [← HHN.out]; omega)⟩
                        have hOw := S2.out.2.1
                        obtain ⟨g, rfl, cS⟩ : ∃ g, hA = some ⟨g, 0, none⟩ ∧ wr.cell? ⟨g, i, none⟩ = some (.int .i64 y) := by
                          rcases hOw.2 with ⟨_, h0⟩ | ⟨g, cap, cur, hv, _, _⟩
                          · have := HHN.out; omega
                          · injection hv with h1 _ h3
                            subst h1 h3
                            refine ⟨g, rfl, ?_⟩
                            rw [hOw.cellAt i (by have := HHN.out; omega)]; unfold iv; rw [List.getElem?_map, hy]; rfl
                        have y6 : (y == no) = false := by
                          rw [beq_eq_false_iff_ne]
                          intro e
                          exact HH.out.2 (e ▸ List.mem_of_getElem? hy)
                        clear hOw hy
                        go_wp2
                        go_roundw
                        case rel => exact ⟨i + 1, by omega, by go_num, by trivial⟩
                        case measure => simp [intOf]; omega
                      · have y5 : ¬ ((i : Int) < (hn5 : Int)) := by omega
                        have y5' : decide ((i : Int) < (hn5 : Int)) = false := by simp; omega
                        have y6 : ¬ no < 2 := by omega
                        have y7 : ¬ d1.high ≤ no := by omega
                        have y7' : decide (d1.high ≤ no) = false := by simp; omega
                        have CH := Lib.hid (high_any wr p mb d1 S2.out.1)
                        have hhn := HHN.out
                        have hbs := S2.out.2.2.size
                        have AP := Lib.hid (fun ty => run_append_int wr w.heap.size ty _ H no S2.out.2.1 (by omega) hbs)
                        subst hhn
                        go_wp2_with fail
                        refine CH.out.mono ?_
                        rintro e w3 ⟨rfl, rfl⟩
                        go_wp2_with (first
                          | (at_builtin; refine wpList_append_ran _ rfl _ _ 55 55 rfl (.slice hA H.length hcp) (.slice (some ⟨wr.heap.size, 0, none⟩) 1 1) rfl rfl _ (AP.out _) ?_; rintro v4 w4 ⟨O4, g4⟩))
                        obtain ⟨hP2, hO2, hb2⟩ := S2.out
                        have hBa := (Below.refl _ wr).alloc (Nat.le_refl _) (.cells #[.int .i64 no] 3)
                        have hb4 := below_own (hb2.alloc hbs (.cells #[.int .i64 no] 3)) (own_on hO2 hBa) g4 (by simp; omega) (Nat.le_refl _)
                        have hP4 := po_grown (hP2.on hBa) (own_on hO2 hBa) g4
                        have HIk : Hid (OnceIn w w4 p mb d1 v4 (H ++ [no]) (k + 1)) := ⟨hP4, O4, HH.out.1, by simp; omega, hb4⟩
                        clear hP2 hO2 hb2 hBa hb4 hP4 O4 g4
                        go_roundw
                        case rel => exact ⟨k + 1, _, _, _, rfl, by omega, by omega, by go_num, HIk.out⟩
                        case measure => simp [intOf]; omega
              · obtain ⟨e1, _, _, e4, _⟩ := Pl.alloc_full hc
                rw [e4] at hP1
                have e2 : (Pl.allocCode d s.gen != 0) = true := by simpa using hc
                have HIk : Hid (OnceIn w w1 p mb d ov H (k + 1)) := ⟨hP1, hO1, HI3.out.held, by omega, hb1⟩
                clear hP1 hO1 hb1 hc e1 e4
                go_wp2
                go_roundw
                case rel => exact ⟨k + 1, d, H, _, rfl, by omega, by omega, by go_num, HIk.out⟩
                case measure => simp [intOf]; omega
            · have e0 : (s.kind == 0) = false := by simpa using q0
              by_cases q1 : s.kind = 1
              · have e1 : (s.kind == 1) = true := by simpa using q1
                have CF := Lib.hid (free_any _ p mb d s.page s.gen HI3.out.po HIn.out.page HIn.out.gen)
                have bx : Hid ((wr.alloc (.cells #[.int .i64 s.kind, .int .i64 s.page, .int .u64 (s.gen : Int)] 36)).heap[wr.heap.size]? = some (.cells #[.int .i64 s.kind, .int .i64 s.page, .int .u64 (s.gen : Int)] 36 (0, 0))) := heap_alloc_new wr _
                clear q0 q1
                go_wp2_with fail
                refine CF.out.mono ?_
                rintro e w1 ⟨rfl, hP1, o1⟩
                have hO1 := own_mine HI3.out.po o1 HI3.out.own
                have hb1 := off_below HI3.out.bel o1 HS.out.1 HS.out.2
                have bx1 := o1.at_ bx.out (fun hm => by
                  rcases hm with e | e
                  · have := HI3.out.po.str; rw [← e, bx.out] at this; simp at this
                  · obtain ⟨es, c', hb⟩ := HI3.out.po.map.block; rw [← e, bx.out] at hb; cases hb)
                have u1 := cell_of_row w1 _ 1 _ _ (0, 0) bx1
                simp at u1
                clear o1 CF s0 s1 s2 bx bx1
                by_cases hc : Pl.freeCode d s.page = 0
                · have hh := held_free (g := s.gen) HI3.out.po.ok HI3.out.held hc
                  rw [hc]
                  obtain ⟨hA, hcp, hov, hq1, hq2⟩ := own_form hO1
                  subst hov
                  have CW := Lib.hid (without_any w1 w.heap.size hA H.length hcp H s.page hO1 rfl (by omega))
                  have HH := Lib.hid (And.intro hh (And.intro hP1 hb1))
                  clear hh hP1 hb1 hO1 hc hq1 hq2
                  go_wp2_with fail
                  refine CW.out.mono ?_
                  rintro e w2 ⟨v2, rfl, O2, B2⟩
                  obtain ⟨hh, hP1, hb1⟩ := HH.out
                  have hfl := List.length_filter_le (· != s.page) H
                  have HIk : Hid (OnceIn w w2 p mb (Pl.free d s.page s.gen) v2 (H.filter (· != s.page)) (k + 1)) := ⟨hP1.on B2, own_low O2 hb1.size, hh, by omega, onto hb1 B2⟩
                  clear hh hP1 hb1 O2 B2 hfl
                  go_wp2
                  go_roundw
                  case rel => exact ⟨k + 1, _, _, _, rfl, by omega, by omega, by go_num, HIk.out⟩
                  case measure => simp [intOf]; omega
                · rw [free_same hc] at hP1
                  have e2 : (Pl.freeCode d s.page == 0) = false := by simpa using hc
                  have HIk : Hid (OnceIn w w1 p mb d ov H (k + 1)) := ⟨hP1, hO1, HI3.out.held, by omega, hb1⟩
                  clear hP1 hO1 hb1 hc
                  go_wp2
                  go_roundw
                  case rel => exact ⟨k + 1, d, H, _, rfl, by omega, by omega, by go_num, HIk.out⟩
                  case measure => simp [intOf]; omega
              · have e1 : (s.kind == 1) = false := by simpa using q1
                by_cases q2 : s.kind = 2
                · have e2 : (s.kind == 2) = true := by simpa using q2
                  have CT := Lib.hid (trim_any _ p mb d s.gen HI3.out.po)
                  clear q0 q1 q2
                  go_wp2_with fail
                  refine CT.out.mono ?_
                  rintro e w1 ⟨rfl, hP1, o1⟩
                  have hO1 := own_mine HI3.out.po o1 HI3.out.own
                  have hb1 := off_below HI3.out.bel o1 HS.out.1 HS.out.2
                  have hh := held_trim (hz := s.gen) HI3.out.po.ok HI3.out.held
                  generalize (Pl.trim d s.gen).1 = d1 at *
                  obtain ⟨hA, hcp, hov, hq1, hq2⟩ := own_form hO1
                  have hq3 := hq2
                  unfold maxLen at hq3
                  subst hov
                  have S1 := Lib.hid (And.intro hP1 (And.intro hO1 (And.intro hb1 hh)))
                  obtain ⟨hn5, hhn⟩ : ∃ hn5, hn5 = H.length := ⟨_, rfl⟩
                  have HHN := Lib.hid hhn
                  rw [← hhn] at hfew hq1 ⊢
                  clear hhn hq2 hP1 hO1 hb1 hh o1 CT s0 s1 s2
                  go_wp2_with fail
                  go_loopw [15, 16] (fun o y wx => ∃ (i : Nat) (ov2 : Value), ov2 = o ∧ i ≤ hn5 ∧ y = .int .i64 (i : Int) ∧ wx.ownsRow w1.heap.size 3 1 ov2 (H.take i).length (iv (H.take i)) ∧ Below w1.heap.size w1 wx) (fun _ y _ => hn5 - (intOf y).toNat)
                  case atStart => exact ⟨0, _, rfl, Nat.zero_le _, rfl, World.ownsRow_nil _ _ _ _, Below.refl _ _⟩
                  case round =>
                    obtain ⟨i, ov2, rfl, hi, rfl, hO2, hb2⟩ := hrel
                    by_cases hih : i < hn5
                    · have y5 : (i : Int) < (hn5 : Int) := by omega
                      obtain ⟨y, hy⟩ : ∃ y, H[i]? = some y := ⟨_, List.getElem?_eq_getElem (by rw [← HHN.out]; omega)⟩
                      have hOw := own_on S1.out.2.1 hb2
                      obtain ⟨g, rfl, cS⟩ : ∃ g, hA = some ⟨g, 0, none⟩ ∧ wr.cell? ⟨g, i, none⟩ = some (.int .i64 y) := by
                        rcases hOw.2 with ⟨_, h0⟩ | ⟨g, cap, cur, hv, _, _⟩
                        · have := HHN.out; omega
                        · injection hv with h1 _ h3
                          subst h1 h3
                          refine ⟨g, rfl, ?_⟩
                          rw [hOw.cellAt i (by have := HHN.out; omega)]; unfold iv; rw [List.getElem?_map, hy]; rfl
                      have y6 : y < d1.high := (S1.out.2.2.2 y (List.mem_of_getElem? hy)).2.1
                      have hta : H.take (i + 1) = H.take i ++ [y] := by rw [List.take_add_one, hy]; rfl
                      have hPz := S1.out.1.on hb2
                      have HPz := Lib.hid hPz
                      have htl : (H.take i).length ≤ 60 := by rw [List.length_take]; have := HHN.out; omega
                      have hbs := hb2.size
                      have AP := Lib.hid (fun m ty => run_append_int (wr.drewN m) w1.heap.size ty ov2 _ y hO2 (by omega) hbs)
                      have HTA := Lib.hid hta
                      have HZ := Lib.hid (And.intro hO2 hb2)
                      clear hOw hy hta hPz hO2 hb2 htl
                      go_wp2_with fail
                      go_quiet ((first | (go_at_call 19; exact Calls.quiet_of_same ((high_any _ p mb d1 (HPz.out.drewN _)).mono fun _ _ h => ⟨h.1, h.2.symm⟩))))
                      all_goals
                        go_wp2_with (first
                          | (at_builtin; refine wpList_append_ran _ rfl _ _ 55 55 rfl ov2 (.slice (some ⟨wr.heap.size, 0, none⟩) 1 1) rfl rfl _ (AP.out _ _) ?_; rintro v4 w4 ⟨O4, g4⟩))
                        obtain ⟨hO2, hb2⟩ := HZ.out
                        rw [← HTA.out] at O4
                        have hb4 := below_own ((below_drewN hb2 _).alloc (by simp; exact hbs) (.cells #[.int .i64 y] 3)) (World.ownsRow.alloc (by exact hO2) (.cells #[.int .i64 y] 3)) g4 (by simp; omega) (Nat.le_refl _)
                        clear hO2 hb2 g4
                        go_roundw
                        case rel => exact ⟨i + 1, _, rfl, by omega, by go_num, O4, hb4⟩
                        case measure => simp [intOf]; omega
                    · have y5 : ¬ ((i : Int) < (hn5 : Int)) := by omega
                      have y5' : decide ((i : Int) < (hn5 : Int)) = false := by simp; omega
                      obtain ⟨hP1, hO1, hb1, hh⟩ := S1.out
                      rw [List.take_of_length_le (by have := HHN.out; omega)] at hO2
                      obtain ⟨lA2, lc2, hov2, _, _⟩ := own_form hO2
                      subst hov2
                      have y6 : (((H.length : Nat) : Int) != (hn5 : Int)) = false := by rw [HHN.out]; simp
                      have HIk : Hid (OnceIn w wr p mb d1 (.slice hA hn5 hcp) H (k + 1)) := ⟨hP1.on hb2, by rw [HHN.out]; exact own_on hO1 hb2, hh, by rw [← HHN.out]; omega, onto hb1 hb2⟩
                      clear hP1 hO1 hb1 hh hO2 hb2
                      go_wp2
                      go_roundw
                      case rel => exact ⟨k + 1, _, _, _, rfl, by omega, by omega, by go_num, HIk.out⟩
                      case measure => simp [intOf]; omega
                · have e2 : (s.kind == 2) = false := by simpa using q2
                  have HIk : Hid (OnceIn w _ p mb d ov H (k + 1)) := ⟨HI3.out.po, HI3.out.own, HI3.out.held, by omega, HI3.out.bel⟩
                  clear q0 q1 q2
                  go_wp2
                  go_roundw
                  case rel => exact ⟨k + 1, d, H, _, rfl, by omega, by omega, by go_num, HIk.out⟩
                  case measure => simp [intOf]; omega
          · have y2 : ¬ ((k : Int) < 60) := by omega
            have y2' : decide ((k : Int) < 60) = false := by simp; omega
            clear hI
            go_wp2
            go_ret
            exact ⟨rfl, HI.out.bel⟩
        · have y1 : ¬ ((k : Int) < (n : Int)) := by omega
          have y1' : decide ((k : Int) < (n : Int)) = false := by simp; omega
          clear hI
          go_wp2
          go_ret
          exact ⟨rfl, HI.out.bel⟩
  · have z1 : (100 : Int) < (x.n : Int) := by omega
    go_wp2
    go_ret
    exact ⟨rfl, HB1.out⟩

end Go.Proofs.Ytbfofhgnamheeaa.Pq
