/-
  The program's disk: Write, walked.
-/
import Derived.Test.YtcpgmglpgffhdaaDkWrite
namespace Go.Proofs.Ytcpgmglpgffhdaa
open Go.RowKit
set_option linter.unusedVariables false

theorem cell_two (w : World) (u v : Value) (e : TypeId) : ∀ (j : Nat) (x : Value), [u, v][j]? = some x → (w.alloc (.cells #[u, v] e)).cell? ((⟨w.heap.size, 0, none⟩ : Addr).add j) = some x :=
  World.news_of_block (cs := #[u, v]) (t := e) (fr := (0, 0)) (heap_alloc_new w _)
theorem two_cell {u v : Value} (h : u.oneCell' = true) (h' : v.oneCell' = true) : ∀ x ∈ [u, v], x.oneCell' = true := by
  intro x hx; simp at hx; rcases hx with rfl | rfl
  · exact h
  · exact h'
theorem Try.info76 : (Try.prog.info? 76).map (fun i => (i.zero, i.size, i.bytes)) = some (some (.agg #[.int .i64 0, .slice none 0 0]), 2, 32) := by kernel_rfl
theorem fill_none (l : List Nat) : l ++ List.replicate (1024 - 1024) 0 = l := by rw [Nat.sub_self, List.replicate_zero, List.append_nil]

theorem str_kept {w1 w3 : World} {H : Hd} {d : Dk.Pd} (h1 : Dsk w1 H d) (o : Obj) (g3 : (w1.alloc o).grownBy w3 H.wv.ownBlock) :
    w3.heap[H.p]? = some (.cells #[H.sv, H.wv, .map (some H.mb), .int .i64 (d.left : Int), .bool d.down] 68 (0, 0)) := by
  have a := (Off.refl (fun _ => False) w1).alloc o
  exact (Off.of_grown (S := fun k => H.wv.ownBlock = some k) g3 fun k hk => hk).at_ (a.at_ h1.str id) (fun hk => h1.p_wv hk rfl)
theorem map_kept {w1 w3 : World} {H : Hd} {d : Dk.Pd} {M : DataW Value} (h1 : Dsk w1 H d) (hM : Seen w1 H.mb d M) (o : Obj) (g3 : (w1.alloc o).grownBy w3 H.wv.ownBlock) (v : Value) :
    (w3.setCell ⟨H.p, 1, none⟩ v).ownsMap Try.prog 3 hold H.mb d.waits.length M := by
  have a := (Off.refl (fun _ => False) w1).alloc o
  have b := (Off.of_grown (S := fun k => H.wv.ownBlock = some k) g3 fun k hk => hk).map_ (a.map_ hM.map id) (fun hk => h1.mb_wv hk)
  exact ((Off.refl (fun k => k = H.p) w3).set (i := 1) v rfl).map_ b h1.p_mb
theorem own_kept {w3 w5 : World} {p mb g n cap : Nat} {xs : List Value} {v : Value} {cs : Array Value} {es : Array MapEntry} {c : Nat} (O3 : w3.ownsRow 0 76 2 (.slice (some ⟨g, 0, none⟩) n cap) n xs) (hp : w3.heap[p]? = some (.cells cs 68 (0, 0))) (hm : w3.heap[mb]? = some (.map es c))
    (g5 : (w3.setCell ⟨p, 1, none⟩ v).grownBy w5 (some mb)) : w5.ownsRow 0 76 2 (.slice (some ⟨g, 0, none⟩) n cap) n xs := by
  obtain ⟨cs', hc⟩ := own_type O3 (k := g) rfl
  have a := ((Off.refl (fun k => k = p) w3).set (i := 1) v rfl).own O3 (fun k hk e => by injection hk with hk; subst e; subst hk; rw [hc] at hp; simp at hp)
  exact (Off.of_grown (S := fun k => k = mb) g5 fun k hk => by injection hk with hk; exact hk.symm).own a (fun k hk e => by injection hk with hk; subst e; subst hk; rw [hc] at hm; cases hm)

set_option maxRecDepth 100000 in
set_option maxHeartbeats 1000000 in
theorem write_ok (w : World) (H : Hd) (d : Dk.Pd) (no c : Nat) (A : Option Addr) (l : List Nat) (h : Dsk w H d) (hno : no < d.pages.length) (hb : Bs w A 1024 c l) (hd : d.down = false) (hm : d.waits.length < 1000) :
    Calls Try.prog 26 #[.pointer (some ⟨H.p, 0, none⟩), .int .i64 (no : Int), .slice A 1024 c] w fun e w' => ∃ H', e = .returned (.int .i64 (Dk.code (Dk.act (Dk.push d no l)))) ∧ Dsk w' H' (Dk.act (Dk.push d no l)) ∧ Step w H w' H' := by
  obtain ⟨i0, hi, hz0, hz1, hz2⟩ := info_parts Try.info76
  have hdd : decide (Dk.has d (no : Int)) = true := by simp [Dk.has]; omega
  have hfew := h.few
  have hl := hb.1
  have hlt := hb.2.2.2.1
  have c4 := h.c4
  rw [hd] at c4
  go_enter Try.func26, Try.ntmps26
  go_wp2_with fail
  refine (has_any w H d no h).mono ?_
  rintro e w0 ⟨rfl, rfl⟩
  rw [hdd]
  clear hdd
  go_wp2_with fail
  refine (copyD_bs _ _ _ _ _ hb (Nat.le_refl _)).mono ?_
  rintro e w1 ⟨rfl, R1, B1⟩
  rw [fill_none] at R1
  have h1 := h.on B1
  generalize hgk : w.heap.size = gk at R1
  obtain ⟨xs, hx⟩ := h1.waits
  obtain ⟨M, hM⟩ := h1.seen
  have hu := PgV.of_row R1 hl hlt
  have O2 := Lib.hid (hx.own.alloc (.cells #[.int .i64 (no : Int), .slice (some ⟨gk, 0, none⟩) 1024 1024] 76))
  have c1 := h1.c1
  have c2 := h1.c2
  have ho2 : Off H.wr w1 (w1.alloc (.cells #[.int .i64 (no : Int), .slice (some ⟨gk, 0, none⟩) 1024 1024] 76)) := (Off.refl H.wr w1).alloc _
  have HO2 := Lib.hid ho2
  have hp1 : H.p < w1.heap.size := h1.lt (.inl rfl)
  clear ho2
  have HH := Lib.hid h
  have HDn := Lib.hid hd
  have H1 := Lib.hid h1
  have HX := Lib.hid hx
  have HM := Lib.hid hM
  have HU := Lib.hid hu
  have HB1 := Lib.hid B1
  clear h h1 hx hM hu hl hlt hb hd c4 B1 R1
  go_wp2_with (first
    | (at_builtin; refine wpList_append_lies _ rfl _ _ 66 rfl 0 76 i0 _ 2 32 Try.underlying66 hi hz0 hz1 hz2 rfl (by decide) H.wv d.waits.length (wc xs) rfl O2.out ⟨w1.heap.size, 0, none⟩ 1 1 [.int .i64 (no : Int), .slice (some ⟨gk, 0, none⟩) 1024 1024] rfl rfl (cell_two _ _ _ _) (two_cell rfl rfl) (by decide) (by unfold maxLen; omega) (by omega) (Nat.zero_le _) _ rfl ?_; intro g cap w3 O3 g3 hl3 hg3; have HO3 := Lib.hid (HO2.out.trans (Off.of_grown g3 fun k hk => .inr (.inr hk))); have HS3 := Lib.hid (str_kept H1.out _ g3); have HM3 := Lib.hid (map_block ((Off.of_grown (S := fun k => H.wv.ownBlock = some k) g3 fun k hk => hk).map_ (((Off.refl (fun _ => False) w1).alloc _).map_ HM.out.map id) (fun hk => H1.out.mb_wv hk))); have c1' := cell_of_row w3 _ 1 _ _ (0, 0) HS3.out; have c2' := cell_of_row w3 _ 2 _ _ (0, 0) HS3.out; have f1' := frozen_of_row w3 H.p 1 _ _ HS3.out; have m4 := Lib.hid (map_kept H1.out HM.out _ g3 (.slice (some ⟨g, 0, none⟩) (d.waits.length + 1) cap)); have HO33 := Lib.hid O3; clear O3 g3; simp at c1' c2')
    | (at_mapUpdate; refine wpList_mapUpdate_own _ rfl _ _ _ 65 rfl 3 25 keyed Try.underlying65 hold H.mb d.waits.length M rfl m4.out (by unfold maxLen; omega) _ _ (key no) rfl rfl (key_of (by omega)) (.held (.slice (some ⟨gk, 0, none⟩) 1024 1024)) [] rfl ?_; intro w5 M5 g5))
  have ho5 := (HO3.out.set (i := 1) (.slice (some ⟨g, 0, none⟩) (d.waits.length + 1) cap) (.inl rfl)).trans (Off.of_grown g5 fun k hk => by injection hk with hk; exact .inr (.inl hk.symm))
  have hs5 := (g5.block H.p (Array.getElem?_eq_some_iff.1 (str_set HS3.out _).1).1 (fun e => by injection e with e; exact H1.out.p_mb e.symm)).trans (str_set HS3.out (.slice (some ⟨g, 0, none⟩) (d.waits.length + 1) cap)).1
  have hD := H1.out.pushed (no := no) (l := l) HM.out HX.out hno ho5 (HU.out.off ho5 H1.out.wr_free) hs5 (own_kept HO33.out HS3.out HM3.out.choose_spec.choose_spec g5) M5
  have hSt : Step w H w5 ⟨H.p, H.mb, H.sv, .slice (some ⟨g, 0, none⟩) (d.waits.length + 1) cap⟩ := by
    refine ⟨(Off.of_below HB1.out).trans (ho5.mono fun k hk => .inl (Hd.wr_own hk)), rfl, fun k hk => ?_⟩
    rcases hk with hk | hk | hk | hk
    · exact .inl (.inl hk)
    · exact .inl (.inr (.inl hk))
    · exact .inl (.inr (.inr (.inl hk)))
    · injection hk with hk
      subst hk
      rcases hl3 with h3 | h3
      · exact .inl (.inr (.inr (.inr h3)))
      · right; show _ ≤ g; have := HB1.out.size; simp at h3; omega
  have HSt := Lib.hid hSt
  clear hSt ho5 hs5 M5 g5 HO3 HS3 HO33 HM3 HH H1 HX HM HU HB1 O2 HO2 c1 c2 c1' c2' f1' m4 hl3 hg3
  refine (act_any w5 _ _ hD (by exact HDn.out)).mono ?_
  rintro e w6 ⟨rfl, h6, o6⟩
  go_wp2
  go_ret
  exact ⟨_, rfl, h6, HSt.out.trans (Step.of_p o6)⟩

theorem write_arg (w : World) (H : Hd) (d : Dk.Pd) (no : Int) (n c : Nat) (A : Option Addr) (h : Dsk w H d) (hno : ¬ (Dk.has d no ∧ n = 1024)) :
    Calls Try.prog 26 #[.pointer (some ⟨H.p, 0, none⟩), .int .i64 no, .slice A n c] w fun e w' => e = .returned (.int .i64 1) ∧ w = w' := by
  by_cases hh : Dk.has d no
  · have hd : decide (Dk.has d no) = true := by simpa using hh
    have hn : ((n : Int) != 1024) = true := by
      have : ¬ n = 1024 := fun h' => hno ⟨hh, h'⟩
      simp; omega
    go_enter Try.func26, Try.ntmps26
    go_wp2_with fail
    refine (has_any w H d no h).mono ?_
    rintro e w0 ⟨rfl, rfl⟩
    rw [hd]
    clear hd h hno hh
    go_wp2
    go_ret
    exact ⟨rfl, rfl⟩
  · have hd : decide (Dk.has d no) = false := by simpa using hh
    go_enter Try.func26, Try.ntmps26
    go_wp2_with fail
    refine (has_any w H d no h).mono ?_
    rintro e w0 ⟨rfl, rfl⟩
    rw [hd]
    clear hd h hno hh
    go_wp2
    go_ret
    exact ⟨rfl, rfl⟩
theorem write_down (w : World) (H : Hd) (d : Dk.Pd) (no : Int) (c : Nat) (A : Option Addr) (h : Dsk w H d) (hno : Dk.has d no) (hdn : d.down = true) :
    Calls Try.prog 26 #[.pointer (some ⟨H.p, 0, none⟩), .int .i64 no, .slice A 1024 c] w fun e w' => e = .returned (.int .i64 3) ∧ w = w' := by
  have hd : decide (Dk.has d no) = true := by simpa using hno
  have c4 := h.c4
  rw [hdn] at c4
  go_enter Try.func26, Try.ntmps26
  go_wp2_with fail
  refine (has_any w H d no h).mono ?_
  rintro e w0 ⟨rfl, rfl⟩
  rw [hd]
  clear hd h hno hdn
  go_wp2
  go_ret
  exact ⟨rfl, rfl⟩
/-- Write, whatever is handed in. -/
theorem write_any (w : World) (H : Hd) (d : Dk.Pd) (no : Int) (n c : Nat) (A : Option Addr) (l : List Nat) (h : Dsk w H d) (hb : Bs w A n c l) (hm : d.waits.length < 1000) :
    Calls Try.prog 26 #[.pointer (some ⟨H.p, 0, none⟩), .int .i64 no, .slice A n c] w fun e w' => ∃ H', e = .returned (.int .i64 (Dk.writeCode d no l)) ∧ Dsk w' H' (Dk.write d no l) ∧ Step w H w' H' := by
  have hl := hb.1
  by_cases hh : Dk.has d no ∧ n = 1024
  · obtain ⟨h1, rfl⟩ := hh
    have hc : Dk.has d no ∧ l.length = 1024 := ⟨h1, hl⟩
    cases hdn : d.down with
    | false =>
      have h2 := h1
      unfold Dk.has at h2
      obtain ⟨m, rfl⟩ : ∃ m : Nat, no = (m : Int) := ⟨no.toNat, by omega⟩
      have e1 : Dk.writeCode d (m : Int) l = Dk.code (Dk.act (Dk.push d m l)) := by unfold Dk.writeCode; rw [if_pos hc, hdn, Int.toNat_natCast]; rfl
      have e2 : Dk.write d (m : Int) l = Dk.act (Dk.push d m l) := by unfold Dk.write; rw [if_pos hc, hdn, Int.toNat_natCast]; rfl
      rw [e1, e2]
      exact write_ok w H d m c A l h (by omega) hb hdn hm
    | true =>
      have e1 : Dk.writeCode d no l = 3 := by unfold Dk.writeCode; rw [if_pos hc, hdn]; rfl
      have e2 : Dk.write d no l = d := by unfold Dk.write; rw [if_pos hc, hdn]; rfl
      rw [e1, e2]
      refine (write_down w H d no c A h h1 hdn).mono ?_
      rintro e w' ⟨rfl, rfl⟩
      exact ⟨H, rfl, h, Step.refl _ _⟩
  · have hc : ¬ (Dk.has d no ∧ l.length = 1024) := by rw [hl]; exact hh
    have e1 : Dk.writeCode d no l = 1 := by unfold Dk.writeCode; rw [if_neg hc]
    have e2 : Dk.write d no l = d := by unfold Dk.write; rw [if_neg hc]
    rw [e1, e2]
    refine (write_arg w H d no n c A h hh).mono ?_
    rintro e w' ⟨rfl, rfl⟩
    exact ⟨H, rfl, h, Step.refl _ _⟩

end Go.Proofs.Ytcpgmglpgffhdaa
