/-
  Write once more, on both disks: what is handed in may be written over.
-/
import Derived.Test.YtakoajbfkinlcaaDkWr
import Derived.Test.YtakoajbfkinlcaaRfWrite
namespace Go.Proofs.Ytakoajbfkinlcaa
open Go.RowKit
set_option linter.unusedVariables false

/-- The disk stays, whatever becomes of the block g0, and of blocks that are no rows of bytes and none of its own. -/
def DskG (w : World) (H : Hd) (d : Dk.Pd) (g0 : Nat) : Prop := ∀ (S : Nat → Prop) (W : World), Off (fun k => S k ∨ k = g0) w W → Free S w → (∀ k, H.own k → ¬ S k) → Dsk W H d
def RfdG (w : World) (G : Gd) (d : Dk.Pd) (g0 : Nat) : Prop := ∀ (S : Nat → Prop) (W : World), Off (fun k => S k ∨ k = g0) w W → Free S w → (∀ k, G.own k → ¬ S k) → Rfd W G d

section
variable {S T : Nat → Prop} {wo w W : World} {g0 : Nat}
/-- Two changes one behind the other, seen from the first world. -/
theorem Off.both (h : Off T wo w) (h2 : Off (fun k => S k ∨ k = g0) w W) : Off (fun k => (T k ∨ S k ∧ k < wo.heap.size) ∨ k = g0) wo W :=
  ⟨h2.os.trans h.os, h2.tape.trans h.tape, h2.output.trans h.output, Nat.le_trans h.size h2.size, fun k hk hn => (h2.block k (Nat.lt_of_lt_of_le hk h.size) (fun hk' => hn (by rcases hk' with a | a; exact .inl (.inr ⟨a, hk⟩); exact .inr a))).trans (h.block k hk fun a => hn (.inl (.inl a)))⟩
theorem Free.both (h : Off T wo w) (hT : Free T wo) (hS : Free S w) : Free (fun k => T k ∨ S k ∧ k < wo.heap.size) wo := by
  intro k cs m hk hh
  by_cases ht : T k
  · exact hT k cs m ht hh
  · rcases hk with a | ⟨a, b⟩
    · exact ht a
    · exact hS k cs m a ((h.block k b ht).trans hh)
/-- A block that lies behind all of wo's is none of them. -/
theorem Off.less (h : Off (fun k => S k ∨ k = g0) wo W) (hg : wo.heap.size ≤ g0) : Off S wo W :=
  ⟨h.os, h.tape, h.output, h.size, fun k hk hn => h.block k hk (fun a => by rcases a with a | a; exact hn a; omega)⟩
end

theorem Dsk.apart {T : Nat → Prop} {wo w : World} {H : Hd} {d : Dk.Pd} {g0 : Nat} (h : Dsk wo H d) (hO : Off T wo w) (hF : Free T wo) (hT : ∀ k, H.own k → ¬ T k) (hg : wo.heap.size ≤ g0) : DskG w H d g0 := by
  intro S W hW hS hn
  exact h.off ((hO.both hW).less hg) (Free.both hO hF hS) (fun k hk a => by rcases a with a | a; exact hT k hk a; exact hn k hk a.1)
theorem Rfd.apart {T : Nat → Prop} {wo w : World} {G : Gd} {d : Dk.Pd} {g0 : Nat} (h : Rfd wo G d) (hO : Off T wo w) (hF : Free T wo) (hT : ∀ k, G.own k → ¬ T k) (hg : wo.heap.size ≤ g0) : RfdG w G d g0 := by
  intro S W hW hS hn
  exact h.off ((hO.both hW).less hg) (Free.both hO hF hS) (fun k hk a => by rcases a with a | a; exact hT k hk a; exact hn k hk a.1)
theorem DskG.off {T : Nat → Prop} {w w' : World} {H : Hd} {d : Dk.Pd} {g0 : Nat} (h : DskG w H d g0) (hO : Off T w w') (hF : Free T w) (hT : ∀ k, H.own k → ¬ T k) : DskG w' H d g0 := by
  intro S W hW hS hn
  exact h _ W (hO.both hW) (Free.both hO hF hS) (fun k hk a => by rcases a with a | a; exact hT k hk a; exact hn k hk a.1)
theorem RfdG.off {T : Nat → Prop} {w w' : World} {G : Gd} {d : Dk.Pd} {g0 : Nat} (h : RfdG w G d g0) (hO : Off T w w') (hF : Free T w) (hT : ∀ k, G.own k → ¬ T k) : RfdG w' G d g0 := by
  intro S W hW hS hn
  exact h _ W (hO.both hW) (Free.both hO hF hS) (fun k hk a => by rcases a with a | a; exact hT k hk a; exact hn k hk a.1)
theorem pgv_off {S : Nat → Prop} {w W : World} {v : Value} {l : List Nat} (h : PgV w v l) (ho : Off S w W) (hn : ∀ k, v.ownBlock = some k → ¬ S k) : PgV W v l := ⟨h.len, h.lt, ho.own h.own hn⟩
theorem Seen.off {S : Nat → Prop} {w w1 : World} {mb : Nat} {d : Dk.Pd} {M : DataW Value} (h : Seen w mb d M) (ho : Off S w w1) (hf : Free S w) (hn : ¬ S mb) : Seen w1 mb d M :=
  ⟨ho.map_ h.map hn, h.has, fun no h1 h2 => by obtain ⟨v, h3, h4⟩ := h.at_ no h1 h2; exact ⟨v, h3, h4.off ho hf⟩⟩

/-- What a write leaves, seen from the world ahead of what was handed in. -/
theorem dskG_intro {T : Nat → Prop} {wo w6 : World} {H : Hd} {d e : Dk.Pd} {no g cap g1 : Nat} {l : List Nat} {u : Value} {xs : List (Nat × Value)} {M : DataW Value} (h : Dsk wo H d) (hM : Seen wo H.mb d M) (hxs : Ws wo 64 H.wv d.waits xs) (hno : no < d.pages.length)
    (hO : Off (fun k => H.wr k ∨ T k) wo w6) (hF : Free T wo) (hT : ∀ k, H.own k → ¬ T k) (hp : e.pages = d.pages) (hw : e.waits = (Dk.push d no l).waits)
    (h6 : Dsk w6 ⟨H.p, H.mb, H.sv, .slice (some ⟨g, 0, none⟩) (d.waits.length + 1) cap⟩ e) (hu : PgV w6 u l) (hgu : ∀ k, u.ownBlock = some k → g1 ≤ k) (hg : g < wo.heap.size ∨ g1 ≤ g)
    (hrow : w6.ownsRow 0 64 2 (.slice (some ⟨g, 0, none⟩) (d.waits.length + 1) cap) (d.waits.length + 1) (wc xs ++ [.int .i64 (no : Int), u]))
    (hmap : w6.ownsMap Try.prog 3 hold H.mb (d.waits.length + 1) (M.put (key no) (.held u))) :
    ∀ g0, wo.heap.size ≤ g0 → g0 < g1 → DskG w6 ⟨H.p, H.mb, H.sv, .slice (some ⟨g, 0, none⟩) (d.waits.length + 1) cap⟩ e g0 := by
  intro g0 hg0 hg1 S W hW hS hn
  have hfr : Free (fun k => H.wr k ∨ T k) wo := fun k cs m hk => by
    rcases hk with a | a
    · exact h.wr_free k cs m a
    · exact hF k cs m a
  have ho := (hO.both hW).less hg0
  have hf := Free.both hO hfr hS
  have hsv : ∀ k, H.sv.ownBlock = some k → ¬ ((H.wr k ∨ T k) ∨ S k ∧ k < wo.heap.size) := by
    intro k hk a
    rcases a with (a | a) | a
    · exact h.sv_wr hk a
    · exact hT k (.inr (.inr (.inl hk))) a
    · exact hn k (.inr (.inr (.inl hk))) a.1
  have hu' : PgV W u l := pgv_off hu hW fun k hk a => by
    rcases a with a | a
    · obtain ⟨cs, hc⟩ := own_type hu.own hk
      exact hS k cs (0, 0) a hc
    · have := hgu k hk; omega
  have hpk : H.p < wo.heap.size := h.lt (.inl rfl)
  have hmk : H.mb < wo.heap.size := h.lt (.inr (.inl rfl))
  obtain ⟨vs, hs⟩ := h.safe
  have hwl : (Dk.push d no l).waits.length = d.waits.length + 1 := by simp [Dk.push]
  refine ⟨hW.at_ h6.str (fun a => ?_), ⟨vs, by rw [hp]; exact hs.off ho hf hsv⟩, ⟨xs ++ [(no, u)], ?_, ?_⟩, ⟨M.put (key no) (.held u), ?_, ?_, ?_⟩, h6.ins, h6.few, h6.low⟩
  · rcases a with a | a
    · exact hn _ (.inl rfl) a
    · have a' : H.p = g0 := a
      omega
  · rw [hw, hwl, wc_snoc]
    refine hW.own hrow fun k hk a => ?_
    injection hk with hk
    have hk : g = k := hk
    subst hk
    rcases a with a | a
    · exact hn _ (.inr (.inr (.inr rfl))) a
    · rcases hg with b | b <;> omega
  · rw [hw]
    exact (hxs.along.mono fun x y hr => ⟨hr.1, hr.2.off ho hf⟩).snoc ⟨rfl, hu'⟩
  · rw [hw, hwl]
    refine hW.map_ hmap fun a => ?_
    rcases a with a | a
    · exact hn _ (.inr (.inl rfl)) a
    · have a' : H.mb = g0 := a
      omega
  · rw [hp, hw]
    intro q hq
    have ha : (Dk.push d no l).waits.any (fun x => x.1 == q) = (d.waits.any (fun x => x.1 == q) || no == q) := by simp [Dk.push]
    rw [ha]
    by_cases he : no = q
    · subst he
      rw [Maps.has_put_same hM.map.isMap (by exact trivial)]; simp
    · rw [Maps.has_put_other (by unfold key; intro e; injection e with _ e; omega), hM.has q hq]
      have : (no == q) = false := by simpa using he
      rw [this, Bool.or_false]
  · rw [hp, hw]
    intro q hq hh
    have ha : (Dk.push d no l).waits.any (fun x => x.1 == q) = (d.waits.any (fun x => x.1 == q) || no == q) := by simp [Dk.push]
    rw [ha] at hh
    have es : Dk.seen e q = Dk.seen (Dk.push d no l) q := Dk.seen_eq (by rw [hp]; rfl) hw q
    rw [es, Dk.seen_push]
    by_cases he : no = q
    · subst he
      rw [if_pos rfl]
      exact ⟨u, Maps.atKey_put_same hM.map.isMap (by exact trivial) _ _, hu'⟩
    · have : (no == q) = false := by simpa using he
      rw [this, Bool.or_false] at hh
      obtain ⟨v, h1, h2⟩ := hM.at_ q hq hh
      rw [if_neg he]
      exact ⟨v, by rw [Maps.atKey_put_other (by unfold key; intro e; injection e with _ e; omega)]; exact h1, h2.off ho hf⟩

theorem rfdG_intro {T : Nat → Prop} {wo w6 : World} {G : Gd} {d e : Dk.Pd} {no g cap g1 : Nat} {l : List Nat} {u : Value} {xs : List (Nat × Value)} (h : Rfd wo G d) (hxs : Ws wo 66 G.wv d.waits xs) (hno : no < d.pages.length)
    (hO : Off (fun k => (k = G.q ∨ G.wv.ownBlock = some k) ∨ T k) wo w6) (hF : Free T wo) (hT : ∀ k, G.own k → ¬ T k) (hp : e.pages = d.pages) (hw : e.waits = (Dk.push d no l).waits)
    (h6 : Rfd w6 ⟨G.q, G.sv, .slice (some ⟨g, 0, none⟩) (d.waits.length + 1) cap⟩ e) (hu : PgV w6 u l) (hgu : ∀ k, u.ownBlock = some k → g1 ≤ k) (hg : g < wo.heap.size ∨ g1 ≤ g)
    (hrow : w6.ownsRow 0 66 2 (.slice (some ⟨g, 0, none⟩) (d.waits.length + 1) cap) (d.waits.length + 1) (wc xs ++ [.int .i64 (no : Int), u])) :
    ∀ g0, wo.heap.size ≤ g0 → g0 < g1 → RfdG w6 ⟨G.q, G.sv, .slice (some ⟨g, 0, none⟩) (d.waits.length + 1) cap⟩ e g0 := by
  intro g0 hg0 hg1 S W hW hS hn
  have hfr : Free (fun k => (k = G.q ∨ G.wv.ownBlock = some k) ∨ T k) wo := fun k cs m hk => by
    rcases hk with (a | a) | a
    · exact h.free k cs m (.inl a)
    · exact h.free k cs m (.inr (.inr a))
    · exact hF k cs m a
  have ho := (hO.both hW).less hg0
  have hf := Free.both hO hfr hS
  have hu' : PgV W u l := pgv_off hu hW fun k hk a => by
    rcases a with a | a
    · obtain ⟨cs, hc⟩ := own_type hu.own hk
      exact hS k cs (0, 0) a hc
    · have := hgu k hk; omega
  have hpk : G.q < wo.heap.size := h.lt (.inl rfl)
  have hsv : ∀ k, G.sv.ownBlock = some k → ¬ (((k = G.q ∨ G.wv.ownBlock = some k) ∨ T k) ∨ S k ∧ k < wo.heap.size) := by
    intro k hk a
    rcases a with ((a | a) | a) | a
    · exact h.q_sv hk a
    · exact h.sv_wv hk a
    · exact hT k (.inr (.inl hk)) a
    · exact hn k (.inr (.inl hk)) a.1
  obtain ⟨vs, hs⟩ := h.safe
  have hwl : (Dk.push d no l).waits.length = d.waits.length + 1 := by simp [Dk.push]
  refine ⟨hW.at_ h6.str (fun a => ?_), ⟨vs, by rw [hp]; exact hs.off ho hf hsv⟩, ⟨xs ++ [(no, u)], ?_, ?_⟩, h6.ins, h6.few, h6.low⟩
  · rcases a with a | a
    · exact hn _ (.inl rfl) a
    · have a' : G.q = g0 := a
      omega
  · rw [hw, hwl, wc_snoc]
    refine hW.own hrow fun k hk a => ?_
    injection hk with hk
    have hk : g = k := hk
    subst hk
    rcases a with a | a
    · exact hn _ (.inr (.inr rfl)) a
    · rcases hg with b | b <;> omega
  · rw [hw]
    exact (hxs.along.mono fun x y hr => ⟨hr.1, hr.2.off ho hf⟩).snoc ⟨rfl, hu'⟩

set_option maxRecDepth 100000 in
set_option maxHeartbeats 1000000 in
theorem write_okG {T : Nat → Prop} (wo w : World) (H : Hd) (d : Dk.Pd) (no c : Nat) (A : Option Addr) (l : List Nat) (ho0 : Dsk wo H d) (hOT : Off T wo w) (hFT : Free T wo) (hTT : ∀ k, H.own k → ¬ T k) (hno : no < d.pages.length) (hb : Bs w A 1024 c l) (hd : d.down = false) (hm : d.waits.length < 1000) :
    Calls Try.prog 12 #[.pointer (some ⟨H.p, 0, none⟩), .int .i64 (no : Int), .slice A 1024 c] w fun e w' => ∃ H', e = .returned (.int .i64 (Dk.code (Dk.act (Dk.push d no l)))) ∧ Dsk w' H' (Dk.act (Dk.push d no l)) ∧ Step w H w' H' ∧ ∀ g0, wo.heap.size ≤ g0 → g0 < w.heap.size → DskG w' H' (Dk.act (Dk.push d no l)) g0 := by
  have h := ho0.off hOT hFT hTT
  obtain ⟨xs, hx0⟩ := ho0.waits
  obtain ⟨M, hM0⟩ := ho0.seen
  obtain ⟨i0, hi, hz0, hz1, hz2⟩ := info_parts Try.info64
  have hdd : decide (Dk.has d (no : Int)) = true := by simp [Dk.has]; omega
  have hfew := h.few
  have hl := hb.1
  have hlt := hb.2.2.2.1
  have c4 := h.c4
  rw [hd] at c4
  go_enter Try.func12, Try.ntmps12
  go_wp2_with fail
  refine (has_any w H d no h).mono ?_
  rintro e w0 ⟨rfl, rfl⟩
  rw [hdd]
  clear hdd
  go_wp2_with fail
  refine (copyD_bs _ _ _ _ _ hb (Nat.le_refl _)).mono ?_
  rintro e w1 ⟨rfl, R1, B1⟩
  rw [fill_none] at R1
  have h1 := h.on B1
  generalize hgk : w.heap.size = gk at R1
  have hx := (hx0.off hOT hFT fun k hk => hTT k (.inr (.inr (.inr hk)))).on B1
  have hM := (hM0.off hOT hFT (hTT _ (.inr (.inl rfl)))).off (S := fun _ => False) (Off.of_below B1) (fun _ _ _ h => h.elim) id
  have HOT := Lib.hid hOT
  have HX0 := Lib.hid hx0
  have HM0 := Lib.hid hM0
  have HO0 := Lib.hid ho0
  have hgk' : w.heap.size = gk := hgk
  clear hOT hx0 hM0 ho0
  have hu := PgV.of_row R1 hl hlt
  have O2 := Lib.hid (hx.own.alloc (.cells #[.int .i64 (no : Int), .slice (some ⟨gk, 0, none⟩) 1024 1024] 64))
  have c1 := h1.c1
  have c2 := h1.c2
  have ho2 : Off H.wr w1 (w1.alloc (.cells #[.int .i64 (no : Int), .slice (some ⟨gk, 0, none⟩) 1024 1024] 64)) := (Off.refl H.wr w1).alloc _
  have HO2 := Lib.hid ho2
  have hp1 : H.p < w1.heap.size := h1.lt (.inl rfl)
  clear ho2
  have HH := Lib.hid h
  have HDn := Lib.hid hd
  have H1 := Lib.hid h1
  have HX := Lib.hid hx
  have HM := Lib.hid hM
  have HU := Lib.hid hu
  have HB1 := Lib.hid B1
  clear h h1 hx hM hu hl hlt hb hd c4 B1 R1
  go_wp2_with (first
    | (at_builtin; refine wpList_append_lies _ rfl _ _ 58 rfl 0 64 i0 _ 2 32 Try.underlying58 hi hz0 hz1 hz2 rfl (by decide) H.wv d.waits.length (wc xs) rfl O2.out ⟨w1.heap.size, 0, none⟩ 1 1 [.int .i64 (no : Int), .slice (some ⟨gk, 0, none⟩) 1024 1024] rfl rfl (cell_two _ _ _ _) (two_cell rfl rfl) (by decide) (by unfold maxLen; omega) (by omega) (Nat.zero_le _) _ rfl ?_; intro g cap w3 O3 g3 hl3 hg3; have HO3 := Lib.hid (HO2.out.trans (Off.of_grown g3 fun k hk => .inr (.inr hk))); have HS3 := Lib.hid (str_kept H1.out _ g3); have HM3 := Lib.hid (map_block ((Off.of_grown (S := fun k => H.wv.ownBlock = some k) g3 fun k hk => hk).map_ (((Off.refl (fun _ => False) w1).alloc _).map_ HM.out.map id) (fun hk => H1.out.mb_wv hk))); have c1' := cell_of_row w3 _ 1 _ _ (0, 0) HS3.out; have c2' := cell_of_row w3 _ 2 _ _ (0, 0) HS3.out; have f1' := frozen_of_row w3 H.p 1 _ _ HS3.out; have m4 := Lib.hid (map_kept H1.out HM.out _ g3 (.slice (some ⟨g, 0, none⟩) (d.waits.length + 1) cap)); have HO33 := Lib.hid O3; clear O3 g3; simp at c1' c2')
    | (at_mapUpdate; refine wpList_mapUpdate_own _ rfl _ _ _ 57 rfl 3 34 keyed Try.underlying57 hold H.mb d.waits.length M rfl m4.out (by unfold maxLen; omega) _ _ (key no) rfl rfl (key_of (by omega)) (.held (.slice (some ⟨gk, 0, none⟩) 1024 1024)) [] rfl ?_; intro w5 M5 g5))
  have ho5 := (HO3.out.set (i := 1) (.slice (some ⟨g, 0, none⟩) (d.waits.length + 1) cap) (.inl rfl)).trans (Off.of_grown g5 fun k hk => by injection hk with hk; exact .inr (.inl hk.symm))
  have hs5 := (g5.block H.p (Array.getElem?_eq_some_iff.1 (str_set HS3.out _).1).1 (fun e => by injection e with e; exact H1.out.p_mb e.symm)).trans (str_set HS3.out (.slice (some ⟨g, 0, none⟩) (d.waits.length + 1) cap)).1
  have hD := H1.out.pushed (no := no) (l := l) HM.out HX.out hno ho5 (HU.out.off ho5 H1.out.wr_free) hs5 (own_kept HO33.out HS3.out HM3.out.choose_spec.choose_spec g5) M5
  have hSt : Step w H w5 ⟨H.p, H.mb, H.sv, .slice (some ⟨g, 0, none⟩) (d.waits.length + 1) cap⟩ := by
    refine ⟨(Off.of_below HB1.out).trans (ho5.mono fun k hk => .inl (Hd.wr_own hk)), rfl, fun k hk => ?_⟩
    rcases hk with hk | hk | hk | hk
    · exact .inl (.inl hk)
    · exact .inl (.inr (.inl hk))
    · exact .inl (.inr (.inr (.inl hk)))
    · injection hk with hk
      subst hk
      rcases hl3 with h3 | h3
      · exact .inl (.inr (.inr (.inr h3)))
      · right; show _ ≤ g; have := HB1.out.size; simp at h3; omega
  have HSt := Lib.hid hSt
  have hrow5 := Lib.hid (own_kept HO33.out HS3.out HM3.out.choose_spec.choose_spec g5)
  have HM5 := Lib.hid M5
  have hu5 := Lib.hid (HU.out.off ho5 H1.out.wr_free)
  have hof5 : Off (fun k => H.wr k ∨ T k) wo w5 := ((HOT.out.mono (S := fun k => H.wr k ∨ T k) fun k hk => .inl (.inr hk)).trans ((Off.of_below HB1.out))).trans' ho5 fun k hk => .inl (.inl hk)
  have HOF5 := Lib.hid hof5
  have hg3' : g < wo.heap.size ∨ w.heap.size ≤ g := by
    rcases hl3 with h3 | h3
    · exact .inl (own_lt HX0.out.own h3)
    · right; have := HB1.out.size; simp at h3; omega
  have HP := Lib.hid (H1.out.p_mb)
  have HPW : Hid (H.p ≠ g) := by
    intro e
    obtain ⟨cs', hc⟩ := own_type hrow5.out (k := g) rfl
    rw [← e, hs5] at hc; simp at hc
  have HPU : Hid (∀ k, (Value.slice (some ⟨gk, 0, none⟩) 1024 1024).ownBlock = some k → H.p ≠ k) := by
    intro k hk e
    injection hk with hk
    have hk : gk = k := hk
    have := HH.out.lt (.inl rfl : H.own H.p)
    omega
  clear hSt ho5 hs5 M5 g5 HO3 HS3 HO33 HM3 HH H1 HX HM HU HB1 O2 HO2 c1 c2 c1' c2' f1' m4 hl3 hg3
  refine (act_any w5 _ _ hD (by exact HDn.out)).mono ?_
  rintro e w6 ⟨rfl, h6, o6⟩
  go_wp2
  go_ret
  refine ⟨_, rfl, h6, HSt.out.trans (Step.of_p o6), dskG_intro HO0.out HM0.out HX0.out hno (HOF5.out.trans' o6 fun k hk => .inl (.inl (.inl hk))) hFT hTT (by rw [Dk.act_pages]; rfl) (Dk.act_waits _) h6 (pgv_off hu5.out o6 fun k hk e => HPU.out k hk e.symm) (fun k hk => by injection hk with hk; have hk : gk = k := hk; omega) hg3' (o6.own hrow5.out fun k hk e => ?_) (o6.map_ HM5.out HP.out)⟩
  injection hk with hk
  have hk : g = k := hk
  exact HPW.out (e.symm.trans hk.symm)


end Go.Proofs.Ytakoajbfkinlcaa
