/-
  The program's pager in memory: what is its own; isFresh, filled, the disk's read, Read.
-/
import Derived.Test.YtmcldkcmialfeaaPrMap
import Derived.Test.YtmcldkcmialfeaaGrPool9
import Derived.Test.YtmcldkcmialfeaaGrDisk
import Derived.Test.YtmcldkcmialfeaaPgOpen
namespace Go.Proofs.Ytmcldkcmialfeaa.Pr
open Go.RowKit
set_option linter.unusedVariables false

/-- Bytes stay while their block isn't touched. -/
theorem _root_.Go.Proofs.Ytmcldkcmialfeaa.Bs.off {S : Nat → Prop} {w w1 : World} {A : Option Addr} {n c : Nat} {l : List Nat} (h : Bs w A n c l) (ho : Off S w w1) (hA : 0 < n → ∀ b off, A = some ⟨b, off, none⟩ → ¬ S b) : Bs w1 A n c l := by
  obtain ⟨h1, h2, h3, h4, h5⟩ := h
  refine ⟨h1, h2, h3, h4, fun hn => ?_⟩
  obtain ⟨b, off, hb, hlt, hc⟩ := h5 hn
  have he := ho.block b hlt (hA hn b off hb)
  refine ⟨b, off, hb, Nat.lt_of_lt_of_le hlt ho.size, fun j x hx => ?_⟩
  have := hc j x hx
  unfold World.cell? at this ⊢
  simp only at this ⊢
  rw [he]; exact this
/-- Where a pager lies. -/
structure Gh where
  x : Nat
  fb : Nat
  pp : Nat
  pm : Nat
  H : Hd
def Gh.own (G : Gh) (k : Nat) : Prop := k = G.x ∨ k = G.fb ∨ Pq.Mine G.pp G.pm k ∨ G.H.own k
/-- A pager's struct. -/
def Str (w : World) (G : Gh) (gen hz : Nat) : Prop :=
  w.heap[G.x]? = some (.cells #[.pointer (some ⟨G.H.p, 0, none⟩), .pointer (some ⟨G.pp, 0, none⟩), .int .u64 (gen : Int), .int .u64 (hz : Int), .map (some G.fb)] 69 (0, 0))
/-- The program's pager in memory. -/
structure Pgr (w : World) (G : Gh) (a : Pa) : Prop where
  str : Str w G a.gen a.hz
  fresh : ∃ vs, Fm w G.fb a.l vs
  pool : Pq.Po w G.pp G.pm a.pool
  disk : Dsk w G.H a.disk
  fp : G.fb ≠ G.pm
  fd : G.fb ≠ G.H.mb
  pd : G.pm ≠ G.H.mb
  ok : Ok a
section
variable {w w1 : World} {G : Gh} {a : Pa}
theorem Pgr.lt (h : Pgr w G a) {k : Nat} (hk : G.own k) : k < w.heap.size := by
  obtain ⟨vs, hv⟩ := h.fresh
  rcases hk with rfl | rfl | hk | hk
  · exact (Array.getElem?_eq_some_iff.1 h.str).1
  · exact hv.lt
  · exact h.pool.lt hk
  · exact h.disk.lt hk
theorem map_free {w : World} {b : Nat} (h : ∃ es c, w.heap[b]? = some (.map es c)) {cs : Array Value} {t : TypeId} {m : Nat × Nat} : w.heap[b]? ≠ some (.cells cs t m) := by
  obtain ⟨es, c, hb⟩ := h
  rw [hb]; exact fun e => by cases e
theorem Pgr.free (h : Pgr w G a) : Free G.own w := by
  obtain ⟨vs, hv⟩ := h.fresh
  intro k cs m hk hh
  rcases hk with rfl | rfl | (rfl | rfl) | hk
  · have := h.str; unfold Str at this; rw [this] at hh; simp at hh
  · exact map_free hv.block hh
  · rw [h.pool.str] at hh; simp at hh
  · exact map_free h.pool.map.block hh
  · exact h.disk.free k cs m hk hh
/-- The struct's block is none of the others. -/
theorem Pgr.x_own (h : Pgr w G a) : G.x ≠ G.fb ∧ ¬ Pq.Mine G.pp G.pm G.x ∧ ¬ G.H.own G.x := by
  obtain ⟨vs, hv⟩ := h.fresh
  have hs := h.str
  unfold Str at hs
  refine ⟨fun e => ?_, fun e => ?_, fun e => ?_⟩
  · exact map_free hv.block (e ▸ hs)
  · rcases e with e | e
    · have := h.pool.str; rw [← e, hs] at this; simp at this
    · exact map_free h.pool.map.block (e ▸ hs)
  · obtain ⟨vs', hsf⟩ := h.disk.safe
    obtain ⟨xs, hwt⟩ := h.disk.waits
    obtain ⟨M, hm⟩ := h.disk.seen
    rcases e with e | e | e | e
    · have := h.disk.str; rw [← e, hs] at this; simp at this
    · exact map_free (map_block hm.map) (e ▸ hs)
    · obtain ⟨cs', hc⟩ := own_type hsf.own e; rw [hs] at hc; simp at hc
    · obtain ⟨cs', hc⟩ := own_type hwt.own e; rw [hs] at hc; simp at hc
/-- The fresh pages' map is none of the pool's and none of the disk's. -/
theorem Pgr.fb_own (h : Pgr w G a) : ¬ Pq.Mine G.pp G.pm G.fb ∧ ¬ G.H.own G.fb := by
  obtain ⟨vs, hv⟩ := h.fresh
  refine ⟨fun e => ?_, fun e => ?_⟩
  · rcases e with e | e
    · exact map_free hv.block (e ▸ h.pool.str)
    · exact h.fp e
  · obtain ⟨vs', hsf⟩ := h.disk.safe
    obtain ⟨xs, hwt⟩ := h.disk.waits
    rcases e with e | e | e | e
    · exact map_free hv.block (e ▸ h.disk.str)
    · exact h.fd e
    · obtain ⟨cs', hc⟩ := own_type hsf.own e; exact map_free hv.block hc
    · obtain ⟨cs', hc⟩ := own_type hwt.own e; exact map_free hv.block hc
/-- The pool's blocks are none of the disk's. -/
theorem Pgr.pool_own (h : Pgr w G a) {k : Nat} (hk : Pq.Mine G.pp G.pm k) : ¬ G.H.own k := by
  obtain ⟨vs', hsf⟩ := h.disk.safe
  obtain ⟨xs, hwt⟩ := h.disk.waits
  obtain ⟨M, hm⟩ := h.disk.seen
  have hs := h.pool.str
  intro e
  rcases hk with rfl | rfl
  · rcases e with e | e | e | e
    · have := h.disk.str; rw [← e, hs] at this; simp at this
    · exact map_free (map_block hm.map) (e ▸ hs)
    · obtain ⟨cs', hc⟩ := own_type hsf.own e; rw [hs] at hc; simp at hc
    · obtain ⟨cs', hc⟩ := own_type hwt.own e; rw [hs] at hc; simp at hc
  · have hp := h.pool.map.block
    rcases e with e | e | e | e
    · exact map_free hp (e ▸ h.disk.str)
    · exact h.pd e
    · obtain ⟨cs', hc⟩ := own_type hsf.own e; exact map_free hp hc
    · obtain ⟨cs', hc⟩ := own_type hwt.own e; exact map_free hp hc
/-- The pager stays while nothing of its own is touched. -/
theorem Pgr.off {S : Nat → Prop} (h : Pgr w G a) (ho : Off S w w1) (hf : Free S w) (hn : ∀ k, G.own k → ¬ S k) : Pgr w1 G a := by
  obtain ⟨vs, hv⟩ := h.fresh
  exact ⟨ho.at_ h.str (hn _ (.inl rfl)), ⟨vs, hv.off ho hf (hn _ (.inr (.inl rfl)))⟩, h.pool.off ho (fun k hk => hn k (.inr (.inr (.inl hk)))), h.disk.off ho hf (fun k hk => hn k (.inr (.inr (.inr hk)))), h.fp, h.fd, h.pd, h.ok⟩
theorem Pgr.on (h : Pgr w G a) (hb : Below w.heap.size w w1) : Pgr w1 G a :=
  h.off (S := fun _ => False) (Off.of_below hb) (fun _ _ _ h => h.elim) fun _ _ h => h
theorem Pgr.drewN (h : Pgr w G a) (m : Nat) : Pgr (w.drewN m) G a := h.on (below_drewN (Below.refl _ _) m)
theorem Str.c0 {gen hz : Nat} (h : Str w G gen hz) : w.cell? ⟨G.x, 0, none⟩ = some (.pointer (some ⟨G.H.p, 0, none⟩)) := cell_of_row w _ 0 _ _ (0, 0) h
theorem Str.c1 {gen hz : Nat} (h : Str w G gen hz) : w.cell? ⟨G.x, 1, none⟩ = some (.pointer (some ⟨G.pp, 0, none⟩)) := cell_of_row w _ 1 _ _ (0, 0) h
theorem Str.c2 {gen hz : Nat} (h : Str w G gen hz) : w.cell? ⟨G.x, 2, none⟩ = some (.int .u64 (gen : Int)) := cell_of_row w _ 2 _ _ (0, 0) h
theorem Str.c3 {gen hz : Nat} (h : Str w G gen hz) : w.cell? ⟨G.x, 3, none⟩ = some (.int .u64 (hz : Int)) := cell_of_row w _ 3 _ _ (0, 0) h
theorem Str.c4 {gen hz : Nat} (h : Str w G gen hz) : w.cell? ⟨G.x, 4, none⟩ = some (.map (some G.fb)) := cell_of_row w _ 4 _ _ (0, 0) h
/-- The map alone has changed. -/
theorem Pgr.mapped {vs : List (F Value)} {b : Pa} (h : Pgr w G a) (ho : Off (fun k => k = G.fb) w w1) (hf : Fm w1 G.fb b.l vs) (hd : b.disk = a.disk) (hp : b.pool = a.pool) (hg : b.gen = a.gen) (hh : b.hz = a.hz) (hok : Ok b) : Pgr w1 G b := by
  have hfree : Free (fun k => k = G.fb) w := by
    rintro k cs m rfl
    obtain ⟨us, hu⟩ := h.fresh
    exact map_free hu.block
  refine ⟨?_, ⟨vs, hf⟩, ?_, ?_, h.fp, h.fd, h.pd, hok⟩
  · rw [hg, hh]; exact ho.at_ h.str h.x_own.1
  · rw [hp]; exact h.pool.off ho (fun k hk e => h.fb_own.1 (e ▸ hk))
  · rw [hd]; exact h.disk.off ho hfree (fun k hk e => h.fb_own.2 (e ▸ hk))
/-- The pool alone has changed. -/
theorem Pgr.pooled {b : Pa} (h : Pgr w G a) (ho : Off (Pq.Mine G.pp G.pm) w w1) (hp : Pq.Po w1 G.pp G.pm b.pool) (hd : b.disk = a.disk) (hl : b.l = a.l) (hg : b.gen = a.gen) (hh : b.hz = a.hz) (hok : Ok b) : Pgr w1 G b := by
  have hfree : Free (Pq.Mine G.pp G.pm) w := fun k cs m hk => h.free k cs m (.inr (.inr (.inl hk)))
  obtain ⟨vs, hv⟩ := h.fresh
  refine ⟨?_, ⟨vs, ?_⟩, hp, ?_, h.fp, h.fd, h.pd, hok⟩
  · rw [hg, hh]; exact ho.at_ h.str h.x_own.2.1
  · rw [hl]; exact hv.off ho hfree h.fb_own.1
  · rw [hd]; exact h.disk.off ho hfree (fun k hk e => h.pool_own e hk)
end

set_option maxRecDepth 100000 in
theorem filled_any (w : World) (A : Option Addr) (n c : Nat) (l : List Nat) (hb : Bs w A n c l) (hn : n ≤ 1016) :
    Calls Try.prog 37 #[.slice A n c] w fun e w' => e = .returned (.slice (some ⟨w.heap.size, 0, none⟩) 1016 1016) ∧ Row w' w.heap.size (Pg.fill l) ∧ Below w.heap.size w w' := by
  obtain ⟨i0, hi, hz0, hz1, hz2⟩ := info_parts Try.info5
  have hsz : (Try.prog.info? 5).map (·.size) = some 1 := by rw [show Try.prog.info? 5 = _ from hi]; simp [hz1]
  have HB := Lib.hid hb
  have hl := hb.1
  have HL := Lib.hid hl
  clear hl hb
  go_enter Try.func37, Try.ntmps37
  go_wp2_with (first
    | (refine wpList_make_full _ rfl _ _ 22 rfl w.heap.size 5 i0 (.int .u8 0) 1 Try.underlying22 hi hz0 hz1 .i64 .i64 _ _ 1016 rfl rfl rfl rfl (by rw [hz2]; omega) (by unfold maxLen; omega) (Nat.le_refl _) ?_; intro w1 hown hgrow; rw [made_zero] at hown; have R1 := Lib.hid (Row.of_own hown); have B1 := (Below.refl w.heap.size w).grown hgrow (Nat.le_refl _) (fun k hk => by cases hk); have S1 := Lib.hid (HB.out.on B1); clear hown hgrow)
    | (refine wpList_copy_splice (o := ⟨some 7, _, _, _, _, _⟩) rfl (.tmp 5) (.tmp 6) 22 22 rfl 5 Try.underlying22 hsz _ _ _ _ _ _ rfl rfl w.heap.size 0 (bv (List.replicate 1016 0)) 5 R1.out (bv l) (by rw [bv_len, HL.out]; exact (Nat.min_eq_left hn).symm) (fun h => ⟨rfl, S1.out.src h⟩) (by rw [bv_len, bv_len, HL.out, List.length_replicate]; omega) (bv_one l) w.heap.size w B1 (Nat.le_refl _) ?_; intro w2 HG hB))
  go_ret
  refine ⟨rfl, ?_, hB⟩
  have := HG.out
  rw [splice_bv, splice_part 1016 n l HL.out hn] at this
  unfold Pg.fill
  rw [HL.out]
  exact this

theorem isFresh_any (w : World) (G : Gh) (gen hz : Nat) (l : List (F (List Nat))) (vs : List (F Value)) (no : Int) (hs : Str w G gen hz) (hm : Fm w G.fb l vs) (hi : I64 no) :
    Calls Try.prog 41 #[.pointer (some ⟨G.x, 0, none⟩), .int .i64 no] w fun e w' => e = .returned (.bool (look l no).isSome) ∧ w = w' := by
  have c4 := hs.c4
  cases hl : look l no with
  | none =>
    have hrun := hm.run_none hi (hm.says.none_ no hl)
    clear hm hs hi hl
    go_enter Try.func41, Try.ntmps41
    go_wp2
    go_ret
    exact ⟨rfl, rfl⟩
  | some b =>
    obtain ⟨v, hv, _⟩ := hm.says.some_ no b hl
    have hrun := hm.run_some hi hv
    clear hm hs hi hl hv
    go_enter Try.func41, Try.ntmps41
    go_wp2
    go_ret
    exact ⟨rfl, rfl⟩

/-- What a read answers. -/
def ReadSays (w : World) (o : Option (List Nat)) (e : Ending) (w' : World) : Prop := Below w.heap.size w w' ∧ match o with
  | some b => ∃ g, e = .returned (.tuple #[.slice (some ⟨g, 0, none⟩) 1016 1016, .int .i64 0]) ∧ w.heap.size ≤ g ∧ Row w' g b ∧ b.length = 1016 ∧ ∀ x ∈ b, x < 256
  | none => e = .returned (.tuple #[.slice none 0 0, .int .i64 4])
theorem says_some {w w' : World} {b : List Nat} {g : Nat} (hB : Below w.heap.size w w') (hg : w.heap.size ≤ g) (hR : Row w' g b) (hl : b.length = 1016 ∧ ∀ x ∈ b, x < 256) :
    ReadSays w (some b) (.returned (.tuple #[.slice (some ⟨g, 0, none⟩) 1016 1016, .int .i64 0])) w' := ⟨hB, g, rfl, hg, hR, hl.1, hl.2⟩
theorem says_none {w w' : World} (hB : Below w.heap.size w w') : ReadSays w none (.returned (.tuple #[.slice none 0 0, .int .i64 4])) w' := ⟨hB, rfl⟩
theorem ReadSays.of_some {w w' : World} {e : Ending} {b : List Nat} (h : ReadSays w (some b) e w') :
    ∃ g, e = .returned (.tuple #[.slice (some ⟨g, 0, none⟩) 1016 1016, .int .i64 0]) ∧ w.heap.size ≤ g ∧ Row w' g b ∧ (b.length = 1016 ∧ ∀ x ∈ b, x < 256) ∧ Below w.heap.size w w' := by
  obtain ⟨hB, g, rfl, hg, hR, h1, h2⟩ := h
  exact ⟨g, rfl, hg, hR, ⟨h1, h2⟩, hB⟩
theorem ReadSays.of_none {w w' : World} {e : Ending} (h : ReadSays w none e w') : e = .returned (.tuple #[.slice none 0 0, .int .i64 4]) ∧ Below w.heap.size w w' := ⟨h.2, h.1⟩
theorem seen_facts {d : Dk.Pd} {no : Nat} (hl : (Dk.seen d no).length = 1024) (hlt : ∀ x ∈ Dk.seen d no, x < 256) : ((Dk.seen d no).take 1016).length = 1016 ∧ ∀ x ∈ (Dk.seen d no).take 1016, x < 256 :=
  ⟨by rw [List.length_take, hl]; rfl, fun x hx => hlt x (List.mem_of_mem_take hx)⟩

open Classical in
theorem dread_any (w : World) (H : Hd) (d : Dk.Pd) (no : Int) (h : Dsk w H d) :
    Calls Try.prog 42 #[.agg #[.pointer (some ⟨H.p, 0, none⟩)], .int .i64 no] w (ReadSays w (dsays d no)) := by
  have B1 : Below w.heap.size w (w.alloc (.cells #[.pointer (some ⟨H.p, 0, none⟩)] 67)) := (Below.refl _ w).alloc (Nat.le_refl _) _
  have h1 := h.on B1
  have HB := Lib.hid B1
  by_cases hin : 0 ≤ no ∧ no < (d.pages.length : Int)
  · obtain ⟨m, rfl⟩ : ∃ m : Nat, no = (m : Int) := ⟨no.toNat, by omega⟩
    have C1 := Lib.hid (_root_.Go.Proofs.Ytmcldkcmialfeaa.read_any _ H d m h1 (by omega))
    have e1 : dsays d (m : Int) = if Pg.Opens m (Dk.seen d m) then some ((Dk.seen d m).take 1016) else none := by
      unfold dsays
      rw [Int.toNat_natCast]
      by_cases ho : Pg.Opens m (Dk.seen d m)
      · rw [if_pos ho, if_pos ⟨hin.1, hin.2, ho⟩]
      · rw [if_neg ho, if_neg (fun h => ho h.2.2)]
    rw [e1]
    by_cases ho : Pg.Opens m (Dk.seen d m)
    · rw [if_pos ho]
      have HO := Lib.hid ho
      clear h h1 hin e1 B1 ho
      go_enter Try.func42, Try.ntmps42
      go_wp2_with fail
      refine C1.out.mono ?_
      rintro e w2 ⟨g, rfl, hg, hl, hlt, R2, B2⟩
      have C2 := Lib.hid (open_yes w2 m _ _ 1024 _ (R2.bs' hlt hl (by omega)) HO.out)
      have HL := Lib.hid (And.intro hl hlt)
      have HBB := Lib.hid (onto HB.out B2)
      clear HO hl hlt R2 B2 HB C1 hg
      go_wp2_with fail
      refine C2.out.mono ?_
      rintro e w3 ⟨g3, hg3, rfl, R3, B3⟩
      have HR := Lib.hid (And.intro R3 (And.intro (onto HBB.out B3) (show w.heap.size ≤ g3 from Nat.le_trans HBB.out.size hg3)))
      clear R3 B3 hg3 C2
      go_wp2
      go_ret2
      obtain ⟨R3, B3, hg3⟩ := HR.out
      obtain ⟨q1, q2⟩ := seen_facts HL.out.1 HL.out.2
      exact says_some B3 hg3 R3 ⟨q1, q2⟩
    · rw [if_neg ho]
      have HO := Lib.hid ho
      clear h h1 hin e1 B1 ho
      go_enter Try.func42, Try.ntmps42
      go_wp2_with fail
      refine C1.out.mono ?_
      rintro e w2 ⟨g, rfl, hg, hl, hlt, R2, B2⟩
      have C2 := Lib.hid (open_no w2 m _ _ 1024 _ (R2.bs' hlt hl (by omega)) HO.out)
      have HBB := Lib.hid (onto HB.out B2)
      clear HO hl hlt R2 B2 HB C1 hg
      go_wp2_with fail
      refine C2.out.mono ?_
      rintro e w3 ⟨rfl, B3⟩
      have HR := Lib.hid (onto HBB.out B3)
      clear B3 C2
      go_wp2
      go_ret2
      exact says_none HR.out
  · have C1 := Lib.hid (_root_.Go.Proofs.Ytmcldkcmialfeaa.read_no _ H d no h1 hin)
    have C2 := Lib.hid (open_early (w.alloc (.cells #[.pointer (some ⟨H.p, 0, none⟩)] 67)) no none 0 0 (by omega))
    have e1 : dsays d no = none := by unfold dsays; rw [if_neg (fun h => hin ⟨h.1, h.2.1⟩)]
    rw [e1]
    clear h h1 hin e1 B1
    go_enter Try.func42, Try.ntmps42
    go_wp2_with fail
    refine C1.out.mono ?_
    rintro e w2 ⟨rfl, rfl⟩
    go_wp2_with fail
    refine C2.out.mono ?_
    rintro e w3 ⟨rfl, rfl⟩
    go_wp2
    go_ret2
    exact says_none HB.out

theorem read_any (w : World) (G : Gh) (a : Pa) (no : Int) (h : Pgr w G a) (hi : I64 no) :
    Calls Try.prog 24 #[.pointer (some ⟨G.x, 0, none⟩), .int .i64 no] w (ReadSays w (says a no)) := by
  have c0 := h.str.c0
  have c4 := h.str.c4
  obtain ⟨vs, hm⟩ := h.fresh
  unfold says
  cases hl : look a.l no with
  | none =>
    show Calls _ _ _ _ (ReadSays w (dsays a.disk no))
    have hrun := hm.run_none hi (hm.says.none_ no hl)
    have C := dread_any w G.H a.disk no h.disk
    generalize dsays a.disk no = o at C ⊢
    have C := Lib.hid C
    clear hm h hi hl
    go_enter Try.func24, Try.ntmps24
    go_wp2_with fail
    refine C.out.mono ?_
    rintro e w1 hs
    cases o with
    | none =>
      obtain ⟨rfl, B1⟩ := hs.of_none
      have HB := Lib.hid B1
      clear C B1 hrun hs
      go_wp2
      go_ret2
      exact says_none HB.out
    | some b =>
      obtain ⟨g, rfl, hg⟩ := hs.of_some
      have HG := Lib.hid hg
      clear C hrun hg hs
      go_wp2
      go_ret2
      obtain ⟨h1, h2, h3, h4⟩ := HG.out
      exact says_some h4 h1 h2 h3
  | some b =>
    obtain ⟨v, hv, hF⟩ := hm.says.some_ no b hl
    have hrun := hm.run_some hi hv
    obtain ⟨g, c, rfl, hb, _⟩ := hF.form
    have C := Lib.hid (filled_any w _ _ c b hb (by omega))
    have HF := Lib.hid (And.intro hF.len hF.lt)
    clear hm h hi hl hv hF hb
    go_enter Try.func24, Try.ntmps24
    go_wp2_with fail
    refine C.out.mono ?_
    rintro e w1 ⟨rfl, R1, B1⟩
    have HR := Lib.hid (And.intro R1 B1)
    clear R1 B1 C hrun
    go_wp2
    go_ret2
    obtain ⟨R1, B1⟩ := HR.out
    rw [Pg.fill_full HF.out.1] at R1
    exact says_some B1 (Nat.le_refl _) R1 HF.out

end Go.Proofs.Ytmcldkcmialfeaa.Pr
