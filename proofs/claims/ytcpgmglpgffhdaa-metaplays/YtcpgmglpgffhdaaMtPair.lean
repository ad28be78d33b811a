/-
  The program's disk and the document's, side by side.
-/
import Derived.Test.YtcpgmglpgffhdaaGrDisk
import Derived.Test.YtcpgmglpgffhdaaMtAwake
import Derived.Test.YtcpgmglpgffhdaaMtRfWr
import Derived.Test.YtcpgmglpgffhdaaMtRfNew
import Derived.Test.YtcpgmglpgffhdaaGrRef
namespace Go.Proofs.Ytcpgmglpgffhdaa
open Go.RowKit
set_option linter.unusedVariables false

/-- Since wb: at p stands the program's disk d, at q the document's, e; they share nothing that is written. -/
def Pair (wb w : World) (p q : Nat) (d e : Dk.Pd) : Prop :=
  ∃ (H : Hd) (G : Gd), H.p = p ∧ G.q = q ∧ Dsk w H d ∧ Rfd w G e ∧ (∀ k, H.own k → ¬ G.own k) ∧ (∀ k, H.own k → wb.heap.size ≤ k) ∧ (∀ k, G.own k → wb.heap.size ≤ k) ∧ Below wb.heap.size wb w
/-- What a step lies in is never written. -/
def Kd (w w' : World) : Prop := ∀ (g : Nat) (cs : Array Value), w.heap[g]? = some (.cells cs 41 (0, 0)) → w'.heap[g]? = some (.cells cs 41 (0, 0))
theorem Kd.of_below {w w' : World} (h : Below w.heap.size w w') : Kd w w' := fun g cs hg => (h.block g (Array.getElem?_eq_some_iff.1 hg).1).trans hg
theorem Kd.prog {w w' : World} {H : Hd} {d : Dk.Pd} (hD : Dsk w H d) (ho : Off H.own w w') : Kd w w' := fun g cs hg => ho.at_ hg fun hk => by
  obtain ⟨vs, hs⟩ := hD.safe
  obtain ⟨xs, hw⟩ := hD.waits
  obtain ⟨M, hm⟩ := hD.seen
  rcases hk with rfl | rfl | hk | hk
  · rw [hD.str] at hg; simp at hg
  · obtain ⟨es, c', hb⟩ := map_block hm.map; rw [hb] at hg; cases hg
  · obtain ⟨cs', hc'⟩ := own_type hs.own hk; rw [hc'] at hg; simp at hg
  · obtain ⟨cs', hc'⟩ := own_type hw.own hk; rw [hc'] at hg; simp at hg
theorem Kd.docu {w w' : World} {G : Gd} {d : Dk.Pd} (hD : Rfd w G d) (ho : Off G.own w w') : Kd w w' := fun g cs hg => ho.at_ hg fun hk => by
  obtain ⟨vs, hs⟩ := hD.safe
  obtain ⟨xs, hw⟩ := hD.waits
  rcases hk with rfl | hk | hk
  · rw [hD.str] at hg; simp at hg
  · obtain ⟨cs', hc'⟩ := own_type hs.row.own hk; rw [hc'] at hg; simp at hg
  · obtain ⟨cs', hc'⟩ := own_type hw.own hk; rw [hc'] at hg; simp at hg
section
variable {wb w w' : World} {p q : Nat} {d e d' e' : Dk.Pd}
theorem Pair.on (h : Pair wb w p q d e) (hb : Below w.heap.size w w') : Pair wb w' p q d e := by
  obtain ⟨H, G, hp, hq, hD, hR, ha, h1, h2, hB⟩ := h
  exact ⟨H, G, hp, hq, hD.on hb, hR.on hb, ha, h1, h2, onto hB hb⟩
theorem Pair.drewN (h : Pair wb w p q d e) (m : Nat) : Pair wb (w.drewN m) p q d e := h.on (below_drewN (Below.refl _ _) m)
theorem Pair.drew (h : Pair wb w p q d e) : Pair wb w.drew p q d e := h.on (Below.refl _ _).drew
theorem Pair.alloc (h : Pair wb w p q d e) (o : Obj) : Pair wb (w.alloc o) p q d e := h.on ((Below.refl _ _).alloc (Nat.le_refl _) _)
theorem Pair.below (h : Pair wb w p q d e) : Below wb.heap.size wb w := by obtain ⟨H, G, _, _, _, _, _, _, _, hB⟩ := h; exact hB
theorem Pair.pf (h : Pair wb w p q d e) (h1 : d = d') (h2 : e = e') : Pair wb w p q d' e' := h1 ▸ h2 ▸ h
theorem Pair.prog {H H' : Hd} {G : Gd} (hD : Dsk w H d) (hR : Rfd w G e) (ha : ∀ k, H.own k → ¬ G.own k) (h1 : ∀ k, H.own k → wb.heap.size ≤ k) (h2 : ∀ k, G.own k → wb.heap.size ≤ k) (hB : Below wb.heap.size wb w) (hD' : Dsk w' H' d') (ht : Step w H w' H') : Pair wb w' H.p G.q d' e := by
  refine ⟨H', G, ht.same, rfl, hD', hR.off ht.off hD.free (fun k hk hh => ha k hh hk), fun k hk hg => ?_, fun k hk => ?_, h2, hB.trans (ht.off.below h1 hB.size)⟩
  · rcases ht.own k hk with a | a
    · exact ha k a hg
    · have := hR.lt hg; omega
  · rcases ht.own k hk with a | a
    · exact h1 k a
    · exact Nat.le_trans hB.size a
theorem Pair.docu {H : Hd} {G G' : Gd} (hD : Dsk w H d) (hR : Rfd w G e) (ha : ∀ k, H.own k → ¬ G.own k) (h1 : ∀ k, H.own k → wb.heap.size ≤ k) (h2 : ∀ k, G.own k → wb.heap.size ≤ k) (hB : Below wb.heap.size wb w) (hR' : Rfd w' G' e') (ht : Rtep w G w' G') : Pair wb w' H.p G.q d e' := by
  refine ⟨H, G', rfl, ht.same, hD.off ht.off hR.free ha, hR', fun k hk hg => ?_, h1, fun k hk => ?_, hB.trans (ht.off.below h2 hB.size)⟩
  · rcases ht.own k hg with a | a
    · exact ha k hk a
    · have := hD.lt hk; omega
  · rcases ht.own k hk with a | a
    · exact h2 k a
    · exact Nat.le_trans hB.size a
theorem Pair.made {w1 : World} {H : Hd} {G : Gd} (hD : Dsk w1 H d) (h1 : ∀ k, H.own k → w.heap.size ≤ k) (hB : Below w.heap.size w w1) (hR : Rfd w' G e) (h2 : ∀ k, G.own k → w1.heap.size ≤ k) (hB2 : Below w1.heap.size w1 w') : Pair w w' H.p G.q d e :=
  ⟨H, G, rfl, rfl, hD.on hB2, hR, fun k hk hg => by have := hD.lt hk; have := h2 k hg; omega, h1, fun k hk => Nat.le_trans hB.size (h2 k hk), onto hB hB2⟩
end

section
variable {wb : World} (w : World) (p q : Nat) (d e : Dk.Pd) (h : Pair wb w p q d e)
include h
theorem pwrite (no : Int) (n c : Nat) (A : Option Addr) (l : List Nat) (hb : Bs w A n c l) (hm : d.waits.length < 1000) :
    Calls Try.prog 26 #[.pointer (some ⟨p, 0, none⟩), .int .i64 no, .slice A n c] w fun r w' => r = .returned (.int .i64 (Dk.writeCode d no l)) ∧ Pair wb w' p q (Dk.write d no l) e ∧ Kd w w' := by
  obtain ⟨H, G, rfl, rfl, hD, hR, ha, h1, h2, hB⟩ := h
  refine (write_any w H d no n c A l hD hb hm).mono ?_
  rintro r w' ⟨H', rfl, h', t'⟩
  exact ⟨rfl, Pair.prog hD hR ha h1 h2 hB h' t', Kd.prog hD t'.off⟩
theorem qwrite (no : Int) (n c : Nat) (A : Option Addr) (l : List Nat) (hb : Bs w A n c l) (hm : e.waits.length < 1000) :
    Calls Try.prog 27 #[.pointer (some ⟨q, 0, none⟩), .int .i64 no, .slice A n c] w fun r w' => r = .returned (.int .i64 (Dk.writeCode e no l)) ∧ Pair wb w' p q d (Dk.write e no l) ∧ Kd w w' := by
  obtain ⟨H, G, rfl, rfl, hD, hR, ha, h1, h2, hB⟩ := h
  refine (rwrite_any w G e no n c A l hR hb hm).mono ?_
  rintro r w' ⟨H', rfl, h', t'⟩
  exact ⟨rfl, Pair.docu hD hR ha h1 h2 hB h' t', Kd.docu hR t'.off⟩
theorem psync (hm : d.waits.length < 1000) :
    Calls Try.prog 20 #[.pointer (some ⟨p, 0, none⟩)] w fun r w' => r = .returned (.int .i64 (Dk.syncCode d)) ∧ Pair wb w' p q (Dk.sync d) e ∧ Kd w w' := by
  obtain ⟨H, G, rfl, rfl, hD, hR, ha, h1, h2, hB⟩ := h
  refine (sync_any w H d hD hm).mono ?_
  rintro r w' ⟨H', rfl, h', t'⟩
  exact ⟨rfl, Pair.prog hD hR ha h1 h2 hB h' t', Kd.prog hD t'.off⟩
theorem qsync (hm : e.waits.length < 1000) :
    Calls Try.prog 21 #[.pointer (some ⟨q, 0, none⟩)] w fun r w' => r = .returned (.int .i64 (Dk.syncCode e)) ∧ Pair wb w' p q d (Dk.sync e) ∧ Kd w w' := by
  obtain ⟨H, G, rfl, rfl, hD, hR, ha, h1, h2, hB⟩ := h
  refine (rsync_any w G e hR hm).mono ?_
  rintro r w' ⟨H', rfl, h', t'⟩
  exact ⟨rfl, Pair.docu hD hR ha h1 h2 hB h' t', Kd.docu hR t'.off⟩
theorem parm (n : Int) (hn : n < 9223372036854775808) :
    Calls Try.prog 22 #[.pointer (some ⟨p, 0, none⟩), .int .i64 n] w fun r w' => r = .returned (.tuple #[]) ∧ Pair wb w' p q (Dk.armed d n.toNat) e ∧ Kd w w' := by
  obtain ⟨H, G, rfl, rfl, hD, hR, ha, h1, h2, hB⟩ := h
  refine (arm_any w H d n hD hn).mono ?_
  rintro r w' ⟨rfl, h', t'⟩
  exact ⟨rfl, Pair.prog hD hR ha h1 h2 hB h' (Step.of_p t'), Kd.prog hD (Step.of_p t').off⟩
theorem qarm (n : Int) (hn : n < 9223372036854775808) :
    Calls Try.prog 23 #[.pointer (some ⟨q, 0, none⟩), .int .i64 n] w fun r w' => r = .returned (.tuple #[]) ∧ Pair wb w' p q d (Dk.armed e n.toNat) ∧ Kd w w' := by
  obtain ⟨H, G, rfl, rfl, hD, hR, ha, h1, h2, hB⟩ := h
  refine (rarm_any w G e n hR hn).mono ?_
  rintro r w' ⟨rfl, h', t'⟩
  exact ⟨rfl, Pair.docu hD hR ha h1 h2 hB h' (Rtep.of_q t'), Kd.docu hR (Rtep.of_q t').off⟩
theorem pcrash (A : Option Addr) (n c : Nat) (keep : List Bool) (torn : Int) (hk : Rd w A n c (keep.map Value.bool)) (hA : 0 < n → ∀ b off, A = some ⟨b, off, none⟩ → b < wb.heap.size) (hm : d.waits.length < 1000) :
    Calls Try.prog 24 #[.pointer (some ⟨p, 0, none⟩), .slice A n c, .int .i64 torn] w fun r w' => r = .returned (.tuple #[]) ∧ Pair wb w' p q (Dk.crashed d keep torn) e ∧ Kd w w' := by
  obtain ⟨H, G, rfl, rfl, hD, hR, ha, h1, h2, hB⟩ := h
  refine (crash_any w H d A n c keep torn hD hk (fun hn b off eb hb => by have := hA hn b off eb; have := h1 b hb; omega) hm).mono ?_
  rintro r w' ⟨H', rfl, h', t'⟩
  exact ⟨rfl, Pair.prog hD hR ha h1 h2 hB h' t', Kd.prog hD t'.off⟩
theorem qcrash (A : Option Addr) (n c : Nat) (keep : List Bool) (torn : Int) (hk : Rd w A n c (keep.map Value.bool)) (hA : 0 < n → ∀ b off, A = some ⟨b, off, none⟩ → b < wb.heap.size) (hm : e.waits.length < 1000) :
    Calls Try.prog 25 #[.pointer (some ⟨q, 0, none⟩), .slice A n c, .int .i64 torn] w fun r w' => r = .returned (.tuple #[]) ∧ Pair wb w' p q d (Dk.crashed e keep torn) ∧ Kd w w' := by
  obtain ⟨H, G, rfl, rfl, hD, hR, ha, h1, h2, hB⟩ := h
  refine (rcrash_any w G e A n c keep torn hR hk (fun hn b off eb hb => by have := hA hn b off eb; have := h2 b hb; omega) hm).mono ?_
  rintro r w' ⟨H', rfl, h', t'⟩
  exact ⟨rfl, Pair.docu hD hR ha h1 h2 hB h' t', Kd.docu hR t'.off⟩
theorem pread (no : Nat) (hn : no < d.pages.length) : Calls Try.prog 64 #[.pointer (some ⟨p, 0, none⟩), .int .i64 (no : Int)] w fun r w' => ∃ g, r = .returned (.tuple #[.slice (some ⟨g, 0, none⟩) 1024 1024, .int .i64 0]) ∧ w.heap.size ≤ g ∧ (Dk.seen d no).length = 1024 ∧ (∀ x ∈ Dk.seen d no, x < 256) ∧ Row w' g (Dk.seen d no) ∧ Below w.heap.size w w' := by
  obtain ⟨H, G, rfl, rfl, hD, _⟩ := h
  exact read_any w H d no hD hn
theorem pread_no (no : Int) (hn : ¬ Dk.has d no) : Calls Try.prog 64 #[.pointer (some ⟨p, 0, none⟩), .int .i64 no] w fun r w' => r = .returned (.tuple #[.slice none 0 0, .int .i64 1]) ∧ w = w' := by
  obtain ⟨H, G, rfl, rfl, hD, _⟩ := h
  exact read_no w H d no hD hn
theorem qread (no : Nat) (hn : no < e.pages.length) (hm : e.waits.length < 1000) : Calls Try.prog 51 #[.pointer (some ⟨q, 0, none⟩), .int .i64 (no : Int)] w fun r w' => ∃ A c, r = .returned (.tuple #[.slice A 1024 c, .int .i64 0]) ∧ Bs w' A 1024 c (Dk.seen e no) ∧ Below w.heap.size w w' := by
  obtain ⟨H, G, rfl, rfl, hD, hR, _⟩ := h
  exact rread_any w G e no hR hn hm
theorem qread_no (no : Int) (hn : ¬ Dk.has e no) : Calls Try.prog 51 #[.pointer (some ⟨q, 0, none⟩), .int .i64 no] w fun r w' => r = .returned (.tuple #[.slice none 0 0, .int .i64 1]) ∧ w = w' := by
  obtain ⟨H, G, rfl, rfl, hD, hR, _⟩ := h
  exact rread_no w G e no hR hn
/-- What the law reads of the document's disk by itself. -/
theorem Pair.off_ : q < w.heap.size ∧ w.cell? ⟨q, 3, none⟩ = some (.bool e.down) := by
  obtain ⟨H, G, rfl, rfl, hD, hR, _⟩ := h
  exact ⟨hR.lt (.inl rfl), hR.c3⟩
theorem Pair.page {no : Nat} (hn : no < e.pages.length) : ∃ gs cs gl cl l, q < w.heap.size ∧ gs < w.heap.size ∧ e.pages.length ≤ cs ∧ w.cell? ⟨q, 0, none⟩ = some (.slice (some ⟨gs, 0, none⟩) e.pages.length cs) ∧ w.cell? ⟨gs, no, none⟩ = some (.slice (some ⟨gl, 0, none⟩) 1024 cl) ∧ e.pages[no]? = some l ∧ Bs w (some ⟨gl, 0, none⟩) 1024 cl l := by
  obtain ⟨H, G, rfl, rfl, hD, hR, _⟩ := h
  obtain ⟨vs, hs⟩ := hR.safe
  obtain ⟨gs, cs, u, l, hv, hc, hl, hu, cu⟩ := hs.get hn
  obtain ⟨gl, cl, rfl, hb, _, _⟩ := hu.form
  have c0 := hR.c0
  rw [hv] at c0
  exact ⟨gs, cs, gl, cl, l, hR.lt (.inl rfl), own_lt hs.row.own (by rw [hv]; rfl), hc, c0, cu, hl, hb⟩
end

/-! plainly -/
theorem settled_len (d : Dk.Pd) : (Dk.settled d).pages.length = d.pages.length := Dk.stTo_len d _
theorem write_keeps (d : Dk.Pd) (no : Int) (l : List Nat) : (Dk.write d no l).pages.length = d.pages.length ∧ (Dk.write d no l).waits.length ≤ d.waits.length + 1 := by
  unfold Dk.write
  split
  · split
    · exact ⟨rfl, by omega⟩
    · rw [Dk.act_pages, Dk.act_waits]
      refine ⟨rfl, ?_⟩
      show (d.waits ++ [_]).length ≤ _
      rw [List.length_append]; simp
  · exact ⟨rfl, by omega⟩
theorem sync_keeps (d : Dk.Pd) : (Dk.sync d).pages.length = d.pages.length ∧ (Dk.sync d).waits.length ≤ d.waits.length := by
  unfold Dk.sync
  split
  · exact ⟨rfl, Nat.le_refl _⟩
  · split
    · rw [Dk.act_pages, Dk.act_waits]; exact ⟨rfl, Nat.le_refl _⟩
    · rw [settled_len, Dk.act_pages]; exact ⟨rfl, Nat.zero_le _⟩
theorem crash_keeps (d : Dk.Pd) (keep : List Bool) (t : Int) : (Dk.crashed d keep t).pages.length = d.pages.length ∧ (Dk.crashed d keep t).waits.length ≤ d.waits.length := ⟨Dk.crTo_len _ _ _ _, Nat.zero_le _⟩

/-- Rows of bytes are never written. -/
def Kb (w w' : World) : Prop := ∀ (g : Nat) (cs : Array Value) (m : Nat × Nat), w.heap[g]? = some (.cells cs 5 m) → w'.heap[g]? = some (.cells cs 5 m)
theorem Kb.prog {w w' : World} {H : Hd} {d : Dk.Pd} (hD : Dsk w H d) (ho : Off H.own w w') : Kb w w' := fun g cs m hg => ho.at_ hg fun hk => hD.free g cs m hk hg
theorem own_kb {w w' : World} {base n : Nat} {v : Value} {xs : List Value} (h : w.ownsRow base 5 1 v n xs) (hk : Kb w w') : w'.ownsRow base 5 1 v n xs := by
  refine ⟨h.1, ?_⟩
  rcases h.2 with h0 | ⟨g, cap, cur, hv, hg, hh, hr⟩
  · exact .inl h0
  · exact .inr ⟨g, cap, cur, hv, hg, hk _ _ _ hh, hr⟩
section
variable {wb : World} (w : World) (p q : Nat) (d e : Dk.Pd) (h : Pair wb w p q d e)
include h
theorem pwriteB (no : Int) (n c : Nat) (A : Option Addr) (l : List Nat) (hb : Bs w A n c l) (hm : d.waits.length < 1000) :
    Calls Try.prog 26 #[.pointer (some ⟨p, 0, none⟩), .int .i64 no, .slice A n c] w fun r w' => r = .returned (.int .i64 (Dk.writeCode d no l)) ∧ Pair wb w' p q (Dk.write d no l) e ∧ Kd w w' ∧ Kb w w' := by
  obtain ⟨H, G, rfl, rfl, hD, hR, ha, h1, h2, hB⟩ := h
  refine (write_any w H d no n c A l hD hb hm).mono ?_
  rintro r w' ⟨H', rfl, h', t'⟩
  exact ⟨rfl, Pair.prog hD hR ha h1 h2 hB h' t', Kd.prog hD t'.off, Kb.prog hD t'.off⟩
theorem pmwrite (m : Mt.M) (hm : d.waits.length < 1000) :
    Calls Try.prog 18 #[.pointer (some ⟨p, 0, none⟩), mv m] w fun r w' => r = .returned (.int .i64 (Mt.writeCode d m)) ∧ Pair wb w' p q (Mt.write d m) e ∧ Kd w w' := by
  obtain ⟨H, G, rfl, rfl, hD, hR, ha, h1, h2, hB⟩ := h
  refine (mwrite_any w H d m hD hm).mono ?_
  rintro r w' ⟨H', rfl, h', t'⟩
  exact ⟨rfl, Pair.prog hD hR ha h1 h2 hB h' t', Kd.prog hD t'.off⟩
theorem qmwrite (m : Mt.M) (hm : e.waits.length < 1000) :
    Calls Try.prog 19 #[.pointer (some ⟨q, 0, none⟩), mv m] w fun r w' => r = .returned (.int .i64 (Mt.writeCode e m)) ∧ Pair wb w' p q d (Mt.write e m) ∧ Kd w w' := by
  obtain ⟨H, G, rfl, rfl, hD, hR, ha, h1, h2, hB⟩ := h
  refine (rmwrite_any w G e m hR hm).mono ?_
  rintro r w' ⟨H', rfl, h', t'⟩
  exact ⟨rfl, Pair.docu hD hR ha h1 h2 hB h' t', Kd.docu hR t'.off⟩
theorem pnewest : Calls Try.prog 28 #[.pointer (some ⟨p, 0, none⟩)] w fun r w' => r = .returned (.tuple #[mv (Mt.newest d), .int .i64 (Mt.newestCode d)]) ∧ Below w.heap.size w w' := by
  obtain ⟨H, G, rfl, rfl, hD, hR, _⟩ := h
  exact newest_any from_c w H d hD
theorem qnewest (hm : e.waits.length < 1000) : Calls Try.prog 29 #[.pointer (some ⟨q, 0, none⟩)] w fun r w' => r = .returned (.tuple #[mv (Mt.newest e), .int .i64 (Mt.newestCode e)]) ∧ Below w.heap.size w w' := by
  obtain ⟨H, G, rfl, rfl, hD, hR, _⟩ := h
  exact rnewest_any refFrom_c w G e hR hm
end
theorem mwrite_keeps (d : Dk.Pd) (m : Mt.M) : (Mt.write d m).pages.length = d.pages.length ∧ (Mt.write d m).waits.length ≤ d.waits.length + 1 := by
  unfold Mt.write
  split
  · exact write_keeps d _ _
  · exact ⟨rfl, by omega⟩

end Go.Proofs.Ytcpgmglpgffhdaa
