/-
  Whoever holds a pager: all contracts once more, for a world that has gone on since wb.
-/
import Derived.Test.YtmcldkcmialfeaaPrFlush
import Derived.Test.YtmcldkcmialfeaaGrNode9
namespace Go.Proofs.Ytmcldkcmialfeaa.Pr
open Go.RowKit
set_option linter.unusedVariables false

/-- Since wb: at x stands the pager a, with its pool at pp, its disk at dp; nothing else has turned but what S tells, and what is new. -/
def HasG (S : Nat → Prop) (wb w : World) (x pp dp : Nat) (a : Pa) : Prop := ∃ G : Gh, G.x = x ∧ G.pp = pp ∧ G.H.p = dp ∧ Pgr w G a ∧ (∀ k, G.own k → S k ∨ wb.heap.size ≤ k) ∧ Off S wb w
/-- Bytes that are none of the pager's. -/
def Out (S : Nat → Prop) (wb w : World) (A : Option Addr) (n : Nat) : Prop := 0 < n → ∀ b off, A = some ⟨b, off, none⟩ → (¬ S b ∧ b < wb.heap.size) ∨ ∃ cs m, w.heap[b]? = some (.cells cs 5 m)
section
variable {S : Nat → Prop} {wb w w' : World} {x pp dp : Nat} {a b : Pa}
theorem HasG.off (h : HasG S wb w x pp dp a) : Off S wb w := by obtain ⟨G, _, _, _, _, _, ho⟩ := h; exact ho
theorem HasG.ok (h : HasG S wb w x pp dp a) : Ok a := by obtain ⟨G, _, _, _, hG, _, _⟩ := h; exact hG.ok
theorem HasG.few (h : HasG S wb w x pp dp a) : a.disk.pages.length ≤ 2048 := by obtain ⟨G, _, _, _, hG, _, _⟩ := h; exact hG.disk.few
theorem HasG.ins (h : HasG S wb w x pp dp a) : ∀ z ∈ a.disk.waits, z.1 < a.disk.pages.length := by obtain ⟨G, _, _, _, hG, _, _⟩ := h; exact hG.disk.ins
theorem HasG.on (h : HasG S wb w x pp dp a) (hb : Below w.heap.size w w') : HasG S wb w' x pp dp a := by
  obtain ⟨G, h1, h2, h3, hG, ho, hO⟩ := h
  exact ⟨G, h1, h2, h3, hG.on hb, ho, hO.trans (Off.of_below hb)⟩
theorem HasG.drewN (h : HasG S wb w x pp dp a) (m : Nat) : HasG S wb (w.drewN m) x pp dp a := h.on (below_drewN (Below.refl _ _) m)
theorem HasG.drew (h : HasG S wb w x pp dp a) : HasG S wb w.drew x pp dp a := h.on (Below.refl _ _).drew
theorem HasG.alloc (h : HasG S wb w x pp dp a) (o : Obj) : HasG S wb (w.alloc o) x pp dp a := h.on ((Below.refl _ _).alloc (Nat.le_refl _) o)
theorem HasG.below (h : HasG (fun _ => False) wb w x pp dp a) : Below wb.heap.size wb w := h.off.below (fun _ h => h.elim) (Nat.le_refl _)
theorem HasG.stay {G G' : Gh} (h1 : G.x = x) (h2 : G.pp = pp) (h3 : G.H.p = dp) (ho : ∀ k, G.own k → S k ∨ wb.heap.size ≤ k) (hO : Off S wb w) (hG : Pgr w' G' b) (hS : Stay w G w' G') : HasG S wb w' x pp dp b := by
  refine ⟨G', hS.x.trans h1, hS.pp.trans h2, hS.p.trans h3, hG, fun k hk => ?_, hO.trans' hS.off ho⟩
  rcases hS.own k hk with a | a
  · exact ho k a
  · exact .inr (Nat.le_trans hO.size a)
/-- The parts that another pager is made of. -/
theorem HasG.parts (h : HasG S wb w x pp dp a) : ∃ (H : Hd) (mp : Nat), H.p = dp ∧ Dsk w H a.disk ∧ Pq.Po w pp mp a.pool ∧ (∀ k, H.own k → S k ∨ wb.heap.size ≤ k) := by
  obtain ⟨G, h1, h2, h3, hG, ho, hO⟩ := h
  exact ⟨G.H, G.pm, h3, hG.disk, h2 ▸ hG.pool, fun k hk => ho k (.inr (.inr (.inr hk)))⟩
/-- Begun anew: what the pager owns now may turn. -/
theorem HasG.anew (h : HasG S wb w x pp dp a) : ∃ S' : Nat → Prop, HasG S' w w x pp dp a ∧ (∀ k, S' k → k < w.heap.size) ∧ (∀ k, S' k → S k ∨ wb.heap.size ≤ k) ∧ Free S' w := by
  obtain ⟨G, h1, h2, h3, hG, ho, hO⟩ := h
  exact ⟨G.own, ⟨G, h1, h2, h3, hG, fun k hk => .inl hk, Off.refl _ _⟩, fun k hk => hG.lt hk, ho, hG.free⟩
/-- Begun anew, later: what the pager owns has been there since. -/
theorem HasG.since (h : HasG S wb w x pp dp a) (hb : Below w.heap.size w w') : ∃ S' : Nat → Prop, HasG S' w' w' x pp dp a ∧ (∀ k, S' k → k < w.heap.size) ∧ (∀ k, S' k → S k ∨ wb.heap.size ≤ k) := by
  obtain ⟨G, h1, h2, h3, hG, ho, hO⟩ := h
  exact ⟨G.own, ⟨G, h1, h2, h3, hG.on hb, fun k hk => .inl hk, Off.refl _ _⟩, fun k hk => hG.lt hk, ho⟩
theorem HasG.back {S' : Nat → Prop} (h : HasG S wb w x pp dp a) (h' : HasG S' w w' x pp dp b) (sub : ∀ k, S' k → S k ∨ wb.heap.size ≤ k) : HasG S wb w' x pp dp b := by
  obtain ⟨G, h1, h2, h3, hG, ho, hO⟩ := h'
  refine ⟨G, h1, h2, h3, hG, fun k hk => ?_, h.off.trans' hO sub⟩
  rcases ho k hk with a | a
  · exact sub k a
  · exact .inr (Nat.le_trans h.off.size a)
theorem Out.of_row {g : Nat} {l : List Nat} (h : Row w g l) (i n : Nat) : Out S wb w (some ⟨g, i, none⟩) n := fun _ b off e => by
  injection e with e; injection e with e1 e2; subst e1; exact .inr ⟨_, _, h⟩
theorem Out.none_ (n : Nat) : Out S wb w none n := fun _ b off e => by cases e
theorem Out.of_new {w1 : World} {A : Option Addr} {n : Nat} (h : Nn.NewB w1 w A) : Out S wb w A n := fun _ b off e => .inr (h b off e).2
theorem Out.of_bs {A : Option Addr} {n c : Nat} {l : List Nat} (h : Bs wb A n c l) : Out (fun _ => False) wb w A n := fun hn b off e => by
  obtain ⟨b', off', e', hlt, _⟩ := h.2.2.2.2 hn
  rw [e] at e'; injection e' with e'; injection e' with e1 e2
  subst e1; exact .inl ⟨id, hlt⟩
end

theorem gnew {S : Nat → Prop} {wb : World} (w : World) (H : Hd) (p mp : Nat) (d : Dk.Pd) (pl : Pl.Pd) (gen hz : Nat) (hD : Dsk w H d) (hP : Pq.Po w p mp pl) (hg : gen < 18446744073709551616) (hh : hz < 18446744073709551616)
    (ho : ∀ k, H.own k → S k ∨ wb.heap.size ≤ k) (hO : Off S wb w) :
    Calls Try.prog 9 #[.pointer (some ⟨H.p, 0, none⟩), .pointer (some ⟨p, 0, none⟩), .int .u64 (gen : Int), .int .u64 (hz : Int)] w fun e w' =>
      ∃ x pp, e = .returned (.pointer (some ⟨x, 0, none⟩)) ∧ HasG S wb w' x pp H.p ⟨d, pl, gen, hz, []⟩ ∧ Below w.heap.size w w' := by
  refine (new_any w H p mp d pl gen hz hD hP hg hh).mono ?_
  rintro e w' ⟨G, rfl, rfl, hG, ⟨g1, g2, g3, g4⟩, hB⟩
  have hs := hO.size
  refine ⟨G.x, G.pp, rfl, ⟨G, rfl, rfl, rfl, hG, ?_, hO.trans (Off.of_below hB)⟩, hB⟩
  rintro k (rfl | rfl | (rfl | rfl) | hk)
  · exact .inr (Nat.le_trans hs g1)
  · exact .inr (Nat.le_trans hs g2)
  · exact .inr (Nat.le_trans hs g3)
  · exact .inr (Nat.le_trans hs g4)
  · exact ho k hk
section
variable {S : Nat → Prop} {wb : World} (w : World) (x pp dp : Nat) (a : Pa) (h : HasG S wb w x pp dp a)
include h
theorem gpool : Calls Try.prog 16 #[.pointer (some ⟨x, 0, none⟩)] w fun e w' => e = .returned (.pointer (some ⟨pp, 0, none⟩)) ∧ w = w' := by
  obtain ⟨G, rfl, rfl, h3, hG, ho, hO⟩ := h
  exact pool_any w G a hG
theorem gread (no : Int) (hi : I64 no) : Calls Try.prog 24 #[.pointer (some ⟨x, 0, none⟩), .int .i64 no] w (ReadSays w (says a no)) := by
  obtain ⟨G, rfl, h2, h3, hG, ho, hO⟩ := h
  exact read_any w G a no hG hi
theorem gfresh : Calls Try.prog 12 #[.pointer (some ⟨x, 0, none⟩)] w fun e w' => ∃ v, e = .returned v ∧ w'.ownsRow w.heap.size 3 1 v a.l.length (kc a.l) ∧ Below w.heap.size w w' := by
  obtain ⟨G, rfl, h2, h3, hG, ho, hO⟩ := h
  exact fresh_any w G a hG
theorem gput (A : Option Addr) (n c : Nat) (pay : List Nat) (hb : Bs w A n c pay) (hA : Out S wb w A n) :
    Calls Try.prog 19 #[.pointer (some ⟨x, 0, none⟩), .slice A n c] w fun e w' => e = .returned (.tuple #[.int .i64 (putNo a pay), .int .i64 (putCode a pay)]) ∧ HasG S wb w' x pp dp (put a pay) := by
  obtain ⟨G, rfl, h2, h3, hG, ho, hO⟩ := h
  by_cases hl : 1016 < pay.length
  · have hc : putCode a pay = 1 := by unfold putCode; rw [if_pos hl]
    have hn : putNo a pay = 0 := by unfold putNo; rw [hc]; rfl
    have hp : put a pay = a := by unfold put; rw [hc]; rfl
    rw [hc, hn, hp]
    refine (put_arg w G a A n c pay hb hl).mono ?_
    rintro e w' ⟨rfl, rfl⟩
    exact ⟨rfl, G, rfl, h2, h3, hG, ho, hO⟩
  · have hc : putCode a pay = Pl.allocCode a.pool a.hz := by unfold putCode; rw [if_neg hl]
    rcases alloc_code a.pool a.hz with h0 | ⟨h0, _⟩
    · have hn : putNo a pay = Pl.allocNo a.pool a.hz := by unfold putNo; rw [hc, h0]; rfl
      rw [hc, hn, h0]
      refine (put_yes w G a A n c pay hG hb ?_ (by omega) h0).mono ?_
      · intro h0 b off e hb
        rcases hA h0 b off e with ⟨g1, g2⟩ | ⟨cs, m, hc⟩
        · rcases ho b hb with a | a
          · exact g1 a
          · omega
        · exact hG.free b cs m hb hc
      · rintro e w' ⟨rfl, h', t'⟩
        exact ⟨rfl, HasG.stay rfl h2 h3 ho hO h' (Stay.of_off t')⟩
    · have hn : putNo a pay = 0 := by unfold putNo; rw [hc, h0]; rfl
      have hp : put a pay = a := by unfold put; rw [hc, h0]; rfl
      rw [hc, hn, hp, h0]
      refine (put_full w G a A n c pay hG hb (by omega) h0).mono ?_
      rintro e w' ⟨rfl, h', t'⟩
      exact ⟨rfl, HasG.stay rfl h2 h3 ho hO h' (Stay.of_off t')⟩
theorem gset (no : Int) (hi : I64 no) (A : Option Addr) (n c : Nat) (pay : List Nat) (hb : Bs w A n c pay) :
    Calls Try.prog 25 #[.pointer (some ⟨x, 0, none⟩), .int .i64 no, .slice A n c] w fun e w' => e = .returned (.int .i64 (setCode a no pay)) ∧ HasG S wb w' x pp dp (set a no pay) := by
  obtain ⟨G, rfl, h2, h3, hG, ho, hO⟩ := h
  by_cases hc : setCode a no pay = 0
  · rw [hc]
    refine (set_any_yes w G a no A n c pay hG hi hb hc).mono ?_
    rintro e w' ⟨rfl, h', t'⟩
    exact ⟨rfl, HasG.stay rfl h2 h3 ho hO h' (Stay.of_off t')⟩
  · have hs : set a no pay = a := by unfold set; rw [if_neg hc]
    have hc1 : setCode a no pay = 1 := by unfold setCode at hc ⊢; split at hc <;> simp_all
    rw [hc1, hs]
    refine (set_any_no w G a no A n c pay hG hi hb hc1).mono ?_
    rintro e w' ⟨rfl, rfl⟩
    exact ⟨rfl, G, rfl, h2, h3, hG, ho, hO⟩
theorem gdrop (no : Int) (hi : I64 no) : Calls Try.prog 22 #[.pointer (some ⟨x, 0, none⟩), .int .i64 no] w fun e w' => e = .returned (.tuple #[]) ∧ HasG S wb w' x pp dp (drop a no) := by
  obtain ⟨G, rfl, h2, h3, hG, ho, hO⟩ := h
  refine (drop_any w G a no hG hi).mono ?_
  rintro e w' ⟨rfl, h', t'⟩
  exact ⟨rfl, HasG.stay rfl h2 h3 ho hO h' (Stay.of_off t')⟩
theorem gflush (hw : a.disk.waits.length < 90000) : Calls Try.prog 20 #[.pointer (some ⟨x, 0, none⟩)] w fun e w' => e = .returned (.int .i64 (flushCode a)) ∧ HasG S wb w' x pp dp (flush a) := by
  obtain ⟨G, rfl, h2, h3, hG, ho, hO⟩ := h
  refine (flush_any w G a hG hw).mono ?_
  rintro e w' ⟨G', rfl, h', t'⟩
  exact ⟨rfl, HasG.stay rfl h2 h3 ho hO h' t'⟩
theorem gsync (hw : a.disk.waits.length < 100000) : Calls Try.prog 21 #[.pointer (some ⟨dp, 0, none⟩)] w fun e w' => e = .returned (.int .i64 (Dk.syncCode a.disk)) ∧ HasG S wb w' x pp dp { a with disk := Dk.sync a.disk } := by
  obtain ⟨G, h1, h2, rfl, hG, ho, hO⟩ := h
  refine (sync_any w G.H a.disk hG.disk hw).mono ?_
  rintro e w' ⟨H', rfl, hD, hS⟩
  obtain ⟨hP, hT⟩ := hG.disked hD hS
  exact ⟨rfl, HasG.stay h1 h2 rfl ho hO hP hT⟩
theorem gwaiting (hw : a.disk.waits.length < 100000) : Calls Try.prog 23 #[.pointer (some ⟨dp, 0, none⟩)] w fun e w' => ∃ A c, e = .returned (.slice A a.disk.waits.length c) ∧ Rd w' A a.disk.waits.length c (nv (Dk.nos a.disk)) ∧ Below w.heap.size w w' := by
  obtain ⟨G, h1, h2, rfl, hG, ho, hO⟩ := h
  exact waiting_any w G.H a.disk hG.disk hw
end

end Go.Proofs.Ytmcldkcmialfeaa.Pr
