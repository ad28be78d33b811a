/-
  What PagerKeeps leans on, plainly.
-/
import Derived.Test.YtmcldkcmialfeaaPrDisk
import Derived.Test.YtmcldkcmialfeaaPrAwake
namespace Go.Proofs.Ytmcldkcmialfeaa.Pr
set_option linter.unusedVariables false

theorem sync_calm {d : Dk.Pd} (h : Calm d) (hw : ∀ x ∈ d.waits, x.1 < d.pages.length) :
    Dk.syncCode d = 0 ∧ Calm (Dk.sync d) ∧ (Dk.sync d).pages.length = d.pages.length ∧ (Dk.sync d).waits = [] ∧ ∀ k, dsays (Dk.sync d) k = dsays d k := by
  have ha : Dk.act d = d := by unfold Dk.act; rw [if_pos h.left]
  have hs : Dk.sync d = Dk.settled d := by
    unfold Dk.sync
    rw [h.down, ha, h.down]; rfl
  have hc : Dk.syncCode d = 0 := by
    unfold Dk.syncCode
    rw [h.down, ha, h.down]; rfl
  rw [hs]
  refine ⟨hc, ⟨h.left, h.down⟩, Dk.stTo_len d _, rfl, fun k => ?_⟩
  unfold dsays
  have hp : (Dk.settled d).pages.length = d.pages.length := Dk.stTo_len d _
  have hse : ∀ no, Dk.seen (Dk.settled d) no = Dk.seen d no := by
    intro no
    show (Dk.stTo d d.waits.length).getD no [] = _
    rw [Dk.st_seen d hw]; rfl
  rw [hp, hse]
/-- While pages are dropped: nothing is fresh, all that is freed has the version 2. -/
structure Dropping (n : Nat) (d : Dk.Pd) (a : Pa) : Prop where
  disk : a.disk = d
  gen : a.gen = 2
  hz : a.hz = 1
  l : a.l = []
  high : a.pool.high = 2 + n
  cap : a.pool.cap = 30
  gens : ∀ f ∈ a.pool.l, f.2 = 2
theorem Dropping.step {n : Nat} {d : Dk.Pd} {a : Pa} (h : Dropping n d a) (no : Int) : Dropping n d (drop a no) := by
  have e : drop a no = { a with pool := Pl.free a.pool no 2 } := by
    unfold drop
    rw [if_neg (by rw [h.l]; simp [look]), h.gen]
  rw [e]
  refine ⟨h.disk, h.gen, h.hz, h.l, (free_high _ _ _).trans h.high, (free_cap _ _ _).trans h.cap, fun f hf => ?_⟩
  have hf : f ∈ (Pl.free a.pool no 2).l := hf
  unfold Pl.free at hf
  split at hf
  · rcases Pl.ins_mem.1 hf with rfl | hf
    · rfl
    · exact h.gens f hf
  · exact h.gens f hf
/-- While pages are put: each fresh one lies behind those that were there. -/
structure Putting (n : Nat) (d : Dk.Pd) (a : Pa) : Prop where
  disk : a.disk = d
  hz : a.hz = 1
  high : 2 + (n : Int) ≤ a.pool.high
  cap : a.pool.cap = 30
  gens : ∀ f ∈ a.pool.l, f.2 = 2
  fresh : ∀ f ∈ a.l, 2 + (n : Int) ≤ f.1
theorem Putting.of {n : Nat} {d : Dk.Pd} {a : Pa} (h : Dropping n d a) : Putting n d a := ⟨h.disk, h.hz, by rw [h.high]; omega, h.cap, h.gens, by rw [h.l]; simp⟩
theorem Putting.step {n : Nat} {d : Dk.Pd} {a : Pa} (h : Putting n d a) (b : List Nat) : Putting n d (put a b) := by
  have hf : Pl.first a.pool.l a.hz = none := by
    unfold Pl.first
    rw [List.findIdx?_eq_none_iff]
    intro f hf
    have := h.gens f hf
    rw [h.hz]; simp; omega
  unfold put
  split
  · rename_i hc
    have hcap : ¬ a.pool.cap ≤ a.pool.high := by
      unfold putCode at hc
      split at hc
      · omega
      · unfold Pl.allocCode at hc
        rw [hf] at hc
        simp only at hc
        split at hc
        · omega
        · assumption
    have e1 : Pl.alloc a.pool a.hz = { a.pool with high := a.pool.high + 1 } := by unfold Pl.alloc; rw [hf]; simp only; rw [if_neg hcap]
    have e2 : Pl.allocNo a.pool a.hz = a.pool.high := by unfold Pl.allocNo; rw [hf]; simp only; rw [if_neg hcap]
    rw [e1, e2]
    refine ⟨h.disk, h.hz, ?_, h.cap, h.gens, fun f hf => ?_⟩
    · show 2 + (n : Int) ≤ a.pool.high + 1
      have := h.high; omega
    · rcases ins_mem.1 hf with rfl | hf
      · exact h.high
      · exact h.fresh f hf
  · exact h
/-- The first pages, flushed. -/
theorem keep_first {ls : List (List Nat)} (hn : ls.length ≤ 8) (hl : ∀ b ∈ ls, b.length ≤ 1016) (d : Dk.Pd) (hd : Calm d) (hp : d.pages.length = 30) :
    (flushTo d (pagesFrom 2 ls)).2 = 0 ∧ Calm (flushTo d (pagesFrom 2 ls)).1 ∧ (flushTo d (pagesFrom 2 ls)).1.pages.length = 30 ∧ (flushTo d (pagesFrom 2 ls)).1.waits.length = d.waits.length + ls.length ∧
      ∀ (i : Nat) b, ls[i]? = some b → dsays (flushTo d (pagesFrom 2 ls)).1 (2 + i) = some (Pg.fill b) := by
  have hr : Rises (pagesFrom 2 ls) := by
    have : ∀ (ls : List (List Nat)) (a : Int), Rises (pagesFrom a ls) := by
      intro ls
      induction ls with
      | nil => intro a; exact List.Pairwise.nil
      | cons b ls ih =>
        intro a
        refine List.pairwise_cons.2 ⟨fun f hf => ?_, ih (a + 1)⟩
        have := (pagesFrom_mem ls (a + 1) hf).1
        show a < f.1; omega
    exact this ls 2
  have hs : ∀ (ls : List (List Nat)) (a : Int), (∀ b ∈ ls, b.length ≤ 1016) → ∀ f ∈ pagesFrom a ls, f.2.length = 1016 := by
    intro ls
    induction ls with
    | nil => intro a _ f hf; cases hf
    | cons b ls ih =>
      intro a h f hf
      rcases List.mem_cons.1 hf with rfl | hf
      · exact Pg.fill_len (h b (by simp))
      · exact ih (a + 1) (fun c hc => h c (by simp [hc])) f hf
  obtain ⟨h1, h2, h3, _, h5, h6⟩ := flushTo_calm (pagesFrom 2 ls) hd (fun f hf => by
    have := pagesFrom_mem ls 2 hf
    rw [hp]
    exact ⟨by omega, by omega, by omega, hs ls 2 hl f hf⟩) hr
  refine ⟨h1, h2, by rw [h3]; exact hp, by rw [h5, pagesFrom_len], fun i b hb => ?_⟩
  rw [h6, look_pages, hb]; rfl
/-- The pages behind them, flushed. -/
theorem keep_last {n : Nat} {d : Dk.Pd} {a : Pa} (h : Putting n d a) (hk : Ok a) (hd : Calm d) (hp : d.pages.length = 30) (hw : d.waits = []) :
    flushCode a = 0 ∧ (∀ x ∈ Dk.nos (flush a).disk, 2 + n ≤ x) ∧ (flush a).disk.waits.length ≤ 2048 ∧ ∀ i : Nat, i < n → says (flush a) (2 + i) = dsays d (2 + i) := by
  have hds := h.disk
  obtain ⟨h1, h2, h3, h4, h5, h6⟩ := flushTo_calm a.l (d := a.disk) (hds ▸ hd) (fun f hf => by
    have hi := hk.ins f hf
    have hc := hk.pool.high
    rw [h.cap] at hc
    rw [hds, hp]
    exact ⟨by omega, by omega, by omega, (hk.says f hf).1⟩) hk.rises
  refine ⟨h1, fun x hx => ?_, ?_, fun i hi => ?_⟩
  · have hx : x ∈ Dk.nos (flushTo a.disk a.l).1 := hx
    rw [h4, hds] at hx
    have hn : Dk.nos d = [] := by unfold Dk.nos; rw [hw]; rfl
    rw [hn, List.nil_append] at hx
    obtain ⟨f, hf, rfl⟩ := List.mem_map.1 hx
    have := h.fresh f hf
    omega
  · show (flushTo a.disk a.l).1.waits.length ≤ 2048
    rw [h5, hds, hw]
    have := few hk
    simp; omega
  · have hn : look a.l (2 + (i : Int)) = none := look_none.2 (by
      rintro ⟨f, hf, e⟩
      have := h.fresh f hf
      omega)
    unfold says
    show (match look a.l (2 + (i : Int)) with | some b => some b | none => dsays (flushTo a.disk a.l).1 (2 + (i : Int))) = _
    rw [hn]
    simp only
    rw [h6, hn, hds]

end Go.Proofs.Ytmcldkcmialfeaa.Pr
