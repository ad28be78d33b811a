/-
  The document's Same: two rows of freed pages are the same ones.
-/
import Derived.Test.YtbfofhgnamheeaaPoRow
import Derived.Laws.StructEq
namespace Go.Proofs.Ytbfofhgnamheeaa.Pq
open Go.RowKit
set_option linter.unusedVariables false

theorem two_of_map {α β : Type} {F : α → β} {l : List α} {x0 x1 : β} (h : l.map F = [x0, x1]) : ∃ f0 f1, l = [f0, f1] ∧ F f0 = x0 ∧ F f1 = x1 := by
  rcases l with _ | ⟨f0, _ | ⟨f1, _ | ⟨f2, l⟩⟩⟩ <;> simp at h
  exact ⟨f0, f1, rfl, h.1, h.2⟩
theorem fr_fields : (Try.prog.fieldsOf 57).toList.map (fun f => (f.name, f.type, f.offset)) = [("Page", 3, 0), ("Gen", 34, 1)] := by kernel_rfl
theorem fr_eq (w : World) (a b : Pl.F) : (Op.equalIn 10000 57 (.agg #[.int .i64 a.1, .int .u64 (a.2 : Int)]) (.agg #[.int .i64 b.1, .int .u64 (b.2 : Int)])).run Try.prog w = .ok (decide (a = b)) w := by
  rw [show (10000 : Nat) = 9999 + 1 from rfl, run_equalIn_struct w 9999 _ _ _ (by kernel_rfl) (by kernel_rfl)]
  have hp : ∀ (t : TypeId) (kd : IntKind) (cs : Array Value) (k : Nat) (v : Value), Try.prog.underlying t = some (.int kd) → cs[k]? = some v → (part t cs k).run Try.prog w = .ok v w := by
    intro t kd cs k v ht h
    simp [part, isAgg, run_underlying ht, h]
  have he : ∀ (t : TypeId) (kd kd' : IntKind) (p q : Int), Try.prog.underlying t = some (.int kd') → (Op.equalIn 9999 t (.int kd p) (.int kd q)).run Try.prog w = .ok (p == q) w := fun t kd kd' p q ht => run_equalIn_int w 9998 _ _ _ p q ht
  have step : ∀ (xs ys : Array Value) (f : Field) (fs : List Field) (kd kd' : IntKind) (p q : Int), f.name ≠ "_" → Try.prog.underlying f.type = some (.int kd') → xs[f.offset]? = some (.int kd p) → ys[f.offset]? = some (.int kd q) →
      (Op.eqFields 9999 xs ys (f :: fs)).run Try.prog w = if (p == q) = true then (Op.eqFields 9999 xs ys fs).run Try.prog w else .ok false w := by
    intro xs ys f fs kd kd' p q hn ht h1 h2
    simp only [Op.eqFields, if_pos hn, Sem.run_bind, hp _ _ _ _ _ ht h1, hp _ _ _ _ _ ht h2, Result.andThen_ok, he _ _ _ _ _ ht]
    cases (p == q) <;> simp
  obtain ⟨f0, f1, hf, e0, e1⟩ := two_of_map fr_fields
  simp only [Prod.mk.injEq] at e0 e1
  obtain ⟨n0, t0, o0⟩ := e0
  obtain ⟨n1, t1, o1⟩ := e1
  have ne : ∀ s : String, s = "Page" ∨ s = "Gen" → s ≠ "_" := by
    rintro s (rfl | rfl) <;> decide
  rw [hf, step _ _ f0 _ .i64 .i64 a.1 b.1 (ne _ (by simp [n0])) (by rw [t0]; exact Try.underlying3) (by rw [o0]; rfl) (by rw [o0]; rfl),
    step _ _ f1 _ .u64 .u64 (a.2 : Int) (b.2 : Int) (ne _ (by simp [n1])) (by rw [t1]; exact Try.underlying34) (by rw [o1]; rfl) (by rw [o1]; rfl)]
  have hg : ((a.2 : Int) == (b.2 : Int)) = decide (a.2 = b.2) := by rw [Bool.eq_iff_iff, beq_iff_eq, decide_eq_true_iff]; omega
  rw [hg]
  have hd : decide (a = b) = ((a.1 == b.1) && decide (a.2 = b.2)) := by
    rw [Bool.eq_iff_iff]
    simp [Prod.ext_iff]
  rw [hd]
  cases decide (a.2 = b.2) <;> cases (a.1 == b.1) <;> simp [Op.eqFields]
theorem take_stepF {l : List Pl.F} {k : Nat} {x : Pl.F} (h : l[k]? = some x) : l.take (k + 1) = l.take k ++ [x] := by rw [List.take_add_one, h]; rfl

set_option maxRecDepth 100000 in
set_option maxHeartbeats 400000 in
theorem sameF_any (w : World) (A A' : Option Addr) (n c n' c' : Nat) (la lb : List Pl.F) (ha : Fs w A n c la) (hb : Fs w A' n' c' lb) :
    Calls Try.prog 20 #[.slice A n c, .slice A' n' c'] w fun e w' => e = .returned (.bool (decide (la = lb))) ∧ ∃ m, w' = w.drewN m := by
  obtain ⟨h1, h2, h3, h4, h5⟩ := ha
  obtain ⟨g1, g2, g3, g4, g5⟩ := hb
  unfold maxLen at h3 g3
  by_cases hn : n = n'
  · subst hn
    by_cases h0 : n = 0
    · subst h0
      have e1 : la = [] := List.eq_nil_of_length_eq_zero h1
      have e2 : lb = [] := List.eq_nil_of_length_eq_zero g1
      subst e1 e2
      clear h1 g1 h5 g5 h4 g4
      go_enter Try.func20, Try.ntmps20
      go_wp2
      refine wp_loop_rounds 1 ?_
      rw [rounds_succ]
      go_wp2
      go_ret
      exact ⟨rfl, 0, rfl⟩
    · obtain ⟨b, off, rfl, _, hc⟩ := h5 (by omega)
      obtain ⟨b', off', rfl, _, hc'⟩ := g5 (by omega)
      have hne : ((n : Int) != (n : Int)) = false := by simp
      have HC := Lib.hid hc
      have HC' := Lib.hid hc'
      have H1 := Lib.hid h1
      have G1 := Lib.hid g1
      clear hc hc' h1 g1 h5 g5 h4 g4
      go_enter Try.func20, Try.ntmps20
      go_wp2
      go_loopw [5] (fun i wr => ∃ k m : Nat, k ≤ n ∧ i = .int .i64 k ∧ la.take k = lb.take k ∧ wr = w.drewN m) (fun i _ => n - (intOf i).toNat)
      case atStart => exact ⟨0, 0, Nat.zero_le _, rfl, rfl, rfl⟩
      case round =>
        obtain ⟨k, m, hk, rfl, ht, rfl⟩ := hrel
        have HT := Lib.hid ht
        clear ht
        by_cases hlt : k < n
        · obtain ⟨x, hx⟩ : ∃ x, la[k]? = some x := ⟨_, List.getElem?_eq_getElem (by rw [H1.out]; exact hlt)⟩
          obtain ⟨y, hy⟩ : ∃ y, lb[k]? = some y := ⟨_, List.getElem?_eq_getElem (by rw [G1.out]; exact hlt)⟩
          obtain ⟨cx, cx'⟩ := HC.out k x hx
          obtain ⟨cy, cy'⟩ := HC'.out k y hy
          have HX := Lib.hid hx
          have HY := Lib.hid hy
          have EQ := fun W => fr_eq W x y
          clear hx hy
          by_cases hxy : x = y
          · subst hxy
            have hd : decide (x = x) = true := by simp
            rw [hd] at EQ
            clear hd
            go_wp2
            go_quiet (fail)
            go_wp2
            go_roundw
            case rel => exact ⟨k + 1, _, by omega, by go_num, by rw [take_stepF HX.out, take_stepF HY.out, HT.out], rfl⟩
            case measure => simp [intOf]; omega
          · rw [decide_eq_false hxy] at EQ
            have HN : Hid (¬ la = lb) := by
              intro e; subst e
              have := HX.out.symm.trans HY.out
              injection this with this
              exact hxy this
            clear hxy
            go_wp2
            go_quiet (fail)
            go_wp2
            go_ret
            exact ⟨by simp [HN.out], _, World.drewN_drewN _ _ _⟩
        · have HE : Hid (la = lb) := by
            show la = lb
            have := HT.out
            rwa [List.take_of_length_le (by rw [H1.out]; omega), List.take_of_length_le (by rw [G1.out]; omega)] at this
          go_wp2
          go_ret
          exact ⟨by simp [HE.out], m, rfl⟩
  · have hne : ((n : Int) != (n' : Int)) = true := by simp; omega
    have HN : Hid (¬ la = lb) := by intro e; subst e; exact hn (h1.symm.trans g1)
    clear h1 g1 h5 g5 h4 g4
    go_enter Try.func20, Try.ntmps20
    go_wp2
    go_ret
    exact ⟨by simp [HN.out], 0, rfl⟩

end Go.Proofs.Ytbfofhgnamheeaa.Pq
