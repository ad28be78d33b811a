/-
  The document's Same and Find: rows of roots that are the same ones, two roots compared; the one of a name.
-/
import Derived.Test.YtbhahihgojhcmaaRtFindW
import Derived.Laws.StructEq
namespace Go.Proofs.Ytbhahihgojhcmaa.Rt
open Go.RowKit
set_option linter.unusedVariables false

theorem three_of_map {α β : Type} {F : α → β} {l : List α} {x0 x1 x2 : β} (h : l.map F = [x0, x1, x2]) : ∃ f0 f1 f2, l = [f0, f1, f2] ∧ F f0 = x0 ∧ F f1 = x1 ∧ F f2 = x2 := by
  rcases l with _ | ⟨f0, _ | ⟨f1, _ | ⟨f2, _ | ⟨f3, l⟩⟩⟩⟩ <;> simp at h
  exact ⟨f0, f1, f2, rfl, h.1, h.2.1, h.2.2⟩
theorem rt_fields : (Try.prog.fieldsOf 34).toList.map (fun f => (f.name, f.type, f.offset)) = [("Name", 9, 0), ("Page", 3, 1), ("Count", 3, 2)] := by kernel_rfl
/-- A root is the same as itself. -/
theorem rt_eq (w : World) (a : Rm.R) : (Op.equalIn 10000 34 (.agg #[.string (txt a.name), .int .i64 a.page, .int .i64 a.count]) (.agg #[.string (txt a.name), .int .i64 a.page, .int .i64 a.count])).run Try.prog w = .ok true w := by
  rw [show (10000 : Nat) = 9999 + 1 from rfl, run_equalIn_struct w 9999 _ _ _ (by kernel_rfl) (by kernel_rfl)]
  have hp : ∀ (t : TypeId) (cs : Array Value) (k : Nat) (v : Value), (Try.prog.underlying t = some .string ∨ ∃ kd, Try.prog.underlying t = some (.int kd)) → cs[k]? = some v → (part t cs k).run Try.prog w = .ok v w := by
    intro t cs k v ht h
    rcases ht with ht | ⟨kd, ht⟩ <;> simp [part, isAgg, run_underlying ht, h]
  have step : ∀ (xs ys : Array Value) (f : Field) (fs : List Field) (v : Value), f.name ≠ "_" → (Try.prog.underlying f.type = some .string ∨ ∃ kd, Try.prog.underlying f.type = some (.int kd)) → xs[f.offset]? = some v → ys[f.offset]? = some v →
      (Op.equalIn 9999 f.type v v).run Try.prog w = .ok true w → (Op.eqFields 9999 xs ys (f :: fs)).run Try.prog w = (Op.eqFields 9999 xs ys fs).run Try.prog w := by
    intro xs ys f fs v hn ht h1 h2 he
    simp only [Op.eqFields, if_pos hn, Sem.run_bind, hp _ _ _ _ ht h1, hp _ _ _ _ ht h2, Result.andThen_ok, he]
    simp
  obtain ⟨f0, f1, f2, hf, e0, e1, e2⟩ := three_of_map rt_fields
  simp only [Prod.mk.injEq] at e0 e1 e2
  obtain ⟨n0, t0, o0⟩ := e0
  obtain ⟨n1, t1, o1⟩ := e1
  obtain ⟨n2, t2, o2⟩ := e2
  have ne : ∀ s : String, s = "Name" ∨ s = "Page" ∨ s = "Count" → s ≠ "_" := by
    rintro s (rfl | rfl | rfl) <;> decide
  have hs := run_equalIn_string (P := Try.prog) w 9998 9 (txt a.name) (txt a.name) Try.underlying9
  have hi := fun (z : Int) => run_equalIn_int (P := Try.prog) w 9998 3 .i64 .i64 z z Try.underlying3
  simp only [beq_self_eq_true] at hs hi
  rw [hf, step _ _ f0 _ (.string (txt a.name)) (ne _ (by simp [n0])) (.inl (by rw [t0]; exact Try.underlying9)) (by rw [o0]; rfl) (by rw [o0]; rfl) (by rw [t0]; exact hs),
    step _ _ f1 _ (.int .i64 a.page) (ne _ (by simp [n1])) (.inr ⟨_, by rw [t1]; exact Try.underlying3⟩) (by rw [o1]; rfl) (by rw [o1]; rfl) (by rw [t1]; exact hi _),
    step _ _ f2 _ (.int .i64 a.count) (ne _ (by simp [n2])) (.inr ⟨_, by rw [t2]; exact Try.underlying3⟩) (by rw [o2]; rfl) (by rw [o2]; rfl) (by rw [t2]; exact hi _)]
  simp [Op.eqFields]

set_option maxRecDepth 100000 in
set_option maxHeartbeats 400000 in
theorem same_any (w : World) (A A' : Option Addr) (n c n' c' : Nat) (L : List Rm.R) (ha : Rs w A n c L) (hb : Rs w A' n' c' L) :
    Calls Try.prog 15 #[.slice A n c, .slice A' n' c'] w fun e w' => e = .returned (.bool true) ∧ ∃ m, w' = w.drewN m := by
  have h1 := ha.1
  have g1 := hb.1
  have h3 := ha.2.2.1
  have h2 := ha.2.1
  have g3 := hb.2.2.1
  unfold maxLen at h3 g3
  have hn : n = n' := by omega
  subst hn
  have hne : ((n : Int) != (n : Int)) = false := by simp
  have HA := Lib.hid ha
  have HB := Lib.hid hb
  clear ha hb g1
  go_enter Try.func15, Try.ntmps15
  go_wp2
  go_loopw [5] (fun i wr => ∃ k m : Nat, k ≤ n ∧ i = .int .i64 k ∧ wr = w.drewN m) (fun i _ => n - (intOf i).toNat)
  case atStart => exact ⟨0, 0, Nat.zero_le _, rfl, rfl⟩
  case round =>
    obtain ⟨k, m, hk, rfl, rfl⟩ := hrel
    by_cases hlt : k < n
    · obtain ⟨b, off, x, rfl, _, hx, _, c0, c1, c2⟩ := HA.out.get hlt
      obtain ⟨b', off', y, rfl, _, hy, _, d0, d1, d2⟩ := HB.out.get hlt
      have e := hx.symm.trans hy
      injection e with e
      subst e
      have EQ := fun W => rt_eq W x
      clear hx hy
      go_wp2
      go_quiet (fail)
      go_wp2
      go_roundw
      case rel => exact ⟨k + 1, _, by omega, by go_num, rfl⟩
      case measure => simp [intOf]; omega
    · go_wp2
      go_ret
      exact ⟨rfl, m, rfl⟩

set_option maxRecDepth 100000 in
set_option maxHeartbeats 1000000 in
theorem rfFind_any (w : World) (A : Option Addr) (n c : Nat) (L : List Rm.R) (nm : List Nat) (h : Rs w A n c L) (hn : ∀ z ∈ nm, z < 256) :
    Calls Try.prog 19 #[.slice A n c, .string (txt nm)] w fun e w' => e = .returned (findV (Rm.find L nm)) ∧ Below w.heap.size w w' := by
  have hl := h.1
  have hcm := h.2.2.1
  have hnc := h.2.1
  unfold maxLen at hcm
  have K2 := heap_alloc_new w (.cells #[.string ⟨#[]⟩, .int .i64 0, .int .i64 0] 34)
  have B2 : Below w.heap.size w (w.alloc (.cells #[.string ⟨#[]⟩, .int .i64 0, .int .i64 0] 34)) := (Below.refl _ _).alloc (Nat.le_refl _) _
  obtain ⟨w2, hw2⟩ : ∃ w2, w2 = w.alloc (.cells #[.string ⟨#[]⟩, .int .i64 0, .int .i64 0] 34) := ⟨_, rfl⟩
  rw [← hw2] at K2 B2
  have HR2 := Lib.hid (h.on B2)
  have HK2 := Lib.hid K2
  have HB2 := Lib.hid B2
  have HF := Lib.hid (find_idx L nm)
  generalize hO : Rm.find L nm = O at *
  obtain ⟨p0, p1, p2⟩ : w2.cell? ⟨w.heap.size, 0, none⟩ = some (.string ⟨#[]⟩) ∧ w2.cell? ⟨w.heap.size, 1, none⟩ = some (.int .i64 0) ∧ w2.cell? ⟨w.heap.size, 2, none⟩ = some (.int .i64 0) :=
    ⟨cell_of_row w2 _ 0 _ _ (0, 0) K2, cell_of_row w2 _ 1 _ _ (0, 0) K2, cell_of_row w2 _ 2 _ _ (0, 0) K2⟩
  have f0 := frozen_of_row w2 w.heap.size 0 _ _ K2
  have f1 := frozen_of_row w2 w.heap.size 1 _ _ K2
  have f2 := frozen_of_row w2 w.heap.size 2 _ _ K2
  clear h K2 B2 hO
  go_enter Try.func19, Try.ntmps19
  go_wp2_with fail
  rw [← hw2]
  clear hw2
  go_loop [6] (fun i => ∃ (k : Nat), k ≤ n ∧ i = .int .i64 (k : Int) ∧ Hid (idx (fun x => decide (x.name = nm)) L = k + idx (fun x => decide (x.name = nm)) (L.drop k))) (fun i => n - (intOf i).toNat)
  case atStart => exact ⟨0, Nat.zero_le _, rfl, by show _ = _; simp⟩
  case round =>
    obtain ⟨k, hk, rfl, HI⟩ := hrel
    by_cases hlt : k < n
    · obtain ⟨bb, off, x, rfl, hbb, hx, hin, c0, c1, c2⟩ := HR2.out.get hlt
      have hI := HI.out
      rw [drop_at hx] at hI
      have hE := txt_eq hin.nm hn
      clear hin
      by_cases hq : x.name = nm
      · rw [decide_eq_true hq] at hE
        rw [idx_yes (by simpa using hq)] at hI
        have hO : O = some x := by rw [HF.out, hI, Nat.add_zero, hx]
        subst hO
        clear hI hx HI HF hq
        go_wp2
        have k5 := set3_at HK2.out (.string (txt x.name)) (.int .i64 x.page) (.int .i64 x.count)
        have B5 := set3_below HB2.out (Nat.le_refl w.heap.size) (.string (txt x.name)) (.int .i64 x.page) (.int .i64 x.count)
        unfold set3 at k5 B5
        obtain ⟨q0, q1, q2⟩ : _ ∧ _ ∧ _ := ⟨cell_of_row _ _ 0 _ _ (0, 0) k5, cell_of_row _ _ 1 _ _ (0, 0) k5, cell_of_row _ _ 2 _ _ (0, 0) k5⟩
        simp only [List.getElem?_toArray, List.getElem?_cons_zero, List.getElem?_cons_succ] at q0 q1 q2
        refine bodyPost_ret (v := .tuple #[rv x, .bool true]) (by simp [results, Try.results19, go_sem, rv, q0, q1, q2]) rfl ⟨rfl, B5⟩
      · rw [decide_eq_false hq] at hE
        rw [idx_no (by simpa using hq)] at hI
        have HI2 : Hid (idx (fun x => decide (x.name = nm)) L = (k + 1) + idx (fun x => decide (x.name = nm)) (L.drop (k + 1))) := by show _ = _; omega
        clear hI hx HI hq
        go_wp2
        go_round
        case rel => exact ⟨k + 1, by omega, by go_num, HI2⟩
        case measure => simp [intOf]; omega
    · have hO : O = none := by
        rw [HF.out, HI.out, List.getElem?_eq_none]
        rw [List.drop_eq_nil_of_le (by omega)]; simp [idx]; omega
      subst hO
      go_wp2
      have k5 := set3_at HK2.out (.string ⟨#[]⟩) (.int .i64 0) (.int .i64 0)
      have B5 := set3_below HB2.out (Nat.le_refl w.heap.size) (.string ⟨#[]⟩) (.int .i64 0) (.int .i64 0)
      unfold set3 at k5 B5
      obtain ⟨q0, q1, q2⟩ : _ ∧ _ ∧ _ := ⟨cell_of_row _ _ 0 _ _ (0, 0) k5, cell_of_row _ _ 1 _ _ (0, 0) k5, cell_of_row _ _ 2 _ _ (0, 0) k5⟩
      simp only [List.getElem?_toArray, List.getElem?_cons_zero, List.getElem?_cons_succ] at q0 q1 q2
      refine bodyPost_ret (v := .tuple #[rv r0, .bool false]) (by simp [results, Try.results19, go_sem, rv, r0, txt_nil, q0, q1, q2]) rfl ⟨rfl, B5⟩

end Go.Proofs.Ytbhahihgojhcmaa.Rt
