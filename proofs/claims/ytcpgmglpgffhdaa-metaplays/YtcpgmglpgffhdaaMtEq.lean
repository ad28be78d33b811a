/-
  Two metas are compared.
-/
import Derived.Test.YtcpgmglpgffhdaaMtCell
import Derived.Laws.StructEq
namespace Go.Proofs.Ytcpgmglpgffhdaa
open Go.RowKit
set_option linter.unusedVariables false

theorem Mt.ext_iff' (a b : Mt.M) : a = b ↔ a.gen = b.gen ∧ a.high = b.high ∧ a.root = b.root ∧ a.free = b.free := by
  obtain ⟨a1, a2, a3, a4⟩ := a
  obtain ⟨b1, b2, b3, b4⟩ := b
  simp
instance : DecidableEq Mt.M := fun a b => decidable_of_iff _ (Mt.ext_iff' a b).symm
theorem four_of_map {α β : Type} {F : α → β} {l : List α} {x0 x1 x2 x3 : β} (h : l.map F = [x0, x1, x2, x3]) : ∃ f0 f1 f2 f3, l = [f0, f1, f2, f3] ∧ F f0 = x0 ∧ F f1 = x1 ∧ F f2 = x2 ∧ F f3 = x3 := by
  rcases l with _ | ⟨f0, _ | ⟨f1, _ | ⟨f2, _ | ⟨f3, _ | ⟨f4, l⟩⟩⟩⟩⟩ <;> simp at h
  exact ⟨f0, f1, f2, f3, rfl, h.1, h.2.1, h.2.2.1, h.2.2.2⟩
theorem mt_fields : (Try.prog.fieldsOf 24).toList.map (fun f => (f.name, f.type, f.offset)) = [("Gen", 22, 0), ("High", 3, 1), ("Root", 3, 2), ("Free", 3, 3)] := by kernel_rfl
theorem mt_eq (w : World) (a b : Mt.M) : (Op.equalIn 10000 24 (.agg #[.int .u64 (a.gen : Int), .int .i64 a.high, .int .i64 a.root, .int .i64 a.free]) (.agg #[.int .u64 (b.gen : Int), .int .i64 b.high, .int .i64 b.root, .int .i64 b.free])).run Try.prog w = .ok (decide (a = b)) w := by
  rw [show (10000 : Nat) = 9999 + 1 from rfl, run_equalIn_struct w 9999 _ _ _ (by kernel_rfl) (by kernel_rfl)]
  have hp : ∀ (t : TypeId) (kd : IntKind) (cs : Array Value) (k : Nat) (v : Value), Try.prog.underlying t = some (.int kd) → cs[k]? = some v → (part t cs k).run Try.prog w = .ok v w := by
    intro t kd cs k v ht h
    simp [part, isAgg, run_underlying ht, h]
  have he : ∀ (t : TypeId) (kd kd' : IntKind) (p q : Int), Try.prog.underlying t = some (.int kd') → (Op.equalIn 9999 t (.int kd p) (.int kd q)).run Try.prog w = .ok (p == q) w := fun t kd kd' p q ht => run_equalIn_int w 9998 _ _ _ p q ht
  have step : ∀ (xs ys : Array Value) (f : Field) (fs : List Field) (kd kd' : IntKind) (p q : Int), f.name ≠ "_" → Try.prog.underlying f.type = some (.int kd') → xs[f.offset]? = some (.int kd p) → ys[f.offset]? = some (.int kd q) →
      (Op.eqFields 9999 xs ys (f :: fs)).run Try.prog w = if (p == q) = true then (Op.eqFields 9999 xs ys fs).run Try.prog w else .ok false w := by
    intro xs ys f fs kd kd' p q hn ht h1 h2
    simp only [Op.eqFields, if_pos hn, Sem.run_bind, hp _ _ _ _ _ ht h1, hp _ _ _ _ _ ht h2, Result.andThen_ok, he _ _ _ _ _ ht]
    cases (p == q) <;> simp
  obtain ⟨f0, f1, f2, f3, hf, e0, e1, e2, e3⟩ := four_of_map mt_fields
  simp only [Prod.mk.injEq] at e0 e1 e2 e3
  obtain ⟨n0, t0, o0⟩ := e0
  obtain ⟨n1, t1, o1⟩ := e1
  obtain ⟨n2, t2, o2⟩ := e2
  obtain ⟨n3, t3, o3⟩ := e3
  have ne : ∀ s : String, s = "Gen" ∨ s = "High" ∨ s = "Root" ∨ s = "Free" → s ≠ "_" := by
    rintro s (rfl | rfl | rfl | rfl) <;> decide
  rw [hf, step _ _ f0 _ .u64 .u64 (a.gen : Int) (b.gen : Int) (ne _ (by simp [n0])) (by rw [t0]; exact Try.underlying22) (by rw [o0]; rfl) (by rw [o0]; rfl),
    step _ _ f1 _ .i64 .i64 a.high b.high (ne _ (by simp [n1])) (by rw [t1]; exact Try.underlying3) (by rw [o1]; rfl) (by rw [o1]; rfl),
    step _ _ f2 _ .i64 .i64 a.root b.root (ne _ (by simp [n2])) (by rw [t2]; exact Try.underlying3) (by rw [o2]; rfl) (by rw [o2]; rfl),
    step _ _ f3 _ .i64 .i64 a.free b.free (ne _ (by simp [n3])) (by rw [t3]; exact Try.underlying3) (by rw [o3]; rfl) (by rw [o3]; rfl)]
  have hg : ((a.gen : Int) == (b.gen : Int)) = decide (a.gen = b.gen) := by rw [Bool.eq_iff_iff, beq_iff_eq, decide_eq_true_iff]; omega
  rw [hg]
  have hd : decide (a = b) = (decide (a.gen = b.gen) && (a.high == b.high) && (a.root == b.root) && (a.free == b.free)) := by
    rw [Bool.eq_iff_iff]
    simp [Mt.ext_iff', and_assoc]
  rw [hd]
  cases decide (a.gen = b.gen) <;> cases (a.high == b.high) <;> cases (a.root == b.root) <;> cases (a.free == b.free) <;> simp [Op.eqFields]

end Go.Proofs.Ytcpgmglpgffhdaa
