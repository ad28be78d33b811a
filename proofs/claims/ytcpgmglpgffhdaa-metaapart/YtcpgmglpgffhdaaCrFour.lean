/-
  Four bytes that stand together in a row, turned one by one; the sums are the same only where nothing was turned.
-/
import Derived.Test.YtcpgmglpgffhdaaCrMore
import Derived.Test.YtcpgmglpgffhdaaCrApp
import Derived.Laws.OwnMore
import Derived.BigRegion
import Derived.DeepKeys
import Derived.Deep.RegionHeld3
namespace Go.Proofs.Ytcpgmglpgffhdaa
open Go.RowKit
set_option linter.unusedVariables false

/-- Four bytes, those ahead of k turned. -/
def four (x e : Nat → Nat) (k : Nat) : List Nat := [0, 1, 2, 3].map fun j => if j < k then x j ^^^ e j else x j
theorem four_len (x e : Nat → Nat) (k : Nat) : (four x e k).length = 4 := rfl
theorem four_zero_ (x e : Nat → Nat) : four x e 0 = [x 0, x 1, x 2, x 3] := rfl
theorem four_all (x e : Nat → Nat) : four x e 4 = [x 0 ^^^ e 0, x 1 ^^^ e 1, x 2 ^^^ e 2, x 3 ^^^ e 3] := rfl
theorem four_at (x e : Nat → Nat) (k : Nat) (hk : k < 4) : (four x e k)[k]? = some (x k) := by
  match k, hk with
  | 0, _ => rfl
  | 1, _ => rfl
  | 2, _ => rfl
  | 3, _ => rfl
theorem four_next (x e : Nat → Nat) (k : Nat) (hk : k < 4) : (four x e k).set k (x k ^^^ e k) = four x e (k + 1) := by
  match k, hk with
  | 0, _ => rfl
  | 1, _ => rfl
  | 2, _ => rfl
  | 3, _ => rfl
/-- A row in which four bytes stand behind p and ahead of q. -/
def row4 (p q : List Nat) (x e : Nat → Nat) (k : Nat) : List Nat := p ++ four x e k ++ q
theorem row4_len (p q : List Nat) (x e : Nat → Nat) (k : Nat) : (row4 p q x e k).length = p.length + 4 + q.length := by simp [row4, four_len]; omega
theorem row4_at (p q : List Nat) (x e : Nat → Nat) (k : Nat) (hk : k < 4) : (row4 p q x e k)[p.length + k]? = some (x k) := by
  unfold row4
  rw [List.append_assoc, List.getElem?_append_right (by omega), show p.length + k - p.length = k by omega, List.getElem?_append_left (by rw [four_len]; omega), four_at x e k hk]
theorem row4_next (p q : List Nat) (x e : Nat → Nat) (k : Nat) (hk : k < 4) : (bv (row4 p q x e k)).set (p.length + k) (.int .u8 ((x k ^^^ e k : Nat) : Int)) = bv (row4 p q x e (k + 1)) := by
  have h : (row4 p q x e k).set (p.length + k) (x k ^^^ e k) = row4 p q x e (k + 1) := by
    unfold row4
    rw [List.append_assoc, List.append_assoc, List.set_append_right _ _ (by omega), show p.length + k - p.length = k by omega, List.set_append_left _ _ (by rw [four_len]; omega), four_next x e k hk]
  rw [← h]
  unfold bv
  rw [List.map_set]
theorem row4_of (l : List Nat) (i : Nat) (h : i + 4 ≤ l.length) (e : Nat → Nat) : l = row4 (l.take i) (l.drop (i + 4)) (fun j => l.getD (i + j) 0) e 0 := by
  have d : ∀ j, j < 4 → l.drop (i + j) = l.getD (i + j) 0 :: l.drop (i + j + 1) := fun j hj => by
    rw [List.drop_eq_getElem_cons (by omega), List.getD_eq_getElem?_getD, List.getElem?_eq_getElem (by omega)]; rfl
  unfold row4
  rw [four_zero_]
  conv => lhs; rw [← List.take_append_drop i l]
  rw [List.append_assoc]
  congr 1
  have d0 := d 0 (by omega)
  have d1 := d 1 (by omega)
  have d2 := d 2 (by omega)
  have d3 := d 3 (by omega)
  simp only [Nat.add_zero] at d0
  rw [d0, d1, d2, d3]
  rfl
theorem split4 (l : List Nat) (i : Nat) (h : i + 4 ≤ l.length) (hl : ∀ y ∈ l, y < 256) (e : Nat → Nat) :
    ∃ (P Q : List Nat) (x : Nat → Nat), P.length = i ∧ l = row4 P Q x e 0 ∧ (∀ y ∈ P, y < 256) ∧ (∀ y ∈ Q, y < 256) ∧ ∀ j, j < 4 → x j < 256 := by
  refine ⟨l.take i, l.drop (i + 4), fun j => l.getD (i + j) 0, by simp; omega, row4_of l i h e, fun y hy => hl y (List.mem_of_mem_take hy), fun y hy => hl y (List.mem_of_mem_drop hy), fun j hj => ?_⟩
  show l.getD (i + j) 0 < 256
  rw [List.getD_eq_getElem?_getD, List.getElem?_eq_getElem (by omega)]
  exact hl _ (List.getElem_mem _)
theorem xor_u8 {x e : Nat} (hx : x < 256) (he : e < 256) : bits .xor .u8 (x : Int) (e : Int) = ((x ^^^ e : Nat) : Int) := u8_xor_nat x e hx he
theorem xor_lt {x e : Nat} (hx : x < 256) (he : e < 256) : x ^^^ e < 256 := Nat.xor_lt_two_pow (n := 8) hx he
theorem row4_lt {p q : List Nat} {x e : Nat → Nat} (hp : ∀ y ∈ p, y < 256) (hq : ∀ y ∈ q, y < 256) (hx : ∀ j, j < 4 → x j < 256) (he : ∀ j, j < 4 → e j < 256) (k : Nat) : ∀ y ∈ row4 p q x e k, y < 256 := by
  intro y hy
  rcases List.mem_append.1 hy with h | h
  · rcases List.mem_append.1 h with h | h
    · exact hp y h
    · obtain ⟨j, hj, rfl⟩ := List.mem_map.1 h
      have hj4 : j < 4 := by
        simp only [List.mem_cons, List.not_mem_nil, or_false] at hj
        omega
      show (if j < k then x j ^^^ e j else x j) < 256
      split
      · exact xor_lt (hx j hj4) (he j hj4)
      · exact hx j hj4
  · exact hq y h
/-- The two sums are the same where nothing was turned, and only there. -/
theorem sums_same {p q : List Nat} {x e : Nat → Nat} (hp : ∀ y ∈ p, y < 256) (hq : ∀ y ∈ q, y < 256) (hx : ∀ j, j < 4 → x j < 256) (he : ∀ j, j < 4 → e j < 256) :
    Cr.sum (row4 p q x e 4) = Cr.sum (row4 p q x e 0) ↔ (e 0 = 0 ∧ e 1 = 0 ∧ e 2 = 0 ∧ e 3 = 0) := by
  have h := Cr.turned (v := 4294967295) (by omega) p q hp hq (hx 0 (by omega)) (hx 1 (by omega)) (hx 2 (by omega)) (hx 3 (by omega)) (he 0 (by omega)) (he 1 (by omega)) (he 2 (by omega)) (he 3 (by omega))
  rw [← h, ← four_all x e, ← four_zero_ x e]
  have l1 := Cr.run_lt (v := 4294967295) (by omega) _ (row4_lt hp hq hx he 4)
  have l0 := Cr.run_lt (v := 4294967295) (by omega) _ (row4_lt hp hq hx he 0)
  unfold row4 at l1 l0
  unfold Cr.sum Cr.more row4
  simp only [Nat.sub_zero]
  omega

/-- Four bytes are compared with four bytes 0. -/
theorem four_eq (w : World) (a b c d : Int) : (Op.equalIn 10000 86 (.agg #[.int .u8 a, .int .u8 b, .int .u8 c, .int .u8 d]) (.agg #[.int .u8 0, .int .u8 0, .int .u8 0, .int .u8 0])).run Try.prog w = .ok (a == 0 && b == 0 && c == 0 && d == 0) w := by
  obtain ⟨i, hi, hs⟩ : ∃ i, Try.prog.info? 5 = some i ∧ i.size = 1 := by
    have := Try.info5
    cases h : Try.prog.info? 5 with
    | none => rw [h] at this; cases this
    | some i => rw [h] at this; simp at this; exact ⟨i, rfl, this.2.1⟩
  rw [show (10000 : Nat) = 9999 + 1 from rfl, run_equalIn_array w 9999 _ _ Try.underlying86 hi]
  have hp : ∀ (cs : Array Value) (k : Nat) (v : Value), cs[k]? = some v → (part 5 cs k).run Try.prog w = .ok v w := by
    intro cs k v h
    simp [part, isAgg, run_underlying Try.underlying5, h]
  have he : ∀ p q : Int, (Op.equalIn 9999 5 (.int .u8 p) (.int .u8 q)).run Try.prog w = .ok (p == q) w := fun p q => run_equalIn_int w 9998 _ _ _ p q Try.underlying5
  have step : ∀ (xs ys : Array Value) (k : Nat) (is : List Nat) (p q : Int), xs[k]? = some (.int .u8 p) → ys[k]? = some (.int .u8 q) →
      (Op.eqItems 9999 5 1 xs ys (k :: is)).run Try.prog w = if (p == q) = true then (Op.eqItems 9999 5 1 xs ys is).run Try.prog w else .ok false w := by
    intro xs ys k is p q h1 h2
    simp only [Op.eqItems, Sem.run_bind, Nat.mul_one, hp _ _ _ h1, hp _ _ _ h2, Result.andThen_ok, he]
    cases (p == q) <;> simp
  rw [show Try.prog.cellsOf 5 = 1 by kernel_rfl, show List.range 4 = [0, 1, 2, 3] from rfl]
  rw [step _ _ 0 _ a 0 rfl rfl, step _ _ 1 _ b 0 rfl rfl, step _ _ 2 _ c 0 rfl rfl, step _ _ 3 _ d 0 rfl rfl]
  cases (a == 0) <;> cases (b == 0) <;> cases (c == 0) <;> cases (d == 0) <;> simp [Op.eqItems]
/-- The box of the four bytes that are turned. -/
def Box (w : World) (g : Nat) (e : Nat → Nat) : Prop :=
  w.cell? ⟨g, 0, none⟩ = some (.int .u8 (e 0 : Int)) ∧ w.cell? ⟨g, 1, none⟩ = some (.int .u8 (e 1 : Int)) ∧ w.cell? ⟨g, 2, none⟩ = some (.int .u8 (e 2 : Int)) ∧ w.cell? ⟨g, 3, none⟩ = some (.int .u8 (e 3 : Int))
theorem Box.below {w w' : World} {g B : Nat} {e : Nat → Nat} (h : Box w g e) (hb : Below B w w') (hg : g < B) : Box w' g e :=
  ⟨(hb.cell (p := ⟨g, 0, none⟩) (by exact hg)).trans h.1, (hb.cell (p := ⟨g, 1, none⟩) (by exact hg)).trans h.2.1, (hb.cell (p := ⟨g, 2, none⟩) (by exact hg)).trans h.2.2.1, (hb.cell (p := ⟨g, 3, none⟩) (by exact hg)).trans h.2.2.2⟩
theorem boxed {w w' : World} {g B : Nat} {e0 e1 e2 e3 : Value} (hb : Below B w w') (hg : g < B)
    (h : w.cell? ⟨g, 0, none⟩ = some e0 ∧ w.cell? ⟨g, 1, none⟩ = some e1 ∧ w.cell? ⟨g, 2, none⟩ = some e2 ∧ w.cell? ⟨g, 3, none⟩ = some e3) :
    w'.cell? ⟨g, 0, none⟩ = some e0 ∧ w'.cell? ⟨g, 1, none⟩ = some e1 ∧ w'.cell? ⟨g, 2, none⟩ = some e2 ∧ w'.cell? ⟨g, 3, none⟩ = some e3 :=
  ⟨(hb.cell (p := ⟨g, 0, none⟩) (by exact hg)).trans h.1, (hb.cell (p := ⟨g, 1, none⟩) (by exact hg)).trans h.2.1, (hb.cell (p := ⟨g, 2, none⟩) (by exact hg)).trans h.2.2.1, (hb.cell (p := ⟨g, 3, none⟩) (by exact hg)).trans h.2.2.2⟩
theorem Box.at_ {w : World} {g : Nat} {e : Nat → Nat} (h : Box w g e) {k : Nat} (hk : k < 4) : w.cell? ⟨g, k, none⟩ = some (.int .u8 (e k : Int)) := by
  match k, hk with
  | 0, _ => exact h.1
  | 1, _ => exact h.2.1
  | 2, _ => exact h.2.2.1
  | 3, _ => exact h.2.2.2

end Go.Proofs.Ytcpgmglpgffhdaa
