/-
  A block that is a row of bytes of the call's own, whole; the parts of a slice of bytes.
-/
import Derived.Test.YtbhahihgojhcmaaCrApp
namespace Go.Proofs.Ytbhahihgojhcmaa
open Go.RowKit
set_option linter.unusedVariables false

/-- The block g is a row of bytes of the call's own, whole. -/
def Row (w : World) (g : Nat) (l : List Nat) : Prop := w.heap[g]? = some (.cells (bv l).toArray 5 (0, 0))
section
variable {w w' : World} {g : Nat} {l : List Nat}
theorem Row.lt (h : Row w g l) : g < w.heap.size := by
  rcases Nat.lt_or_ge g w.heap.size with hlt | hge
  · exact hlt
  · unfold Row at h; rw [Array.getElem?_eq_none hge] at h; cases h
theorem Row.cell (h : Row w g l) {j x : Nat} (hx : l[j]? = some x) : w.cell? ⟨g, j, none⟩ = some (.int .u8 (x : Int)) := by
  rw [cell_of_row w _ j _ _ (0, 0) h]; simp [bv, hx]
theorem Row.bs (h : Row w g l) (hl : ∀ x ∈ l, x < 256) (hm : l.length ≤ maxLen) : Bs w (some ⟨g, 0, none⟩) l.length l.length l :=
  ⟨rfl, Nat.le_refl _, hm, hl, fun _ => ⟨g, 0, rfl, h.lt, fun j x hx => by rw [Nat.zero_add]; exact h.cell hx⟩⟩
theorem Row.part (h : Row w g l) (hl : ∀ x ∈ l, x < 256) (hm : l.length ≤ maxLen) (o k : Nat) (hk : o + k ≤ l.length) : Bs w (some ⟨g, o, none⟩) k k ((l.drop o).take k) := by
  refine ⟨by simp; omega, Nat.le_refl _, by omega, fun x hx => hl x (List.mem_of_mem_drop (List.mem_of_mem_take hx)), fun _ => ⟨g, o, rfl, h.lt, fun j x hx => ?_⟩⟩
  rw [List.getElem?_take] at hx
  split at hx
  · rw [List.getElem?_drop] at hx; exact h.cell hx
  · cases hx
theorem Row.below (h : Row w g l) {B : Nat} (hb : Below B w w') (hg : g < B) : Row w' g l := (hb.block g hg).trans h
theorem Row.on (h : Row w g l) (hb : Below w.heap.size w w') : Row w' g l := h.below hb h.lt
theorem Row.own (h : Row w g l) {base n : Nat} (hb : base ≤ g) (hn : l.length = n) (hm : n ≤ maxLen) : w.ownsRow base 5 1 (.slice (some ⟨g, 0, none⟩) n n) n (bv l) :=
  ⟨by rw [bv_len]; omega, .inr ⟨g, n, _, rfl, hb, h, Nat.le_refl _, hm, by simp [bv_len]; omega, by rw [Nat.mul_one, List.take_of_length_le (by simp [bv_len]; omega)]⟩⟩
theorem Row.of_own {base n : Nat} (h : w.ownsRow base 5 1 (.slice (some ⟨g, 0, none⟩) n n) n (bv l)) : Row w g l := by
  rcases h.2 with ⟨hv, _⟩ | ⟨g', cap, cur, hv, _, hg, _, _, hcs, ht⟩
  · cases hv
  · injection hv with h1 _ h3
    injection h1 with h1
    injection h1 with h1
    subst h1 h3
    have : cur = (bv l).toArray := by
      rw [← ht, List.take_of_length_le (by simp; omega)]
    subst this
    exact hg
end
theorem Bs.part {w : World} {A : Option Addr} {n c : Nat} {l : List Nat} (h : Bs w A n c l) (hn : 0 < n) : ∃ b off, A = some ⟨b, off, none⟩ ∧ ∀ o k, o + k ≤ n → Bs w (some ⟨b, off + o, none⟩) k k ((l.drop o).take k) := by
  obtain ⟨h1, h2, h3, h4, h5⟩ := h
  obtain ⟨b, off, e, hlt, hc⟩ := h5 hn
  refine ⟨b, off, e, fun o k hk => ⟨by simp; omega, Nat.le_refl _, by omega, fun x hx => h4 x (List.mem_of_mem_drop (List.mem_of_mem_take hx)), fun _ => ⟨b, off + o, rfl, hlt, fun j x hx => ?_⟩⟩⟩
  rw [List.getElem?_take] at hx
  split at hx
  · rw [List.getElem?_drop] at hx
    rw [Nat.add_assoc]; exact hc _ x hx
  · cases hx

/-- A row of the call's own is a slice of that length. -/
theorem own_form {w : World} {base e n : Nat} {v : Value} {xs : List Value} (h : w.ownsRow base e 1 v n xs) : ∃ A c, v = .slice A n c ∧ n ≤ c ∧ c ≤ maxLen := by
  rcases h.2 with ⟨hv, h0⟩ | ⟨g, cap, cur, hv, _, _, h1, h2, _⟩
  · subst h0; exact ⟨_, _, hv, Nat.le_refl _, Nat.zero_le _⟩
  · exact ⟨_, _, hv, h1, h2⟩
theorem own_on {w w' : World} {base e n : Nat} {v : Value} {xs : List Value} (h : w.ownsRow base e 1 v n xs) (hb : Below w.heap.size w w') : w'.ownsRow base e 1 v n xs :=
  h.kept (only_of hb none) (by cases hv : v.ownBlock <;> simp)
theorem own_bs {w : World} {base n c : Nat} {A : Option Addr} {l : List Nat} (h : w.ownsRow base 5 1 (.slice A n c) n (bv l)) (hn : l.length = n) (hl : ∀ x ∈ l, x < 256) : Bs w A n c l := by
  subst hn
  obtain ⟨A', c', hv, hb⟩ := Bs.of_own h hl
  injection hv with h1 _ h2
  subst h1 h2
  exact hb
theorem bv_app (a b : List Nat) : bv a ++ bv b = bv (a ++ b) := by simp [bv]
/-- How long a slice is. -/
def lenV : Value → Nat
  | .slice _ n _ => n
  | _ => 0

end Go.Proofs.Ytbhahihgojhcmaa
