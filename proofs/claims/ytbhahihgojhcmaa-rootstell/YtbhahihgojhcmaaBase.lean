/-
  What a slice of bytes reads as (a list of natural numbers below 256), and small laws on it.
-/
import Derived.Test.YtbhahihgojhcmaaChecked
import Derived.Test.YtbhahihgojhcmaaNums
import Derived.WalkKit
import Derived.WalkSpells
import Derived.WalkLawsBesides
import Derived.Deep.QuietTactic
import Derived.BigQuiet
import Derived.Lib.Hide
import Derived.OpenShut
import Derived.Laws.BitsAllLaws
import Derived.Laws.BitsLemmas
namespace Go.Proofs.Ytbhahihgojhcmaa
open Go.RowKit
set_option linter.unusedVariables false

/-- A number of 64 bits (the bound behind a name: the walk takes no rule of it). -/
def L64 (v : Nat) : Prop := v < 18446744073709551616
def bv (l : List Nat) : List Value := l.map fun (n : Nat) => Value.int .u8 (n : Int)

/-- The slice value '.slice A n c' reads as the bytes l. -/
def Bs (w : World) (A : Option Addr) (n c : Nat) (l : List Nat) : Prop :=
  l.length = n ∧ n ≤ c ∧ c ≤ maxLen ∧ (∀ x ∈ l, x < 256) ∧
  (0 < n → ∃ b off, A = some ⟨b, off, none⟩ ∧ b < w.heap.size ∧ ∀ (j x : Nat), l[j]? = some x → w.cell? ⟨b, off + j, none⟩ = some (.int .u8 (x : Int)))

section
variable {w w' : World} {A : Option Addr} {n c : Nat} {l : List Nat}
theorem Bs.below (h : Bs w A n c l) {B : Nat} (hb : Below B w w') (hB : w.heap.size ≤ B) : Bs w' A n c l := by
  obtain ⟨h1, h2, h3, h4, h5⟩ := h
  refine ⟨h1, h2, h3, h4, fun hn => ?_⟩
  obtain ⟨b, off, e, hlt, hc⟩ := h5 hn
  exact ⟨b, off, e, Nat.lt_of_lt_of_le hlt hb.size, fun j x hx => (hb.cell (p := ⟨b, off + j, none⟩) (by exact Nat.lt_of_lt_of_le hlt hB)).trans (hc j x hx)⟩
theorem Bs.drewN (h : Bs w A n c l) (m : Nat) : Bs (w.drewN m) A n c l := h
theorem Bs.drew (h : Bs w A n c l) : Bs w.drew A n c l := h
theorem Bs.alloc (h : Bs w A n c l) (o : Obj) : Bs (w.alloc o) A n c l := h.below ((Below.refl w.heap.size w).alloc (Nat.le_refl _) o) (Nat.le_refl _)
theorem Bs.nil_ (w : World) (A : Option Addr) (c : Nat) (hc : c ≤ maxLen) : Bs w A 0 c [] := ⟨rfl, Nat.zero_le _, hc, by simp, fun h => absurd h (by omega)⟩
theorem Bs.first (h : Bs w A n c l) (k : Nat) (hk : k ≤ n) : Bs w A k c (l.take k) := by
  obtain ⟨h1, h2, h3, h4, h5⟩ := h
  refine ⟨by simp; omega, by omega, h3, fun x hx => h4 x (List.mem_of_mem_take hx), fun hn => ?_⟩
  obtain ⟨b, off, e, hlt, hc⟩ := h5 (by omega)
  refine ⟨b, off, e, hlt, fun j x hx => hc j x ?_⟩
  rw [List.getElem?_take] at hx
  split at hx
  · exact hx
  · cases hx
theorem Bs.cut_far {b off : Nat} (h : Bs w (some ⟨b, off, none⟩) n c l) (k : Nat) (hk : k < n) : Bs w (some ⟨b, off + k, none⟩) (n - k) (c - k) (l.drop k) := by
  obtain ⟨h1, h2, h3, h4, h5⟩ := h
  refine ⟨by simp; omega, by omega, by omega, fun x hx => h4 x (List.mem_of_mem_drop hx), fun hn => ?_⟩
  obtain ⟨b', off', e, hlt, hc⟩ := h5 (by omega)
  injection e with e
  injection e with e1 e2
  subst e1 e2
  refine ⟨_, _, rfl, hlt, fun j x hx => ?_⟩
  rw [List.getElem?_drop] at hx
  rw [Nat.add_assoc]
  exact hc (k + j) x hx
theorem Bs.of_own {base e : Nat} {v : Value} (h : w.ownsRow base e 1 v l.length (bv l)) (hb : ∀ x ∈ l, x < 256) : ∃ A c, v = .slice A l.length c ∧ Bs w A l.length c l := by
  rcases h.2 with ⟨hv, h0⟩ | ⟨g, cap, cur, hv, _, hg, hnc, hcm, _, _⟩
  · have : l = [] := List.eq_nil_of_length_eq_zero h0
    subst this
    exact ⟨none, 0, hv, Bs.nil_ _ _ _ (by unfold maxLen; omega)⟩
  · refine ⟨_, _, hv, rfl, hnc, hcm, hb, fun _ => ⟨g, 0, rfl, ?_, fun j x hx => ?_⟩⟩
    · rcases Nat.lt_or_ge g w.heap.size with hlt | hge
      · exact hlt
      · rw [Array.getElem?_eq_none hge] at hg; cases hg
    · have := h.cells (g := g) (by rw [hv]; rfl) j (.int .u8 (x : Int)) (by simp [bv, hx])
      by_cases hj : j = 0
      · subst hj; simpa [Addr.add] using this
      · simpa [Addr.add, hj] using this
end
theorem below_drewN {B : Nat} {a w : World} (h : Below B a w) (n : Nat) : Below B a (w.drewN n) := ⟨h.os, h.tape, h.output, h.size, h.block⟩

theorem onto {w w1 w2 : World} (h : Below w.heap.size w w1) (h2 : Below w1.heap.size w1 w2) : Below w.heap.size w w2 := h.trans (h2.mono h.size)
theorem Bs.on {w w' : World} {A : Option Addr} {n c : Nat} {l : List Nat} (h : Bs w A n c l) (hb : Below w.heap.size w w') : Bs w' A n c l := h.below hb (Nat.le_refl _)
theorem Bs.of_row {w : World} {a : Option Addr} {len cap : Nat} {zs : List Int}
    (h : (a = none ∧ len = 0 ∧ cap = 0 ∧ zs = []) ∨ ∃ x, a = some x ∧ len ≤ cap ∧ cap ≤ maxLen ∧ zs.length = cap ∧ (∀ i, i < zs.length → w.cell? (x.add i) = some (.int .u8 (zs.getD i 0))) ∧ ∀ n ∈ zs, (Lit.int .u8 n).wf = true) :
    ∃ l, Bs w a len cap l := by
  rcases h with ⟨rfl, rfl, rfl, rfl⟩ | ⟨x, rfl, hl, hm, hz, hcell, hwz⟩
  · exact ⟨[], Bs.nil_ _ _ _ (Nat.zero_le _)⟩
  · have hr : ∀ n ∈ zs, 0 ≤ n ∧ n ≤ 255 := fun n hn => bounds_u8 (hwz n hn)
    refine ⟨(zs.take len).map Int.toNat, by simp; omega, hl, hm, ?_, fun hpos => ?_⟩
    · intro y hy
      obtain ⟨n, hn, rfl⟩ := List.mem_map.1 hy
      have := hr n (List.mem_of_mem_take hn); omega
    · obtain ⟨b, off, spot⟩ := x
      have h0 := hcell 0 (by omega)
      have hspot : spot = none := by simpa [Addr.add] using World.cell?_spot h0
      subst hspot
      refine ⟨b, off, rfl, ?_, fun j y hy => ?_⟩
      · rcases Nat.lt_or_ge b w.heap.size with h | h
        · exact h
        · have h0' : w.cell? ⟨b, off, none⟩ = some (.int .u8 (zs.getD 0 0)) := by simpa [Addr.add] using h0
          simp [World.cell?, Array.getElem?_eq_none h] at h0'
      · rw [List.getElem?_map, List.getElem?_take] at hy
        split at hy
        · rename_i hj
          cases hz' : zs[j]? with
          | none => rw [hz'] at hy; cases hy
          | some n =>
            rw [hz'] at hy
            simp only [Option.map_some, Option.some.injEq] at hy
            subst hy
            have hjl := (List.getElem?_eq_some_iff.1 hz').1
            have hc := hcell j hjl
            have hg : zs.getD j 0 = n := by rw [List.getD_eq_getElem?_getD, hz']; rfl
            have hn := hr n (List.mem_of_getElem? hz')
            rw [hg] at hc
            have e : ((n.toNat : Nat) : Int) = n := by omega
            rw [e]
            by_cases hj0 : j = 0
            · subst hj0; simpa [Addr.add] using hc
            · simpa [Addr.add, hj0] using hc
        · cases hy
theorem bv_snoc (l : List Nat) (x : Nat) : bv (l ++ [x]) = bv l ++ [.int .u8 (x : Int)] := by simp [bv]
/-- Behind an append onto a row of the call's own. -/
theorem below_own {B base e size n : Nat} {a w w' : World} {v : Value} {xs : List Value} (h : Below B a w) (hown : w.ownsRow base e size v n xs) (hg : w.grownBy w' v.ownBlock) (hB : B ≤ w.heap.size) (hb : B ≤ base) : Below B a w' :=
  h.grown hg hB fun k hk => Nat.le_trans hb (hown.lt k hk).1

end Go.Proofs.Ytbhahihgojhcmaa
