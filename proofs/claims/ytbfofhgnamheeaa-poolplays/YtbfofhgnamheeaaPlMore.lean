/-
  More of a pool, plainly: what is told, what a trim leaves. No Go here.
-/
import Derived.Test.YtbfofhgnamheeaaPlPool
namespace Go.Proofs.Ytbfofhgnamheeaa.Pl
set_option linter.unusedVariables false

theorem alloc_told {d : Pd} (h : Ok d) {hz : Nat} (hc : allocCode d hz = 0) : 2 ≤ allocNo d hz ∧ allocNo d hz < (alloc d hz).high ∧ look (alloc d hz).l (allocNo d hz) = none ∧
    ((allocNo d hz = d.high ∧ (alloc d hz).l = d.l ∧ (alloc d hz).high = d.high + 1) ∨ (∃ i f, d.l[i]? = some f ∧ allocNo d hz = f.1 ∧ (alloc d hz).l = cut d.l i ∧ (alloc d hz).high = d.high)) := by
  have h2 := h.two
  cases hf : first d.l hz with
  | some i =>
    obtain ⟨f, hx, _⟩ := first_some hf
    have hin := h.ins f (List.mem_of_getElem? hx)
    have ha : alloc d hz = { d with l := cut d.l i } := by unfold alloc; rw [hf]
    have hn : allocNo d hz = f.1 := by unfold allocNo; rw [hf]; simp [hx]
    rw [ha, hn]
    refine ⟨hin.1, hin.2, ?_, .inr ⟨i, f, hx, rfl, rfl, rfl⟩⟩
    rw [look_cut h.rises hx, if_pos rfl]
  | none =>
    have hcap : ¬ d.cap ≤ d.high := fun hcap => by
      unfold allocCode at hc
      rw [hf] at hc
      simp only [if_pos hcap] at hc
      omega
    have ha : alloc d hz = { d with high := d.high + 1 } := by unfold alloc; rw [hf]; simp only [if_neg hcap]
    have hn : allocNo d hz = d.high := by unfold allocNo; rw [hf]; simp only [if_neg hcap]
    rw [ha, hn]
    refine ⟨h2, by show d.high < d.high + 1; omega, ?_, .inl ⟨rfl, rfl, rfl⟩⟩
    exact look_none.2 fun ⟨f, hf, he⟩ => by have := h.ins f hf; omega
theorem look_alloc {d : Pd} (h : Ok d) {hz : Nat} {k : Int} (hk : look d.l k = none) : look (alloc d hz).l k = none := by
  cases hf : first d.l hz with
  | some i =>
    obtain ⟨f, hx, _⟩ := first_some hf
    have ha : alloc d hz = { d with l := cut d.l i } := by unfold alloc; rw [hf]
    rw [ha]
    show look (cut d.l i) k = none
    rw [look_cut h.rises hx]
    split
    · rfl
    · exact hk
  | none =>
    have ha : (alloc d hz).l = d.l := by unfold alloc; rw [hf]; simp only; split <;> rfl
    rw [ha]; exact hk
theorem alloc_high {d : Pd} (hz : Nat) : d.high ≤ (alloc d hz).high := by
  unfold alloc
  split
  · exact Int.le_refl _
  · split
    · exact Int.le_refl _
    · show d.high ≤ d.high + 1; omega
/-- Full: none may be used, and the high mark is the capacity. -/
theorem alloc_full {d : Pd} {hz : Nat} (hc : allocCode d hz ≠ 0) : allocCode d hz = 2 ∧ first d.l hz = none ∧ d.cap ≤ d.high ∧ alloc d hz = d ∧ allocNo d hz = 0 := by
  cases hf : first d.l hz with
  | some i => exact absurd (by unfold allocCode; rw [hf]) hc
  | none =>
    by_cases hcap : d.cap ≤ d.high
    · refine ⟨?_, rfl, hcap, ?_, ?_⟩
      · unfold allocCode; rw [hf]; simp only [if_pos hcap]
      · unfold alloc; rw [hf]; simp only [if_pos hcap]
      · unfold allocNo; rw [hf]; simp only [if_pos hcap]
    · exact absurd (by unfold allocCode; rw [hf]; simp only [if_neg hcap]) hc
theorem none_empty {l : List F} {hz : Nat} (h : first l hz = none) (hg : ∀ f ∈ l, f.2 ≤ hz) : l = [] := by
  cases l with
  | nil => rfl
  | cons x l =>
    have := first_none h x (by simp)
    have := hg x (by simp)
    omega
/-- What is told may be freed again. -/
theorem free_told {d : Pd} (h : Ok d) {hz g : Nat} (hg : g < 18446744073709551616) (hc : allocCode d hz = 0) :
    freeCode (alloc d hz) (allocNo d hz) = 0 ∧ freeCode (free (alloc d hz) (allocNo d hz) g) (allocNo d hz) = 8 ∧ Ok (free (alloc d hz) (allocNo d hz) g) ∧
    (free (alloc d hz) (allocNo d hz) g).high = (alloc d hz).high ∧
    ((allocNo d hz = d.high ∧ (free (alloc d hz) (allocNo d hz) g).l.length = d.l.length + 1 ∧ (alloc d hz).high = d.high + 1) ∨ (allocNo d hz ≠ d.high ∧ (free (alloc d hz) (allocNo d hz) g).l.length = d.l.length ∧ (alloc d hz).high = d.high)) := by
  obtain ⟨h2, hlt, hl, hor⟩ := alloc_told h hc
  have h0 : freeCode (alloc d hz) (allocNo d hz) = 0 := by
    unfold freeCode
    rw [if_neg (by omega), hl]; rfl
  have hok := alloc_ok h hz
  have hok2 := free_ok hok (allocNo d hz) g hg
  have hfr : free (alloc d hz) (allocNo d hz) g = { alloc d hz with l := ins (alloc d hz).l (allocNo d hz) g } := by unfold free; rw [if_pos h0]
  refine ⟨h0, ?_, hok2, by rw [hfr], ?_⟩
  · rw [hfr]
    unfold freeCode
    rw [if_neg (by show ¬ (_ ∨ (alloc d hz).high ≤ _); omega)]
    show (if (look (ins (alloc d hz).l (allocNo d hz) g) (allocNo d hz)).isSome = true then (8 : Int) else 0) = 8
    rw [look_ins hok.rises (look_none.1 hl), if_pos rfl]; rfl
  · rw [hfr]
    show _ ∧ (ins (alloc d hz).l (allocNo d hz) g).length = _ ∧ _ ∨ _ ∧ (ins (alloc d hz).l (allocNo d hz) g).length = _ ∧ _
    rw [ins_len]
    rcases hor with ⟨a, b, c⟩ | ⟨i, f, hx, hn, hl2, hh⟩
    · exact .inl ⟨a, by rw [b], c⟩
    · have hin := h.ins f (List.mem_of_getElem? hx)
      have hi : i < d.l.length := (List.getElem?_eq_some_iff.1 hx).1
      refine .inr ⟨by omega, ?_, hh⟩
      rw [hl2, cut_len hi]; omega
/-- A trim goes as far as it can; what isn't freed stays below the high mark. -/
theorem trim_ends {hz : Nat} : ∀ (k : Nat) {d : Pd}, d.high.toNat ≤ k → Ok d → ¬ goes (trim d hz).1 hz ∧ (∀ h : Int, 2 ≤ h → h < d.high → look d.l h = none → h < (trim d hz).1.high ∧ look (trim d hz).1.l h = none)
  | 0, d, hk, hd => by have := hd.two; omega
  | k + 1, d, hk, hd => by
    by_cases hg : goes d hz
    · have ht := trim_goes hg
      have hok := off_ok hd hg
      have h2 := hd.two
      obtain ⟨a, b⟩ := trim_ends (hz := hz) k (d := off d) (by show (d.high - 1).toNat ≤ k; omega) hok
      rw [ht]
      refine ⟨a, fun h h1 h3 h4 => ?_⟩
      have hne : h ≠ d.high - 1 := fun e => by
        obtain ⟨_, g, hg1, _⟩ := hg
        rw [← e, h4] at hg1; cases hg1
      exact b h h1 (by show h < d.high - 1; omega) (by rw [look_off hd hg, if_neg hne]; exact h4)
    · rw [trim_stays hg]
      exact ⟨hg, fun h _ h3 h4 => ⟨h3, h4⟩⟩
/-- Where all may be used, a trim leaves no freed page last. -/
theorem last_not {d : Pd} (h : Ok d) {hz : Nat} (hg : ∀ f ∈ d.l, f.2 ≤ hz) (ht : ¬ goes d hz) {x : F} (hx : d.l[d.l.length - 1]? = some x) : x.1 ≠ d.high - 1 := by
  intro e
  have hin := h.ins x (List.mem_of_getElem? hx)
  exact ht ((goes_iff h hz).2 ⟨by omega, x, hx, e, hg x (List.mem_of_getElem? hx)⟩)

end Go.Proofs.Ytbfofhgnamheeaa.Pl
