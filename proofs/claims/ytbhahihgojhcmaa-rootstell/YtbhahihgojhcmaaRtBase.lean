/-
  Roots in memory: a name is a text, a root three cells; rows of roots.
-/
import Derived.Test.YtbhahihgojhcmaaRtMath
import Derived.Test.YtbhahihgojhcmaaNdLess
import Derived.Test.YtbhahihgojhcmaaOffB
import Derived.Test.YtbhahihgojhcmaaAppZero
import Derived.Test.YtbhahihgojhcmaaMtApp
import Derived.Laws.IdiomStrings
import Derived.Laws.Cover1
import Derived.LoopTactic
import Derived.IntWalk
namespace Go.Proofs.Ytbhahihgojhcmaa.Rt
open Go.RowKit
set_option linter.unusedVariables false

theorem txt_data (l : List Nat) : (txt l).data.toList = l.map UInt8.ofNat := by
  unfold txt
  rw [strOfNums_data, List.map_map]
  exact List.map_congr_left fun x _ => rfl
theorem txt_size (l : List Nat) : (txt l).size = l.length := by unfold txt; rw [strOfNums_size, List.length_map]
theorem txt_list (l : List Nat) : (txt l).toList = l.map UInt8.ofNat := by rw [ByteArray.toList_eq, txt_data]
theorem of8 {x : Nat} (h : x < 256) : (UInt8.ofNat x).toNat = x := by rw [UInt8.toNat_ofNat']; omega
theorem map8_inj : ∀ {l m : List Nat}, (∀ x ∈ l, x < 256) → (∀ x ∈ m, x < 256) → (l.map UInt8.ofNat = m.map UInt8.ofNat ↔ l = m) := by
  intro l m hl hm
  refine ⟨fun h => ?_, fun h => by rw [h]⟩
  have e : ∀ k : List Nat, (∀ x ∈ k, x < 256) → (k.map UInt8.ofNat).map UInt8.toNat = k := by
    intro k hk
    rw [List.map_map]
    conv => rhs; rw [← List.map_id k]
    exact List.map_congr_left fun x hx => of8 (hk x hx)
  rw [← e l hl, h, e m hm]
theorem txt_eq {l m : List Nat} (hl : ∀ x ∈ l, x < 256) (hm : ∀ x ∈ m, x < 256) : ((txt l).toList == (txt m).toList) = decide (l = m) := by
  rw [txt_list, txt_list]
  by_cases h : l = m
  · subst h; simp
  · have : ¬ l.map UInt8.ofNat = m.map UInt8.ofNat := fun e => h ((map8_inj hl hm).1 e)
    simp [h, this]
theorem less8 : ∀ {l m : List Nat}, (∀ x ∈ l, x < 256) → (∀ x ∈ m, x < 256) → Op.bytesLess (l.map UInt8.ofNat) (m.map UInt8.ofNat) = Nm.lexLess l m
  | [], [], _, _ => rfl
  | [], _ :: _, _, _ => rfl
  | _ :: _, [], _, _ => rfl
  | x :: l, y :: m, hl, hm => by
    have ih := less8 (l := l) (m := m) (fun z hz => hl z (by simp [hz])) (fun z hz => hm z (by simp [hz]))
    have hx := hl x (by simp)
    have hy := hm y (by simp)
    simp only [List.map_cons, Op.bytesLess, Nm.lexLess, ih]
    have e1 : (UInt8.ofNat x < UInt8.ofNat y) ↔ x < y := by rw [UInt8.lt_iff_toNat_lt, of8 hx, of8 hy]
    have e2 : (UInt8.ofNat x == UInt8.ofNat y) = decide (x = y) := by
      by_cases h : x = y
      · subst h; simp
      · have : ¬ UInt8.ofNat x = UInt8.ofNat y := fun e => h (by have := congrArg UInt8.toNat e; rwa [of8 hx, of8 hy] at this)
        simp [h, this]
    rw [e2]
    by_cases h : x = y
    · subst h; simp
    · simp [h, e1]
theorem txt_less {l m : List Nat} (hl : ∀ x ∈ l, x < 256) (hm : ∀ x ∈ m, x < 256) : Op.bytesLess (txt l).toList (txt m).toList = Nm.lexLess l m := by
  rw [txt_list, txt_list, less8 hl hm]
theorem txt_at {l : List Nat} (hl : ∀ x ∈ l, x < 256) {k x : Nat} (h : l[k]? = some x) (hk : k < (txt l).size) : ((txt l)[k]'hk).toNat = x := by
  have e : (txt l)[k]'hk = (txt l).data[k]'hk := rfl
  have e2 : (txt l).data.toList[k]? = some ((txt l).data[k]'hk) := by rw [Array.getElem?_toList]; exact Array.getElem?_eq_getElem hk
  rw [txt_data, List.getElem?_map, h] at e2
  simp only [Option.map_some, Option.some.injEq] at e2
  rw [e, ← e2]
  exact of8 (hl x (List.mem_of_getElem? h))
theorem txt_get {l : List Nat} (hl : ∀ x ∈ l, x < 256) {k x : Nat} (h : l[k]? = some x) : ((txt l).get! k).toNat = x := by
  have hk : k < (txt l).size := by rw [txt_size]; exact (List.getElem?_eq_some_iff.1 h).1
  have e : (txt l).get! k = (txt l)[k]'hk := by
    show (txt l).data[k]! = (txt l).data[k]'hk
    exact getElem!_pos _ _ _
  rw [e, txt_at hl h hk]
/-- Any text is one of bytes. -/
def nums (s : ByteArray) : List Nat := s.data.toList.map UInt8.toNat
theorem nums_lt (s : ByteArray) : ∀ x ∈ nums s, x < 256 := by
  intro x hx
  obtain ⟨b, _, rfl⟩ := List.mem_map.1 hx
  exact UInt8.toNat_lt b
theorem txt_nums (s : ByteArray) : txt (nums s) = s := by
  have h : (txt (nums s)).data.toList = s.data.toList := by
    rw [txt_data]
    unfold nums
    rw [List.map_map]
    conv => rhs; rw [← List.map_id s.data.toList]
    exact List.map_congr_left fun x _ => by simp
  have h2 : (txt (nums s)).data = s.data := Array.toList_inj.1 h
  cases s
  cases hh : txt _ with
  | mk d => rw [hh] at h2; simp only at h2; rw [h2]
theorem nums_len (s : ByteArray) : (nums s).length = s.size := by unfold nums; rw [List.length_map]; rfl
theorem decode_low (s : ByteArray) (i : Nat) (h : (s.get! i).toNat < 128) : Utf8.decode s i = ((s.get! i).toNat, 1) := by
  simp [Utf8.decode, h]
theorem decode_high (s : ByteArray) (i : Nat) (h : ¬ (s.get! i).toNat < 128) : 128 ≤ (Utf8.decode s i).1 := by
  simp only [Utf8.decode, Nat.add_zero, h, if_false]
  repeat' split
  all_goals simp_all [Utf8.runeError]
  all_goals omega

/-! ### Roots -/
def I64 (z : Int) : Prop := -9223372036854775808 ≤ z ∧ z ≤ 9223372036854775807
structure In (r : Rm.R) : Prop where
  nm : ∀ x ∈ r.name, x < 256
  len : r.name.length ≤ 9223372036854775807
  page : I64 r.page
  count : I64 r.count
def rc (r : Rm.R) : List Value := [.string (txt r.name), .int .i64 r.page, .int .i64 r.count]
def rv (r : Rm.R) : Value := .agg #[.string (txt r.name), .int .i64 r.page, .int .i64 r.count]
def rcs (l : List Rm.R) : List Value := l.flatMap rc
theorem rcs_app (a b : List Rm.R) : rcs (a ++ b) = rcs a ++ rcs b := by simp [rcs]
theorem rcs_one (f : Rm.R) : rcs [f] = rc f := by simp [rcs]
theorem rcs_cons (f : Rm.R) (l : List Rm.R) : rcs (f :: l) = rc f ++ rcs l := rfl
theorem rcs_len : ∀ l : List Rm.R, (rcs l).length = l.length * 3
  | [] => rfl
  | x :: l => by rw [rcs_cons, List.length_append, rcs_len l, List.length_cons]; show 3 + _ = _; omega
theorem rcs_cell (l : List Rm.R) : ∀ u ∈ rcs l, u.oneCell' = true := by
  intro u hu
  obtain ⟨f, _, hf⟩ := List.mem_flatMap.1 hu
  simp [rc] at hf
  rcases hf with rfl | rfl | rfl <;> rfl
theorem rcs_at : ∀ (l : List Rm.R) (j : Nat) (x : Rm.R), l[j]? = some x → (rcs l)[j * 3]? = some (.string (txt x.name)) ∧ (rcs l)[j * 3 + 1]? = some (.int .i64 x.page) ∧ (rcs l)[j * 3 + 2]? = some (.int .i64 x.count)
  | [], j, x, h => by simp at h
  | y :: l, 0, x, h => by
    simp at h; subst h
    exact ⟨rfl, rfl, rfl⟩
  | y :: l, j + 1, x, h => by
    have := rcs_at l j x (by simpa using h)
    have e : (j + 1) * 3 = j * 3 + 1 + 1 + 1 := by omega
    rw [e]
    exact this
theorem rcs_inv : ∀ (l : List Rm.R) (j : Nat) (u : Value), (rcs l)[j]? = some u → ∃ x, l[j / 3]? = some x ∧ ((j % 3 = 0 ∧ u = .string (txt x.name)) ∨ (j % 3 = 1 ∧ u = .int .i64 x.page) ∨ (j % 3 = 2 ∧ u = .int .i64 x.count))
  | [], j, u, h => by simp [rcs] at h
  | y :: l, 0, u, h => by simp [rcs, rc] at h; exact ⟨y, by simp, .inl ⟨rfl, h.symm⟩⟩
  | y :: l, 1, u, h => by simp [rcs, rc] at h; exact ⟨y, by simp, .inr (.inl ⟨rfl, h.symm⟩)⟩
  | y :: l, 2, u, h => by simp [rcs, rc] at h; exact ⟨y, by simp, .inr (.inr ⟨rfl, h.symm⟩)⟩
  | y :: l, j + 3, u, h => by
    obtain ⟨x, h1, h2⟩ := rcs_inv l j u (by simpa [rcs, rc] using h)
    refine ⟨x, ?_, ?_⟩
    · have e : (j + 3) / 3 = j / 3 + 1 := by omega
      rw [e]; simpa using h1
    · have e : (j + 3) % 3 = j % 3 := by omega
      rw [e]; exact h2
/-- The root x lies at ⟨b, o⟩. -/
structure RtAt (w : World) (b o : Nat) (x : Rm.R) : Prop where
  c0 : w.cell? ⟨b, o, none⟩ = some (.string (txt x.name))
  c1 : w.cell? ⟨b, o + 1, none⟩ = some (.int .i64 x.page)
  c2 : w.cell? ⟨b, o + 2, none⟩ = some (.int .i64 x.count)
/-- The slice value '.slice A n c' reads as the roots L. -/
def Rs (w : World) (A : Option Addr) (n c : Nat) (L : List Rm.R) : Prop :=
  L.length = n ∧ n ≤ c ∧ c ≤ maxLen ∧ (∀ x ∈ L, In x) ∧ (0 < n → ∃ b off, A = some ⟨b, off, none⟩ ∧ b < w.heap.size ∧ ∀ (j : Nat) (x : Rm.R), L[j]? = some x → RtAt w b (off + j * 3) x)
section
variable {w w' : World} {A : Option Addr} {n c : Nat} {L : List Rm.R}
theorem RtAt.at_ {b o : Nat} {x : Rm.R} (h : RtAt w b o x) (hb : w'.heap[b]? = w.heap[b]?) : RtAt w' b o x := by
  obtain ⟨c0, c1, c2⟩ := h
  unfold World.cell? at *
  simp only at *
  rw [← hb] at c0 c1 c2
  exact ⟨by simpa [World.cell?] using c0, by simpa [World.cell?] using c1, by simpa [World.cell?] using c2⟩
theorem Rs.off {S : Nat → Prop} (h : Rs w A n c L) (ho : Off S w w') (hn : ∀ a, A = some a → ¬ S a.block) : Rs w' A n c L := by
  obtain ⟨h1, h2, h3, h4, h5⟩ := h
  refine ⟨h1, h2, h3, h4, fun hp => ?_⟩
  obtain ⟨b, off, e, hlt, hc⟩ := h5 hp
  exact ⟨b, off, e, Nat.lt_of_lt_of_le hlt ho.size, fun j f hf => (hc j f hf).at_ (ho.block b hlt (hn _ e))⟩
theorem Rs.on (h : Rs w A n c L) (hb : Below w.heap.size w w') : Rs w' A n c L := h.off (S := fun _ => False) (Off.of_below hb) fun _ _ h => h
theorem Rs.drewN (h : Rs w A n c L) (m : Nat) : Rs (w.drewN m) A n c L := h.off (S := fun _ => False) ((Off.refl _ w).drewN m) fun _ _ h => h
theorem Rs.drew (h : Rs w A n c L) : Rs w.drew A n c L := h.off (S := fun _ => False) (Off.refl _ w).drew fun _ _ h => h
theorem Rs.alloc (h : Rs w A n c L) (o : Obj) : Rs (w.alloc o) A n c L := h.on ((Below.refl _ _).alloc (Nat.le_refl _) _)
theorem Rs.nil_ (w : World) (A : Option Addr) (c : Nat) (hc : c ≤ maxLen) : Rs w A 0 c [] := ⟨rfl, Nat.zero_le _, hc, by simp, fun h => absurd h (by omega)⟩
theorem Rs.get (h : Rs w A n c L) {k : Nat} (hk : k < n) : ∃ b off x, A = some ⟨b, off, none⟩ ∧ b < w.heap.size ∧ L[k]? = some x ∧ In x ∧ RtAt w b (off + k * 3) x := by
  obtain ⟨h1, h2, h3, h4, h5⟩ := h
  obtain ⟨b, off, e, hlt, hc⟩ := h5 (by omega)
  have hl : k < L.length := by omega
  have hx := List.getElem?_eq_getElem hl
  exact ⟨b, off, L[k], e, hlt, hx, h4 _ (List.getElem_mem hl), hc k _ hx⟩
theorem Rs.first (h : Rs w A n c L) (k : Nat) (hk : k ≤ n) : Rs w A k c (L.take k) := by
  obtain ⟨h1, h2, h3, h4, h5⟩ := h
  refine ⟨by simp; omega, by omega, h3, fun x hx => h4 x (List.mem_of_mem_take hx), fun hn => ?_⟩
  obtain ⟨b, off, e, hlt, hc⟩ := h5 (by omega)
  refine ⟨b, off, e, hlt, fun j x hx => hc j x ?_⟩
  rw [List.getElem?_take] at hx
  split at hx
  · exact hx
  · cases hx
theorem Rs.far {b off : Nat} (h : Rs w (some ⟨b, off, none⟩) n c L) (k : Nat) (hk : k ≤ n) : Rs w (some ⟨b, off + k * 3, none⟩) (n - k) (c - k) (L.drop k) := by
  obtain ⟨h1, h2, h3, h4, h5⟩ := h
  refine ⟨by simp; omega, by omega, by omega, fun x hx => h4 x (List.mem_of_mem_drop hx), fun hn => ?_⟩
  obtain ⟨b', off', e, hlt, hc⟩ := h5 (by omega)
  injection e with e
  injection e with e1 e2
  subst e1 e2
  refine ⟨_, _, rfl, hlt, fun j x hx => ?_⟩
  rw [List.getElem?_drop] at hx
  have := hc (k + j) x hx
  rw [show off + k * 3 + j * 3 = off + (k + j) * 3 by omega]
  exact this
theorem Rs.some_ (h : Rs w A n c L) (hn : 0 < n) : ∃ b off, A = some ⟨b, off, none⟩ := by
  obtain ⟨b, off, _, e, _⟩ := h.get hn
  exact ⟨b, off, e⟩
theorem rs_news {b off : Nat} (h : Rs w (some ⟨b, off, none⟩) n c L) : ∀ (j : Nat) (u : Value), (rcs L)[j]? = some u → w.cell? ((⟨b, off, none⟩ : Addr).add j) = some u := by
  obtain ⟨h1, _, _, _, h5⟩ := h
  intro j u hu
  obtain ⟨x, hx, hu'⟩ := rcs_inv L j u hu
  have hj : j / 3 < L.length := (List.getElem?_eq_some_iff.1 hx).1
  obtain ⟨b', off', hh, _, hc⟩ := h5 (by omega)
  injection hh with hh
  injection hh with hb ho
  subst hb ho
  obtain ⟨a0, a1, a2⟩ := hc _ x hx
  have hadd : (⟨b, off, none⟩ : Addr).add j = ⟨b, off + j, none⟩ := by
    by_cases hj0 : j = 0
    · subst hj0; simp [Addr.add]
    · simp [Addr.add, hj0]
  rw [hadd]
  rcases hu' with ⟨he, rfl⟩ | ⟨he, rfl⟩ | ⟨he, rfl⟩
  · rw [show off + j = off + j / 3 * 3 by omega]; exact a0
  · rw [show off + j = off + j / 3 * 3 + 1 by omega]; exact a1
  · rw [show off + j = off + j / 3 * 3 + 2 by omega]; exact a2
theorem rs_own {base : Nat} {v : Value} (h : w.ownsRow base 34 3 v L.length (rcs L)) (hb : ∀ f ∈ L, In f) : ∃ A c, v = .slice A L.length c ∧ Rs w A L.length c L := by
  rcases h.2 with ⟨hv, h0⟩ | ⟨g, cap, cur, hv, _, hg, hnc, hcm, _, _⟩
  · have : L = [] := List.eq_nil_of_length_eq_zero h0
    subst this
    exact ⟨none, 0, hv, Rs.nil_ _ _ _ (by unfold maxLen; omega)⟩
  · refine ⟨_, _, hv, rfl, hnc, hcm, hb, fun _ => ⟨g, 0, rfl, (Array.getElem?_eq_some_iff.1 hg).1, fun j x hx => ?_⟩⟩
    subst hv
    have hj : j < L.length := (List.getElem?_eq_some_iff.1 hx).1
    have a := rcs_at L j x hx
    have hl := rcs_len L
    have c0 := (h.cellAt (j * 3) (by omega)).trans a.1
    have c1 := (h.cellAt (j * 3 + 1) (by omega)).trans a.2.1
    have c2 := (h.cellAt (j * 3 + 2) (by omega)).trans a.2.2
    rw [Nat.zero_add]
    exact ⟨c0, c1, c2⟩
theorem rs_new (w : World) (f : Rm.R) (hf : In f) : Rs (w.alloc (.cells #[.string (txt f.name), .int .i64 f.page, .int .i64 f.count] 34)) (some ⟨w.heap.size, 0, none⟩) 1 1 [f] := by
  refine ⟨rfl, Nat.le_refl _, by unfold maxLen; omega, by simpa using hf, fun _ => ⟨w.heap.size, 0, rfl, by simp, fun j x hx => ?_⟩⟩
  have hj : j = 0 := by have := (List.getElem?_eq_some_iff.1 hx).1; simp at this; exact this
  subst hj
  simp at hx
  subst hx
  have hn := heap_alloc_new w (.cells #[.string (txt f.name), .int .i64 f.page, .int .i64 f.count] 34)
  have c0 := cell_of_row _ _ 0 _ _ (0, 0) hn
  have c1 := cell_of_row _ _ 1 _ _ (0, 0) hn
  have c2 := cell_of_row _ _ 2 _ _ (0, 0) hn
  exact ⟨c0, c1, c2⟩
end
/-- A root in a block of its own. -/
def Rb (w : World) (g : Nat) (r : Rm.R) : Prop := w.heap[g]? = some (.cells #[.string (txt r.name), .int .i64 r.page, .int .i64 r.count] 34 (0, 0))
section
variable {w w' : World} {g : Nat} {r : Rm.R}
theorem Rb.new (w : World) (r : Rm.R) : Rb (w.alloc (.cells #[.string (txt r.name), .int .i64 r.page, .int .i64 r.count] 34)) w.heap.size r := heap_alloc_new w _
theorem Rb.lt (h : Rb w g r) : g < w.heap.size := (Array.getElem?_eq_some_iff.1 h).1
theorem Rb.on (h : Rb w g r) (hb : Below w.heap.size w w') : Rb w' g r := (hb.block g h.lt).trans h
theorem Rb.at_ (h : Rb w g r) : RtAt w g 0 r := ⟨cell_of_row w g 0 _ _ (0, 0) h, cell_of_row w g 1 _ _ (0, 0) h, cell_of_row w g 2 _ _ (0, 0) h⟩
theorem Rb.alloc (h : Rb w g r) (o : Obj) : Rb (w.alloc o) g r := h.on ((Below.refl _ _).alloc (Nat.le_refl _) _)
end
theorem infoR : (Try.prog.info? 34).map (fun i => (i.zero, i.size, i.bytes)) = some (some (.agg #[.string ⟨#[]⟩, .int .i64 0, .int .i64 0]), 3, 32) := by kernel_rfl

end Go.Proofs.Ytbhahihgojhcmaa.Rt
