/-
  A pattern's parts: plainMark, marksOf, and the runes of a text in a row: runesOf.
-/
import Derived.Test.YtmlonlipieedbaaDoorTxCell
import Derived.Test.YtmlonlipieedbaaDoorTxMatch
namespace Go.Proofs.YtmlonlipieedbaaDoor
open Go.RowKit Go.Lib
set_option linter.unusedVariables false

/-- A rune without an escape ahead, as a sign. -/
def pl (a : Nat) : Int := if a = 42 then -1 else if a = 63 then -2 else (a : Int)
def kd (x : Int) : Int := if x = -1 then 2 else if x = -2 then 1 else 0
def rn (x : Int) : Int := if x = -1 then 0 else if x = -2 then 0 else x
def mk (x : Int) : List Value := [.int .i64 (kd x), .int .i32 (rn x)]
def mv (l : List Int) : List Value := l.flatMap mk
theorem sg_plain (a : Nat) (t : List Nat) (h : a ≠ 92) : Tx.sg (a :: t) = pl a :: Tx.sg t := by
  cases t with
  | nil => rfl
  | cons b t => rw [Tx.sg, if_neg h]; rfl
theorem sg_esc2 (a : Nat) (t : List Nat) : Tx.sg (92 :: a :: t) = (a : Int) :: Tx.sg t := by rw [Tx.sg, if_pos rfl]
theorem sg_last : Tx.sg [92] = [92] := rfl
theorem mv_snoc (l : List Int) (x : Int) : mv (l ++ [x]) = mv l ++ [.int .i64 (kd x), .int .i32 (rn x)] := by simp [mv, mk]
theorem mv_len (l : List Int) : (mv l).length = l.length * 2 := by
  induction l with
  | nil => rfl
  | cons x l ih => simp [mv, mk] at *; omega
theorem mv_at : ∀ (l : List Int) (j : Nat) (x : Int), l[j]? = some x → (mv l)[j * 2]? = some (.int .i64 (kd x)) ∧ (mv l)[j * 2 + 1]? = some (.int .i32 (rn x))
  | [], j, x, h => by simp at h
  | y :: l, 0, x, h => by
    simp at h; subst h
    exact ⟨rfl, rfl⟩
  | y :: l, j + 1, x, h => by
    have := mv_at l j x (by simpa using h)
    have e : (j + 1) * 2 = j * 2 + 1 + 1 := by omega
    rw [e]
    exact this
/-- The slice value '.slice A n c' reads as the signs l, two cells each. -/
def Ms (w : World) (A : Option Addr) (n c : Nat) (l : List Int) : Prop :=
  l.length = n ∧ n ≤ c ∧ c ≤ maxLen ∧
  (0 < n → ∃ b off, A = some ⟨b, off, none⟩ ∧ b < w.heap.size ∧ ∀ (j : Nat) (x : Int), l[j]? = some x → w.cell? ⟨b, off + j * 2, none⟩ = some (.int .i64 (kd x)) ∧ w.cell? ⟨b, off + j * 2 + 1, none⟩ = some (.int .i32 (rn x)))
theorem Ms.on {w w' : World} {A : Option Addr} {n c : Nat} {l : List Int} (h : Ms w A n c l) (hb : Below w.heap.size w w') : Ms w' A n c l := by
  obtain ⟨h1, h2, h3, h5⟩ := h
  refine ⟨h1, h2, h3, fun hn => ?_⟩
  obtain ⟨b, off, e, hlt, hc⟩ := h5 hn
  exact ⟨b, off, e, Nat.lt_of_lt_of_le hlt hb.size, fun j x hx => ⟨(hb.cell (p := ⟨b, off + j * 2, none⟩) (by exact hlt)).trans (hc j x hx).1, (hb.cell (p := ⟨b, off + j * 2 + 1, none⟩) (by exact hlt)).trans (hc j x hx).2⟩⟩
theorem Ms.at_ {w : World} {A : Option Addr} {n c : Nat} {l : List Int} (h : Ms w A n c l) {k : Nat} (hk : k < n) : ∃ b off x, A = some ⟨b, off, none⟩ ∧ b < w.heap.size ∧ l[k]? = some x ∧ w.cell? ⟨b, off + k * 2, none⟩ = some (.int .i64 (kd x)) ∧ w.cell? ⟨b, off + k * 2 + 1, none⟩ = some (.int .i32 (rn x)) := by
  obtain ⟨h1, h2, h3, h5⟩ := h
  obtain ⟨b, off, e, hlt, hc⟩ := h5 (by omega)
  have hl : k < l.length := by omega
  have := hc k _ (List.getElem?_eq_getElem hl)
  exact ⟨b, off, l[k], e, hlt, List.getElem?_eq_getElem hl, this.1, this.2⟩
theorem Ms.of_own {w : World} {base e n : Nat} {v : Value} {l : List Int} (h : w.ownsRow base e 2 v n (mv l)) : ∃ A c, v = .slice A n c ∧ Ms w A n c l := by
  have hl : l.length = n := by have := h.1; rw [mv_len] at this; omega
  rcases h.2 with ⟨hv, h0⟩ | ⟨g, cap, cur, hv, _, hg, hnc, hcm, _, _⟩
  · subst h0
    exact ⟨none, 0, hv, hl, Nat.le_refl _, Nat.zero_le _, fun h => absurd h (by omega)⟩
  · refine ⟨_, _, hv, hl, hnc, hcm, fun _ => ⟨g, 0, rfl, ?_, fun j x hx => ?_⟩⟩
    · rcases Nat.lt_or_ge g w.heap.size with hlt | hge
      · exact hlt
      · rw [Array.getElem?_eq_none hge] at hg; cases hg
    · have hadd : ∀ i, (⟨g, 0, none⟩ : Addr).add i = ⟨g, 0 + i, none⟩ := by intro i; unfold Addr.add; split <;> simp_all
      have h1 := h.cells (g := g) (by rw [hv]; rfl) (j * 2) _ (mv_at l j x hx).1
      have h2 := h.cells (g := g) (by rw [hv]; rfl) (j * 2 + 1) _ (mv_at l j x hx).2
      rw [hadd] at h1 h2
      exact ⟨h1, h2⟩
theorem cell_two (w : World) (u v : Value) (e : TypeId) : ∀ (j : Nat) (x : Value), [u, v][j]? = some x → (w.alloc (.cells #[u, v] e)).cell? ((⟨w.heap.size, 0, none⟩ : Addr).add j) = some x :=
  World.news_of_block (cs := #[u, v]) (t := e) (fr := (0, 0)) (heap_alloc_new w _)
theorem two_cell {u v : Value} (h : u.oneCell' = true) (h' : v.oneCell' = true) : ∀ x ∈ [u, v], x.oneCell' = true := by
  intro x hx; simp at hx; rcases hx with rfl | rfl
  · exact h
  · exact h'
theorem Tryd.info49 : (Tryd.prog.info? 49).map (fun i => (i.zero, i.size, i.bytes)) = some (some (.agg #[.int .i64 0, .int .i32 0]), 2, 16) := by kernel_rfl

theorem kd_star : kd (-1) = 2 := rfl
theorem kd_any : kd (-2) = 1 := rfl
theorem kd_lit {x : Int} (h : 0 ≤ x) : kd x = 0 := by unfold kd; rw [if_neg (by omega), if_neg (by omega)]
theorem rn_lit {x : Int} (h : 0 ≤ x) : rn x = x := by unfold rn; rw [if_neg (by omega), if_neg (by omega)]

theorem plainMark_any (r : Nat) (w : World) : Calls Tryd.prog 41 #[.int .i32 (r : Int)] w fun e w' => e = .returned (.agg #[.int .i64 (kd (pl r)), .int .i32 (rn (pl r))]) ∧ Below w.heap.size w w' := by
  by_cases h1 : r = 42
  · subst h1
    go_enter Tryd.func41, Tryd.ntmps41
    go_wp2
    exact bodyPost_ret (v := .agg #[.int .i64 2, .int .i32 0]) (by simp [results, Tryd.results41, go_sem]) rfl ⟨rfl, (Below.refl _ _).alloc (Nat.le_refl _) _⟩
  · by_cases h2 : r = 63
    · subst h2
      go_enter Tryd.func41, Tryd.ntmps41
      go_wp2
      exact bodyPost_ret (v := .agg #[.int .i64 1, .int .i32 0]) (by simp [results, Tryd.results41, go_sem]) rfl ⟨rfl, (Below.refl _ _).alloc (Nat.le_refl _) _⟩
    · have b1 : ((r : Int) == 42) = false := by simp; omega
      have b2 : ((r : Int) == 63) = false := by simp; omega
      have e : pl r = (r : Int) := by unfold pl; rw [if_neg h1, if_neg h2]
      rw [e, kd_lit (by omega), rn_lit (by omega)]
      clear h1 h2 e
      go_enter Tryd.func41, Tryd.ntmps41
      go_wp2
      exact bodyPost_ret (v := .agg #[.int .i64 0, .int .i32 (r : Int)]) (by simp [results, Tryd.results41, go_sem]) rfl ⟨rfl, (Below.refl _ _).alloc (Nat.le_refl _) _⟩

set_option maxRecDepth 100000 in
set_option maxHeartbeats 1000000 in
theorem runesOf_any (s : ByteArray) (w : World) (hs : s.size ≤ 1000000) :
    Calls Tryd.prog 34 #[.string s] w fun e w' => ∃ A c, e = .returned (.slice A (Tx.P s.data.toList).length c) ∧ Vs w' A (Tx.P s.data.toList).length c (rv (Tx.rns s.data.toList)) ∧ Below w.heap.size w w' := by
  obtain ⟨i0, hi, hz0, hz1, hz2⟩ := info_parts Tryd.info21
  go_enter Tryd.func34, Tryd.ntmps34
  go_wp2
  go_loopw [3] (fun out wr => ∃ (pos : Nat) (R : List Nat), wr.heap[w.heap.size]? = some (.stringIter s pos) ∧ pos ≤ s.size ∧ R.length ≤ pos ∧ Hid (R ++ Tx.rns (s.data.toList.drop pos) = Tx.rns s.data.toList) ∧
      wr.ownsRow (w.heap.size + 1) 21 1 out R.length (rv R) ∧ w.heap.size + 1 ≤ wr.heap.size ∧ Below w.heap.size w wr) (fun _ wr => s.size - wr.iterPos w.heap.size)
  case atStart => exact ⟨0, [], World.iter_heap w s 0, Nat.zero_le _, Nat.le_refl _, rfl, World.ownsRow_nil _ _ _ _, by simp [World.iter], (Below.refl _ w).alloc (Nat.le_refl _) _⟩
  case round =>
    obtain ⟨pos, R, hit, hps, hRp, H, hown, hsz, hbel⟩ := hrel
    have hipos : wr.iterPos w.heap.size = pos := by unfold World.iterPos; rw [hit]
    by_cases hp : pos < s.size
    · have hnx : ∀ ty, (Instr.next (.pointer (some ⟨w.heap.size, 0, none⟩)) true ty).run Tryd.prog wr = _ := fun ty => run_next_any_at wr w.heap.size s pos ty hit hp
      have hwd := wd_le hp
      have hit2 := iterAt_heap wr w.heap.size s pos (pos + (Utf8.decode s pos).2) hit
      have hbel2 := below_iterAt hbel (k := w.heap.size) (Nat.le_refl _) s (pos + (Utf8.decode s pos).2)
      have hown2 := own_iterAt hown (k := w.heap.size) (s := s) (pos := pos + (Utf8.decode s pos).2) (by omega)
      have hsz2 : w.heap.size + 1 ≤ (wr.iterAt w.heap.size s (pos + (Utf8.decode s pos).2)).heap.size := by rw [iterAt_size]; exact hsz
      have H2 : Hid ((R ++ [(Utf8.decode s pos).1]) ++ Tx.rns (s.data.toList.drop (pos + (Utf8.decode s pos).2)) = Tx.rns s.data.toList) := by
        show _ = _
        rw [← H.out]; unfold Tx.rns; rw [P_at hp]; simp
      generalize wr.iterAt w.heap.size s (pos + (Utf8.decode s pos).2) = W1 at hnx hit2 hbel2 hown2 hsz2
      obtain ⟨r, hr⟩ : ∃ r, (Utf8.decode s pos).1 = r := ⟨_, rfl⟩
      obtain ⟨k, hk⟩ : ∃ k, (Utf8.decode s pos).2 = k := ⟨_, rfl⟩
      rw [hr, hk] at H2
      rw [hk] at hwd hit2
      simp only [hr] at hnx
      clear hit hbel hown hsz H hr hk
      go_wp2_with (at_builtin; refine wpList_append_lies _ rfl _ _ 45 rfl (w.heap.size + 1) 21 i0 (.int .i32 0) 1 4 Tryd.underlying45 hi hz0 hz1 hz2 rfl (by decide) _ _ _ rfl (hown2.alloc _) ⟨W1.heap.size, 0, none⟩ 1 1 [.int .i32 (r : Int)] rfl rfl ?c1 (one_cell rfl) (by decide) ?c3 ?c4 ?c5 _ rfl ?_)
      case c1 => exact cell_one _ _ _
      case c3 => unfold maxLen; omega
      case c4 => omega
      case c5 => simp; omega
      intro g cap w1 hown' hgrow hg hgl
      rw [← rv_snoc] at hown'
      have hit3 := iter_grown (o := .stringIter s (pos + k)) (by exact iter_below hit2 ((Below.refl _ W1).alloc (Nat.le_refl _) _)) (hown2.alloc _) hgrow (by omega)
      have hbel1 := below_own (hbel2.alloc hbel2.size _) (hown2.alloc _) hgrow (by simp; omega) (by omega)
      have hsz3 : w.heap.size + 1 ≤ w1.heap.size := by have := hgrow.size; simp at this; omega
      clear hown2 hgrow hbel2 hit2 hg
      go_wp2
      go_roundw
      case rel => exact ⟨pos + k, R ++ [r], hit3, hwd.2.1, by simp; omega, H2, by rw [List.length_append]; exact hown', hsz3, hbel1⟩
      case measure =>
        have : w1.iterPos w.heap.size = pos + k := by unfold World.iterPos; rw [hit3]
        omega
    · have hnx : ∀ ty, (Instr.next (.pointer (some ⟨w.heap.size, 0, none⟩)) true ty).run Tryd.prog wr = _ := fun ty => run_next_end_at wr w.heap.size s pos ty hit hp
      have hR : R = Tx.rns s.data.toList := by
        have := H.out
        unfold Tx.rns at this
        rw [P_end hp] at this
        simpa [Tx.rns] using this
      obtain ⟨A, c, rfl, V⟩ := Vs.of_own hown
      have hl : R.length = (Tx.P s.data.toList).length := by rw [hR, Tx.rns_len]
      rw [hl, hR] at V
      have HL := Lib.hid hl
      clear hown H hR hit hl
      go_wp2
      go_ret
      exact ⟨A, c, by rw [← HL.out]; rfl, V, hbel⟩

end Go.Proofs.YtmlonlipieedbaaDoor
