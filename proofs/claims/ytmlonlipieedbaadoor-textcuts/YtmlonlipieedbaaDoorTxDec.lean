/-
  Plain lists of bytes: their runes, one by one; cut at a rune's end; texts in UTF-8 are told by their runes.
-/
import Derived.Lib.ValidLaws
import Derived.Lib.ValidAsc
namespace Go.Proofs.YtmlonlipieedbaaDoor.Tx
open Go Go.Lib
set_option linter.unusedVariables false

/-! ### one step -/
theorem decN_pos (n b0 b1 b2 b3 : Nat) (h : 1 ≤ n) : 1 ≤ (decodeN n b0 b1 b2 b3).2 ∧ (decodeN n b0 b1 b2 b3).2 ≤ n ∧ (decodeN n b0 b1 b2 b3).2 ≤ 4 := by
  unfold decodeN
  repeat' split
  all_goals (refine ⟨?_, ?_, ?_⟩ <;> simp only [] <;> omega)
set_option maxHeartbeats 1000000 in
theorem decN_cut1 (n b0 b1 b2 b3 : Nat) (hk : (decodeN n b0 b1 b2 b3).2 ≤ 1) : decodeN (min 1 n) b0 (if 1 < 1 then b1 else 0) (if 2 < 1 then b2 else 0) (if 3 < 1 then b3 else 0) = decodeN n b0 b1 b2 b3 := by
  rw [if_neg (by omega), if_neg (by omega), if_neg (by omega)]
  revert hk
  unfold decodeN
  by_cases c0 : b0 < 128
  · rw [if_pos c0, if_pos c0]; exact fun _ => rfl
  · rw [if_neg c0, if_neg c0]
    repeat' split
    all_goals first | (intro hk; exfalso; dsimp only at hk; omega) | (intro _; exact rfl)
set_option maxHeartbeats 1000000 in
theorem decN_cut2 (n b0 b1 b2 b3 : Nat) (hk : (decodeN n b0 b1 b2 b3).2 ≤ 2) : decodeN (min 2 n) b0 (if 1 < 2 then b1 else 0) (if 2 < 2 then b2 else 0) (if 3 < 2 then b3 else 0) = decodeN n b0 b1 b2 b3 := by
  rw [if_pos (by omega), if_neg (by omega), if_neg (by omega)]
  revert hk
  unfold decodeN
  by_cases c0 : b0 < 128
  · rw [if_pos c0, if_pos c0]; exact fun _ => rfl
  · rw [if_neg c0, if_neg c0]
    repeat' split
    all_goals first | (intro hk; exfalso; dsimp only at hk; omega) | (intro _; exact rfl)
set_option maxHeartbeats 1000000 in
theorem decN_cut3 (n b0 b1 b2 b3 : Nat) (hk : (decodeN n b0 b1 b2 b3).2 ≤ 3) : decodeN (min 3 n) b0 (if 1 < 3 then b1 else 0) (if 2 < 3 then b2 else 0) (if 3 < 3 then b3 else 0) = decodeN n b0 b1 b2 b3 := by
  rw [if_pos (by omega), if_pos (by omega), if_neg (by omega)]
  revert hk
  unfold decodeN
  by_cases c0 : b0 < 128
  · rw [if_pos c0, if_pos c0]; exact fun _ => rfl
  · rw [if_neg c0, if_neg c0]
    repeat' split
    all_goals first | (intro hk; exfalso; dsimp only at hk; omega) | (intro _; exact rfl)
theorem decN_cut (n b0 b1 b2 b3 k : Nat) (hk : (decodeN n b0 b1 b2 b3).2 ≤ k) (h1 : 1 ≤ k) :
    decodeN (min k n) b0 (if 1 < k then b1 else 0) (if 2 < k then b2 else 0) (if 3 < k then b3 else 0) = decodeN n b0 b1 b2 b3 := by
  rcases Nat.lt_or_ge 3 k with h | h
  · rw [if_pos (by omega), if_pos (by omega), if_pos h]
    have e1 : (1 < min k n) = (1 < n) := propext ⟨fun _ => by omega, fun _ => by omega⟩
    have e2 : (2 < min k n) = (2 < n) := propext ⟨fun _ => by omega, fun _ => by omega⟩
    have e3 : (3 < min k n) = (3 < n) := propext ⟨fun _ => by omega, fun _ => by omega⟩
    simp only [decodeN, e1, e2, e3]
  · have hk3 : k = 1 ∨ k = 2 ∨ k = 3 := by omega
    rcases hk3 with rfl | rfl | rfl
    · exact decN_cut1 n b0 b1 b2 b3 hk
    · exact decN_cut2 n b0 b1 b2 b3 hk
    · exact decN_cut3 n b0 b1 b2 b3 hk
theorem decN_more (n b0 b1 b2 b3 n' c0 c1 c2 c3 r w : Nat) (h : decodeN n b0 b1 b2 b3 = (r, w)) (hv : ¬ (r = 65533 ∧ w = 1)) (hn : w ≤ n')
    (h0 : b0 = c0) (h1 : 1 < w → b1 = c1) (h2 : 2 < w → b2 = c2) (h3 : 3 < w → b3 = c3) : decodeN n' c0 c1 c2 c3 = (r, w) := by
  subst h0
  revert h
  unfold decodeN
  repeat' split
  all_goals (intro h; simp only [Prod.mk.injEq] at h ⊢; obtain ⟨e1, e2⟩ := h; subst e1; subst e2; first | omega | (exfalso; simp at *; omega))
theorem decN_enc (n b0 b1 b2 b3 r w : Nat) (h : decodeN n b0 b1 b2 b3 = (r, w)) (hv : ¬ (r = 65533 ∧ w = 1)) (h0 : b0 < 256) (h1 : b1 < 256) (h2 : b2 < 256) (h3 : b3 < 256) :
    (w = 1 ∧ r < 128 ∧ b0 = r) ∨ (w = 2 ∧ 128 ≤ r ∧ r < 2048 ∧ b0 = 192 + r / 64 ∧ b1 = 128 + r % 64) ∨
    (w = 3 ∧ 2048 ≤ r ∧ r < 65536 ∧ b0 = 224 + r / 4096 ∧ b1 = 128 + r / 64 % 64 ∧ b2 = 128 + r % 64) ∨
    (w = 4 ∧ 65536 ≤ r ∧ r < 1114112 ∧ b0 = 240 + r / 262144 ∧ b1 = 128 + r / 4096 % 64 ∧ b2 = 128 + r / 64 % 64 ∧ b3 = 128 + r % 64) := by
  revert h
  unfold decodeN
  repeat' split
  all_goals (intro h; simp only [Prod.mk.injEq] at h; obtain ⟨e1, e2⟩ := h; subst e1; subst e2)
  all_goals first | (exfalso; omega) | skip
  · exact .inl ⟨rfl, by omega, rfl⟩
  · exact .inr (.inl ⟨rfl, by omega, by omega, by omega, by omega⟩)
  · exact .inr (.inr (.inl ⟨rfl, by omega, by omega, by omega, by omega, by omega⟩))
  · exact .inr (.inr (.inr ⟨rfl, by omega, by omega, by omega, by omega, by omega, by omega⟩))
theorem decN_le (n b0 b1 b2 b3 : Nat) (h0 : b0 < 256) : (decodeN n b0 b1 b2 b3).1 ≤ 1114111 := by
  unfold decodeN
  repeat' split
  all_goals (simp only []; omega)
theorem decN_low (n b0 b1 b2 b3 : Nat) : ((decodeN n b0 b1 b2 b3).1 < 128 → b0 = (decodeN n b0 b1 b2 b3).1 ∧ (decodeN n b0 b1 b2 b3).2 = 1) ∧ (128 ≤ (decodeN n b0 b1 b2 b3).1 → 128 ≤ b0) := by
  unfold decodeN
  repeat' split
  all_goals (refine ⟨fun h => ?_, fun h => ?_⟩ <;> dsimp only at h ⊢ <;> omega)
theorem decN_tail (n b0 b1 b2 b3 : Nat) : (1 < (decodeN n b0 b1 b2 b3).2 → 128 ≤ b1 ∧ 128 ≤ b0) ∧ (2 < (decodeN n b0 b1 b2 b3).2 → 128 ≤ b2) ∧ (3 < (decodeN n b0 b1 b2 b3).2 → 128 ≤ b3) := by
  unfold decodeN
  repeat' split
  all_goals (simp only []; refine ⟨?_, ?_, ?_⟩ <;> intro _ <;> omega)

theorem dec_pos (l : List UInt8) (h : l ≠ []) : 1 ≤ (decodeL l).2 ∧ (decodeL l).2 ≤ l.length ∧ (decodeL l).2 ≤ 4 := by
  rw [decodeL_N]; exact decN_pos _ _ _ _ _ (List.length_pos_iff.2 h)
theorem dec_le (l : List UInt8) : (decodeL l).1 ≤ 1114111 := by rw [decodeL_N]; exact decN_le _ _ _ _ _ (UInt8.toNat_lt _)
theorem getD_take (l : List UInt8) (k j : Nat) : ((l.take k).getD j 0).toNat = if j < k then (l.getD j 0).toNat else 0 := by
  rw [List.getD_eq_getElem?_getD, List.getElem?_take]
  split
  · rw [List.getD_eq_getElem?_getD]
  · rfl
theorem dec_take (l : List UInt8) (k : Nat) (h : l ≠ []) (hk : (decodeL l).2 ≤ k) : decodeL (l.take k) = decodeL l := by
  have h1 := (dec_pos l h).1
  rw [decodeL_N] at hk h1
  rw [decodeL_N, decodeL_N l, List.length_take, getD_take, getD_take, getD_take, getD_take, if_pos (by omega)]
  exact decN_cut _ _ _ _ _ _ hk (by omega)

/-! ### the runes -/
def prs : Nat → List UInt8 → List (Nat × Nat)
  | 0, _ => []
  | n + 1, l => if l = [] then [] else decodeL l :: prs n (l.drop (decodeL l).2)
/-- The runes of a text, each with its bytes' number. -/
def P (l : List UInt8) : List (Nat × Nat) := prs l.length l
theorem prs_nil : ∀ n, prs n [] = []
  | 0 => rfl
  | n + 1 => by simp [prs]
theorem prs_fuel : ∀ (n m : Nat) (l : List UInt8), l.length ≤ n → l.length ≤ m → prs n l = prs m l
  | 0, m, l, h, _ => by
    have : l = [] := List.eq_nil_of_length_eq_zero (by omega)
    subst this; rw [prs_nil, prs_nil]
  | n + 1, 0, l, _, h => by
    have : l = [] := List.eq_nil_of_length_eq_zero (by omega)
    subst this; rw [prs_nil, prs_nil]
  | n + 1, m + 1, l, hn, hm => by
    by_cases h : l = []
    · subst h; rw [prs_nil, prs_nil]
    · have := dec_pos l h
      simp only [prs, if_neg h]
      rw [prs_fuel n m _ (by rw [List.length_drop]; omega) (by rw [List.length_drop]; omega)]
theorem P_nil : P [] = [] := rfl
theorem P_step (l : List UInt8) (h : l ≠ []) : P l = decodeL l :: P (l.drop (decodeL l).2) := by
  have hp := dec_pos l h
  unfold P
  obtain ⟨n, hn⟩ : ∃ n, l.length = n + 1 := ⟨l.length - 1, by have := List.length_pos_iff.2 h; omega⟩
  rw [hn]
  simp only [prs, if_neg h]
  rw [prs_fuel n _ _ (by rw [List.length_drop]; omega) (Nat.le_refl _)]
theorem txt_ind {Q : List UInt8 → Prop} (h0 : Q []) (hs : ∀ l, l ≠ [] → Q (l.drop (decodeL l).2) → Q l) (l : List UInt8) : Q l := by
  have key : ∀ n (l : List UInt8), l.length ≤ n → Q l := by
    intro n
    induction n with
    | zero =>
      intro l h
      have : l = [] := List.eq_nil_of_length_eq_zero (by omega)
      subst this; exact h0
    | succ n ih =>
      intro l h
      by_cases hl : l = []
      · subst hl; exact h0
      · have := dec_pos l hl
        exact hs l hl (ih _ (by rw [List.length_drop]; omega))
  exact key _ l (Nat.le_refl _)

def rns (l : List UInt8) : List Nat := (P l).map Prod.fst
theorem rns_nil : rns [] = [] := rfl
theorem rns_step (l : List UInt8) (h : l ≠ []) : rns l = (decodeL l).1 :: rns (l.drop (decodeL l).2) := by unfold rns; rw [P_step l h]; rfl
theorem rns_len (l : List UInt8) : (rns l).length = (P l).length := by simp [rns]
def wid : List (Nat × Nat) → Nat
  | [] => 0
  | d :: t => d.2 + wid t
theorem wid_snoc : ∀ (ps : List (Nat × Nat)) (d : Nat × Nat), wid (ps ++ (some d).toList) = wid ps + d.2
  | [], d => by simp [wid]
  | e :: t, d => by
    have := wid_snoc t d
    simp only [List.cons_append, wid, this]; omega
theorem wid_P (l : List UInt8) : wid (P l) = l.length := by
  induction l using txt_ind with
  | h0 => rfl
  | hs l h ih =>
    have := dec_pos l h
    rw [P_step l h, wid, ih, List.length_drop]; omega
theorem P_len (l : List UInt8) : (P l).length ≤ l.length := by
  induction l using txt_ind with
  | h0 => exact Nat.le_refl _
  | hs l h ih =>
    have := dec_pos l h
    rw [P_step l h, List.length_cons]; rw [List.length_drop] at ih; omega
theorem rns_le (l : List UInt8) : ∀ r ∈ rns l, r ≤ 1114111 := by
  induction l using txt_ind with
  | h0 => intro r h; cases h
  | hs l h ih =>
    intro r hr
    rw [rns_step l h] at hr
    rcases List.mem_cons.1 hr with rfl | hr
    · exact dec_le l
    · exact ih r hr
/-- Where each begins. -/
def ats : Nat → List (Nat × Nat) → List Nat
  | _, [] => []
  | p, d :: t => p :: ats (p + d.2) t
theorem ats_len : ∀ (p : Nat) (ps : List (Nat × Nat)), (ats p ps).length = ps.length
  | _, [] => rfl
  | p, d :: t => by simp [ats, ats_len (p + d.2) t]
theorem ats_at : ∀ (ps : List (Nat × Nat)) (p n : Nat), n < ps.length → (ats p ps)[n]? = some (p + wid (ps.take n))
  | [], _, _, h => absurd h (by simp)
  | d :: t, p, 0, _ => by simp [ats, wid]
  | d :: t, p, n + 1, h => by
    simp only [ats, List.getElem?_cons_succ, List.take_succ_cons, wid]
    rw [ats_at t (p + d.2) n (by simpa using h)]
    congr 1; omega

/-! ### cut -/
def cutW (l : List UInt8) (n : Nat) : Nat := wid ((P l).take n)
theorem wid_take_le : ∀ (ps : List (Nat × Nat)) (n m : Nat), n ≤ m → wid (ps.take n) ≤ wid (ps.take m)
  | [], n, m, _ => by simp [wid]
  | d :: t, 0, m, _ => by simp [wid]
  | d :: t, n + 1, 0, h => absurd h (by omega)
  | d :: t, n + 1, m + 1, h => by
    simp only [List.take_succ_cons, wid]
    have := wid_take_le t n m (by omega); omega
theorem cutW_zero (l : List UInt8) : cutW l 0 = 0 := rfl
theorem cutW_nil (n : Nat) : cutW [] n = 0 := by simp [cutW, P_nil, wid]
theorem cutW_step (l : List UInt8) (n : Nat) (h : l ≠ []) : cutW l (n + 1) = (decodeL l).2 + cutW (l.drop (decodeL l).2) n := by
  unfold cutW; rw [P_step l h]; rfl
theorem cutW_full (l : List UInt8) (n : Nat) (h : (P l).length ≤ n) : cutW l n = l.length := by unfold cutW; rw [List.take_of_length_le h, wid_P]
theorem cutW_le (l : List UInt8) (n : Nat) : cutW l n ≤ l.length := by
  have := wid_take_le (P l) n (max n (P l).length) (Nat.le_max_left _ _)
  rw [← cutW_full l (max n (P l).length) (Nat.le_max_right _ _)]
  exact this
def cut (l : List UInt8) (n : Nat) : List UInt8 := l.take (cutW l n)
theorem cut_full (l : List UInt8) (n : Nat) (h : (P l).length ≤ n) : cut l n = l := by unfold cut; rw [cutW_full l n h, List.take_length]
theorem cut_len (l : List UInt8) (n : Nat) : (cut l n).length = cutW l n := by unfold cut; rw [List.length_take]; have := cutW_le l n; omega
theorem P_cut : ∀ (n : Nat) (l : List UInt8), P (cut l n) = (P l).take n
  | 0, l => by simp [cut, cutW_zero, P_nil]
  | n + 1, l => by
    by_cases h : l = []
    · subst h; simp [cut, P_nil]
    · have hp := dec_pos l h
      have hw := cutW_step l n h
      have hne : cut l (n + 1) ≠ [] := by
        intro e
        have := congrArg List.length e
        rw [cut_len] at this; simp at this; omega
      have hd : decodeL (cut l (n + 1)) = decodeL l := by unfold cut; exact dec_take l _ h (by omega)
      rw [P_step _ hne, hd, P_step l h, List.take_succ_cons, ← P_cut n]
      congr 2
      unfold cut
      rw [hw, List.drop_take]
      congr 1; omega
theorem P_drop_cut : ∀ (n : Nat) (l : List UInt8), P (l.drop (cutW l n)) = (P l).drop n
  | 0, l => by simp [cutW_zero]
  | n + 1, l => by
    by_cases h : l = []
    · subst h; simp [P_nil]
    · rw [cutW_step l n h, P_step l h, List.drop_succ_cons, ← P_drop_cut n, List.drop_drop]
theorem cut_cut (l : List UInt8) (n m : Nat) : cut (cut l n) m = cut l (min n m) := by
  have e : cutW (cut l n) m = cutW l (min n m) := by
    unfold cutW; rw [P_cut, List.take_take, Nat.min_comm]
  show (cut l n).take (cutW (cut l n) m) = _
  rw [e]
  unfold cut
  rw [List.take_take]
  congr 1
  have := wid_take_le (P l) (min n m) n (Nat.min_le_left _ _)
  unfold cutW; omega
theorem cut_prefix (l : List UInt8) (n : Nat) : l.take (cut l n).length = cut l n := by rw [cut_len]; rfl
theorem cut_count (l : List UInt8) (n : Nat) : (P (cut l n)).length = min n (P l).length := by rw [P_cut, List.length_take]
theorem cut_rest (l : List UInt8) (n : Nat) : (P (cut l n)).length + (P (l.drop (cut l n).length)).length = (P l).length := by
  rw [cut_len, P_drop_cut, P_cut, List.length_take, List.length_drop]; omega

/-! ### UTF-8 -/
def okP (p : Nat × Nat) : Bool := !(p.1 == 65533 && p.2 == 1)
theorem okP_iff (p : Nat × Nat) : okP p = true ↔ ¬ (p.1 = 65533 ∧ p.2 = 1) := by simp [okP]; omega
theorem valid_P (l : List UInt8) : validD l = (P l).all okP := by
  induction l using txt_ind with
  | h0 => rfl
  | hs l h ih =>
    rw [validD_step l h, P_step l h, List.all_cons, ih]
    by_cases hb : (decodeL l).1 = 65533 ∧ (decodeL l).2 = 1
    · rw [if_pos hb]; simp [okP, hb.1, hb.2]
    · rw [if_neg hb, (okP_iff _).2 hb, Bool.true_and]
theorem take_eq (l m : List UInt8) (w : Nat) (hl : w ≤ l.length) (hm : w ≤ m.length) (h : ∀ j, j < w → (l.getD j 0).toNat = (m.getD j 0).toNat) : l.take w = m.take w := by
  apply List.ext_getElem
  · simp; omega
  · intro j h1 h2
    have hj : j < w := by rw [List.length_take] at h1; omega
    have := h j hj
    rw [List.getD_eq_getElem?_getD, List.getElem?_eq_getElem (by omega), List.getD_eq_getElem?_getD, List.getElem?_eq_getElem (by omega)] at this
    rw [List.getElem_take, List.getElem_take]
    exact UInt8.toNat_inj.1 this
theorem dec_inj (l m : List UInt8) (hl : l ≠ []) (hm : m ≠ []) (vl : okP (decodeL l) = true) (vm : okP (decodeL m) = true) (h : (decodeL l).1 = (decodeL m).1) :
    (decodeL l).2 = (decodeL m).2 ∧ l.take (decodeL l).2 = m.take (decodeL l).2 := by
  have a := dec_pos l hl
  have b := dec_pos m hm
  have el := decN_enc l.length _ _ _ _ (decodeL l).1 (decodeL l).2 (by rw [← decodeL_N]) ((okP_iff _).1 vl) (UInt8.toNat_lt _) (UInt8.toNat_lt _) (UInt8.toNat_lt _) (UInt8.toNat_lt _)
  have em := decN_enc m.length _ _ _ _ (decodeL m).1 (decodeL m).2 (by rw [← decodeL_N]) ((okP_iff _).1 vm) (UInt8.toNat_lt _) (UInt8.toNat_lt _) (UInt8.toNat_lt _) (UInt8.toNat_lt _)
  have e2 : (decodeL l).2 = (decodeL m).2 := by omega
  refine ⟨e2, take_eq l m _ a.2.1 (by omega) fun j hj => ?_⟩
  have : j = 0 ∨ j = 1 ∨ j = 2 ∨ j = 3 := by omega
  rcases this with rfl | rfl | rfl | rfl <;> omega
theorem rns_inj (l : List UInt8) : ∀ m, (P l).all okP = true → (P m).all okP = true → rns l = rns m → l = m := by
  induction l using txt_ind with
  | h0 =>
    intro m _ _ h
    by_cases hm : m = []
    · exact hm.symm
    · rw [rns_step m hm] at h; cases h
  | hs l hl ih =>
    intro m v1 v2 h
    by_cases hm : m = []
    · subst hm; rw [rns_step l hl] at h; cases h
    · rw [P_step l hl, List.all_cons, Bool.and_eq_true] at v1
      rw [P_step m hm, List.all_cons, Bool.and_eq_true] at v2
      rw [rns_step l hl, rns_step m hm] at h
      injection h with h1 h2
      obtain ⟨e, t⟩ := dec_inj l m hl hm v1.1 v2.1 h1
      have := ih (m.drop (decodeL m).2) v1.2 v2.2 h2
      rw [← List.take_append_drop (decodeL l).2 l, t, this, ← e, List.take_append_drop]
theorem dec_more (l m : List UInt8) (hl : l ≠ []) (v : okP (decodeL l) = true) (h : m.take (decodeL l).2 = l.take (decodeL l).2) : decodeL m = decodeL l := by
  have a := dec_pos l hl
  have hlen : (decodeL l).2 ≤ m.length := by
    have := congrArg List.length h
    simp only [List.length_take] at this; omega
  have hb : ∀ j, j < (decodeL l).2 → (l.getD j 0).toNat = (m.getD j 0).toNat := by
    intro j hj
    have e1 := getD_take l (decodeL l).2 j
    have e2 := getD_take m (decodeL l).2 j
    rw [if_pos hj] at e1 e2
    rw [← e1, ← e2, h]
  rw [decodeL_N m]
  exact decN_more l.length _ _ _ _ m.length _ _ _ _ (decodeL l).1 (decodeL l).2 (by rw [← decodeL_N]) ((okP_iff _).1 v) hlen (hb 0 (by omega)) (fun h => hb 1 h) (fun h => hb 2 h) (fun h => hb 3 h)

/-- Each rune with the sign of an escape ahead. -/
def esc : List (Nat × Nat) → List UInt8 → List UInt8
  | [], _ => []
  | d :: t, l => 92 :: (l.take d.2 ++ esc t (l.drop d.2))
theorem dec_92 (t : List UInt8) : decodeL (92 :: t) = (92, 1) := by
  rw [decodeL_N]
  simp [decodeN]
theorem rns_esc (l : List UInt8) (v : (P l).all okP = true) : rns (esc (P l) l) = (rns l).flatMap fun r => [92, r] := by
  induction l using txt_ind with
  | h0 => rfl
  | hs l hl ih =>
    have a := dec_pos l hl
    rw [P_step l hl, List.all_cons, Bool.and_eq_true] at v
    rw [P_step l hl, esc, rns_step _ (by simp), dec_92, rns_step l hl, List.flatMap_cons, ← ih v.2]
    show 92 :: rns (l.take (decodeL l).2 ++ _) = _
    have hne : l.take (decodeL l).2 ++ esc (P (l.drop (decodeL l).2)) (l.drop (decodeL l).2) ≠ [] := by
      intro e
      have := congrArg List.length e
      rw [List.length_append, List.length_take, List.length_nil] at this; omega
    have hd : decodeL (l.take (decodeL l).2 ++ esc (P (l.drop (decodeL l).2)) (l.drop (decodeL l).2)) = decodeL l := by
      refine dec_more l _ hl v.1 ?_
      rw [List.take_append_of_le_length (by simp; omega), List.take_take, Nat.min_self]
    rw [rns_step _ hne, hd]
    have hdr : (l.take (decodeL l).2 ++ esc (P (l.drop (decodeL l).2)) (l.drop (decodeL l).2)).drop (decodeL l).2 = esc (P (l.drop (decodeL l).2)) (l.drop (decodeL l).2) := by
      rw [List.drop_append_of_le_length (by simp; omega), List.drop_eq_nil_of_le (by rw [List.length_take]; omega), List.nil_append]
    rw [hdr]; rfl
theorem esc_snoc : ∀ (ps : List (Nat × Nat)) (d : Nat × Nat) (l : List UInt8), esc (ps ++ [d]) l = esc ps l ++ 92 :: (l.drop (wid ps)).take d.2
  | [], d, l => by simp [esc, wid]
  | e :: t, d, l => by
    simp only [List.cons_append, esc, wid]
    rw [esc_snoc t d, List.drop_drop]
    simp
theorem esc_len : ∀ (ps : List (Nat × Nat)) (l : List UInt8), (esc ps l).length ≤ ps.length + l.length
  | [], l => by simp [esc]
  | d :: t, l => by
    have := esc_len t (l.drop d.2)
    simp only [esc, List.length_cons, List.length_append, List.length_take]
    rw [List.length_drop] at this; omega

end Go.Proofs.YtmlonlipieedbaaDoor.Tx
