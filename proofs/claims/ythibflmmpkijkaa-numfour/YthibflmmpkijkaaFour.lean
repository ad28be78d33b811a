/-
  Numbers of 32 bits: Put32, Get32, and the document's Get32.
-/
import Derived.Test.YthibflmmpkijkaaOrder
import Derived.Laws.CopyOwn
namespace Go.Proofs.Ythibflmmpkijkaa
open Go.RowKit
set_option linter.unusedVariables false

/-- The first four bytes, those that there aren't being 0. -/
def pad4 (l : List Nat) : List Nat := l.take 4 ++ List.replicate (4 - l.length) 0
theorem pad4_len (l : List Nat) : (pad4 l).length = 4 := by simp [pad4]; omega
theorem pad4_lt (l : List Nat) (h : ∀ x ∈ l, x < 256) : ∀ x ∈ pad4 l, x < 256 := by
  intro x hx
  rcases List.mem_append.1 hx with h1 | h1
  · exact h x (List.mem_of_mem_take h1)
  · have := List.eq_of_mem_replicate h1; omega
theorem pad4_be (v : Nat) : pad4 (Nm.be 4 v) = Nm.be 4 v := by
  unfold pad4
  rw [Nm.be_len, List.take_of_length_le (by rw [Nm.be_len]; omega)]; simp
theorem pad4_at (l : List Nat) (k : Nat) (hk : k < 4) : (pad4 l)[k]? = some (l.getD k 0) := by
  unfold pad4
  rw [List.getElem?_append]
  by_cases h : k < l.length
  · rw [if_pos (by simp; omega), List.getElem?_take, if_pos hk, List.getD_eq_getElem?_getD, List.getElem?_eq_getElem h]; rfl
  · rw [if_neg (by simp; omega), List.getElem?_replicate, if_pos (by simp; omega), List.getD_eq_getElem?_getD, List.getElem?_eq_none (by omega)]; rfl
def L32 (v : Nat) : Prop := v < 4294967296
theorem fromBe4_lt (l : List Nat) (h : ∀ x ∈ l, x < 256) : Nm.fromBe (pad4 l) < 4294967296 := by
  have := Nm.fromBe_lt (pad4 l) (pad4_lt l h)
  rw [pad4_len] at this
  have e : (256 : Nat) ^ 4 = 4294967296 := by decide
  omega

set_option maxRecDepth 100000 in
theorem put32_any (w : World) (v : Nat) (hv : L32 v) :
    Calls Try.prog 29 #[.int .u32 (v : Int)] w fun e w' => ∃ A c, e = .returned (.slice A 4 c) ∧ Bs w' A 4 c (Nm.be 4 v) ∧ Below w.heap.size w w' := by
  have hl : L64 v := by unfold L64; unfold L32 at hv; omega
  have HE : Hid (IntKind.u64.wrap (v : Int) = (v : Int)) := by
    show _ = _
    unfold L64 at hl; exact IntWalk.u64_in _ ⟨by omega, by omega⟩
  go_enter Try.func29, Try.ntmps29
  go_wp2_with fail
  rw [HE.out]
  refine (greatest_any _ v 4 hl (by omega)).mono ?_
  rintro e w1 ⟨A, c, rfl, hbs, hbel⟩
  go_wp2
  go_ret
  exact ⟨A, c, rfl, hbs, hbel⟩

theorem from4_take (l : List Nat) (h : ∀ x ∈ l, x < 256) (k : Nat) (hk : k < 4) : Nm.fromBe ((pad4 l).take k) < 16777216 := by
  have h1 := Nm.fromBe_lt ((pad4 l).take k) fun x hx => pad4_lt l h x (List.mem_of_mem_take hx)
  have h2 : 256 ^ ((pad4 l).take k).length ≤ 256 ^ 3 := Nat.pow_le_pow_right (by decide) (by simp; omega)
  have h3 : (256 : Nat) ^ 3 = 16777216 := by decide
  omega
theorem bv_one' (l : List Nat) : ∀ u ∈ bv l, u.oneCell' = true := by
  intro u hu
  obtain ⟨n, _, rfl⟩ := List.mem_map.1 hu
  rfl
theorem copy_src {w : World} {A : Option Addr} {n c : Nat} {l : List Nat} (hb : Bs w A n c l) (o : Obj) :
    0 < Nat.min n 4 → ∃ ad, A = some ad ∧ ∀ (j : Nat) (v : Value), (bv (l.take 4))[j]? = some v → (w.alloc o).cell? (ad.add j) = some v := by
  intro h
  obtain ⟨h1, _, _, _, h5⟩ := hb
  have hn : 0 < n := Nat.lt_of_lt_of_le h (Nat.min_le_left _ _)
  obtain ⟨b, off, e, hlt, hc⟩ := h5 hn
  refine ⟨_, e, fun j v hv => ?_⟩
  rw [bv, List.getElem?_map, List.getElem?_take] at hv
  split at hv
  · cases hx : l[j]? with
    | none => rw [hx] at hv; cases hv
    | some x =>
      rw [hx] at hv
      simp only [Option.map_some, Option.some.injEq] at hv
      subst hv
      have hcj := hc j x hx
      rw [World.cell?_alloc_lt _ _ _ (by unfold Addr.add; split <;> exact hlt)]
      by_cases hj : j = 0
      · subst hj; simpa [Addr.add] using hcj
      · simpa [Addr.add, hj] using hcj
  · cases hv
theorem splice_pad (l : List Nat) : splice (bv [0, 0, 0, 0]) 0 (bv (l.take 4)) = bv (pad4 l) := by
  unfold splice pad4 bv
  rw [List.map_append]
  simp only [List.take_zero, List.nil_append, Nat.zero_add, List.length_map, List.length_take]
  congr 1
  rw [← List.map_drop]
  congr 1
  have : ∀ k, k ≤ 4 → [0, 0, 0, 0].drop k = List.replicate (4 - k) (0 : Nat) := by
    intro k hk
    match k, hk with
    | 0, _ => rfl
    | 1, _ => rfl
    | 2, _ => rfl
    | 3, _ => rfl
    | 4, _ => rfl
  rw [this _ (by omega)]
  congr 1; omega
theorem copied {w w1 : World} {t : TypeId} {A : Option Addr} {n c : Nat} {l : List Nat} (h : w1.heap[w.heap.size]? = some (.cells (splice (bv [0, 0, 0, 0]) 0 (bv (l.take 4))).toArray t (0, 0))) (hl : ∀ x ∈ l, x < 256) (_hb : Bs w A n c l) :
    Bs w1 (some ⟨w.heap.size, 0, none⟩) 4 4 (pad4 l) := by
  rw [splice_pad] at h
  refine ⟨pad4_len l, Nat.le_refl _, by unfold maxLen; omega, pad4_lt l hl, fun _ => ⟨_, _, rfl, ?_, fun j x hx => ?_⟩⟩
  · rcases Nat.lt_or_ge w.heap.size w1.heap.size with hlt | hge
    · exact hlt
    · rw [Array.getElem?_eq_none hge] at h; cases h
  · rw [Nat.zero_add, cell_of_row w1 _ j _ t (0, 0) h]
    simp [bv, hx]
theorem bv_len' (l : List Nat) : (bv l).length = l.length := by simp [bv]
set_option maxRecDepth 100000 in
set_option maxHeartbeats 400000 in
theorem get32_any (w : World) (A : Option Addr) (n c : Nat) (l : List Nat) (hb : Bs w A n c l) :
    Calls Try.prog 28 #[.slice A n c] w fun e w' => e = .returned (.int .u32 (Nm.fromBe (pad4 l) : Int)) ∧ Below w.heap.size w w' := by
  obtain ⟨i0, hi, hz0, hz1, hz2⟩ := info_parts Try.info5
  have hsz : (Try.prog.info? 5).map (·.size) = some 1 := by rw [show Try.prog.info? 5 = _ from hi]; simp [hz1]
  have zeros : Hid (∀ t : TypeId, (w.alloc (.cells #[.int .u8 0, .int .u8 0, .int .u8 0, .int .u8 0] t)).heap[w.heap.size]? = some (.cells (bv [0, 0, 0, 0]).toArray t (0, 0))) := fun t => heap_alloc_new w _
  have hlen : (bv (l.take 4)).length = Nat.min n 4 := by rw [bv_len', List.length_take, hb.1, Nat.min_comm]
  go_enter Try.func28, Try.ntmps28
  go_wp2_with (refine wpList_copy_splice (o := ⟨some 6, _, _, _, _, _⟩) rfl (.tmp 4) (.tmp 5) 23 23 rfl 5 Try.underlying23 hsz _ _ _ _ _ _ rfl rfl w.heap.size 0 (bv [0, 0, 0, 0]) _ (zeros.out _) (bv (l.take 4)) hlen ?hpos ?hfit ?hone w.heap.size w ?hbel (Nat.le_refl _) ?_; rotate_right; intro w1 HG hB)
  case hpos => simpa using copy_src hb _
  case hfit => simp [bv]; omega
  case hone => exact bv_one' _
  case hbel => exact (Below.refl _ _).alloc (Nat.le_refl _) _
  have R := copied HG.out hb.2.2.2.1 hb
  have hlt := fromBe4_lt l hb.2.2.2.1
  have HE : Hid (IntKind.u32.wrap (Nm.fromBe (pad4 l) : Int) = (Nm.fromBe (pad4 l) : Int)) := by
    show _ = _
    rw [IntKind.wrap_u32]; omega
  clear HG zeros hlen
  go_wp2_with fail
  refine (from_any _ _ _ _ _ R (by omega)).mono ?_
  rintro e w2 ⟨rfl, rfl⟩
  go_wp2
  go_ret
  exact ⟨rfl, hB⟩

set_option maxRecDepth 100000 in
set_option maxHeartbeats 400000 in
theorem refGet32_any (w : World) (A : Option Addr) (n c : Nat) (l : List Nat) (hb : Bs w A n c l) :
    Calls Try.prog 30 #[.slice A n c] w fun e w' => e = .returned (.int .u32 (Nm.fromBe (pad4 l) : Int)) ∧ w = w' := by
  obtain ⟨h1, h2, h3, h4, h5⟩ := hb
  unfold maxLen at h3
  have H1 := Lib.hid h1
  have H4 := Lib.hid h4
  have H5 := Lib.hid h5
  clear h1 h4 h5
  go_enter Try.func30, Try.ntmps30
  go_wp2
  go_loop [3, 4] (fun v i => ∃ k : Nat, k ≤ 4 ∧ i = .int .i64 k ∧ v = .int .u32 (Nm.fromBe ((pad4 l).take k) : Int)) (fun _ i => 4 - (intOf i).toNat)
  case atStart => exact ⟨0, Nat.zero_le _, rfl, rfl⟩
  case round =>
    obtain ⟨k, hk, rfl, rfl⟩ := hrel
    by_cases hlt : k < 4
    · have P := pad4_at l k hlt
      have ht := from4_take l H4.out k hlt
      by_cases hkn : k < n
      · obtain ⟨b, off, rfl, hbl, hcell⟩ := H5.out (by omega)
        obtain ⟨x, hx⟩ : ∃ x, l[k]? = some x := ⟨_, List.getElem?_eq_getElem (by rw [H1.out]; omega)⟩
        have hx256 := H4.out x (List.mem_of_getElem? hx)
        have hcx := hcell k x hx
        rw [List.getD_eq_getElem?_getD, hx, Option.getD_some] at P
        have HT : Hid (Nm.fromBe ((pad4 l).take k) * 256 + x = Nm.fromBe ((pad4 l).take (k + 1))) := by
          show _ = _
          rw [List.take_add_one, P]; exact (Nm.fromBe_snoc _ _).symm
        clear hx hcell P
        have hw1 : IntKind.u32.wrap ((Nm.fromBe ((pad4 l).take k) : Int) * 256) = (Nm.fromBe ((pad4 l).take k) : Int) * 256 := by rw [IntKind.wrap_u32]; omega
        have hw2 : IntKind.u32.wrap ((Nm.fromBe ((pad4 l).take k) : Int) * 256 + (x : Int)) = (Nm.fromBe ((pad4 l).take k) : Int) * 256 + (x : Int) := by rw [IntKind.wrap_u32]; omega
        go_wp2
        go_round
        case rel => exact ⟨k + 1, by omega, by go_num, by rw [← HT.out]; go_num⟩
        case measure => simp [intOf]; omega
      · have hnone : l[k]? = none := List.getElem?_eq_none (by rw [H1.out]; omega)
        rw [List.getD_eq_getElem?_getD, hnone, Option.getD_none] at P
        clear hnone
        have HT : Hid (Nm.fromBe ((pad4 l).take k) * 256 = Nm.fromBe ((pad4 l).take (k + 1))) := by
          show _ = _
          rw [List.take_add_one, P, Option.toList_some, Nm.fromBe_snoc, Nat.add_zero]
        clear P
        have hw1 : IntKind.u32.wrap ((Nm.fromBe ((pad4 l).take k) : Int) * 256) = (Nm.fromBe ((pad4 l).take k) : Int) * 256 := by rw [IntKind.wrap_u32]; omega
        go_wp2
        go_round
        case rel => exact ⟨k + 1, by omega, by go_num, by rw [← HT.out]; go_num⟩
        case measure => simp [intOf]; omega
    · go_wp2
      go_ret
      exact ⟨by rw [List.take_of_length_le (by rw [pad4_len]; omega)]; rfl, rfl⟩

end Go.Proofs.Ythibflmmpkijkaa
