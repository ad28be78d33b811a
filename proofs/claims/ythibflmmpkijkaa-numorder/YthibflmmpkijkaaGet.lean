/-
  Get: the short number with which bytes begin; its closure and mayEnd.
-/
import Derived.Test.YthibflmmpkijkaaBase
import Derived.RegionTactic
import Derived.ChangeAlike
namespace Go.Proofs.Ythibflmmpkijkaa
open Go.RowKit
set_option linter.unusedVariables false

theorem mask127 {c : Int} (h₀ : 0 ≤ c) (h₁ : c < 256) : bits .and .u8 c 127 = c % 128 := bits_mask .u8 8 (by decide) wraps_u8 7 (by decide) c h₀ h₁

theorem ret_bool {a b : Bool} (h : a = b) : Ending.returned (.bool a) = .returned (.bool b) := by rw [h]
theorem mayEnd_any (w : World) (x i : Nat) (hx : x < 256) (hi : i < 10) :
    Calls Try.prog 32 #[.int .u8 (x : Int), .int .i64 (i : Int)] w fun e w' => e = .returned (.bool (Nm.mayEnd x i)) ∧ w = w' := by
  by_cases h9 : i = 9
  · subst h9
    go_enter Try.func32, Try.ntmps32
    go_wp2
    go_ret
    exact ⟨ret_bool (by simp only [Nm.mayEnd, if_pos]; rw [Bool.eq_iff_iff]; simp; omega), rfl⟩
  · have h9' : ((i : Int) == 9) = false := by simp; omega
    by_cases h0 : i = 0
    · subst h0
      go_enter Try.func32, Try.ntmps32
      go_wp2
      go_ret
      exact ⟨by simp [Nm.mayEnd], rfl⟩
    · have h0' : ((i : Int) == 0) = false := by simp; omega
      go_enter Try.func32, Try.ntmps32
      go_wp2
      go_ret
      exact ⟨ret_bool (by rw [Bool.eq_iff_iff]; simp [Nm.mayEnd, h9, h0]), rfl⟩

set_option maxRecDepth 100000 in
set_option maxHeartbeats 400000 in
theorem getCl_any (w : World) (gv gb b off n c i x : Nat) (acc : Int) (hi : i < n) (hi' : i < 10) (hx : x < 256) (hn : n ≤ 9223372036854775807)
    (hv : w.cell? ⟨gv, 0, none⟩ = some (.int .u64 acc)) (hf : w.frozen? ⟨gv, 0, none⟩ = false) (hb : w.cell? ⟨gb, 0, none⟩ = some (.slice (some ⟨b, off, none⟩) n c)) (hc : w.cell? ⟨b, off + i, none⟩ = some (.int .u8 (x : Int)))
    (h1 : gv ≠ gb) (h2 : gv ≠ b) :
    Calls Try.prog 31 #[.int .i64 (i : Int), .pointer (some ⟨gv, 0, none⟩), .pointer (some ⟨gb, 0, none⟩)] w fun e w' =>
      e = .returned (.bool (decide (x < 128))) ∧ ∃ m, w' = (w.setCell ⟨gv, 0, none⟩ (.int .u64 (bits .or .u64 acc (IntKind.u64.wrap ((x : Int) % 128 * 2 ^ (7 * i)))))).drewN m := by
  have hm := mask127 (c := (x : Int)) (by omega) (by omega)
  go_enter Try.func31, Try.ntmps31
  go_wp2
  go_region
  all_goals
    go_wp2
    go_ret
    exact ⟨ret_bool (by rw [Bool.eq_iff_iff]; simp; omega), 1, rfl⟩


/-! ### One byte more -/
theorem pow_7 (k : Nat) : (2 : Nat) ^ (7 * k) = 128 ^ k := by rw [Nat.pow_mul]
theorem or_byte (a y k : Nat) (ha : a < 128 ^ k) (hy : y * 128 ^ k < 18446744073709551616) (hk : 128 ^ k ≤ 18446744073709551616) :
    bits .or .u64 (a : Int) (IntKind.u64.wrap ((y : Int) * 2 ^ (7 * k))) = ((a + y * 128 ^ k : Nat) : Int) := by
  have e : (y : Int) * 2 ^ (7 * k) = ((y * 128 ^ k : Nat) : Int) := by
    rw [← pow_7 k]; push_cast; rfl
  rw [e, IntWalk.u64_in _ ⟨by omega, by omega⟩, u64_or_nat a (y * 128 ^ k) (by omega) hy]
  have : (y * 128 ^ k) ||| a = y * 128 ^ k + a := nat_join (7 * k) _ _ (by rw [pow_7]; exact Nat.mul_mod_left _ _) (by rw [pow_7]; exact ha)
  rw [Nat.or_comm, this, Nat.add_comm]
theorem drop_at {l : List Nat} {k x : Nat} (h : l[k]? = some x) : l.drop k = x :: l.drop (k + 1) := by
  obtain ⟨hk, e⟩ := List.getElem?_eq_some_iff.1 h
  rw [List.drop_eq_getElem_cons hk, e]
/-- What is known at the head of round k: the bytes so far make acc. -/
def Inv (l : List Nat) (k : Nat) (acc : Int) : Prop := (k < 10 → ∃ a : Nat, acc = a ∧ a < 128 ^ k ∧ Nm.getR (10 - k) k a (l.drop k) = Nm.get l) ∧ (k = 10 → Nm.get l = (0, 0))
theorem Inv.start (l : List Nat) : Inv l 0 0 := ⟨fun _ => ⟨0, rfl, by decide, rfl⟩, fun h => absurd h (by decide)⟩
def more (acc : Int) (x k : Nat) : Int := bits .or .u64 acc (IntKind.u64.wrap ((x : Int) % 128 * 2 ^ (7 * k)))
theorem pow_le_9 {k : Nat} (h : k ≤ 9) : (128 : Nat) ^ k ≤ 9223372036854775808 := by
  have := Nat.pow_le_pow_right (n := 128) (by decide) h
  have e : (128 : Nat) ^ 9 = 9223372036854775808 := by decide
  omega
theorem Inv.goes {l : List Nat} {k x : Nat} {acc : Int} (h : Inv l k acc) (hk : k < 10) (hx : l[k]? = some x) (h1 : 128 ≤ x) (h2 : x < 256) : Inv l (k + 1) (more acc x k) := by
  obtain ⟨a, rfl, ha, hg⟩ := h.1 hk
  rw [drop_at hx, show 10 - k = (9 - k) + 1 by omega] at hg
  have hn : ¬ x < 128 := by omega
  simp only [Nm.getR, hn, if_false] at hg
  refine ⟨fun hk' => ⟨a + (x - 128) * 128 ^ k, ?_, ?_, ?_⟩, fun hk' => ?_⟩
  · have hp := pow_le_9 (k := k + 1) (by omega)
    rw [Nat.pow_succ] at hp
    have e : (x : Int) % 128 = ((x - 128 : Nat) : Int) := by omega
    have hm : (x - 128) * 128 ^ k ≤ 127 * 128 ^ k := Nat.mul_le_mul_right _ (by omega)
    unfold more
    rw [e, or_byte a (x - 128) k ha (by omega) (by omega)]
  · rw [Nat.pow_succ]
    have hm : (x - 128) * 128 ^ k ≤ 127 * 128 ^ k := Nat.mul_le_mul_right _ (by omega)
    omega
  · rw [show 10 - (k + 1) = 9 - k by omega]; exact hg
  · have : 9 - k = 0 := by omega
    rw [this] at hg
    simpa [Nm.getR] using hg.symm
theorem Inv.ends {l : List Nat} {k x : Nat} {acc : Int} (h : Inv l k acc) (hk : k < 10) (hx : l[k]? = some x) (h1 : x < 128) (hm : Nm.mayEnd x k = true) :
    more acc x k = ((Nm.get l).1 : Int) ∧ (k : Int) + 1 = ((Nm.get l).2 : Int) := by
  obtain ⟨a, rfl, ha, hg⟩ := h.1 hk
  rw [drop_at hx, show 10 - k = (9 - k) + 1 by omega] at hg
  simp only [Nm.getR, h1, if_true, hm] at hg
  rw [← hg]
  refine ⟨?_, by simp⟩
  have e : (x : Int) % 128 = (x : Int) := by omega
  have hp := pow_le_9 (k := k) (by omega)
  have hlt : x * 128 ^ k < 18446744073709551616 := by
    by_cases h9 : k = 9
    · subst h9
      have hx1 : x = 1 := by unfold Nm.mayEnd at hm; simpa using hm
      subst hx1; omega
    · have h8 := pow_le_9 (k := k + 1) (by omega)
      rw [Nat.pow_succ] at h8
      have : x * 128 ^ k ≤ 127 * 128 ^ k := Nat.mul_le_mul_right _ (by omega)
      omega
  unfold more
  rw [e, or_byte a x k ha hlt (by omega)]
theorem Inv.bad {l : List Nat} {k x : Nat} {acc : Int} (h : Inv l k acc) (hk : k < 10) (hx : l[k]? = some x) (h1 : x < 128) (hm : Nm.mayEnd x k = false) : Nm.get l = (0, 0) := by
  obtain ⟨a, rfl, ha, hg⟩ := h.1 hk
  rw [drop_at hx, show 10 - k = (9 - k) + 1 by omega] at hg
  simp only [Nm.getR, h1, if_true, hm] at hg
  exact hg.symm
theorem Inv.out {l : List Nat} {k : Nat} {acc : Int} (h : Inv l k acc) (hk : k ≤ 10) (hl : k = 10 ∨ k = l.length) : Nm.get l = (0, 0) := by
  by_cases h10 : k = 10
  · exact h.2 h10
  · obtain ⟨a, rfl, ha, hg⟩ := h.1 (by omega)
    have : l.drop k = [] := List.drop_eq_nil_of_le (by omega)
    rw [this, show 10 - k = (9 - k) + 1 by omega] at hg
    simpa [Nm.getR] using hg.symm

set_option maxRecDepth 100000 in
set_option maxHeartbeats 400000 in
theorem get_any (w : World) (A : Option Addr) (n c : Nat) (l : List Nat) (hb : Bs w A n c l) :
    Calls Try.prog 16 #[.slice A n c] w fun e w' => e = .returned (.tuple #[.int .u64 ((Nm.get l).1 : Int), .int .i64 ((Nm.get l).2 : Int)]) ∧ Below w.heap.size w w' := by
  obtain ⟨h1, h2, h3, h4, h5⟩ := hb
  unfold maxLen at h3
  have H1 := Lib.hid h1
  have H4 := Lib.hid h4
  have H5 := Lib.hid h5
  clear h1 h4 h5
  by_cases hn : n ≤ 10
  · have h10 : ¬ (10 : Int) < (n : Int) := by omega
    go_enter Try.func16, Try.ntmps16
    go_wp2
    go_loopw [11] (fun i wr => ∃ (k : Nat) (acc : Int), k ≤ n ∧ i = .int .i64 k ∧ Inv l k acc ∧ wr.cell? ⟨w.heap.size + 1, 0, none⟩ = some (.int .u64 acc) ∧ wr.frozen? ⟨w.heap.size + 1, 0, none⟩ = false ∧
        wr.cell? ⟨w.heap.size, 0, none⟩ = some (.slice A n c) ∧ Below w.heap.size w wr) (fun i _ => n - (intOf i).toNat)
    case atStart => exact ⟨0, 0, Nat.zero_le _, rfl, Inv.start l, by simp, by simp, by simp, ((Below.refl _ _).alloc (Nat.le_refl _) _).alloc (by simp) _⟩
    case round =>
      obtain ⟨k, acc, hk, rfl, hinv, hcv, hfv, hcb, hbel⟩ := hrel
      by_cases hlt : k < n
      · obtain ⟨b, off, rfl, hbl, hcell⟩ := H5.out (by omega)
        obtain ⟨x, hx⟩ : ∃ x, l[k]? = some x := ⟨_, List.getElem?_eq_getElem (by rw [H1.out]; omega)⟩
        have hx256 := H4.out x (List.mem_of_getElem? hx)
        have hcx := (hbel.cell (p := ⟨b, off + k, none⟩) (by exact hbl)).trans (hcell k x hx)
        have HX := Lib.hid hx
        clear hx hcell
        have hn1 : w.heap.size + 1 ≠ w.heap.size := by omega
        have hn2 : w.heap.size + 1 ≠ b := by omega
        have C := getCl_any wr (w.heap.size + 1) w.heap.size b off n c k x acc (by omega) (by omega) hx256 (by omega) hcv hfv hcb hcx hn1 hn2
        have HC := Lib.hid C
        clear C
        by_cases h128 : x < 128
        · have hd : decide (x < 128) = true := by simpa using h128
          go_wp2_with fail
          refine (HC.out).mono ?_
          rintro e w1 ⟨rfl, m1, rfl⟩
          rw [hd]
          have G := hinv.ends (by omega) HX.out h128
          have G' := hinv.bad (by omega) HX.out h128
          have hbel' := below_drewN (hbel.setCell (p := ⟨w.heap.size + 1, 0, none⟩) (by simp) (Value.int .u64 (more acc x k))) m1
          by_cases hm : Nm.mayEnd x k = true
          · have HG := Lib.hid (G hm)
            clear G G' hinv HC
            go_wp2_with fail
            refine (mayEnd_any _ x k hx256 (by omega)).mono ?_
            rintro e w2 ⟨rfl, rfl⟩
            rw [hm]
            clear hm
            go_wp2
            go_ret2
            exact ⟨by rw [← HG.out.1, ← HG.out.2]; rfl, hbel'⟩
          · have hm' : Nm.mayEnd x k = false := by simpa using hm
            have HG := Lib.hid (G' hm')
            clear G G' hinv HC hm
            go_wp2_with fail
            refine (mayEnd_any _ x k hx256 (by omega)).mono ?_
            rintro e w2 ⟨rfl, rfl⟩
            rw [hm']
            clear hm'
            go_wp2
            go_ret2
            exact ⟨by rw [HG.out]; rfl, hbel'⟩
        · have hd : decide (x < 128) = false := by simpa using h128
          have G := hinv.goes (by omega) HX.out (by omega) hx256
          go_wp2_with fail
          refine (HC.out).mono ?_
          rintro e w1 ⟨rfl, m1, rfl⟩
          rw [hd]
          have hbel' := below_drewN (hbel.setCell (p := ⟨w.heap.size + 1, 0, none⟩) (by simp) (Value.int .u64 (more acc x k))) m1
          go_wp2
          go_roundw
          case rel => exact ⟨k + 1, more acc x k, by omega, by go_num, G, World.cell?_setCell_same _ _ _ hcv, (World.frozen?_setCell ..).trans hfv, (World.cell?_setCell_other _ _ _ _ (by simp)).trans hcb, hbel'⟩
          case measure => simp [intOf]; omega
      · have HG := Lib.hid (hinv.out (by omega) (by rw [H1.out]; omega))
        clear hinv
        go_wp2
        go_ret2
        exact ⟨by rw [HG.out]; rfl, hbel⟩
  · have h10 : (10 : Int) < (n : Int) := by omega
    go_enter Try.func16, Try.ntmps16
    go_wp2
    go_loopw [11] (fun i wr => ∃ (k : Nat) (acc : Int), k ≤ 10 ∧ i = .int .i64 k ∧ Inv l k acc ∧ wr.cell? ⟨w.heap.size + 1, 0, none⟩ = some (.int .u64 acc) ∧ wr.frozen? ⟨w.heap.size + 1, 0, none⟩ = false ∧
        wr.cell? ⟨w.heap.size, 0, none⟩ = some (.slice A n c) ∧ Below w.heap.size w wr) (fun i _ => 10 - (intOf i).toNat)
    case atStart => exact ⟨0, 0, Nat.zero_le _, rfl, Inv.start l, by simp, by simp, by simp, ((Below.refl _ _).alloc (Nat.le_refl _) _).alloc (by simp) _⟩
    case round =>
      obtain ⟨k, acc, hk, rfl, hinv, hcv, hfv, hcb, hbel⟩ := hrel
      by_cases hlt : k < 10
      · obtain ⟨b, off, rfl, hbl, hcell⟩ := H5.out (by omega)
        obtain ⟨x, hx⟩ : ∃ x, l[k]? = some x := ⟨_, List.getElem?_eq_getElem (by rw [H1.out]; omega)⟩
        have hx256 := H4.out x (List.mem_of_getElem? hx)
        have hcx := (hbel.cell (p := ⟨b, off + k, none⟩) (by exact hbl)).trans (hcell k x hx)
        have HX := Lib.hid hx
        clear hx hcell
        have hn1 : w.heap.size + 1 ≠ w.heap.size := by omega
        have hn2 : w.heap.size + 1 ≠ b := by omega
        have C := getCl_any wr (w.heap.size + 1) w.heap.size b off n c k x acc (by omega) (by omega) hx256 (by omega) hcv hfv hcb hcx hn1 hn2
        have HC := Lib.hid C
        clear C
        by_cases h128 : x < 128
        · have hd : decide (x < 128) = true := by simpa using h128
          go_wp2_with fail
          refine (HC.out).mono ?_
          rintro e w1 ⟨rfl, m1, rfl⟩
          rw [hd]
          have G := hinv.ends (by omega) HX.out h128
          have G' := hinv.bad (by omega) HX.out h128
          have hbel' := below_drewN (hbel.setCell (p := ⟨w.heap.size + 1, 0, none⟩) (by simp) (Value.int .u64 (more acc x k))) m1
          by_cases hm : Nm.mayEnd x k = true
          · have HG := Lib.hid (G hm)
            clear G G' hinv HC
            go_wp2_with fail
            refine (mayEnd_any _ x k hx256 (by omega)).mono ?_
            rintro e w2 ⟨rfl, rfl⟩
            rw [hm]
            clear hm
            go_wp2
            go_ret2
            exact ⟨by rw [← HG.out.1, ← HG.out.2]; rfl, hbel'⟩
          · have hm' : Nm.mayEnd x k = false := by simpa using hm
            have HG := Lib.hid (G' hm')
            clear G G' hinv HC hm
            go_wp2_with fail
            refine (mayEnd_any _ x k hx256 (by omega)).mono ?_
            rintro e w2 ⟨rfl, rfl⟩
            rw [hm']
            clear hm'
            go_wp2
            go_ret2
            exact ⟨by rw [HG.out]; rfl, hbel'⟩
        · have hd : decide (x < 128) = false := by simpa using h128
          have G := hinv.goes (by omega) HX.out (by omega) hx256
          go_wp2_with fail
          refine (HC.out).mono ?_
          rintro e w1 ⟨rfl, m1, rfl⟩
          rw [hd]
          have hbel' := below_drewN (hbel.setCell (p := ⟨w.heap.size + 1, 0, none⟩) (by simp) (Value.int .u64 (more acc x k))) m1
          go_wp2
          go_roundw
          case rel => exact ⟨k + 1, more acc x k, by omega, by go_num, G, World.cell?_setCell_same _ _ _ hcv, (World.frozen?_setCell ..).trans hfv, (World.cell?_setCell_other _ _ _ _ (by simp)).trans hcb, hbel'⟩
          case measure => simp [intOf]; omega
      · have HG := Lib.hid (hinv.out (by omega) (by rw [H1.out]; omega))
        clear hinv
        go_wp2
        go_ret2
        exact ⟨by rw [HG.out]; rfl, hbel⟩

end Go.Proofs.Ythibflmmpkijkaa
