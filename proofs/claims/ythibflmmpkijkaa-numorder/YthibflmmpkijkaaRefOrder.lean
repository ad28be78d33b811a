/-
  The document's Less, Key, KeyInt and Unkey.
-/
import Derived.Test.YthibflmmpkijkaaOrder
import Derived.Test.YthibflmmpkijkaaApp
namespace Go.Proofs.Ythibflmmpkijkaa
open Go.RowKit
set_option linter.unusedVariables false

theorem lex_nil_left (l : List Nat) : Nm.lexLess [] l = decide (0 < l.length) := by cases l <;> simp [Nm.lexLess]
theorem lex_nil_right (l : List Nat) : Nm.lexLess l [] = false := by cases l <;> simp [Nm.lexLess]
theorem lex_cons_ne {x y : Nat} (r s : List Nat) (h : x ≠ y) : Nm.lexLess (x :: r) (y :: s) = decide (x < y) := by simp [Nm.lexLess, h]
theorem lex_cons_eq (x : Nat) (r s : List Nat) : Nm.lexLess (x :: r) (x :: s) = Nm.lexLess r s := by simp [Nm.lexLess]

set_option maxRecDepth 100000 in
set_option maxHeartbeats 400000 in
theorem less_any (w : World) (A A' : Option Addr) (n c n' c' : Nat) (la lb : List Nat) (ha : Bs w A n c la) (hb : Bs w A' n' c' lb) :
    Calls Try.prog 20 #[.slice A n c, .slice A' n' c'] w fun e w' => e = .returned (.bool (Nm.lexLess la lb)) ∧ ∃ m, w' = w.drewN m := by
  obtain ⟨h1, h2, h3, h4, h5⟩ := ha
  obtain ⟨g1, g2, g3, g4, g5⟩ := hb
  unfold maxLen at h3 g3
  have H1 := Lib.hid h1
  have H4 := Lib.hid h4
  have H5 := Lib.hid h5
  have G1 := Lib.hid g1
  have G4 := Lib.hid g4
  have G5 := Lib.hid g5
  clear h1 h4 h5 g1 g4 g5
  go_enter Try.func20, Try.ntmps20
  go_wp2
  go_loopw [5] (fun i wr => ∃ k m : Nat, k ≤ n ∧ k ≤ n' ∧ i = .int .i64 k ∧ Hid (Nm.lexLess (la.drop k) (lb.drop k) = Nm.lexLess la lb) ∧ wr = w.drewN m) (fun i _ => n - (intOf i).toNat)
  case atStart => exact ⟨0, 0, Nat.zero_le _, Nat.zero_le _, rfl, rfl, rfl⟩
  case round =>
    obtain ⟨k, m, hk, hk', rfl, HT, rfl⟩ := hrel
    by_cases hlt : k < n
    · by_cases hlt' : k < n'
      · obtain ⟨b, off, rfl, _, hc⟩ := H5.out (by omega)
        obtain ⟨b', off', rfl, _, hc'⟩ := G5.out (by omega)
        obtain ⟨x, hx⟩ : ∃ x, la[k]? = some x := ⟨_, List.getElem?_eq_getElem (by rw [H1.out]; exact hlt)⟩
        obtain ⟨y, hy⟩ : ∃ y, lb[k]? = some y := ⟨_, List.getElem?_eq_getElem (by rw [G1.out]; exact hlt')⟩
        have cx := hc k x hx
        have cy := hc' k y hy
        have HX := Lib.hid (drop_at hx)
        have HY := Lib.hid (drop_at hy)
        have j1 : (k : Int) < (n : Int) := by omega
        have j2 : (k : Int) < (n' : Int) := by omega
        clear hx hy hc hc'
        by_cases hxy : x = y
        · subst hxy
          have hd : ((x : Int) != (x : Int)) = false := by simp
          go_wp2
          go_quiet (fail)
          go_wp2
          go_roundw
          case rel => exact ⟨k + 1, _, by omega, by omega, by go_num, by show _ = _; rw [← HT.out, HX.out, HY.out, lex_cons_eq], rfl⟩
          case measure => simp [intOf]; omega
        · have hd : ((x : Int) != (y : Int)) = true := by simp; omega
          have HN : Hid (Nm.lexLess la lb = decide (x < y)) := by
            show _ = _
            rw [← HT.out, HX.out, HY.out, lex_cons_ne _ _ hxy]
          go_wp2
          go_quiet (fail)
          go_wp2
          go_quiet (fail)
          go_wp2
          go_ret
          exact ⟨by rw [HN.out]; rfl, _, by rw [World.drewN_drewN, World.drewN_drewN]⟩
      · have hf : decide ((k : Int) < (n' : Int)) = false := by simp; omega
        have HE : Hid (Nm.lexLess la lb = decide (n < n')) := by
          show _ = _
          rw [← HT.out, show lb.drop k = [] from List.drop_eq_nil_of_le (by rw [G1.out]; omega), lex_nil_right, Bool.eq_iff_iff]; simp; omega
        go_wp2
        go_ret
        exact ⟨by rw [HE.out]; rfl, m, rfl⟩
    · have hf : decide ((k : Int) < (n : Int)) = false := by simp; omega
      have HE : Hid (Nm.lexLess la lb = decide (n < n')) := by
        show _ = _
        rw [← HT.out, show la.drop k = [] from List.drop_eq_nil_of_le (by rw [H1.out]; omega), lex_nil_left, Bool.eq_iff_iff, List.length_drop, G1.out]; simp; omega
      go_wp2
      go_ret
      exact ⟨by rw [HE.out]; rfl, m, rfl⟩

theorem lit_reads {w : World} {base e k : Nat} {v : Value} {x v0 : Nat} (hx : x = v0 / 256 ^ k) (h : w.ownsRow base e 1 v (1 + k) ([Value.int .u8 ((x : Int) % 256)] ++ bv (Nm.be k v0))) :
    ∃ A c, v = .slice A (k + 1) c ∧ Bs w A (k + 1) c (Nm.be (k + 1) v0) := by
  have e1 : [Value.int .u8 ((x : Int) % 256)] ++ bv (Nm.be k v0) = bv (Nm.be (k + 1) v0) := by
    rw [be_cons, ← hx]; simp [bv]
  rw [e1, Nat.add_comm 1 k] at h
  have := Bs.of_own (l := Nm.be (k + 1) v0) (by rw [Nm.be_len]; exact h) (Nm.be_lt _ _)
  rwa [Nm.be_len] at this

set_option maxRecDepth 100000 in
set_option maxHeartbeats 400000 in
theorem refKey_any (w : World) (v : Nat) (hv : L64 v) :
    Calls Try.prog 23 #[.int .u64 (v : Int)] w fun e w' => ∃ A c, e = .returned (.slice A 8 c) ∧ Bs w' A 8 c (Nm.be 8 v) ∧ Below w.heap.size w w' := by
  obtain ⟨i0, hi, hz0, hz1, hz2⟩ := info_parts Try.info5
  go_enter Try.func23, Try.ntmps23
  go_wp2
  go_loopw [0, 3, 4] (fun x out i wr => ∃ (k y : Nat) (A : Option Addr) (c : Nat), k ≤ 8 ∧ i = .int .i64 k ∧ x = .int .u64 (y : Int) ∧ L64 y ∧ Hid (y = v / 256 ^ k) ∧ out = .slice A k c ∧ Bs wr A k c (Nm.be k v) ∧ Below w.heap.size w wr) (fun _ _ i _ => 8 - (intOf i).toNat)
  case atStart => exact ⟨0, v, none, 0, Nat.zero_le _, rfl, rfl, hv, by show _ = _; simp, rfl, Bs.nil_ _ _ _ (Nat.zero_le _), Below.refl _ _⟩
  case round =>
    obtain ⟨k, y, A, c, hk, rfl, rfl, hy, HY, rfl, hbs, hbel⟩ := hrel
    by_cases hlt : k < 8
    · have O0 := World.ownsRow_lit (base := wr.heap.size) (e := 5) (size := 1) wr #[Value.int .u8 ((y : Int) % 256)] 1 (Nat.le_refl _) (by unfold maxLen; omega) rfl
      have hbs1 := hbs.alloc (.cells #[Value.int .u8 ((y : Int) % 256)] 5)
      have hsz := hbel.size
      have hdiv : IntKind.u64.wrap ((y : Int) / 256) = (y : Int) / 256 := by unfold L64 at hy; exact IntWalk.u64_in _ ⟨by omega, by omega⟩
      have hy' : L64 (y / 256) := by unfold L64 at *; omega
      have HY' : Hid (y / 256 = v / 256 ^ (k + 1)) := by show _ = _; rw [HY.out, Nat.div_div_eq_div_mul, Nat.pow_succ]
      go_wp2_with (at_builtin; refine wpList_append_bs _ rfl _ _ 23 rfl wr.heap.size 5 i0 (.int .u8 0) Try.underlying23 hi hz0 hz1 hz2 rfl _ _ _ rfl O0 _ _ _ _ rfl hbs1 (by omega) (by simp) ?_; intro v2 w2 O2 g2)
      obtain ⟨A2, c2, rfl, r2⟩ := lit_reads HY.out O2
      have bel2 := hbel.trans (((Below.refl wr.heap.size wr).alloc (Nat.le_refl _) _).grown g2 (by simp) (fun j hj => by have := (O0.lt j hj).1; exact this) |>.mono hsz)
      clear O0 O2 g2 hbs hbs1 hbel
      go_roundw
      case rel => exact ⟨k + 1, y / 256, A2, c2, by omega, by go_num, by go_num, hy', HY', rfl, r2, bel2⟩
      case measure => simp [intOf]; omega
    · obtain rfl : k = 8 := by omega
      go_wp2
      go_ret
      exact ⟨_, _, rfl, hbs, hbel⟩

set_option maxRecDepth 100000 in
theorem refKeyInt_any (w : World) (v : Int) (hv : I64 v) :
    Calls Try.prog 24 #[.int .i64 v] w fun e w' => ∃ A c, e = .returned (.slice A 8 c) ∧ Bs w' A 8 c (Nm.be 8 (lift v)) ∧ Below w.heap.size w w' := by
  have HE := Lib.hid (lift_add hv)
  have hl := lift_lt hv
  go_enter Try.func24, Try.ntmps24
  go_wp2_with fail
  rw [HE.out]
  refine (refKey_any _ _ hl).mono ?_
  rintro e w1 ⟨A, c, rfl, hbs, hbel⟩
  go_wp2
  go_ret
  exact ⟨A, c, rfl, hbs, hbel⟩

set_option maxRecDepth 100000 in
theorem refUnkey_no (w : World) (A : Option Addr) (n c : Nat) (hn : n ≠ 8) :
    Calls Try.prog 27 #[.slice A n c] w fun e w' => e = .returned (.tuple #[.int .u64 0, .bool false]) ∧ w = w' := by
  have hd : ((n : Int) != 8) = true := by rw [bne_iff_ne]; omega
  go_enter Try.func27, Try.ntmps27
  go_wp2
  go_ret2
  exact ⟨rfl, rfl⟩

set_option maxRecDepth 100000 in
set_option maxHeartbeats 400000 in
theorem refUnkey_yes (w : World) (A : Option Addr) (c : Nat) (l : List Nat) (hb : Bs w A 8 c l) :
    Calls Try.prog 27 #[.slice A 8 c] w fun e w' => e = .returned (.tuple #[.int .u64 (Nm.fromBe l : Int), .bool true]) ∧ w = w' := by
  obtain ⟨h1, h2, h3, h4, h5⟩ := hb
  unfold maxLen at h3
  have H1 := Lib.hid h1
  have H4 := Lib.hid h4
  obtain ⟨b, off, rfl, hbl, hcell⟩ := h5 (by omega)
  have HC := Lib.hid hcell
  clear h1 h4 h5 hcell
  go_enter Try.func27, Try.ntmps27
  go_wp2
  go_loop [4, 5] (fun v i => ∃ k : Nat, k ≤ 8 ∧ i = .int .i64 k ∧ v = .int .u64 (Nm.fromBe (l.take k) : Int)) (fun _ i => 8 - (intOf i).toNat)
  case atStart => exact ⟨0, Nat.zero_le _, rfl, rfl⟩
  case round =>
    obtain ⟨k, hk, rfl, rfl⟩ := hrel
    by_cases hlt : k < 8
    · obtain ⟨x, hx⟩ : ∃ x, l[k]? = some x := ⟨_, List.getElem?_eq_getElem (by rw [H1.out]; omega)⟩
      have hx256 := H4.out x (List.mem_of_getElem? hx)
      have hcx := HC.out k x hx
      have hlim := fromBe_take_lt l H4.out k hlt
      have hw1 : IntKind.u64.wrap ((Nm.fromBe (l.take k) : Int) * 256) = (Nm.fromBe (l.take k) : Int) * 256 := IntWalk.u64_in _ ⟨by omega, by omega⟩
      have hw2 : IntKind.u64.wrap ((Nm.fromBe (l.take k) : Int) * 256 + (x : Int)) = (Nm.fromBe (l.take k) : Int) * 256 + (x : Int) := IntWalk.u64_in _ ⟨by omega, by omega⟩
      have HT : Hid (Nm.fromBe (l.take k) * 256 + x = Nm.fromBe (l.take (k + 1))) := by
        show _ = _
        rw [List.take_add_one, hx]; exact (Nm.fromBe_snoc _ _).symm
      clear hx hlim
      go_wp2
      go_round
      case rel => exact ⟨k + 1, by omega, by go_num, by rw [← HT.out]; go_num⟩
      case measure => simp [intOf]; omega
    · go_wp2
      go_ret2
      exact ⟨by rw [List.take_of_length_le (by rw [H1.out]; omega)]; rfl, rfl⟩

end Go.Proofs.Ythibflmmpkijkaa
