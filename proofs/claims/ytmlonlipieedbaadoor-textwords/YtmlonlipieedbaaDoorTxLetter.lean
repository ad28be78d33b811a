/-
  Letter and Blank: strings.ContainsRune at a text of bytes below 128, at every rune.
-/
import Derived.Test.YtmlonlipieedbaaDoorTxSmall
import Derived.Lib.RuneCount
import Derived.Laws.Runes
import Derived.LoopTactic
import Derived.WalkMore
import Derived.ScopeJumps
import Derived.IntWalk
namespace Go.Proofs.YtmlonlipieedbaaDoor
open Go.RowKit Go.Lib
set_option linter.unusedVariables false

theorem idx_none (t : List UInt8) (c : UInt8) (h : ∀ b ∈ t, b ≠ c) : Lib.indexByte t c = -1 := by
  induction t with
  | nil => rfl
  | cons b t ih =>
    have h1 := h b (by simp)
    have h2 := ih fun x hx => h x (by simp [hx])
    simp [Lib.indexByte, h1, h2]
set_option maxRecDepth 100000 in
set_option maxHeartbeats 1000000 in
theorem indexRune_fffd (s : ByteArray) (hs : ∀ b ∈ s.data.toList, b.toNat < 128) (hz : s.size ≤ 100) (w : World) :
    Calls Tryd.prog 42 #[.string s, .int .i32 65533] w fun e w' => e = .returned (.int .i64 (-1)) ∧ Below w.heap.size w w' := by
  have HS := Lib.hid hs
  clear hs
  go_enter Tryd.func42, Tryd.ntmps42
  go_wp2
  go_loopw [] (fun wr => ∃ pos : Nat, wr = w.iter s pos) (fun wr => s.size - wr.iterPos w.heap.size)
  case atStart => exact ⟨0, rfl⟩
  case round =>
    obtain ⟨pos, rfl⟩ := hrel
    by_cases hp : pos < s.size
    · have ha : (s[pos]'hp).toNat < 128 := HS.out _ (by rw [← Array.mem_def]; exact Array.getElem_mem _)
      have hnx : ∀ ty, (Instr.next (.pointer (some ⟨w.heap.size, 0, none⟩)) true ty).run Tryd.prog (w.iter s pos) = _ := fun ty => run_next_ascii w s pos ty hp ha
      have hb : (((s[pos]'hp).toNat : Int) == 65533) = false := by simp; omega
      go_wp2
      go_roundw
      case rel => exact ⟨pos + 1, rfl⟩
      case measure => simp; omega
    · have hnx : ∀ ty, (Instr.next (.pointer (some ⟨w.heap.size, 0, none⟩)) true ty).run Tryd.prog (w.iter s pos) = _ := fun ty => run_next_end w s pos ty hp
      go_wp2
      go_ret
      exact ⟨rfl, (Below.refl _ _).alloc (Nat.le_refl _) _⟩

set_option maxRecDepth 100000 in
theorem indexRune_not (s : ByteArray) (r : Int) (hr : ¬ (0 ≤ r ∧ r < 128)) (hf : r ≠ 65533) (hv : Lib.validRune r = false) (w : World) :
    Calls Tryd.prog 42 #[.string s, .int .i32 r] w fun e w' => e = .returned (.int .i64 (-1)) ∧ Below w.heap.size w w' := by
  have b1 : (r == 65533) = false := by simp [hf]
  clear hf
  by_cases h0 : 0 ≤ r
  · have h1 : ¬ r < 128 := by omega
    go_enter Tryd.func42, Tryd.ntmps42
    go_wp2_with (go_at_call 44; refine (Tryd.utf8_ValidRune r _).mono ?_; rintro e w' ⟨rfl, rfl⟩; rw [hv])
    go_ret
    exact ⟨rfl, Below.refl _ _⟩
  · go_enter Tryd.func42, Tryd.ntmps42
    go_wp2_with (go_at_call 44; refine (Tryd.utf8_ValidRune r _).mono ?_; rintro e w' ⟨rfl, rfl⟩; rw [hv])
    go_ret
    exact ⟨rfl, Below.refl _ _⟩

set_option maxRecDepth 100000 in
set_option maxHeartbeats 1000000 in
theorem indexRune_enc (s : ByteArray) (hs : ∀ b ∈ s.data.toList, b.toNat < 128) (hz : s.size ≤ 100) (r : Int) (hr : 128 ≤ r) (hf : r ≠ 65533) (hv : Lib.validRune r = true) (w : World) :
    Calls Tryd.prog 42 #[.string s, .int .i32 r] w fun e w' => e = .returned (.int .i64 (-1)) ∧ Below w.heap.size w w' := by
  have b1 : (r == 65533) = false := by simp [hf]
  have h1 : ¬ r < 128 := by omega
  have h0 : 0 ≤ r := by omega
  have hv' : Utf8.valid r = true := by
    have := hv
    simp only [Lib.validRune, decide_eq_true_eq] at this
    simp only [Utf8.valid, Bool.or_eq_true, Bool.and_eq_true, decide_eq_true_eq]
    omega
  obtain ⟨f1, f2, f3⟩ := encode_facts r hv' hr
  obtain ⟨rs, hrs⟩ : ∃ rs, Utf8.encode r = rs := ⟨_, rfl⟩
  rw [hrs] at f1 f2 f3
  have f3 := f3 (by omega)
  obtain ⟨k, hk⟩ : ∃ k, rs.size = k + 1 := ⟨rs.size - 1, by omega⟩
  have hk1 : rs.size - 1 = k := by omega
  have hkl : k < rs.size := by omega
  have hc : 128 ≤ (rs[k]'hkl).toNat := by
    have : rs[rs.size - 1]'(by omega) = rs[k]'hkl := by congr 1
    rw [this] at f3; exact f3
  have hki : ((rs.size : Nat) : Int) - 1 = (k : Int) := by omega
  have HS := Lib.hid hs
  have hcv : ∀ W : World, (convert 21 9 (.int .i32 r)).run Tryd.prog W = .ok (.string rs) W := by
    intro W
    rw [run_convert_int_string W 21 9 .i32 r (by rw [Tryd.underlying21]; rfl) Tryd.underlying9, hrs]
  clear hs f3 hf hk1 hv' hrs hk
  by_cases hlt : k < s.size
  · have hck : (s[k]'hlt).toNat < 128 := HS.out _ (by rw [← Array.mem_def]; exact Array.getElem_mem _)
    have hne : ((((s[k]'hlt).toNat : Nat) : Int) != (((rs[k]'hkl).toNat : Nat) : Int)) = true := by simp; omega
    have hidx : Lib.indexByte (s.extract (k + 1) s.size).data.toList (((rs[k]'hkl).toNat : Int).toNat.toUInt8) = -1 := by
      refine idx_none _ _ fun b hb e => ?_
      have := HS.out b (mem_extract hb)
      subst e
      simp at this; omega
    have cI : Hid (∀ W : World, Calls Tryd.prog 43 #[.string (s.extract (k + 1) s.size), .int .u8 ((rs[k]'hkl).toNat : Int)] W fun e w' => e = .returned (.int .i64 (-1)) ∧ w' = W) := fun W => by
      have := Tryd.strings_IndexByte (s.extract (k + 1) s.size) ((rs[k]'hkl).toNat : Int) W
      rw [hidx] at this; exact this
    clear hidx
    go_enter Tryd.func42, Tryd.ntmps42
    go_wp2_with (go_at_call 44; refine (Tryd.utf8_ValidRune r _).mono ?_; rintro e w' ⟨rfl, rfl⟩; rw [hv])
    go_step3
    go_wp2
    refine wp_loop_rounds 1 ?_
    rw [rounds_succ]
    go_wp2
    go_step3
    go_wp2
    go_quiet (fail)
    have hb1 : Below w'.heap.size w' (w'.drewN nq) := below_drewNv (Below.refl _ _) nq
    generalize w'.drewN nq = wq at hb1 ⊢
    go_wp2_with fail
    have q1 : IntKind.i64.wrap ((k : Int) + 1) = (k : Int) + 1 := IntWalk.i64_in _ (by omega)
    have q2 : (0 : Int) ≤ (k : Int) + 1 := by omega
    have q3 : (k : Int) + 1 ≤ (s.size : Int) := by omega
    have q4 : ((k : Int) + 1).toNat = k + 1 := by omega
    have q5 : k + 1 ≤ s.size := by omega
    go_quiet ((go_at_call 43; exact Calls.quiet_of_same (cI.out _)))
    go_wp2
    simp only [Exit.noGoto, Exit.inBlock, Exit.then]
    go_ret
    exact ⟨rfl, below_drewNv hb1 _⟩
  · go_enter Tryd.func42, Tryd.ntmps42
    go_wp2_with (go_at_call 44; refine (Tryd.utf8_ValidRune r _).mono ?_; rintro e w' ⟨rfl, rfl⟩; rw [hv])
    go_step3
    go_wp2
    refine wp_loop_rounds 1 ?_
    rw [rounds_succ]
    go_wp2
    simp only [Exit.noGoto_ret]
    go_ret
    exact ⟨rfl, Below.refl _ _⟩

/-- strings.ContainsRune at a text of bytes below 128. -/
def hasB (s : ByteArray) (r : Int) : Bool := decide (0 ≤ r ∧ r < 128) && decide (0 ≤ Lib.indexByte s.data.toList r.toNat.toUInt8)
theorem indexRune_any (s : ByteArray) (hs : ∀ b ∈ s.data.toList, b.toNat < 128) (hz : s.size ≤ 100) (r : Int) (hr : ¬ (0 ≤ r ∧ r < 128)) (w : World) :
    Calls Tryd.prog 42 #[.string s, .int .i32 r] w fun e w' => e = .returned (.int .i64 (-1)) ∧ Below w.heap.size w w' := by
  by_cases hf : r = 65533
  · subst hf; exact indexRune_fffd s hs hz w
  · cases hv : Lib.validRune r with
    | false => exact indexRune_not s r hr hf hv w
    | true =>
      have : 0 ≤ r := by
        simp only [Lib.validRune, decide_eq_true_eq] at hv
        omega
      exact indexRune_enc s hs hz r (by omega) hf hv w
theorem containsRune_any (s : ByteArray) (hs : ∀ b ∈ s.data.toList, b.toNat < 128) (hz : s.size ≤ 100) (r : Int) (w : World) :
    Calls Tryd.prog 39 #[.string s, .int .i32 r] w fun e w' => e = .returned (.bool (hasB s r)) ∧ Below w.heap.size w w' := by
  by_cases hr : 0 ≤ r ∧ r < 128
  · refine (Tryd.strings_ContainsRune_ascii s r w hr.1 hr.2).mono ?_
    rintro e w' ⟨rfl, rfl⟩
    exact ⟨by simp [hasB, hr], Below.refl _ _⟩
  · have e : hasB s r = false := by simp only [hasB, hr]; rfl
    rw [e]
    have c := Lib.hid (fun W => indexRune_any s hs hz r hr W)
    clear hs hr e
    go_enter Tryd.func39, Tryd.ntmps39
    go_wp2_with (go_at_call 42; refine (c.out _).mono ?_; rintro e w' ⟨rfl, hb⟩)
    go_ret
    exact ⟨rfl, hb⟩
theorem hasB_blank (r : Int) : hasB ⟨#[32, 9, 10, 13]⟩ r = bkB r := by
  by_cases hr : 0 ≤ r ∧ r < 128
  · obtain ⟨n, rfl⟩ := Int.eq_ofNat_of_zero_le hr.1
    have hn : n < 128 := by omega
    have key : ∀ m : Fin 128, hasB ⟨#[32, 9, 10, 13]⟩ ((m.val : Nat) : Int) = bkB ((m.val : Nat) : Int) := by decide +kernel
    exact key ⟨n, hn⟩
  · have : hasB ⟨#[32, 9, 10, 13]⟩ r = false := by simp only [hasB, hr]; rfl
    rw [this]; simp [bkB]; omega
theorem blank_any (r : Int) (w : World) : Calls Tryd.prog 25 #[.int .i32 r] w fun e w' => e = .returned (.bool (bkB r)) ∧ Below w.heap.size w w' := by
  go_enter Tryd.func25, Tryd.ntmps25
  go_wp2_with (go_at_call 39; refine (containsRune_any _ (by decide) (by decide) r _).mono ?_; rintro e w' ⟨rfl, hb⟩; rw [hasB_blank])
  go_ret
  exact ⟨rfl, hb⟩
def mkB (r : Int) : Bool := decide (r = 95 ∨ r = 46 ∨ r = 45 ∨ r = 47 ∨ r = 58)
theorem hasB_marks (r : Int) : hasB ⟨#[95, 46, 45, 47, 58]⟩ r = mkB r := by
  by_cases hr : 0 ≤ r ∧ r < 128
  · obtain ⟨n, rfl⟩ := Int.eq_ofNat_of_zero_le hr.1
    have hn : n < 128 := by omega
    have key : ∀ m : Fin 128, hasB ⟨#[95, 46, 45, 47, 58]⟩ ((m.val : Nat) : Int) = mkB ((m.val : Nat) : Int) := by decide +kernel
    exact key ⟨n, hn⟩
  · have : hasB ⟨#[95, 46, 45, 47, 58]⟩ r = false := by simp only [hasB, hr]; rfl
    rw [this]; simp [mkB]; omega
theorem letter_any (r : Int) (w : World) : Calls Tryd.prog 23 #[.int .i32 r] w fun e w' => e = .returned (.bool (ltB r)) ∧ Below w.heap.size w w' := by
  by_cases h1 : 97 ≤ r ∧ r ≤ 122
  · have e : ltB r = true := by simp [ltB]; omega
    rw [e]
    obtain ⟨h1, h2⟩ := h1
    go_enter Tryd.func23, Tryd.ntmps23
    go_wp2
    go_ret
    exact ⟨rfl, Below.refl _ _⟩
  · by_cases h2 : 65 ≤ r ∧ r ≤ 90
    · have e : ltB r = true := by simp [ltB]; omega
      have g : grB r = true := by simp [grB]; omega
      have h3 : ¬ 97 ≤ r := by omega
      rw [e]
      clear h1 h2 e
      go_enter Tryd.func23, Tryd.ntmps23
      go_wp2_with (go_at_call 32; refine (great_any r _).mono ?_; rintro e w' ⟨rfl, rfl⟩; rw [g])
      go_ret
      exact ⟨rfl, Below.refl _ _⟩
    · have g : grB r = false := by simp [grB]; omega
      by_cases h3 : 48 ≤ r ∧ r ≤ 57
      · have e : ltB r = true := by simp [ltB]; omega
        have h5 : ¬ 97 ≤ r := by omega
        rw [e]
        obtain ⟨h3, h4⟩ := h3
        clear h1 h2 e
        go_enter Tryd.func23, Tryd.ntmps23
        go_wp2_with (go_at_call 32; refine (great_any r _).mono ?_; rintro e w' ⟨rfl, rfl⟩; rw [g])
        go_ret
        exact ⟨rfl, Below.refl _ _⟩
      · by_cases h4 : 159 < r
        · have e : ltB r = true := by simp [ltB]; omega
          have h5 : 97 ≤ r := by omega
          have h6 : ¬ r ≤ 122 := by omega
          have h7 : ¬ r ≤ 57 := by omega
          have h8 : 48 ≤ r := by omega
          rw [e]
          clear h1 h2 h3 e
          go_enter Tryd.func23, Tryd.ntmps23
          go_wp2_with (go_at_call 32; refine (great_any r _).mono ?_; rintro e w' ⟨rfl, rfl⟩; rw [g])
          go_ret
          exact ⟨rfl, Below.refl _ _⟩
        · have e : ltB r = mkB r := by rw [Bool.eq_iff_iff]; simp [ltB, mkB]; omega
          rw [e]
          have HE := Lib.hid e
          obtain ⟨M, hM⟩ : ∃ M, mkB r = M := ⟨_, rfl⟩
          have c : Hid (∀ W : World, Calls Tryd.prog 39 #[.string ⟨#[95, 46, 45, 47, 58]⟩, .int .i32 r] W fun e w' => e = .returned (.bool M) ∧ Below W.heap.size W w') := fun W => by
            have := containsRune_any ⟨#[95, 46, 45, 47, 58]⟩ (by decide) (by decide) r W
            rw [hasB_marks, hM] at this; exact this
          rw [hM]
          clear e HE hM
          go_enter Tryd.func23, Tryd.ntmps23
          go_wp2_with (first | (go_at_call 32; refine (great_any r _).mono ?_; rintro e w' ⟨rfl, rfl⟩; rw [g]) | (go_at_call 39; refine (c.out _).mono ?_; rintro e w' ⟨rfl, hb⟩))
          all_goals first | (exfalso; omega) | skip
          all_goals
            go_ret
            exact ⟨ret_bool (by rw [show decide (159 < r) = false from by simpa using h4, Bool.false_or]), hb⟩

end Go.Proofs.YtmlonlipieedbaaDoor
