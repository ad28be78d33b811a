/-
  The document's Rune and Utf: the first rune of a text; whether a text is UTF-8.
-/
import Derived.Test.YtmlonlipieedbaaDoorTxLen
import Derived.LoopN
namespace Go.Proofs.YtmlonlipieedbaaDoor
open Go.RowKit Go.Lib
set_option linter.unusedVariables false

theorem ret_2 {l : List UInt8} {x y : Nat} {X Y : Int} (h : decodeL l = (x, y)) (hx : X = (x : Int)) (hy : Y = (y : Int)) :
    Ending.returned (.tuple #[.int .i64 X, .int .i64 Y]) = .returned (.tuple #[.int .i64 ((decodeL l).1 : Int), .int .i64 ((decodeL l).2 : Int)]) := by rw [h, hx, hy]
theorem byte_at (s : ByteArray) (i : Nat) (h : i < s.size) : (s.data.toList.getD i 0).toNat = (s[i]'h).toNat := by
  rw [List.getD_eq_getElem?_getD, List.getElem?_eq_getElem (by rw [← size_eq]; exact h)]; rfl
/-- By the first byte alone. -/
theorem d_low (n b0 b1 b2 b3 : Nat) (h : b0 < 128) : decodeN n b0 b1 b2 b3 = (b0, 1) := by simp [decodeN, h]
theorem d_bad (n b0 b1 b2 b3 : Nat) (h0 : b0 < 256) (h : 128 ≤ b0) (h2 : b0 < 194 ∨ 245 ≤ b0) : decodeN n b0 b1 b2 b3 = (65533, 1) := by
  unfold decodeN
  repeat' split
  all_goals first | rfl | (exfalso; omega)
theorem d_2 (n b0 b1 b2 b3 : Nat) (h : 194 ≤ b0) (h' : b0 < 224) :
    decodeN n b0 b1 b2 b3 = if 1 < n ∧ b1 / 64 = 2 then (b0 % 32 * 64 + b1 % 64, 2) else (65533, 1) := by
  unfold decodeN
  repeat' split
  all_goals first | (exfalso; omega) | rfl
theorem d_3 (n b0 b1 b2 b3 : Nat) (h : 224 ≤ b0) (h' : b0 < 240) :
    decodeN n b0 b1 b2 b3 = if (1 < n ∧ b1 / 64 = 2) ∧ (2 < n ∧ b2 / 64 = 2) ∧ 2048 ≤ (b0 % 16 * 64 + b1 % 64) * 64 + b2 % 64 ∧ ((b0 % 16 * 64 + b1 % 64) * 64 + b2 % 64 < 55296 ∨ 57344 ≤ (b0 % 16 * 64 + b1 % 64) * 64 + b2 % 64) then ((b0 % 16 * 64 + b1 % 64) * 64 + b2 % 64, 3) else (65533, 1) := by
  unfold decodeN
  repeat' split
  all_goals first | (exfalso; omega) | exact Prod.ext (by dsimp only; omega) rfl | rfl
theorem d_4 (n b0 b1 b2 b3 : Nat) (h : 240 ≤ b0) (h' : b0 < 245) :
    decodeN n b0 b1 b2 b3 = if (1 < n ∧ b1 / 64 = 2) ∧ (2 < n ∧ b2 / 64 = 2) ∧ (3 < n ∧ b3 / 64 = 2) ∧ 65536 ≤ ((b0 % 8 * 64 + b1 % 64) * 64 + b2 % 64) * 64 + b3 % 64 ∧ ((b0 % 8 * 64 + b1 % 64) * 64 + b2 % 64) * 64 + b3 % 64 ≤ 1114111 then (((b0 % 8 * 64 + b1 % 64) * 64 + b2 % 64) * 64 + b3 % 64, 4) else (65533, 1) := by
  unfold decodeN
  repeat' split
  all_goals first | (exfalso; omega) | exact Prod.ext (by dsimp only; omega) rfl | rfl

set_option maxRecDepth 100000 in
set_option maxHeartbeats 1000000 in
theorem refRune_1 (s : ByteArray) (w : World) (hs : s.size ≤ 1000000) (h0 : 0 < s.size) (hb : (s[0]'h0).toNat < 194 ∨ 245 ≤ (s[0]'h0).toNat) :
    Calls Tryd.prog 28 #[.string s] w fun e w' => e = .returned (.tuple #[.int .i64 ((decodeL s.data.toList).1 : Int), .int .i64 ((decodeL s.data.toList).2 : Int)]) ∧ w = w' := by
  obtain ⟨c, hc⟩ : ∃ c, (s[0]'h0).toNat = c := ⟨_, rfl⟩
  have h256 : c < 256 := hc ▸ (s[0]'h0).toNat_lt
  rw [hc] at hb
  have HD : Hid (decodeL s.data.toList = if c < 128 then (c, 1) else (65533, 1)) := by
    show _ = _
    rw [decodeL_N, byte_at s 0 h0, hc]
    split
    · exact d_low _ _ _ _ _ (by assumption)
    · exact d_bad _ _ _ _ _ h256 (by omega) hb
  have hci : (((s[0]'h0).toNat : Nat) : Int) = (c : Int) := by rw [hc]
  clear hc
  by_cases h128 : c < 128
  · have h1 : ¬ 194 ≤ (c : Int) := by omega
    have h2 : ¬ 224 ≤ (c : Int) := by omega
    have h3 : ¬ 240 ≤ (c : Int) := by omega
    have h4 : ¬ 128 ≤ (c : Int) := by omega
    have HD' : Hid (decodeL s.data.toList = (c, 1)) := HD.out.trans (if_pos h128)
    clear HD hb
    go_enter Tryd.func28, Tryd.ntmps28
    go_wp2
    refine wp_loop_rounds 1 ?_
    rw [rounds_succ]
    go_wp2
    go_ret2
    exact ⟨ret_2 HD'.out rfl rfl, rfl⟩
  · have HD' : Hid (decodeL s.data.toList = (65533, 1)) := HD.out.trans (if_neg h128)
    have h4 : 128 ≤ (c : Int) := by omega
    clear HD
    rcases hb with hb | hb
    · have h1 : ¬ 194 ≤ (c : Int) := by omega
      have h2 : ¬ 224 ≤ (c : Int) := by omega
      have h3 : ¬ 240 ≤ (c : Int) := by omega
      go_enter Tryd.func28, Tryd.ntmps28
      go_wp2
      go_ret2
      exact ⟨ret_2 HD'.out rfl rfl, rfl⟩
    · have h1 : ¬ (c : Int) < 224 := by omega
      have h2 : ¬ (c : Int) < 240 := by omega
      have h3 : ¬ (c : Int) < 245 := by omega
      have h5 : 194 ≤ (c : Int) := by omega
      have h6 : 224 ≤ (c : Int) := by omega
      have h7 : 240 ≤ (c : Int) := by omega
      go_enter Tryd.func28, Tryd.ntmps28
      go_wp2
      go_ret2
      exact ⟨ret_2 HD'.out rfl rfl, rfl⟩

set_option maxRecDepth 100000 in
set_option maxHeartbeats 1000000 in
theorem refRune_2 (s : ByteArray) (w : World) (hs : s.size ≤ 1000000) (h0 : 0 < s.size) (hb1 : 194 ≤ (s[0]'h0).toNat) (hb2 : (s[0]'h0).toNat < 224) :
    Calls Tryd.prog 28 #[.string s] w fun e w' => e = .returned (.tuple #[.int .i64 ((decodeL s.data.toList).1 : Int), .int .i64 ((decodeL s.data.toList).2 : Int)]) ∧ w = w' := by
  obtain ⟨c, hc⟩ : ∃ c, (s[0]'h0).toNat = c := ⟨_, rfl⟩
  rw [hc] at hb1 hb2
  have hci : (((s[0]'h0).toNat : Nat) : Int) = (c : Int) := by rw [hc]
  have p1 : 194 ≤ (c : Int) := by omega
  have p2 : (c : Int) < 224 := by omega
  by_cases hn : 1 < s.size
  · have hn1 : 1 < s.size := by omega
    obtain ⟨d, hd⟩ : ∃ d, (s[1]'hn1).toNat = d := ⟨_, rfl⟩
    have hd256 : d < 256 := hd ▸ (s[1]'hn1).toNat_lt
    have hdi : (((s[1]'hn1).toNat : Nat) : Int) = (d : Int) := by rw [hd]
    have HD : Hid (decodeL s.data.toList = if 1 < s.size ∧ d / 64 = 2 then (c % 32 * 64 + d % 64, 2) else (65533, 1)) := by
      show _ = _
      rw [decodeL_N, byte_at s 0 h0, byte_at s 1 hn1, hc, hd, size_eq]
      exact d_2 _ _ _ _ _ hb1 hb2
    clear hc hd
    go_enter Tryd.func28, Tryd.ntmps28
    go_wp2
    refine wp_loop_rounds 2 ?_
    rw [rounds_succ]
    by_cases hq1 : d / 64 = 2
    · have q1 : ((d : Int) / 64 != 2) = false := by simp; omega
      go_wp2
      obtain ⟨v1, hv1⟩ : ∃ v1 : Int, (c : Int) % 32 * 64 + (d : Int) % 64 = v1 := ⟨_, rfl⟩
      have v1l : 0 ≤ v1 := by omega
      have v1u : v1 < 2048 := by omega
      rw [hv1]
      have HV1 := Lib.hid hv1
      clear hv1 q1
      rw [rounds_succ]
      have x1 : ¬ v1 < 128 := by have := HV1.out; omega
      go_wp2
      go_ret2
      exact ⟨ret_2 (HD.out.trans (if_pos (by have := HV1.out; omega))) (by have := HV1.out; omega) rfl, rfl⟩
    · have q1 : ((d : Int) / 64 != 2) = true := by simp; omega
      go_wp2
      go_ret2
      exact ⟨ret_2 (HD.out.trans (if_neg (by omega))) rfl rfl, rfl⟩
  · have HD' : Hid (decodeL s.data.toList = (65533, 1)) := by
      show _ = _
      rw [decodeL_N, byte_at s 0 h0, hc, d_2 _ _ _ _ _ hb1 hb2, if_neg (by rw [← size_eq]; omega)]
    have g : (s.size : Int) < 2 := by omega
    clear hc
    go_enter Tryd.func28, Tryd.ntmps28
    go_wp2
    go_ret2
    exact ⟨ret_2 HD'.out rfl rfl, rfl⟩

set_option maxRecDepth 100000 in
set_option maxHeartbeats 1000000 in
theorem refRune_3 (s : ByteArray) (w : World) (hs : s.size ≤ 1000000) (h0 : 0 < s.size) (hb1 : 224 ≤ (s[0]'h0).toNat) (hb2 : (s[0]'h0).toNat < 240) :
    Calls Tryd.prog 28 #[.string s] w fun e w' => e = .returned (.tuple #[.int .i64 ((decodeL s.data.toList).1 : Int), .int .i64 ((decodeL s.data.toList).2 : Int)]) ∧ w = w' := by
  obtain ⟨c, hc⟩ : ∃ c, (s[0]'h0).toNat = c := ⟨_, rfl⟩
  rw [hc] at hb1 hb2
  have hci : (((s[0]'h0).toNat : Nat) : Int) = (c : Int) := by rw [hc]
  have p1 : 224 ≤ (c : Int) := by omega
  have p2 : (c : Int) < 240 := by omega
  have r224 : ¬ (c : Int) < 224 := by omega
  have s194 : 194 ≤ (c : Int) := by omega
  by_cases hn : 2 < s.size
  · have hn1 : 1 < s.size := by omega
    obtain ⟨d, hd⟩ : ∃ d, (s[1]'hn1).toNat = d := ⟨_, rfl⟩
    have hd256 : d < 256 := hd ▸ (s[1]'hn1).toNat_lt
    have hdi : (((s[1]'hn1).toNat : Nat) : Int) = (d : Int) := by rw [hd]
    have hn2 : 2 < s.size := by omega
    obtain ⟨e, he⟩ : ∃ e, (s[2]'hn2).toNat = e := ⟨_, rfl⟩
    have he256 : e < 256 := he ▸ (s[2]'hn2).toNat_lt
    have hei : (((s[2]'hn2).toNat : Nat) : Int) = (e : Int) := by rw [he]
    have HD : Hid (decodeL s.data.toList = if (1 < s.size ∧ d / 64 = 2) ∧ (2 < s.size ∧ e / 64 = 2) ∧ 2048 ≤ (c % 16 * 64 + d % 64) * 64 + e % 64 ∧ ((c % 16 * 64 + d % 64) * 64 + e % 64 < 55296 ∨ 57344 ≤ (c % 16 * 64 + d % 64) * 64 + e % 64) then ((c % 16 * 64 + d % 64) * 64 + e % 64, 3) else (65533, 1)) := by
      show _ = _
      rw [decodeL_N, byte_at s 0 h0, byte_at s 1 hn1, byte_at s 2 hn2, hc, hd, he, size_eq]
      exact d_3 _ _ _ _ _ hb1 hb2
    clear hc hd he
    go_enter Tryd.func28, Tryd.ntmps28
    go_wp2
    refine wp_loop_rounds 3 ?_
    rw [rounds_succ]
    by_cases hq1 : d / 64 = 2
    · have q1 : ((d : Int) / 64 != 2) = false := by simp; omega
      go_wp2
      obtain ⟨v1, hv1⟩ : ∃ v1 : Int, (c : Int) % 16 * 64 + (d : Int) % 64 = v1 := ⟨_, rfl⟩
      have v1l : 0 ≤ v1 := by omega
      have v1u : v1 < 1024 := by omega
      rw [hv1]
      have HV1 := Lib.hid hv1
      clear hv1 q1
      rw [rounds_succ]
      by_cases hq2 : e / 64 = 2
      · have q2 : ((e : Int) / 64 != 2) = false := by simp; omega
        go_wp2
        obtain ⟨v2, hv2⟩ : ∃ v2 : Int, v1 * 64 + (e : Int) % 64 = v2 := ⟨_, rfl⟩
        have v2l : 0 ≤ v2 := by omega
        have v2u : v2 < 65536 := by omega
        rw [hv2]
        have HV2 := Lib.hid hv2
        clear hv2 q2
        rw [rounds_succ]
        by_cases x1 : v2 < 2048
        · go_wp2
          go_ret2
          exact ⟨ret_2 (HD.out.trans (if_neg (by have := HV1.out; have := HV2.out; omega))) rfl rfl, rfl⟩
        · by_cases x2 : 55296 ≤ v2
          · by_cases x3 : v2 < 57344
            · go_wp2
              go_ret2
              exact ⟨ret_2 (HD.out.trans (if_neg (by have := HV1.out; have := HV2.out; omega))) rfl rfl, rfl⟩
            · go_wp2
              go_ret2
              exact ⟨ret_2 (HD.out.trans (if_pos (by have := HV1.out; have := HV2.out; omega))) (by have := HV1.out; have := HV2.out; omega) rfl, rfl⟩
          · go_wp2
            go_ret2
            exact ⟨ret_2 (HD.out.trans (if_pos (by have := HV1.out; have := HV2.out; omega))) (by have := HV1.out; have := HV2.out; omega) rfl, rfl⟩
      · have q2 : ((e : Int) / 64 != 2) = true := by simp; omega
        go_wp2
        go_ret2
        exact ⟨ret_2 (HD.out.trans (if_neg (by omega))) rfl rfl, rfl⟩
    · have q1 : ((d : Int) / 64 != 2) = true := by simp; omega
      go_wp2
      go_ret2
      exact ⟨ret_2 (HD.out.trans (if_neg (by omega))) rfl rfl, rfl⟩
  · have HD' : Hid (decodeL s.data.toList = (65533, 1)) := by
      show _ = _
      rw [decodeL_N, byte_at s 0 h0, hc, d_3 _ _ _ _ _ hb1 hb2, if_neg (by rw [← size_eq]; omega)]
    have g : (s.size : Int) < 3 := by omega
    clear hc
    go_enter Tryd.func28, Tryd.ntmps28
    go_wp2
    go_ret2
    exact ⟨ret_2 HD'.out rfl rfl, rfl⟩

set_option maxRecDepth 100000 in
set_option maxHeartbeats 1000000 in
theorem refRune_4 (s : ByteArray) (w : World) (hs : s.size ≤ 1000000) (h0 : 0 < s.size) (hb1 : 240 ≤ (s[0]'h0).toNat) (hb2 : (s[0]'h0).toNat < 245) :
    Calls Tryd.prog 28 #[.string s] w fun e w' => e = .returned (.tuple #[.int .i64 ((decodeL s.data.toList).1 : Int), .int .i64 ((decodeL s.data.toList).2 : Int)]) ∧ w = w' := by
  obtain ⟨c, hc⟩ : ∃ c, (s[0]'h0).toNat = c := ⟨_, rfl⟩
  rw [hc] at hb1 hb2
  have hci : (((s[0]'h0).toNat : Nat) : Int) = (c : Int) := by rw [hc]
  have p1 : 240 ≤ (c : Int) := by omega
  have p2 : (c : Int) < 245 := by omega
  have r224 : ¬ (c : Int) < 224 := by omega
  have s194 : 194 ≤ (c : Int) := by omega
  have r240 : ¬ (c : Int) < 240 := by omega
  have s224 : 224 ≤ (c : Int) := by omega
  by_cases hn : 3 < s.size
  · have hn1 : 1 < s.size := by omega
    obtain ⟨d, hd⟩ : ∃ d, (s[1]'hn1).toNat = d := ⟨_, rfl⟩
    have hd256 : d < 256 := hd ▸ (s[1]'hn1).toNat_lt
    have hdi : (((s[1]'hn1).toNat : Nat) : Int) = (d : Int) := by rw [hd]
    have hn2 : 2 < s.size := by omega
    obtain ⟨e, he⟩ : ∃ e, (s[2]'hn2).toNat = e := ⟨_, rfl⟩
    have he256 : e < 256 := he ▸ (s[2]'hn2).toNat_lt
    have hei : (((s[2]'hn2).toNat : Nat) : Int) = (e : Int) := by rw [he]
    have hn3 : 3 < s.size := by omega
    obtain ⟨f, hf⟩ : ∃ f, (s[3]'hn3).toNat = f := ⟨_, rfl⟩
    have hf256 : f < 256 := hf ▸ (s[3]'hn3).toNat_lt
    have hfi : (((s[3]'hn3).toNat : Nat) : Int) = (f : Int) := by rw [hf]
    have HD : Hid (decodeL s.data.toList = if (1 < s.size ∧ d / 64 = 2) ∧ (2 < s.size ∧ e / 64 = 2) ∧ (3 < s.size ∧ f / 64 = 2) ∧ 65536 ≤ ((c % 8 * 64 + d % 64) * 64 + e % 64) * 64 + f % 64 ∧ ((c % 8 * 64 + d % 64) * 64 + e % 64) * 64 + f % 64 ≤ 1114111 then (((c % 8 * 64 + d % 64) * 64 + e % 64) * 64 + f % 64, 4) else (65533, 1)) := by
      show _ = _
      rw [decodeL_N, byte_at s 0 h0, byte_at s 1 hn1, byte_at s 2 hn2, byte_at s 3 hn3, hc, hd, he, hf, size_eq]
      exact d_4 _ _ _ _ _ hb1 hb2
    clear hc hd he hf
    go_enter Tryd.func28, Tryd.ntmps28
    go_wp2
    refine wp_loop_rounds 4 ?_
    rw [rounds_succ]
    by_cases hq1 : d / 64 = 2
    · have q1 : ((d : Int) / 64 != 2) = false := by simp; omega
      go_wp2
      obtain ⟨v1, hv1⟩ : ∃ v1 : Int, (c : Int) % 8 * 64 + (d : Int) % 64 = v1 := ⟨_, rfl⟩
      have v1l : 0 ≤ v1 := by omega
      have v1u : v1 < 512 := by omega
      rw [hv1]
      have HV1 := Lib.hid hv1
      clear hv1 q1
      rw [rounds_succ]
      by_cases hq2 : e / 64 = 2
      · have q2 : ((e : Int) / 64 != 2) = false := by simp; omega
        go_wp2
        obtain ⟨v2, hv2⟩ : ∃ v2 : Int, v1 * 64 + (e : Int) % 64 = v2 := ⟨_, rfl⟩
        have v2l : 0 ≤ v2 := by omega
        have v2u : v2 < 32768 := by omega
        rw [hv2]
        have HV2 := Lib.hid hv2
        clear hv2 q2
        rw [rounds_succ]
        by_cases hq3 : f / 64 = 2
        · have q3 : ((f : Int) / 64 != 2) = false := by simp; omega
          go_wp2
          obtain ⟨v3, hv3⟩ : ∃ v3 : Int, v2 * 64 + (f : Int) % 64 = v3 := ⟨_, rfl⟩
          have v3l : 0 ≤ v3 := by omega
          have v3u : v3 < 2097152 := by omega
          rw [hv3]
          have HV3 := Lib.hid hv3
          clear hv3 q3
          rw [rounds_succ]
          by_cases x1 : v3 < 65536
          · go_wp2
            go_ret2
            exact ⟨ret_2 (HD.out.trans (if_neg (by have := HV1.out; have := HV2.out; have := HV3.out; omega))) rfl rfl, rfl⟩
          · by_cases x2 : 1114111 < v3
            · go_wp2
              go_ret2
              exact ⟨ret_2 (HD.out.trans (if_neg (by have := HV1.out; have := HV2.out; have := HV3.out; omega))) rfl rfl, rfl⟩
            · have x3 : ¬ v3 < 57344 := by omega
              go_wp2
              go_ret2
              exact ⟨ret_2 (HD.out.trans (if_pos (by have := HV1.out; have := HV2.out; have := HV3.out; omega))) (by have := HV1.out; have := HV2.out; have := HV3.out; omega) rfl, rfl⟩
        · have q3 : ((f : Int) / 64 != 2) = true := by simp; omega
          go_wp2
          go_ret2
          exact ⟨ret_2 (HD.out.trans (if_neg (by omega))) rfl rfl, rfl⟩
      · have q2 : ((e : Int) / 64 != 2) = true := by simp; omega
        go_wp2
        go_ret2
        exact ⟨ret_2 (HD.out.trans (if_neg (by omega))) rfl rfl, rfl⟩
    · have q1 : ((d : Int) / 64 != 2) = true := by simp; omega
      go_wp2
      go_ret2
      exact ⟨ret_2 (HD.out.trans (if_neg (by omega))) rfl rfl, rfl⟩
  · have HD' : Hid (decodeL s.data.toList = (65533, 1)) := by
      show _ = _
      rw [decodeL_N, byte_at s 0 h0, hc, d_4 _ _ _ _ _ hb1 hb2, if_neg (by rw [← size_eq]; omega)]
    have g : (s.size : Int) < 4 := by omega
    clear hc
    go_enter Tryd.func28, Tryd.ntmps28
    go_wp2
    go_ret2
    exact ⟨ret_2 HD'.out rfl rfl, rfl⟩

theorem refRune_any (s : ByteArray) (w : World) (hs : s.size ≤ 1000000) (h0 : 0 < s.size) :
    Calls Tryd.prog 28 #[.string s] w fun e w' => e = .returned (.tuple #[.int .i64 ((decodeL s.data.toList).1 : Int), .int .i64 ((decodeL s.data.toList).2 : Int)]) ∧ w = w' := by
  rcases Nat.lt_or_ge (s[0]'h0).toNat 194 with h | h
  · exact refRune_1 s w hs h0 (.inl h)
  · rcases Nat.lt_or_ge (s[0]'h0).toNat 224 with h2 | h2
    · exact refRune_2 s w hs h0 h h2
    · rcases Nat.lt_or_ge (s[0]'h0).toNat 240 with h3 | h3
      · exact refRune_3 s w hs h0 h2 h3
      · rcases Nat.lt_or_ge (s[0]'h0).toNat 245 with h4 | h4
        · exact refRune_4 s w hs h0 h3 h4
        · exact refRune_1 s w hs h0 (.inr h4)

end Go.Proofs.YtmlonlipieedbaaDoor
