/-
  Small letters: the document's Lower, and Lower.
-/
import Derived.Test.YtmlonlipieedbaaDoorTxTexts
namespace Go.Proofs.YtmlonlipieedbaaDoor
open Go.RowKit Go.Lib
set_option linter.unusedVariables false

theorem app_data (a b : ByteArray) : (a ++ b).data.toList = a.data.toList ++ b.data.toList := by simp
theorem u8_of (b : UInt8) : UInt8.ofNat b.toNat = b := by simp
theorem back_one {W : World} (b : UInt8) : (convert 42 9 (.slice (some ⟨W.heap.size, 0, none⟩) 1 1)).run Tryd.prog (W.alloc (.cells #[.int .u8 (b.toNat : Int)] 5)) = .ok (.string ⟨#[b]⟩) (W.alloc (.cells #[.int .u8 (b.toNat : Int)] 5)) := by
  refine run_convert_bytes_back (P := Tryd.prog) (W.alloc (.cells #[.int .u8 (b.toNat : Int)] 5)) 42 9 5 ⟨W.heap.size, 0, none⟩ 1 [b] Tryd.underlying42 Tryd.underlying5 Tryd.underlying9 (fun j hj => ?_)
  have hj0 : j = 0 := by simp at hj; omega
  subst hj0
  exact cell_one W _ _ 0 _ rfl
theorem s_at {s : ByteArray} {k : Nat} (h : k < s.size) : s.data.toList[k]? = some (s[k]'h) := by
  rw [List.getElem?_eq_getElem (by rw [← size_eq]; exact h)]; rfl

set_option maxRecDepth 100000 in
set_option maxHeartbeats 400000 in
theorem refLower_any (s : ByteArray) (w : World) (hs : s.size ≤ 1000000) :
    Calls Tryd.prog 20 #[.string s] w fun e w' => e = .returned (.string (ba (Tx.lower s.data.toList))) ∧ Below w.heap.size w w' := by
  go_enter Tryd.func20, Tryd.ntmps20
  go_wp2
  go_loopw [3, 4] (fun out i wr => ∃ (k : Nat) (o : ByteArray), i = .int .i64 (k : Int) ∧ k ≤ s.size ∧ out = .string o ∧ o.size ≤ k ∧ Hid (o.data.toList = Tx.lower (s.data.toList.take k)) ∧ Below w.heap.size w wr) (fun _ i _ => s.size - (RowKit.intOf i).toNat)
  case atStart => exact ⟨0, ⟨#[]⟩, rfl, Nat.zero_le _, rfl, Nat.le_refl _, rfl, Below.refl _ _⟩
  case round =>
    obtain ⟨k, o, rfl, hk, rfl, ho, H, hbel⟩ := hrel
    have hsz := hbel.size
    by_cases hlt : k < s.size
    · obtain ⟨b, hb⟩ : ∃ b, s[k]'hlt = b := ⟨_, rfl⟩
      have hbi : (((s[k]'hlt).toNat : Nat) : Int) = (b.toNat : Int) := by rw [hb]
      have hb256 : b.toNat < 256 := b.toNat_lt
      have H2 : Hid ((o ++ ⟨#[Tx.low b]⟩ : ByteArray).data.toList = Tx.lower (s.data.toList.take (k + 1))) := by
        show _ = _
        rw [app_data, H.out, take_snoc (s_at hlt), hb]; simp [Tx.lower]
      have hsize : (o ++ ⟨#[Tx.low b]⟩ : ByteArray).size ≤ k + 1 := by rw [ByteArray.size_append]; show o.size + 1 ≤ k + 1; omega
      have hback := back_one (W := wr) (Tx.low b)
      have hln := Tx.low_nat b
      have hb' : Below w.heap.size w (wr.alloc (.cells #[.int .u8 ((Tx.low b).toNat : Int)] 5)) := hbel.alloc hsz _
      clear hb H
      by_cases hg : 65 ≤ b.toNat ∧ b.toNat ≤ 90
      · rw [if_pos hg] at hln
        obtain ⟨g1, g2⟩ := hg
        have g1' : 65 ≤ (b.toNat : Int) := by omega
        have g2' : (b.toNat : Int) ≤ 90 := by omega
        have e : ((Tx.low b).toNat : Int) = (b.toNat : Int) + 32 := by omega
        rw [e] at hback hb'
        clear hln e
        go_wp2
        go_roundw
        case rel => exact ⟨k + 1, _, by go_num, by omega, rfl, hsize, H2, hb'⟩
        case measure => simp [RowKit.intOf]; omega
      · rw [if_neg hg] at hln
        rw [hln] at hback hb'
        clear hln
        by_cases g1 : 65 ≤ (b.toNat : Int)
        · have g2 : ¬ (b.toNat : Int) ≤ 90 := by omega
          clear hg
          go_wp2
          go_roundw
          case rel => exact ⟨k + 1, _, by go_num, by omega, rfl, hsize, H2, hb'⟩
          case measure => simp [RowKit.intOf]; omega
        · clear hg
          go_wp2
          go_roundw
          case rel => exact ⟨k + 1, _, by go_num, by omega, rfl, hsize, H2, hb'⟩
          case measure => simp [RowKit.intOf]; omega
    · have HE : Hid (o = ba (Tx.lower s.data.toList)) := by
        show _ = _
        rw [← ba_list o, H.out, List.take_of_length_le (by rw [← size_eq]; omega)]
      go_wp2
      go_ret
      exact ⟨ret_str HE.out, hbel⟩

end Go.Proofs.YtmlonlipieedbaaDoor
