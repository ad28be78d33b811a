/-
  Lower: a text with small letters, byte by byte in memory of its own.
-/
import Derived.Test.YtmlonlipieedbaaDoorTxLower
namespace Go.Proofs.YtmlonlipieedbaaDoor
open Go.RowKit Go.Lib
set_option linter.unusedVariables false

/-- What lies in the row when k bytes are gone over. -/
def mix (l : List UInt8) (k : Nat) : List UInt8 := Tx.lower (l.take k) ++ l.drop k
theorem mix_zero (l : List UInt8) : mix l 0 = l := by simp [mix, Tx.lower]
theorem mix_full (l : List UInt8) : mix l l.length = Tx.lower l := by simp [mix]
theorem mix_len (l : List UInt8) (k : Nat) : (mix l k).length = l.length := by simp [mix, Tx.lower]; omega
theorem mix_step {l : List UInt8} {k : Nat} {b : UInt8} (h : l[k]? = some b) : mix l (k + 1) = (mix l k).set k (Tx.low b) := by
  obtain ⟨hk, e⟩ := List.getElem?_eq_some_iff.1 h
  unfold mix
  have hl : (Tx.lower (l.take k)).length = k := by simp [Tx.lower]; omega
  rw [List.set_append_right _ _ (by omega), hl, Nat.sub_self, List.drop_eq_getElem_cons hk, List.set_cons_zero, List.take_add_one, h]
  simp [Tx.lower]
theorem mix_at {l : List UInt8} {k : Nat} {b : UInt8} (h : l[k]? = some b) : (mix l k)[k]? = some b := by
  have hk : k < l.length := (List.getElem?_eq_some_iff.1 h).1
  unfold mix
  have hl : (Tx.lower (l.take k)).length = k := by simp [Tx.lower]; omega
  rw [List.getElem?_append_right (by omega), hl, Nat.sub_self, List.getElem?_drop]
  exact h
/-- Block g reads as the bytes m, and may be written. -/
def Row8 (w : World) (g : Nat) (m : List UInt8) : Prop := g < w.heap.size ∧ (∀ (j : Nat) (b : UInt8), m[j]? = some b → w.cell? ⟨g, j, none⟩ = some (.int .u8 (b.toNat : Int))) ∧ ∀ j, j < m.length → w.frozen? ⟨g, j, none⟩ = false
theorem Row8.set {w : World} {g : Nat} {m : List UInt8} (h : Row8 w g m) (k : Nat) (hk : k < m.length) (b : UInt8) : Row8 (w.setCell ⟨g, k, none⟩ (.int .u8 (b.toNat : Int))) g (m.set k b) := by
  obtain ⟨h1, h2, h3⟩ := h
  refine ⟨by simpa using h1, fun j x hx => ?_, fun j hj => ?_⟩
  · by_cases hjk : j = k
    · subst hjk
      rw [List.getElem?_set_self hk] at hx
      injection hx with hx
      subst hx
      exact World.cell?_setCell_same _ _ _ (h2 j _ (List.getElem?_eq_getElem hk))
    · rw [List.getElem?_set_ne (fun e => hjk e.symm)] at hx
      rw [World.cell?_setCell_other _ _ _ _ (fun e => hjk (by injection e with _ e _; exact e.symm))]
      exact h2 j x hx
  · rw [World.frozen?_setCell]
    exact h3 j (by simpa using hj)
theorem Row8.back {w : World} {g cap : Nat} {m : List UInt8} (h : Row8 w g m) : (convert 42 9 (.slice (some ⟨g, 0, none⟩) m.length cap)).run Tryd.prog w = .ok (.string (ba m)) w := by
  refine run_convert_bytes_back (P := Tryd.prog) w 42 9 5 ⟨g, 0, none⟩ cap m Tryd.underlying42 Tryd.underlying5 Tryd.underlying9 (fun j hj => ?_)
  have := h.2.1 j m[j] (List.getElem?_eq_getElem hj)
  by_cases hj0 : j = 0
  · subst hj0; simpa [Addr.add] using this
  · simpa [Addr.add, hj0] using this
theorem Row8.made (w : World) (s : ByteArray) (cap : Nat) (hc : s.size ≤ cap) (e : TypeId) : Row8 (w.drew.alloc (.cells (bytesRow s cap) e ((bytesRow s cap).size, (bytesRow s cap).size + 1))) w.heap.size s.data.toList := by
  have hsz : (bytesRow s cap).size = cap := by
    have hd : s.data.size = s.size := rfl
    simp [bytesRow]; omega
  refine ⟨by simp, fun j b hb => ?_, fun j hj => ?_⟩
  · have hj : j < s.data.size := by have := (List.getElem?_eq_some_iff.1 hb).1; simpa using this
    have := World.cell?_alloc_mark w.drew (bytesRow s cap) e ((bytesRow s cap).size, (bytesRow s cap).size + 1) j
    rw [bytesRow_at s cap j hj] at this
    refine Eq.trans this ?_
    have e2 : s.data[j] = b := by
      have h2 := (List.getElem?_eq_some_iff.1 hb).2
      simpa using h2
    rw [e2]
  · have := World.frozen?_alloc_mark w.drew (bytesRow s cap) e ((bytesRow s cap).size) ((bytesRow s cap).size + 1) j
    refine Eq.trans this ?_
    have hj' : j < s.size := by rw [size_eq]; exact hj
    rw [hsz]; simp; omega

set_option maxRecDepth 100000 in
set_option maxHeartbeats 400000 in
theorem lower_any (s : ByteArray) (w : World) (hs : s.size ≤ 1000000) :
    Calls Tryd.prog 19 #[.string s] w fun e w' => e = .returned (.string (ba (Tx.lower s.data.toList))) ∧ Below w.heap.size w w' := by
  have hcv := run_bytes_of_string (P := Tryd.prog) w 9 42 5 s Tryd.underlying9 Tryd.underlying42 Tryd.underlying5
  have hm := Row8.made w s (grownCap w s.size 0 5) (grownCap_ge _ _ _ _) 5
  have hb0 : Below w.heap.size w (w.drew.alloc (.cells (bytesRow s (grownCap w s.size 0 5)) 5 ((bytesRow s (grownCap w s.size 0 5)).size, (bytesRow s (grownCap w s.size 0 5)).size + 1))) := (Below.refl w.heap.size w).drew.alloc (Nat.le_refl _) _
  have hcg := grownCap_ge w s.size 0 5
  have hcm := grownCap_le_maxLen w s.size 0 5 (by unfold maxLen; omega)
  unfold maxLen at hcm
  generalize w.drew.alloc (.cells (bytesRow s (grownCap w s.size 0 5)) 5 ((bytesRow s (grownCap w s.size 0 5)).size, (bytesRow s (grownCap w s.size 0 5)).size + 1)) = w1 at hcv hm hb0
  generalize grownCap w s.size 0 5 = cap at hcv hcg hcm
  have HM := Lib.hid hm
  clear hm
  go_enter Tryd.func19, Tryd.ntmps19
  go_wp2
  clear hcv
  go_loopw [10] (fun i wr => ∃ (k : Nat), i = .int .i64 (k : Int) ∧ k ≤ s.size ∧ Hid (Row8 wr w.heap.size (mix s.data.toList k)) ∧ Below w.heap.size w wr) (fun i _ => s.size - (RowKit.intOf i).toNat)
  case atStart => exact ⟨0, rfl, Nat.zero_le _, by rw [mix_zero]; exact HM, hb0⟩
  case round =>
    obtain ⟨k, rfl, hk, H, hbel⟩ := hrel
    have hsz := hbel.size
    by_cases hlt : k < s.size
    · obtain ⟨b, hb⟩ : ∃ b, s[k]'hlt = b := ⟨_, rfl⟩
      have hat := s_at hlt
      rw [hb] at hat
      have hb256 : b.toNat < 256 := b.toNat_lt
      have hkl : k < (mix s.data.toList k).length := by rw [mix_len, ← size_eq]; exact hlt
      have hc := H.out.2.1 k b (mix_at hat)
      have hf := H.out.2.2 k hkl
      have hln := Tx.low_nat b
      by_cases hg : 65 ≤ b.toNat ∧ b.toNat ≤ 90
      · rw [if_pos hg] at hln
        have gb : grB (b.toNat : Int) = true := by simp [grB]; omega
        have H2 := Lib.hid (H.out.set k hkl (Tx.low b))
        rw [← mix_step hat] at H2
        have g2 : b.toNat ≤ 90 := hg.2
        have e : ((Tx.low b).toNat : Int) = (b.toNat : Int) + 32 := by omega
        rw [e] at H2
        have hb' : Below w.heap.size w (wr.setCell ⟨w.heap.size, k, none⟩ (.int .u8 ((b.toNat : Int) + 32))) := hbel.setCell (Nat.le_refl _) _
        clear hln e hb hat H hg hkl
        go_wp2_with (go_at_call 32; refine (great_any _ _).mono ?_; rintro e w' ⟨rfl, rfl⟩; rw [gb])
        go_roundw
        case rel => exact ⟨k + 1, by go_num, by omega, H2, hb'⟩
        case measure => simp [RowKit.intOf]; omega
      · rw [if_neg hg] at hln
        have gb : grB (b.toNat : Int) = false := by simp [grB]; omega
        have H2 : Hid (Row8 wr w.heap.size (mix s.data.toList (k + 1))) := by
          have e : mix s.data.toList (k + 1) = mix s.data.toList k := by
            rw [mix_step hat]
            have : Tx.low b = b := UInt8.toNat_inj.1 hln
            rw [this]
            exact List.ext_getElem? fun j => by
              by_cases hjk : j = k
              · subst hjk; rw [List.getElem?_set_self hkl, mix_at hat]
              · rw [List.getElem?_set_ne (fun e => hjk e.symm)]
          rw [e]; exact H
        clear hln hb hat H hg hkl
        go_wp2_with (go_at_call 32; refine (great_any _ _).mono ?_; rintro e w' ⟨rfl, rfl⟩; rw [gb])
        go_roundw
        case rel => exact ⟨k + 1, by go_num, by omega, H2, hbel⟩
        case measure => simp [RowKit.intOf]; omega
    · have hk' : k = s.data.toList.length := by rw [← size_eq]; omega
      have hb := H.out.back (cap := cap)
      rw [mix_len, hk', mix_full, ← size_eq] at hb
      clear H HM hk'
      go_wp2
      go_ret
      exact ⟨rfl, hbel⟩

end Go.Proofs.YtmlonlipieedbaaDoor
