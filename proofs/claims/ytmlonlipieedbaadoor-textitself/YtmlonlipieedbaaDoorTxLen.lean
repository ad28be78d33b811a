/-
  Len, Cut and Right: texts gone over rune by rune.
-/
import Derived.Test.YtmlonlipieedbaaDoorTxSmall
import Derived.Lib.RuneCount
import Derived.LoopTactic
import Derived.IntWalk
namespace Go.Proofs.YtmlonlipieedbaaDoor
open Go.RowKit Go.Lib
set_option linter.unusedVariables false

theorem ne_drop {s : ByteArray} {pos : Nat} (h : pos < s.size) : s.data.toList.drop pos ≠ [] := by
  intro e
  have := congrArg List.length e
  rw [List.length_drop, ← size_eq, List.length_nil] at this
  omega
theorem P_at {s : ByteArray} {pos : Nat} (h : pos < s.size) : Tx.P (s.data.toList.drop pos) = Utf8.decode s pos :: Tx.P (s.data.toList.drop (pos + (Utf8.decode s pos).2)) := by
  rw [Tx.P_step _ (ne_drop h), decodeL_drop, List.drop_drop]
theorem P_end {s : ByteArray} {pos : Nat} (h : ¬ pos < s.size) : Tx.P (s.data.toList.drop pos) = [] := by
  rw [List.drop_eq_nil_of_le (by rw [← size_eq]; omega)]; rfl
theorem wd_le {s : ByteArray} {pos : Nat} (h : pos < s.size) : 1 ≤ (Utf8.decode s pos).2 ∧ pos + (Utf8.decode s pos).2 ≤ s.size ∧ (Utf8.decode s pos).2 ≤ 4 := by
  have := Tx.dec_pos _ (ne_drop h)
  rw [decodeL_drop, List.length_drop, ← size_eq] at this
  omega
theorem rn_le (s : ByteArray) (pos : Nat) : (Utf8.decode s pos).1 ≤ 1114111 := by
  have := Tx.dec_le (s.data.toList.drop pos)
  rwa [decodeL_drop] at this

set_option maxRecDepth 100000 in
theorem len_any (s : ByteArray) (w : World) (hs : s.size ≤ 1000000) :
    Calls Tryd.prog 13 #[.string s] w fun e w' => e = .returned (.int .i64 ((Tx.P s.data.toList).length : Int)) ∧ Below w.heap.size w w' := by
  go_enter Tryd.func13, Tryd.ntmps13
  go_wp2
  go_loopw [3] (fun n wr => ∃ (pos acc : Nat), wr = w.iter s pos ∧ n = .int .i64 (acc : Int) ∧ pos ≤ s.size ∧ acc ≤ pos ∧ Hid (acc + (Tx.P (s.data.toList.drop pos)).length = (Tx.P s.data.toList).length)) (fun _ wr => s.size - wr.iterPos w.heap.size)
  case atStart => exact ⟨0, 0, rfl, rfl, Nat.zero_le _, Nat.le_refl _, by show _ = _; simp⟩
  case round =>
    obtain ⟨pos, acc, rfl, rfl, hps, hap, H⟩ := hrel
    by_cases hp : pos < s.size
    · have hnx : ∀ ty, (Instr.next (.pointer (some ⟨w.heap.size, 0, none⟩)) true ty).run Tryd.prog (w.iter s pos) = _ := fun ty => run_next_any w s pos ty hp
      have hwd := wd_le hp
      have H2 : Hid (acc + 1 + (Tx.P (s.data.toList.drop (pos + (Utf8.decode s pos).2))).length = (Tx.P s.data.toList).length) := by
        show _ = _
        rw [← H.out, P_at hp, List.length_cons]; omega
      go_wp2
      go_roundw
      case rel => exact ⟨pos + (Utf8.decode s pos).2, acc + 1, rfl, by go_num, hwd.2.1, by omega, H2⟩
      case measure => simp; omega
    · have hnx : ∀ ty, (Instr.next (.pointer (some ⟨w.heap.size, 0, none⟩)) true ty).run Tryd.prog (w.iter s pos) = _ := fun ty => run_next_end w s pos ty hp
      go_wp2
      go_ret
      exact ⟨ret_i64 (by have := H.out; rw [P_end hp] at this; simp at this; omega), (Below.refl _ _).alloc (Nat.le_refl _) _⟩

def ba (l : List UInt8) : ByteArray := ⟨l.toArray⟩
theorem ba_list (s : ByteArray) : ba s.data.toList = s := by cases s; rfl
theorem ba_data (l : List UInt8) : (ba l).data.toList = l := rfl
theorem ext_ba (s : ByteArray) (i j : Nat) : s.extract i j = ba ((s.data.toList.drop i).take (j - i)) := by
  rw [← ba_list (s.extract i j), extract_data]
theorem ba_size (l : List UInt8) : (ba l).size = l.length := by rw [size_eq]; rfl

set_option maxRecDepth 100000 in
set_option maxHeartbeats 400000 in
theorem cut_any (s : ByteArray) (n : Int) (w : World) (hs : s.size ≤ 1000000) (hn : n ≤ 9223372036854775807) :
    Calls Tryd.prog 14 #[.string s, .int .i64 n] w fun e w' => e = .returned (.string (ba (Tx.cut s.data.toList n.toNat))) ∧ Below w.heap.size w w' := by
  go_enter Tryd.func14, Tryd.ntmps14
  go_wp2
  go_loopw [1] (fun x wr => ∃ (pos j : Nat), wr = w.iter s pos ∧ x = .int .i64 (n - (j : Int)) ∧ pos ≤ s.size ∧ j ≤ pos ∧ j ≤ n.toNat ∧ Hid (pos = Tx.cutW s.data.toList j)) (fun _ wr => s.size - wr.iterPos w.heap.size)
  case atStart => exact ⟨0, 0, rfl, by go_num, Nat.zero_le _, Nat.le_refl _, Nat.zero_le _, rfl⟩
  case round =>
    obtain ⟨pos, j, rfl, rfl, hps, hjp, hjn, H⟩ := hrel
    by_cases hp : pos < s.size
    · have hnx : ∀ ty, (Instr.next (.pointer (some ⟨w.heap.size, 0, none⟩)) true ty).run Tryd.prog (w.iter s pos) = _ := fun ty => run_next_any w s pos ty hp
      have hwd := wd_le hp
      by_cases hlt : n - (j : Int) < 1
      · have HE : Hid (s.extract 0 pos = ba (Tx.cut s.data.toList n.toNat)) := by
          show _ = _
          rw [ext_ba]
          have : n.toNat = j := by omega
          rw [this, Tx.cut, ← H.out]; rfl
        go_wp2
        go_ret
        exact ⟨ret_str HE.out, (Below.refl _ _).alloc (Nat.le_refl _) _⟩
      · have H2 : Hid (pos + (Utf8.decode s pos).2 = Tx.cutW s.data.toList (j + 1)) := by
          show _ = _
          have e : Tx.P (s.data.toList.drop pos) = (Tx.P s.data.toList).drop j := by rw [H.out]; exact Tx.P_drop_cut j _
          rw [P_at hp] at e
          have hj : j < (Tx.P s.data.toList).length := by
            have := congrArg List.length e
            rw [List.length_cons, List.length_drop] at this; omega
          unfold Tx.cutW
          rw [List.take_add_one, List.getElem?_eq_getElem hj]
          have hg : (Tx.P s.data.toList)[j] = Utf8.decode s pos := by
            rw [List.drop_eq_getElem_cons hj] at e
            injection e with e1 e2
            exact e1.symm
          rw [hg]
          have : Tx.wid ((Tx.P s.data.toList).take j) = pos := H.out.symm
          rw [Tx.wid_snoc, this]
        go_wp2
        go_roundw
        case rel => exact ⟨pos + (Utf8.decode s pos).2, j + 1, rfl, by go_num, hwd.2.1, by omega, by omega, H2⟩
        case measure => simp; omega
    · have hnx : ∀ ty, (Instr.next (.pointer (some ⟨w.heap.size, 0, none⟩)) true ty).run Tryd.prog (w.iter s pos) = _ := fun ty => run_next_end w s pos ty hp
      have HE : Hid (s = ba (Tx.cut s.data.toList n.toNat)) := by
        show _ = _
        have h1 := Tx.wid_take_le (Tx.P s.data.toList) j n.toNat hjn
        have h2 : Tx.wid ((Tx.P s.data.toList).take j) = pos := H.out.symm
        rw [Tx.cut, List.take_of_length_le (by rw [← size_eq]; unfold Tx.cutW; omega), ba_list]
      go_wp2
      go_ret
      exact ⟨ret_str HE.out, (Below.refl _ _).alloc (Nat.le_refl _) _⟩

def rightB (l : List UInt8) : Bool := validD l && (Tx.rns l).all fun (r : Nat) => !stB (r : Int)
def Tabs (w : World) : Prop := Lib.Utf8Tabs (Tryd.lays196_ren.g 3) (Tryd.lays196_ren.g 4) w
theorem Tabs.below {w w' : World} (h : Tabs w) (hb : Below w.heap.size w w') : Tabs w' := Utf8Tabs_below h hb
set_option maxRecDepth 100000 in
set_option maxHeartbeats 400000 in
theorem right_any (s : ByteArray) (w : World) (hs : s.size ≤ 1000000) (hT : Tabs w) :
    Calls Tryd.prog 11 #[.string s] w fun e w' => e = .returned (.bool (rightB s.data.toList)) ∧ Below w.heap.size w w' := by
  have cV := Lib.hid (Tryd.utf8_ValidString s w (by omega) hT)
  clear hT
  cases hv : validD s.data.toList with
  | false =>
    have e : rightB s.data.toList = false := by unfold rightB; rw [hv]; rfl
    rw [e]
    rw [hv] at cV
    clear e hv
    go_enter Tryd.func11, Tryd.ntmps11
    go_wp2_with (go_at_call 29; refine cV.out.mono ?_; rintro e w' ⟨rfl, hb⟩)
    go_ret
    exact ⟨rfl, hb⟩
  | true =>
    have HE : Hid (rightB s.data.toList = (Tx.rns s.data.toList).all fun (r : Nat) => !stB (r : Int)) := by show _ = _; unfold rightB; rw [hv]; rfl
    rw [hv] at cV
    clear hv
    go_enter Tryd.func11, Tryd.ntmps11
    go_wp2_with (go_at_call 29; refine cV.out.mono ?_; rintro e w1 ⟨rfl, hb⟩)
    go_loopw [] (fun wr => ∃ (pos : Nat), wr = w1.iter s pos ∧ pos ≤ s.size ∧ Hid (((Tx.rns s.data.toList).all fun (r : Nat) => !stB (r : Int)) = ((Tx.rns (s.data.toList.drop pos)).all fun (r : Nat) => !stB (r : Int)))) (fun wr => s.size - wr.iterPos w1.heap.size)
    case atStart => exact ⟨0, rfl, Nat.zero_le _, by show _ = _; rw [List.drop_zero]⟩
    case round =>
      obtain ⟨pos, rfl, hps, H⟩ := hrel
      have hbb : Below w.heap.size w (w1.iter s pos) := hb.alloc hb.size _
      by_cases hp : pos < s.size
      · have hnx : ∀ ty, (Instr.next (.pointer (some ⟨w1.heap.size, 0, none⟩)) true ty).run Tryd.prog (w1.iter s pos) = _ := fun ty => run_next_any w1 s pos ty hp
        have hwd := wd_le hp
        have hr : Tx.rns (s.data.toList.drop pos) = (Utf8.decode s pos).1 :: Tx.rns (s.data.toList.drop (pos + (Utf8.decode s pos).2)) := by unfold Tx.rns; rw [P_at hp]; rfl
        cases hst : stB ((Utf8.decode s pos).1 : Int) with
        | true =>
          have HF : Hid (rightB s.data.toList = false) := by show _ = _; rw [HE.out, H.out, hr, List.all_cons, hst]; rfl
          clear hr
          go_wp2_with (go_at_call 30; refine (steers_any _ _).mono ?_; rintro e w' ⟨rfl, rfl⟩; rw [hst])
          go_ret
          exact ⟨by rw [HF.out]; rfl, hb.alloc hb.size _⟩
        | false =>
          have H2 : Hid (((Tx.rns s.data.toList).all fun (r : Nat) => !stB (r : Int)) = ((Tx.rns (s.data.toList.drop (pos + (Utf8.decode s pos).2))).all fun (r : Nat) => !stB (r : Int))) := by
            show _ = _; rw [H.out, hr, List.all_cons, hst]; rfl
          clear hr
          go_wp2_with (go_at_call 30; refine (steers_any _ _).mono ?_; rintro e w' ⟨rfl, rfl⟩; rw [hst])
          go_roundw
          case rel => exact ⟨pos + (Utf8.decode s pos).2, rfl, hwd.2.1, H2⟩
          case measure => simp; omega
      · have hnx : ∀ ty, (Instr.next (.pointer (some ⟨w1.heap.size, 0, none⟩)) true ty).run Tryd.prog (w1.iter s pos) = _ := fun ty => run_next_end w1 s pos ty hp
        have HF : Hid (rightB s.data.toList = true) := by show _ = _; rw [HE.out, H.out]; unfold Tx.rns; rw [P_end hp]; rfl
        go_wp2
        go_ret
        exact ⟨by rw [HF.out]; rfl, hbb⟩

end Go.Proofs.YtmlonlipieedbaaDoor
