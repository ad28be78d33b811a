/-
  The document's New.
-/
import Derived.Test.YtbfofhgnamheeaaRpFreeNone
import Derived.Test.YtbfofhgnamheeaaRpFreeLt
import Derived.Test.YtbfofhgnamheeaaRpFreeEnd
import Derived.Test.YtbfofhgnamheeaaPoNew
namespace Go.Proofs.Ytbfofhgnamheeaa.Pq
open Go.RowKit
set_option linter.unusedVariables false

theorem rfree_any (w : World) (q : Nat) (v : Value) (d : Pl.Pd) (no : Int) (g : Nat) (h : Rf w q v d) (hi : I64 no) (hg : g < 18446744073709551616) :
    Calls Try.prog 15 #[.pointer (some ⟨q, 0, none⟩), .int .i64 no, .int .u64 (g : Int)] w fun e w' => e = .returned (.int .i64 (Pl.freeCode d no)) ∧ (∃ v', Rf w' q v' (Pl.free d no g)) ∧ Off (fun k => k = q) w w' := by
  by_cases h0 : v = .slice none 0 0
  · exact rfreeNone w q v d no g h h0 hi hg
  · by_cases h1 : Pl.pos d.l no < d.l.length
    · exact rfreeLt w q v d no g h h1 hi hg
    · exact rfreeEnd w q v d no g h ⟨h0, h1⟩ hi hg
/-- What the document's New leaves. -/
def RNewSays (w : World) (o : Option Pl.Pd) (e : Ending) (w' : World) : Prop :=
  ∃ q, e = .returned (newV o q) ∧ (∀ d, o = some d → (∃ v, Rf w' q v d) ∧ w.heap.size ≤ q) ∧ Below w.heap.size w w'
theorem rsays_none {w w' : World} {o : Option Pl.Pd} (h : o = none) (hb : Below w.heap.size w w') : RNewSays w o (.returned (.tuple #[.pointer none, .int .i64 1])) w' := by
  subst h; exact ⟨0, rfl, fun d hd => (by cases hd), hb⟩
theorem rsays_some {w w' : World} {o : Option Pl.Pd} {d : Pl.Pd} {q : Nat} {v : Value} (h : o = some d) (hR : Rf w' q v d) (hq : w.heap.size ≤ q) (hb : Below w.heap.size w w') : RNewSays w o (.returned (.tuple #[.pointer (some ⟨q, 0, none⟩), .int .i64 0])) w' := by
  subst h; exact ⟨q, rfl, fun d' hd => by injection hd with hd; subst hd; exact ⟨⟨_, hR⟩, hq⟩, hb⟩
theorem rf_made (w : World) {cap high : Int} (h : 2 ≤ high ∧ high ≤ cap ∧ cap ≤ 2048) : Rf (w.alloc (.cells #[.int .i64 cap, .int .i64 high, .slice none 0 0] 44)) w.heap.size (.slice none 0 0) ⟨cap, high, []⟩ :=
  ⟨heap_alloc_new w _, World.ownsRow_nil _ _ _ _, zero_ok h⟩

set_option maxRecDepth 100000 in
set_option maxHeartbeats 1000000 in
theorem rnew_any (w : World) (cap high : Int) (A : Option Addr) (n c : Nat) (l : List Pl.F) (h : Fs w A n c l) (hi : I64 cap ∧ I64 high) (hn : n ≤ 100) :
    Calls Try.prog 11 #[.int .i64 cap, .int .i64 high, .slice A n c] w (RNewSays w (newOf cap high l)) := by
  have H := Lib.hid h
  have hl := h.1
  have hcm := h.2.2.1
  have hnc := h.2.1
  unfold maxLen at hcm
  unfold I64 at hi
  clear h
  by_cases h2 : 2 ≤ high ∧ high ≤ cap ∧ cap ≤ 2048
  · have hN : newOf cap high l = addAll ⟨cap, high, []⟩ l := by unfold newOf; rw [if_pos h2]
    rw [hN]
    have HP0 := Lib.hid (rf_made w h2)
    have HB0 := Lib.hid ((Below.refl _ w).alloc (Nat.le_refl _) (.cells #[.int .i64 cap, .int .i64 high, .slice none 0 0] 44))
    obtain ⟨h2a, h2b, h2c⟩ := h2
    have z1 : ¬ high < 2 := by omega
    have z2 : ¬ cap < high := by omega
    have z3 : ¬ (2048 : Int) < cap := by omega
    clear hN
    go_enter Try.func11, Try.ntmps11
    go_wp2_with fail
    go_loopw [9] (fun i wr => ∃ (k : Nat) (e : Pl.Pd) (v : Value), k ≤ n ∧ i = .int .i64 (k : Int) ∧ Rf wr w.heap.size v e ∧ addAll ⟨cap, high, []⟩ l = addAll e (l.drop k) ∧ Below w.heap.size w wr) (fun i _ => n - (intOf i).toNat)
    case atStart => exact ⟨0, _, _, Nat.zero_le _, rfl, HP0.out, by rw [List.drop_zero], HB0.out⟩
    case round =>
      obtain ⟨k, e, v, hk, rfl, hP, hA, hb⟩ := hrel
      by_cases hlt : k < n
      · have z5 : (k : Int) < (n : Int) := by omega
        obtain ⟨b, off, f, rfl, hbl0, hf0, hin0, _, _⟩ := H.out.get hlt
        obtain ⟨b', off', f', hA', hbl, hf, hin, q0, q1⟩ := (H.out.on hb).get hlt
        injection hA' with hA'
        injection hA' with hA1 hA2
        subst hA1 hA2
        have hPd : Rf wr.drew w.heap.size v e := hP.off (S := fun _ => False) ((Off.refl _ wr).drew) id fun _ _ h => h
        have CF := Lib.hid (rfree_any wr.drew _ _ e f'.1 f'.2 hPd hin.1 hin.2)
        have hst := addAll_step (d := e) hf
        have hbn : b ≠ w.heap.size := by omega
        have HBN := Lib.hid hbn
        have HBL := Lib.hid hbl
        have HQ := Lib.hid (And.intro q0 q1)
        have keep : Hid (∀ w2 : World, Off (fun j => j = w.heap.size) wr.drew w2 → w2.cell? ⟨b, off + k * 2, none⟩ = some (.int .i64 f'.1) ∧ w2.cell? ⟨b, off + k * 2 + 1, none⟩ = some (.int .u64 (f'.2 : Int))) := fun w2 ho => by
          have hblk : w2.heap[b]? = wr.heap[b]? := ho.block b HBL.out HBN.out
          obtain ⟨c0, c1⟩ := HQ.out
          unfold World.cell? at *
          simp only at *
          rw [hblk]
          exact ⟨c0, c1⟩
        by_cases hc : Pl.freeCode e f'.1 = 0
        · rw [if_pos hc] at hst
          rw [hc] at CF
          have HH := Lib.hid (And.intro hb (And.intro hA hst))
          clear hst hc hP hA hb hf hin hbl hPd hf0 hin0 hbl0 hbn
          go_wp2_with fail
          go_region_held3 (fun w' => w'.cell? ⟨b, off + k * 2, none⟩ = some (.int .i64 f'.1) ∧ w'.cell? ⟨b, off + k * 2 + 1, none⟩ = some (.int .u64 (f'.2 : Int))) (first | assumption | exact ⟨q0, q1⟩ | go_keep)
            (first | (go_at_call 15; refine CF.out.mono ?_; rintro e' w2 ⟨rfl, hP3, ho3⟩; have S3 : (fun w' : World => w'.cell? ⟨b, off + k * 2, none⟩ = some (.int .i64 f'.1) ∧ w'.cell? ⟨b, off + k * 2 + 1, none⟩ = some (.int .u64 (f'.2 : Int))) w2 := keep.out w2 ho3))
          all_goals
            obtain ⟨hb2, hA, hst⟩ := HH.out
            obtain ⟨v3, hP3⟩ := hP3
            have hbd : Below w.heap.size w wr.drew := below_drewN hb2 1
            have hb3 : Below w.heap.size w w2 := hbd.trans (ho3.below (B := w.heap.size) (by rintro x rfl; exact Nat.le_refl _) hbd.size)
            clear ho3 S3
            go_wp2
            go_roundw
            case rel => exact ⟨k + 1, _, _, by omega, by go_num, hP3, hA.trans hst, hb3⟩
            case measure => simp [intOf]; omega
        · rw [if_neg hc] at hst
          have hcn : (Pl.freeCode e f'.1 != 0) = true := by simpa using hc
          have HH := Lib.hid (And.intro hb (And.intro hA hst))
          clear hst hP hA hb hf hin hbl hPd hf0 hin0 hbl0 hbn hc
          go_wp2_with fail
          go_region_held3 (fun w' => w'.cell? ⟨b, off + k * 2, none⟩ = some (.int .i64 f'.1) ∧ w'.cell? ⟨b, off + k * 2 + 1, none⟩ = some (.int .u64 (f'.2 : Int))) (first | assumption | exact ⟨q0, q1⟩ | go_keep)
            (first | (go_at_call 15; refine CF.out.mono ?_; rintro e' w2 ⟨rfl, hP3, ho3⟩; have S3 : (fun w' : World => w'.cell? ⟨b, off + k * 2, none⟩ = some (.int .i64 f'.1) ∧ w'.cell? ⟨b, off + k * 2 + 1, none⟩ = some (.int .u64 (f'.2 : Int))) w2 := keep.out w2 ho3))
          all_goals
            obtain ⟨hb2, hA, hst⟩ := HH.out
            have hbd : Below w.heap.size w wr.drew := below_drewN hb2 1
            have HX := Lib.hid (And.intro hA (And.intro hst (hbd.trans (ho3.below (B := w.heap.size) (by rintro x rfl; exact Nat.le_refl _) hbd.size))))
            clear hA hst hb2 hbd hP3 ho3 S3
            go_wp2
            go_ret2
            obtain ⟨hA, hst, hb3⟩ := HX.out
            exact rsays_none (hA.trans hst) hb3
      · have z5 : ¬ ((k : Int) < (n : Int)) := by omega
        rw [List.drop_eq_nil_of_le (by omega)] at hA
        have HX := Lib.hid (And.intro hA (And.intro hP hb))
        clear hA hP hb
        go_wp2
        go_ret2
        obtain ⟨hA, hP, hb⟩ := HX.out
        exact rsays_some hA hP (Nat.le_refl _) hb
  · have hN : newOf cap high l = none := by unfold newOf; rw [if_neg h2]
    rw [hN]
    by_cases z3 : (2048 : Int) < cap
    · clear hN h2
      go_enter Try.func11, Try.ntmps11
      go_wp2
      go_ret2
      exact rsays_none rfl (Below.refl _ _)
    · by_cases z1 : high < 2
      · clear hN h2
        go_enter Try.func11, Try.ntmps11
        go_wp2
        go_ret2
        exact rsays_none rfl (Below.refl _ _)
      · have z2 : cap < high := by omega
        clear hN h2
        go_enter Try.func11, Try.ntmps11
        go_wp2
        go_ret2
        exact rsays_none rfl (Below.refl _ _)

end Go.Proofs.Ytbfofhgnamheeaa.Pq
