/-
  The document's Free: the walk.
-/
import Derived.Test.YtbfofhgnamheeaaRpFree
namespace Go.Proofs.Ytbfofhgnamheeaa.Pq
open Go.RowKit
set_option linter.unusedVariables false

set_option maxRecDepth 100000 in
set_option maxHeartbeats 20000000 in
theorem rfreeLt (w : World) (q : Nat) (v : Value) (d : Pl.Pd) (no : Int) (g : Nat) (h : Rf w q v d) (hcase : Pl.pos d.l no < d.l.length) (hi : I64 no) (hg : g < 18446744073709551616) :
    Calls Try.prog 15 #[.pointer (some ⟨q, 0, none⟩), .int .i64 no, .int .u64 (g : Int)] w fun e w' => e = .returned (.int .i64 (Pl.freeCode d no)) ∧ (∃ v', Rf w' q v' (Pl.free d no g)) ∧ Off (fun k => k = q) w w' := by
  have H := Lib.hid h
  have HCS := Lib.hid hcase
  clear hcase
  have c1 := h.c1
  have c2 := h.c2
  have hfew := h.few
  by_cases h2 : no < 2
  · have hf : Pl.freeCode d no = 1 := by unfold Pl.freeCode; rw [if_pos (.inl h2)]
    have hfr : Pl.free d no g = d := by unfold Pl.free; rw [hf, if_neg (by decide)]
    rw [hf, hfr]
    clear h hf hfr hi hg c2
    go_enter Try.func15, Try.ntmps15
    go_wp2
    go_ret
    exact ⟨rfl, ⟨_, H.out⟩, Off.refl _ _⟩
  by_cases h3 : d.high ≤ no
  · have hf : Pl.freeCode d no = 1 := by unfold Pl.freeCode; rw [if_pos (.inr h3)]
    have hfr : Pl.free d no g = d := by unfold Pl.free; rw [hf, if_neg (by decide)]
    rw [hf, hfr]
    clear h hf hfr hi hg c2
    go_enter Try.func15, Try.ntmps15
    go_wp2
    go_ret
    exact ⟨rfl, ⟨_, H.out⟩, Off.refl _ _⟩
  have hor : ¬ (no < 2 ∨ d.high ≤ no) := by omega
  obtain ⟨A, c, rfl, hF⟩ := h.fs
  have hnc := hF.2.1
  have hcm := hF.2.2.1
  unfold maxLen at hcm
  have HF := Lib.hid hF
  have HR := Lib.hid h.ok.rises
  have hpl := Pl.pos_le d.l no
  obtain ⟨i, hip⟩ : ∃ i, i = Pl.pos d.l no := ⟨_, rfl⟩
  have HI := Lib.hid hip
  rw [← hip] at hpl
  obtain ⟨n, hn⟩ : ∃ n, n = d.l.length := ⟨_, rfl⟩
  have HNn := Lib.hid hn
  rw [← hn] at hF hfew hnc HF hpl c2 H
  clear hF
  have HC : Hid (∀ (k : Nat) (f : Pl.F), d.l[k]? = some f → (k < i ↔ f.1 < no)) := fun k f hf => by rw [HI.out]; exact pos_lt HR.out hf
  have HO := Lib.hid hor
  have HG := Lib.hid (And.intro hi hg)
  have HQ := H
  clear h hip hn hor hi hg
  go_enter Try.func15, Try.ntmps15
  go_upto_block 0 with fail
  go_cut [7] from 18 to 38 (fun v7 wx => v7 = .int .i64 (i : Int) ∧ wx = w)
  case first =>
    go_wp2_with fail
    go_loopw [7] (fun x wr => ∃ k : Nat, k ≤ i ∧ x = .int .i64 (k : Int) ∧ wr = w) (fun x _ => n - (intOf x).toNat)
    case atStart => exact ⟨0, Nat.zero_le _, rfl, rfl⟩
    case round =>
      obtain ⟨k, hk, rfl, rfl⟩ := hrel
      by_cases hlt : k < n
      · have z1 : (k : Int) < (n : Int) := by omega
        obtain ⟨b, off, f, rfl, hbl, hf, hin, q0, q1⟩ := HF.out.get hlt
        have hc := HC.out k f hf
        clear hf hin q1
        by_cases hki : k < i
        · have z2 : f.1 < no := hc.1 hki
          clear hc
          go_wp2
          go_roundw
          case rel => exact ⟨k + 1, by omega, by go_num, by trivial⟩
          case measure => simp [intOf]; omega
        · have z2 : ¬ f.1 < no := fun hh => hki (hc.2 hh)
          have hke : k = i := by omega
          subst hke
          clear hc
          go_wp2
          go_meet
          exact ⟨rfl, rfl⟩
      · have z1 : ¬ ((k : Int) < (n : Int)) := by omega
        have z1' : decide ((k : Int) < (n : Int)) = false := by simp; omega
        have hke : k = i := by omega
        subst hke
        go_wp2
        go_meet
        exact ⟨rfl, rfl⟩
  case rest =>
    obtain ⟨rfl, rfl⟩ := hcut
    obtain ⟨w, hw⟩ : ∃ w0 : World, w0 = wc := ⟨_, rfl⟩
    subst hw
    by_cases hx : Pl.look d.l no = none
    · have hf : Pl.freeCode d no = 0 := by unfold Pl.freeCode; rw [if_neg HO.out, hx]; rfl
      have hfr : Pl.free d no g = { d with l := Pl.ins d.l no g } := by unfold Pl.free; rw [hf, if_pos rfl]
      have hok := Pl.free_ok HQ.out.ok no g HG.out.2
      rw [hfr] at hok
      have HK := Lib.hid hok
      have HFR := Lib.hid (And.intro hf hfr)
      have HN : Hid (In (no, g)) := HG.out
      have hnone := Pl.look_none.1 hx
      have h := HQ.out
      have BE0 : Below w.heap.size w (w.alloc (.cells #[] 57)) := (Below.refl _ w).alloc (Nat.le_refl _) _
      have BN0 : Below w.heap.size w (w.alloc (.cells #[.int .i64 no, .int .u64 (g : Int)] 57)) := (Below.refl _ w).alloc (Nat.le_refl _) _
      have BEN0 := BE0.alloc BE0.size (.cells #[.int .i64 no, .int .u64 (g : Int)] 57)
      have BNE0 := BN0.alloc BN0.size (.cells #[] 57)
      have hqE := (h.on BE0).c2
      have hqN := (h.on BN0).c2
      have hqEN := (h.on BEN0).c2
      have hqNE := (h.on BNE0).c2
      have OE : Hid ((w.alloc (.cells #[] 57)).drew.ownsRow w.heap.size 57 2 (.slice (some ⟨w.heap.size, 0, none⟩) 0 0) ([] : List Pl.F).length (fc [])) := own_empty w
      have OEN : Hid (((w.alloc (.cells #[] 57)).alloc (.cells #[.int .i64 no, .int .u64 (g : Int)] 57)).drew.ownsRow w.heap.size 57 2 (.slice (some ⟨w.heap.size, 0, none⟩) 0 0) ([] : List Pl.F).length (fc [])) := World.ownsRow.alloc (own_empty w) _
      have ONE : Hid (((w.alloc (.cells #[.int .i64 no, .int .u64 (g : Int)] 57)).alloc (.cells #[] 57)).drew.ownsRow w.heap.size 57 2 (.slice (some ⟨w.heap.size + 1, 0, none⟩) 0 0) ([] : List Pl.F).length (fc [])) := own_empty' (w.alloc (.cells #[.int .i64 no, .int .u64 (g : Int)] 57)) (by simp) (by omega)
      have NEN : Hid (Fs ((w.alloc (.cells #[] 57)).alloc (.cells #[.int .i64 no, .int .u64 (g : Int)] 57)).drew (some ⟨w.heap.size + 1, 0, none⟩) 1 1 [(no, g)]) := fs_new' (w.alloc (.cells #[] 57)) (by simp) (no, g) HN.out
      have NNE0 : Fs ((w.alloc (.cells #[.int .i64 no, .int .u64 (g : Int)] 57)).alloc (.cells #[] 57)) (some ⟨w.heap.size, 0, none⟩) 1 1 [(no, g)] := (fs_new' w rfl (no, g) HN.out).on ((Below.refl _ _).alloc (Nat.le_refl _) _)
      have NNE : Hid (Fs ((w.alloc (.cells #[.int .i64 no, .int .u64 (g : Int)] 57)).alloc (.cells #[] 57)).drew (some ⟨w.heap.size, 0, none⟩) 1 1 [(no, g)]) := NNE0
      clear NNE0
      have BE : Hid (Below w.heap.size w (w.alloc (.cells #[] 57)).drew) := below_drewN BE0 1
      have BEN : Hid (Below w.heap.size w ((w.alloc (.cells #[] 57)).alloc (.cells #[.int .i64 no, .int .u64 (g : Int)] 57)).drew) := below_drewN BEN0 1
      have BNE : Hid (Below w.heap.size w ((w.alloc (.cells #[.int .i64 no, .int .u64 (g : Int)] 57)).alloc (.cells #[] 57)).drew) := below_drewN BNE0 1
      have ht : (d.l.take i).length = i := by rw [List.length_take]; have := HNn.out; omega
      have HT := Lib.hid ht
      have HT1 : Hid ((d.l.take i ++ [(no, g)]).length = i + 1) := by show _ = _; rw [List.length_append, ht]; rfl
      have L1 : Hid (([] : List Pl.F).length + i ≤ 100000) := by show _ ≤ _; simp; omega
      have L2 : Hid ((d.l.take i).length + 1 ≤ 100000) := by show _ ≤ _; rw [ht]; omega
      have L3 : Hid ((d.l.take i ++ [(no, g)]).length + (n - i) ≤ 100000) := by show _ ≤ _; rw [HT1.out]; omega
      have NE1 : Hid (w.heap.size + 1 ≠ w.heap.size) := by show _ ≠ _; omega
      have NE2 : Hid (w.heap.size ≠ w.heap.size + 1) := by show _ ≠ _; omega
      obtain ⟨m, hm⟩ : ∃ m, m = (d.l.take i ++ [(no, g)] ++ d.l.drop i).length := ⟨_, rfl⟩
      have HM := Lib.hid hm
      have hnx : ∀ f, d.l[i]? = some f → f.1 ≠ no := fun f hf e => hnone ⟨f, List.mem_of_getElem? hf, e⟩
      have HX := Lib.hid hnx
      have hown := HQ.out.own
      have F1 := Lib.hid (HF.out.first i hpl)
      clear hm ht hnx hnone hf hfr hok BE0 BN0 BEN0 BNE0 hx HC HG HO h
      rcases hown.2 with ⟨hv, h0⟩ | ⟨b0, cap, cur, hv, _⟩
      · have hcs := HCS.out; omega
      · injection hv with e1 e2 e3
        obtain ⟨b, off, hA⟩ : ∃ b off, A = some ⟨b, off, none⟩ := ⟨b0, 0, e1⟩
        clear e1 e2 e3 hown
        subst hA
        have hF3 : Fs w (if c = i then some ⟨b, off, none⟩ else some ⟨b, off + i * 2, none⟩) (n - i) (c - i) (d.l.drop i) := by
          by_cases hce : c = i
          · rw [if_pos hce, show n - i = 0 by omega, List.drop_eq_nil_of_le (by have := HNn.out; omega)]
            exact Fs.nil_ _ _ _ (by unfold maxLen; omega)
          · rw [if_neg hce]; exact HF.out.far i hpl
        have F2 := Lib.hid hF3
        have hic : i ≤ c := by omega
        clear hF3 HQ
        by_cases hlt : i < n
        · have z1 : (i : Int) < (n : Int) := by omega
          obtain ⟨b', off', f, hA, hbl, hf, hin, q0, q1⟩ := HF.out.get hlt
          injection hA with hA
          injection hA with hA1 hA2
          subst hA1 hA2
          have z2 : (f.1 == no) = false := by rw [beq_eq_false_iff_ne]; exact HX.out f hf
          clear hf hin q1 hbl
          go_wp2_with fail
          clear z2 q0 h2 h3 c1 hcm hfew HF HR HX
          go_region_law (first
                  | (refine step_append_run (w := (w.alloc (.cells #[] 57)).drew) rfl (.tmp 59) (.tmp 65) 22 22 rfl (.slice (some ⟨w.heap.size, 0, none⟩) 0 0) (.slice (some ⟨b, off, none⟩) i c) (by rfl) (by rfl) _ (run_append_fs _ w.heap.size _ _ [] (by exact OE.out) _ _ _ _ (by exact F1.out.on BE.out) L1.out BE.out.size) ?_; rintro v2 w2 ⟨O2, g2⟩; have B2 := below_own BE.out OE.out g2 BE.out.size (Nat.le_refl _); have c2b := (H.out.on B2).c2; have c2b' := (H.out.on (B2.alloc B2.size (.cells #[.int .i64 no, .int .u64 (g : Int)] 57))).c2; have BN2 := Lib.hid (B2.alloc B2.size (.cells #[.int .i64 no, .int .u64 (g : Int)] 57)); have ON2 := Lib.hid (World.ownsRow.alloc O2 (.cells #[.int .i64 no, .int .u64 (g : Int)] 57)))
                  | (refine step_append_run (w := ((w.alloc (.cells #[] 57)).alloc (.cells #[.int .i64 no, .int .u64 (g : Int)] 57)).drew) rfl (.tmp 59) (.tmp 65) 22 22 rfl (.slice (some ⟨w.heap.size, 0, none⟩) 0 0) (.slice (some ⟨b, off, none⟩) i c) (by rfl) (by rfl) _ (run_append_fs _ w.heap.size _ _ [] (by exact OEN.out) _ _ _ _ (by exact F1.out.on BEN.out) L1.out BEN.out.size) ?_; rintro v2 w2 ⟨O2, g2⟩; have B2 := below_own BEN.out OEN.out g2 BEN.out.size (Nat.le_refl _); have c2b := (H.out.on B2).c2; have c2b' := (H.out.on (B2.alloc B2.size (.cells #[.int .i64 no, .int .u64 (g : Int)] 57))).c2; have N2 := Lib.hid (fs_kept (k := w.heap.size) NEN.out g2 NE1.out))
                  | (refine step_append_run (w := ((w.alloc (.cells #[.int .i64 no, .int .u64 (g : Int)] 57)).alloc (.cells #[] 57)).drew) rfl (.tmp 59) (.tmp 65) 22 22 rfl (.slice (some ⟨w.heap.size + 1, 0, none⟩) 0 0) (.slice (some ⟨b, off, none⟩) i c) (by rfl) (by rfl) _ (run_append_fs _ w.heap.size _ _ [] (by exact ONE.out) _ _ _ _ (by exact F1.out.on BNE.out) L1.out BNE.out.size) ?_; rintro v2 w2 ⟨O2, g2⟩; have B2 := below_own BNE.out ONE.out g2 BNE.out.size (Nat.le_refl _); have c2b := (H.out.on B2).c2; have c2b' := (H.out.on (B2.alloc B2.size (.cells #[.int .i64 no, .int .u64 (g : Int)] 57))).c2; have N2 := Lib.hid (fs_kept (k := w.heap.size + 1) NNE.out g2 NE2.out))
                  | (refine step_append_run (w := w2.alloc (.cells #[.int .i64 no, .int .u64 (g : Int)] 57)) rfl (.tmp 66) (.tmp 70) 22 22 rfl v2 (.slice (some ⟨w2.heap.size, 0, none⟩) 1 1) (by rfl) (by rfl) _ (run_append_fs _ w.heap.size _ _ (d.l.take i) (by exact ON2.out) _ _ _ _ (by exact fs_new' w2 rfl (no, g) HN.out) L2.out BN2.out.size) ?_; rintro v3 w3 ⟨O3, g3⟩; have B3 := below_own BN2.out (by exact ON2.out) g3 BN2.out.size (Nat.le_refl _); have c2c := (H.out.on B3).c2)
                  | (refine step_append_run (w := w2) rfl (.tmp 66) (.tmp 70) 22 22 rfl v2 (.slice (some ⟨w.heap.size + 1, 0, none⟩) 1 1) (by rfl) (by rfl) _ (run_append_fs _ w.heap.size _ _ (d.l.take i) (by exact O2) _ _ _ _ (by exact N2.out) L2.out B2.size) ?_; rintro v3 w3 ⟨O3, g3⟩; have B3 := below_own B2 (by exact O2) g3 B2.size (Nat.le_refl _); have c2c := (H.out.on B3).c2)
                  | (refine step_append_run (w := w2) rfl (.tmp 66) (.tmp 70) 22 22 rfl v2 (.slice (some ⟨w.heap.size, 0, none⟩) 1 1) (by rfl) (by rfl) _ (run_append_fs _ w.heap.size _ _ (d.l.take i) (by exact O2) _ _ _ _ (by exact N2.out) L2.out B2.size) ?_; rintro v3 w3 ⟨O3, g3⟩; have B3 := below_own B2 (by exact O2) g3 B2.size (Nat.le_refl _); have c2c := (H.out.on B3).c2)
                  | (refine step_append_run (w := w3) rfl (.tmp 71) (.tmp 77) 22 22 rfl v3 (.slice (if c = i then some ⟨b, off, none⟩ else some ⟨b, off + i * 2, none⟩) (n - i) (c - i)) (by rfl) (by rfl) _ (run_append_fs _ w.heap.size _ _ (d.l.take i ++ [(no, g)]) (by exact O3) _ _ _ _ (by exact F2.out.on B3) L3.out B3.size) ?_; rintro v4 w4 ⟨O4, g4⟩; rw [← HM.out] at O4; obtain ⟨A4, c4, rfl, _, _⟩ := own_form2 O4; have B4 := below_own B3 O3 g4 B3.size (Nat.le_refl _); have f2d := (H.out.on B4).frz 2; have c2d := (H.out.on B4).c2))
          all_goals go_wp2
          all_goals
            go_ret
            have hm := HM.out
            subst hm
            obtain ⟨r1, r2⟩ := put_end H.out HI.out HK.out B4 O4
            rw [HFR.out.1, HFR.out.2]
            exact ⟨rfl, r1, r2⟩
        · have hcs := HCS.out; rw [← HI.out, ← HNn.out] at hcs; omega
    · obtain ⟨g0, hg0⟩ : ∃ g0, Pl.look d.l no = some g0 := by cases h : Pl.look d.l no with | none => exact absurd h hx | some g0 => exact ⟨g0, rfl⟩
      have hf : Pl.freeCode d no = 8 := by unfold Pl.freeCode; rw [if_neg HO.out, hg0]; rfl
      have hfr : Pl.free d no g = d := by unfold Pl.free; rw [hf, if_neg (by decide)]
      have HFR := Lib.hid (And.intro hf hfr)
      obtain ⟨f, hf1, hf2⟩ := (Pl.at_pos HR.out no).2 ⟨_, Pl.look_mem hg0, rfl⟩
      rw [← HI.out] at hf1
      have hlt : i < n := by rw [HNn.out]; exact (List.getElem?_eq_some_iff.1 hf1).1
      have z1 : (i : Int) < (n : Int) := by omega
      obtain ⟨b', off', f', rfl, hbl, hf', hin, q0, q1⟩ := HF.out.get hlt
      rw [hf1] at hf'
      injection hf' with hf'
      subst hf'
      have z2 : (f.1 == no) = true := by simpa using hf2
      rw [hf2] at q0
      clear hf hfr hg0 hx hin q1 hf1 hbl z2 hf2 HC
      go_wp2
      go_ret
      rw [HFR.out.1, HFR.out.2]
      exact ⟨rfl, ⟨_, H.out⟩, Off.refl _ _⟩

end Go.Proofs.Ytbfofhgnamheeaa.Pq
