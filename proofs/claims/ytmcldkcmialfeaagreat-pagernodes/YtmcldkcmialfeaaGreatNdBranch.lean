/-
  The program's branches: how long, whether they may be, what their pages say.
-/
import Derived.Test.YtmcldkcmialfeaaGreatNdLeaf
namespace Go.Proofs.YtmcldkcmialfeaaGreat.Nn
open Go.RowKit
set_option linter.unusedVariables false

theorem klens_take {ks : List (List Nat)} {k : Nat} {y : List Nat} (h : ks[k]? = some y) : Nd.klens (ks.take (k + 1)) = Nd.klens (ks.take k) + (5 + y.length) := by
  rw [List.take_add_one, h]; exact Nd.klens_snoc _ _
theorem klens_take_le (ks : List (List Nat)) (k : Nat) : Nd.klens (ks.take k) ≤ Nd.klens ks := by
  have h' : Nd.klens (ks.take k ++ ks.drop k) = Nd.klens (ks.take k) + Nd.klens (ks.drop k) := by unfold Nd.klens; rw [List.map_append, List.sum_append]
  rw [List.take_append_drop] at h'
  omega
theorem kcount_le : ∀ ks : List (List Nat), ks.length ≤ Nd.klens ks
  | [] => by simp
  | c :: r => by have := kcount_le r; rw [Nd.klens_cons, List.length_cons]; omega

set_option maxRecDepth 100000 in
set_option maxHeartbeats 1000000 in
theorem branchLen_any (w : World) (g : Nat) (ks : List (List Nat)) (ps : List Int) (h : BranchAt w g ks ps) (hf : Nd.branchLen ks ≤ 1000000000) :
    Calls Tryz.prog 168 #[.pointer (some ⟨g, 0, none⟩)] w fun e w' => e = .returned (.int .i64 (Nd.branchLen ks : Int)) ∧ w = w' := by
  obtain ⟨hg, A, n, c, A', n', c', hc, hc', hr, hi⟩ := h
  have hn := hr.len
  have HR := Lib.hid hr
  clear hr hi
  unfold Nd.branchLen at hf ⊢
  have hn9 : n ≤ 1000000000 := by have := kcount_le ks; omega
  go_enter Tryz.func168, Tryz.ntmps168
  go_wp2
  go_loop [3, 11] (fun v i => ∃ k : Nat, k ≤ n ∧ i = .int .i64 k ∧ v = .int .i64 ((7 + Nd.klens (ks.take k) : Nat) : Int)) (fun _ i => n - (intOf i).toNat)
  case atStart => exact ⟨0, Nat.zero_le _, rfl, rfl⟩
  case round =>
    obtain ⟨k, hk, rfl, rfl⟩ := hrel
    by_cases hlt : k < n
    · obtain ⟨b, off, A1, n1, c1, y, rfl, hbl, hy, c0, r1, _⟩ := HR.out.get hlt
      have hl := klens_take_le ks (k + 1)
      have HL := Lib.hid (klens_take hy)
      have hj1 : (k : Int) < (n : Int) := by omega
      have hl1 := r1.1
      have HL1 := Lib.hid hl1
      have hy9 : Nd.klens (ks.take k) + (5 + n1) ≤ 1000000000 := by have := HL.out; omega
      clear r1 hy hl1
      go_wp2
      go_round
      case rel => exact ⟨k + 1, by omega, by go_num, by rw [HL.out, HL1.out]; go_num⟩
      case measure => simp [intOf]; omega
    · obtain rfl : k = n := by omega
      rw [List.take_of_length_le (by omega)]
      go_wp2
      go_ret
      exact ⟨rfl, rfl⟩

set_option maxRecDepth 100000 in
set_option maxHeartbeats 1000000 in
theorem branchMay_any (w : World) (g : Nat) (ks : List (List Nat)) (ps : List Int) (h : BranchAt w g ks ps) (hf : Nd.branchLen ks ≤ 1000000000) (hp9 : ps.length ≤ 1000000000) :
    Calls Tryz.prog 169 #[.pointer (some ⟨g, 0, none⟩)] w fun e w' => e = .returned (.bool (decide (Nd.BranchMay ks ps))) ∧ Below w.heap.size w w' := by
  have CL := Lib.hid (fun m => branchLen_any (w.drewN m) g ks ps (h.drewN m) hf)
  have HL := Lib.hid h
  obtain ⟨hg, A, n, c, A', n', c', hc, hc', hr, hi⟩ := h
  have hn := hr.len
  have hn' := hi.len
  have HR := Lib.hid hr
  have HI := Lib.hid hi
  have hn9 : n ≤ 1000000000 := by have := kcount_le ks; unfold Nd.branchLen at hf; omega
  rw [hn'] at hp9
  have B1 : ∀ m, Below w.heap.size w (w.drewN m) := fun m => below_drewN (Below.refl _ _) m
  have HB1 := Lib.hid B1
  clear hr hi B1
  by_cases h0 : n' = n + 1
  · have d0 : ((n' : Int) != (n : Int) + 1) = false := by simp; omega
    have hw0 : IntKind.i64.wrap ((n : Int) + 1) = (n : Int) + 1 := IntWalk.i64_in _ ⟨by omega, by omega⟩
    have HLEN : Hid (ps.length = ks.length + 1) := by show _ = _; omega
    go_enter Tryz.func169, Tryz.ntmps169
    go_wp2_with fail
    go_quiet (fail)
    go_wp2
    go_loop [25] (fun i => ∃ k : Nat, k ≤ n' ∧ i = .int .i64 k ∧ Hid (∀ p ∈ ps.take k, Nd.Page p)) (fun i => n' - (intOf i).toNat)
    case atStart => exact ⟨0, Nat.zero_le _, rfl, by intro p hp; simp at hp⟩
    case round =>
      obtain ⟨k, hk, rfl, HP⟩ := hrel
      by_cases hlt : k < n'
      · obtain ⟨b, off, z, rfl, hbl, hz, _, cz⟩ := HI.out.get hlt
        have CN := Lib.hid (fun W => mayBeNo_any W z)
        have hj1 : (k : Int) < (n' : Int) := by omega
        have HZ := Lib.hid hz
        clear hz
        go_wp2_with fail
        refine (CN.out _).mono ?_
        rintro e w2 ⟨rfl, rfl⟩
        by_cases hz : Nd.Page z
        · rw [decide_eq_true hz]
          have HP2 : Hid (∀ p ∈ ps.take (k + 1), Nd.Page p) := by
            intro p hp
            rw [List.take_add_one, HZ.out] at hp
            rcases List.mem_append.1 hp with h | h
            · exact HP.out p h
            · simp at h; subst h; exact hz
          clear hz
          go_wp2
          go_round
          case rel => exact ⟨k + 1, by omega, by go_num, HP2⟩
          case measure => simp [intOf]; omega
        · rw [decide_eq_false hz]
          have HN : Hid (decide (Nd.BranchMay ks ps) = false) := decide_eq_false fun hm => hz (hm.2.1 z (List.mem_of_getElem? HZ.out))
          clear hz
          go_wp2
          go_ret
          exact ⟨by rw [HN.out]; rfl, HB1.out _⟩
      · obtain rfl : k = n' := by omega
        rw [List.take_of_length_le (by omega)] at HP
        go_wp2
        go_loop [5, 38] (fun v i => ∃ k : Nat, k ≤ n ∧ i = .int .i64 k ∧ (∃ A n c, v = .slice A n c ∧ Bs w A n c (prev ks k)) ∧ Hid (Nd.Keys (ks.take k))) (fun _ i => n - (intOf i).toNat)
        case atStart => exact ⟨0, Nat.zero_le _, rfl, ⟨none, 0, 0, rfl, Bs.nil_ _ _ _ (Nat.zero_le _)⟩, Nd.keys_take_zero ks⟩
        case round =>
          obtain ⟨k, hk, rfl, ⟨A0, n0, c0', rfl, r0⟩, HF⟩ := hrel
          by_cases hlt : k < n
          · obtain ⟨b, off, A1, n1, c1, y, rfl, hbl, hy, c0, r1, _⟩ := HR.out.get hlt
            have CF := Lib.hid (fun m => mayFollow_any (w.drewN m) _ _ _ _ _ _ _ _ (r0.drewN m) (r1.drewN m))
            have HS := Lib.hid (keys_prev hy)
            have HP2 := Lib.hid (prev_succ hy)
            have HRK := Lib.hid r1
            have hj1 : (k : Int) < (n : Int) := by omega
            clear r0 r1 hy
            go_wp2_with fail
            refine (CF.out _).mono ?_
            rintro e w2 ⟨rfl, rfl⟩
            by_cases h1 : Nd.KeyOk y ∧ Nm.lexLess (prev ks k) y = true
            · rw [decide_eq_true h1]
              have HF2 : Hid (Nd.Keys (ks.take (k + 1))) := HS.out.2 ⟨HF.out, h1⟩
              have HR2 : Hid (Bs w A1 n1 c1 (prev ks (k + 1))) := by show Bs _ _ _ _ _; rw [HP2.out]; exact HRK.out
              clear h1 HF HS HP2 HRK
              go_wp2
              go_round
              case rel => exact ⟨k + 1, by omega, by go_num, ⟨_, _, _, rfl, HR2.out⟩, HF2⟩
              case measure => simp [intOf]; omega
            · rw [decide_eq_false h1]
              have HN : Hid (decide (Nd.BranchMay ks ps) = false) := decide_eq_false fun hm => h1 (HS.out.1 (Nd.keys_take (k + 1) hm.2.2.1)).2
              clear h1 HF HS HP2 HRK
              go_wp2
              go_ret
              exact ⟨by rw [HN.out]; rfl, HB1.out _⟩
          · obtain rfl : k = n := by omega
            rw [List.take_of_length_le (by omega)] at HF
            have HE : Hid (decide (Nd.BranchMay ks ps) = decide ((Nd.branchLen ks : Int) ≤ 1016)) := by
              show _ = _
              rw [decide_eq_decide]
              exact ⟨fun hm => by have := hm.1; omega, fun h' => ⟨by omega, HP.out, HF.out, HLEN.out⟩⟩
            clear HR HF r0
            go_wp2_with fail
            refine (CL.out _).mono ?_
            rintro e w2 ⟨rfl, rfl⟩
            go_wp2
            go_ret
            exact ⟨by rw [HE.out]; rfl, HB1.out _⟩
  · have d0 : ((n' : Int) != (n : Int) + 1) = true := by simp; omega
    have hw0 : IntKind.i64.wrap ((n : Int) + 1) = (n : Int) + 1 := IntWalk.i64_in _ ⟨by omega, by omega⟩
    have HN : Hid (decide (Nd.BranchMay ks ps) = false) := decide_eq_false fun hm => by have := hm.2.2.2; omega
    go_enter Tryz.func169, Tryz.ntmps169
    go_wp2_with fail
    go_quiet (fail)
    go_wp2
    go_ret
    exact ⟨by rw [HN.out]; rfl, HB1.out _⟩
end Go.Proofs.YtmcldkcmialfeaaGreat.Nn
