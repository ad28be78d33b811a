/-
  The document's Small: a node such as is gone through.
-/
import Derived.Test.YtmcldkcmialfeaaGreatNdOf
namespace Go.Proofs.YtmcldkcmialfeaaGreat.Nn
open Go.RowKit
set_option linter.unusedVariables false

def tot (cs : List Nd.Cell) : Nat := (cs.map fun c => 1 + c.key.length + c.inl.length).sum
def ktot (ks : List (List Nat)) : Nat := (ks.map fun k => 1 + k.length).sum
theorem tot_take {cs : List Nd.Cell} {k : Nat} {c : Nd.Cell} (h : cs[k]? = some c) : tot (cs.take (k + 1)) = tot (cs.take k) + (1 + c.key.length + c.inl.length) := by
  rw [List.take_add_one, h]; simp [tot]
theorem ktot_take {ks : List (List Nat)} {k : Nat} {c : List Nat} (h : ks[k]? = some c) : ktot (ks.take (k + 1)) = ktot (ks.take k) + (1 + c.length) := by
  rw [List.take_add_one, h]; simp [ktot]
theorem tot_lens : ∀ cs : List Nd.Cell, cs.length ≤ tot cs ∧ Nd.lens cs ≤ 9 * tot cs
  | [] => by simp [tot, Nd.lens]
  | c :: r => by
    have ih := tot_lens r
    have e : tot (c :: r) = 1 + c.key.length + c.inl.length + tot r := by simp [tot]
    rw [e, Nd.lens_cons, List.length_cons]
    unfold Nd.Cell.len
    split <;> omega
theorem ktot_klens : ∀ ks : List (List Nat), ks.length ≤ ktot ks ∧ Nd.klens ks ≤ 5 * ktot ks
  | [] => by simp [ktot, Nd.klens]
  | c :: r => by
    have ih := ktot_klens r
    have e : ktot (c :: r) = 1 + c.length + ktot r := by simp [ktot]
    rw [e, Nd.klens_cons, List.length_cons]
    omega

set_option maxRecDepth 100000 in
set_option maxHeartbeats 2000000 in
theorem small_any (w : World) (x : Nv) (cs : List Nd.Cell) (ks : List (List Nat)) (ps : List Int) (h : NvIs w x cs ks ps) :
    Calls Tryz.prog 34 #[x.val] w fun e w' => (∃ b : Bool, e = .returned (.bool b) ∧ (b = true → tot cs + ktot ks + ps.length ≤ 5000)) ∧ Below w.heap.size w w' := by
  obtain ⟨br, cA, cn, cc_, kA, kn, kc, pA, pn, pc⟩ := x
  obtain ⟨h1, h2, h3, h4⟩ := h
  simp only at h1 h2 h3 h4
  have hn1 := h1.len
  have hn2 := h2.len
  have hn3 := h3.len
  obtain ⟨_, hrw1, _⟩ := id h1
  have hcn : cn ≤ 9223372036854775807 := by have := hrw1.2.1; have := hrw1.2.2.1; unfold maxLen at this; omega
  obtain ⟨_, hrw2, _⟩ := id h2
  have hkn : kn ≤ 9223372036854775807 := by have := hrw2.2.1; have := hrw2.2.2.1; unfold maxLen at this; omega
  have B1 : Below w.heap.size w (w.alloc (.cells #[.bool br, .slice cA cn cc_, .slice kA kn kc, .slice pA pn pc] 65)) := (Below.refl _ _).alloc (Nat.le_refl _) _
  have H1 := Lib.hid (h1.on B1)
  have H2 := Lib.hid (h2.on B1)
  obtain ⟨b0, b1, b2, b3⟩ := four_cells (heap_alloc_new w (.cells #[.bool br, .slice cA cn cc_, .slice kA kn kc, .slice pA pn pc] 65))
  have HB := Lib.hid (fun m => below_drewN B1 m)
  clear h1 h2 h3 hrw1 hrw2 B1
  unfold Nv.val
  go_enter Tryz.func34, Tryz.ntmps34
  go_wp2
  generalize hgx : w.heap.size = gx at *
  generalize w.alloc (.cells #[.bool br, .slice cA cn cc_, .slice kA kn kc, .slice pA pn pc] 65) = w1 at *
  go_loopw [3, 4] (fun v i wr => ∃ k m : Nat, k ≤ cn ∧ i = .int .i64 (k : Int) ∧ v = .int .i64 (tot (cs.take k) : Int) ∧ tot (cs.take k) ≤ 300000000000000 ∧ wr = w1.drewN m) (fun _ i _ => cn - (intOf i).toNat)
  case atStart => exact ⟨0, 0, Nat.zero_le _, rfl, rfl, by simp [tot], rfl⟩
  case round =>
    obtain ⟨k, m, hk, rfl, rfl, hbd, rfl⟩ := hrel
    by_cases hgo : k < cn ∧ tot (cs.take k) ≤ 5000
    · obtain ⟨hlt, h5⟩ := hgo
      obtain ⟨b, off, x, y, rfl, hbl, hy, hcr, c0, c1, c2, c3⟩ := H1.out.get hlt
      obtain ⟨⟨A1, n1, k1, e1, r1, l1⟩, ⟨A2, n2, k2, e2, r2, l2⟩, e3, e4, _, _⟩ := hcr
      rw [e1] at c0
      rw [e2] at c1
      have HT := Lib.hid (tot_take hy)
      have hl1 := Lib.hid r1.1
      have hl2 := Lib.hid r2.1
      have hj1 : (k : Int) < (cn : Int) := by omega
      have d5 : decide (((tot (cs.take k) : Nat) : Int) ≤ 5000) = true := by simp; omega
      generalize tot (cs.take k) = T at *
      have q1 : IntKind.i64.wrap ((T : Int) + 1) = (T : Int) + 1 := IntWalk.i64_in _ ⟨by omega, by omega⟩
      have q2 : IntKind.i64.wrap ((T : Int) + 1 + (n1 : Int)) = (T : Int) + 1 + (n1 : Int) := IntWalk.i64_in _ ⟨by omega, by omega⟩
      have q3 : IntKind.i64.wrap ((T : Int) + 1 + (n1 : Int) + (n2 : Int)) = (T : Int) + 1 + (n1 : Int) + (n2 : Int) := IntWalk.i64_in _ ⟨by omega, by omega⟩
      clear r1 r2 hy
      go_wp2_with fail
      go_quiet (fail)
      go_wp2
      go_roundw
      case rel => exact ⟨k + 1, _, by omega, by go_num, by rw [HT.out, hl1.out, hl2.out]; first | go_num | (congr 1; omega), by rw [HT.out, hl1.out, hl2.out]; omega, rfl⟩
      case measure => simp [intOf]; omega
    · have HG : Hid (5000 < tot (cs.take k) ∨ tot (cs.take k) = tot cs) := by
        rcases Nat.lt_or_ge 5000 (tot (cs.take k)) with h | h
        · exact .inl h
        · exact .inr (by rw [List.take_of_length_le (by omega)])
      generalize tot (cs.take k) = T at *
      have leave : (k < cn ∧ decide ((T : Int) ≤ 5000) = false) ∨ ¬ k < cn := by
        by_cases h : k < cn
        · exact .inl ⟨h, by simp; omega⟩
        · exact .inr h
      rcases leave with ⟨hlt, d5⟩ | d5
      all_goals
        try have hj1 : (k : Int) < (cn : Int) := by omega
        clear hgo
        go_wp2
        go_loopw [3, 5] (fun v i wr => ∃ k m : Nat, k ≤ kn ∧ i = .int .i64 (k : Int) ∧ v = .int .i64 ((T + ktot (ks.take k) : Nat) : Int) ∧ T + ktot (ks.take k) ≤ 300000000000000 ∧ wr = w1.drewN m) (fun _ i _ => kn - (intOf i).toNat)
        case atStart => exact ⟨0, m, Nat.zero_le _, rfl, by simp [ktot], by simp [ktot]; omega, rfl⟩
        case round =>
          obtain ⟨k', m', hk', rfl, rfl, hbd', rfl⟩ := hrel
          by_cases hgo : k' < kn ∧ T + ktot (ks.take k') ≤ 5000
          · obtain ⟨hlt', h5⟩ := hgo
            obtain ⟨b, off, A1, n1, c1, y, rfl, hbl, hy, c0, r1, l1⟩ := H2.out.get hlt'
            have HT := Lib.hid (ktot_take hy)
            have hl1 := Lib.hid r1.1
            have hj2 : (k' : Int) < (kn : Int) := by omega
            have d5' : decide (((T + ktot (ks.take k') : Nat) : Int) ≤ 5000) = true := by simp; omega
            generalize hU : T + ktot (ks.take k') = U at *
            have HU := Lib.hid hU
            have q1 : IntKind.i64.wrap ((U : Int) + 1) = (U : Int) + 1 := IntWalk.i64_in _ ⟨by omega, by omega⟩
            have q2 : IntKind.i64.wrap ((U : Int) + 1 + (n1 : Int)) = (U : Int) + 1 + (n1 : Int) := IntWalk.i64_in _ ⟨by omega, by omega⟩
            clear r1 hy hU
            go_wp2_with fail
            try go_quiet (fail)
            go_wp2
            go_roundw
            case rel => exact ⟨k' + 1, _, by omega, by go_num, by rw [HT.out, hl1.out, show T + (ktot (ks.take k') + (1 + n1)) = U + (1 + n1) by have := HU.out; omega]; first | go_num | (congr 1; omega), by rw [HT.out, hl1.out]; have := HU.out; omega, rfl⟩
            case measure => simp [intOf]; omega
          · have HG2 : Hid (5000 < T + ktot (ks.take k') ∨ ktot (ks.take k') = ktot ks) := by
              rcases Nat.lt_or_ge 5000 (T + ktot (ks.take k')) with h | h
              · exact .inl h
              · exact .inr (by rw [List.take_of_length_le (by omega)])
            generalize hU : T + ktot (ks.take k') = U at *
            have HU := Lib.hid hU
            have q3 : IntKind.i64.wrap ((U : Int) + (pn : Int)) = (U : Int) + (pn : Int) := IntWalk.i64_in _ ⟨by omega, by omega⟩
            have HF : Hid (decide ((U : Int) + (pn : Int) ≤ 5000) = true → tot cs + ktot ks + ps.length ≤ 5000) := by
              intro hd
              have hd' : U + pn ≤ 5000 := by have := of_decide_eq_true hd; omega
              have hu := HU.out
              rcases HG.out with g1 | g1
              · omega
              · rcases HG2.out with g2 | g2
                · omega
                · omega
            have leave2 : (k' < kn ∧ decide ((U : Int) ≤ 5000) = false) ∨ ¬ k' < kn := by
              by_cases h : k' < kn
              · exact .inl ⟨h, by simp; omega⟩
              · exact .inr h
            clear hgo hU
            rcases leave2 with ⟨hlt', d6⟩ | d6
            · have hj2 : (k' : Int) < (kn : Int) := by omega
              go_wp2_with fail
              try go_quiet (fail)
              go_wp2
              go_ret
              exact ⟨⟨_, rfl, HF.out⟩, by rw [hgx]; exact HB.out _⟩
            · go_wp2_with fail
              try go_quiet (fail)
              go_wp2
              go_ret
              exact ⟨⟨_, rfl, HF.out⟩, by rw [hgx]; exact HB.out _⟩
end Go.Proofs.YtmcldkcmialfeaaGreat.Nn
