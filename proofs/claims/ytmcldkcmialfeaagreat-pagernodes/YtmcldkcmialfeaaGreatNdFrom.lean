/-
  The program's FromPay: the node that a page says, or none.
-/
import Derived.Test.YtmcldkcmialfeaaGreatGrNode9
import Derived.Test.YtmcldkcmialfeaaGreatNdRBranch
import Derived.Test.YtmcldkcmialfeaaGreatNdBrPay
namespace Go.Proofs.YtmcldkcmialfeaaGreat.Nn
open Go.RowKit
set_option linter.unusedVariables false

def IsLeaf (b : List Nat) (cs : List Nd.Cell) : Prop := Nd.LeafMay cs ∧ b = Nd.fill (Nd.leafPay cs)
def IsBranch (b : List Nat) (ks : List (List Nat)) (p : Int) (q : List Int) : Prop := Nd.BranchMay ks (p :: q) ∧ b = Nd.fill (Nd.branchPay ks p q)
def NoNode (b : List Nat) : Prop := (∀ cs, ¬ IsLeaf b cs) ∧ ∀ ks p q, ¬ IsBranch b ks p q
theorem just_leaf {b : List Nat} {cs : List Nd.Cell} (hb : b.length = 1016) : Just b (payL cs) ↔ IsLeaf b cs := by
  unfold payL IsLeaf Just
  by_cases h : Nd.LeafMay cs
  · rw [if_pos h]
    have h1 := Nd.leafPay_len cs
    have h2 := h.1
    have h3 : 3 ≤ Nd.leafLen cs := by unfold Nd.leafLen; omega
    rw [hb, h1]
    unfold Nd.fill
    rw [h1]
    exact ⟨fun x => ⟨h, x.2.2⟩, fun x => ⟨by omega, h2, x.2⟩⟩
  · rw [if_neg h]
    simp [h]
theorem just_branch {b : List Nat} {ks : List (List Nat)} {p : Int} {q : List Int} (hb : b.length = 1016) : Just b (payB ks (p :: q)) ↔ IsBranch b ks p q := by
  unfold payB IsBranch Just
  by_cases h : Nd.BranchMay ks (p :: q)
  · rw [if_pos h]
    simp only
    have h1 := Nd.branchPay_len (kid := p) (show ks.length = q.length by have := h.2.2.2; simp at this; omega)
    have h2 := h.1
    have h3 : 7 ≤ Nd.branchLen ks := by unfold Nd.branchLen; omega
    rw [hb, h1]
    unfold Nd.fill
    rw [h1]
    exact ⟨fun x => ⟨h, x.2.2⟩, fun x => ⟨by omega, h2, x.2⟩⟩
  · rw [if_neg h]
    simp [h]
theorem isLeaf_len {b : List Nat} {cs : List Nd.Cell} (h : IsLeaf b cs) : b.length = 1016 := by
  rw [h.2]; exact Nd.fill_len (by rw [Nd.leafPay_len]; exact h.1.1)
theorem isBranch_len {b : List Nat} {ks : List (List Nat)} {p : Int} {q : List Int} (h : IsBranch b ks p q) : b.length = 1016 := by
  rw [h.2]; exact Nd.fill_len (by rw [Nd.branchPay_len (by have := h.1.2.2.2; simp at this; omega)]; exact h.1.1)
theorem noNode_len {b : List Nat} (h : b.length ≠ 1016) : NoNode b := ⟨fun cs h' => h (isLeaf_len h'), fun ks p q h' => h (isBranch_len h')⟩
theorem isLeaf_is {b : List Nat} {cs : List Nd.Cell} (h : IsLeaf b cs) : (Nd.nb 1 b).1 = 1 ∧ Nd.pleaf b = cs := by rw [h.2]; exact Nd.pleaf_fill h.1
theorem zip_fst {ks : List (List Nat)} {q : List Int} (h : ks.length = q.length) : (ks.zip q).map Prod.fst = ks ∧ (ks.zip q).map Prod.snd = q :=
  ⟨List.map_fst_zip (by omega), List.map_snd_zip (by omega)⟩
theorem isBranch_is {b : List Nat} {ks : List (List Nat)} {p : Int} {q : List Int} (h : IsBranch b ks p q) : (Nd.nb 1 b).1 = 2 ∧ Nd.pkid b = p ∧ (Nd.pbranch b).map Prod.fst = ks ∧ (Nd.pbranch b).map Prod.snd = q := by
  have h1 := Nd.pbranch_fill h.1
  rw [h.2]
  refine ⟨h1.1, h1.2.1, ?_⟩
  rw [h1.2.2]
  exact zip_fst (by have := h.1.2.2.2; simp at this; omega)
theorem noLeaf {b : List Nat} (hb : b.length = 1016) (h1 : (Nd.nb 1 b).1 = 1) (h : ¬ Just b (payL (Nd.pleaf b))) : NoNode b :=
  ⟨fun cs h' => h ((just_leaf hb).2 (by rw [(isLeaf_is h').2]; exact h')), fun ks p q h' => by have := (isBranch_is h').1; omega⟩
theorem noBranch {b : List Nat} (hb : b.length = 1016) (h1 : (Nd.nb 1 b).1 = 2) (h : ¬ Just b (payB ((Nd.pbranch b).map Prod.fst) (Nd.pkid b :: (Nd.pbranch b).map Prod.snd))) : NoNode b :=
  ⟨fun cs h' => by have := (isLeaf_is h').1; omega, fun ks p q h' => h ((just_branch hb).2 (by obtain ⟨_, e1, e2, e3⟩ := isBranch_is h'; rw [e1, e2, e3]; exact h'))⟩
theorem noMark {b : List Nat} (h1 : (Nd.nb 1 b).1 ≠ 1) (h2 : (Nd.nb 1 b).1 ≠ 2) : NoNode b := ⟨fun cs h' => h1 (isLeaf_is h').1, fun ks p q h' => h2 (isBranch_is h').1⟩
theorem pleaf_bound {b : List Nat} (hb : b.length = 1016) : Nd.leafLen (Nd.pleaf b) ≤ 1000000000 := by
  unfold Nd.leafLen Nd.pleaf
  have h := (Nd.pcells_len (Nd.nb 2 (Nd.nb 1 b).2).1 (Nd.nb 2 (Nd.nb 1 b).2).2).2
  have h1 := (Nd.tk_len 1 b).2.2
  have h2 := (Nd.tk_len 2 (Nd.nb 1 b).2).2.2
  have e1 : (Nd.nb 1 b).2 = (Nd.tk 1 b).2 := rfl
  have e2 : (Nd.nb 2 (Nd.nb 1 b).2).2 = (Nd.tk 2 (Nd.nb 1 b).2).2 := rfl
  rw [← e1] at h1
  rw [← e2] at h2
  generalize (Nd.nb 2 (Nd.nb 1 b).2).2 = r at *
  have h3 : r.length * (9 + 2 * r.length) ≤ 1016 * (9 + 2 * 1016) := Nat.mul_le_mul (by omega) (by omega)
  omega
theorem pbranch_bound {b : List Nat} (hb : b.length = 1016) : Nd.branchLen ((Nd.pbranch b).map Prod.fst) ≤ 1000000000 ∧ (Nd.pkid b :: (Nd.pbranch b).map Prod.snd).length ≤ 1000000000 := by
  unfold Nd.branchLen Nd.pbranch
  have h := Nd.pkids_len (Nd.nb 2 (Nd.nb 1 b).2).1 (Nd.nb 4 (Nd.nb 2 (Nd.nb 1 b).2).2).2
  have h1 := (Nd.tk_len 1 b).2.2
  have h2 := (Nd.tk_len 2 (Nd.nb 1 b).2).2.2
  have h4 := (Nd.tk_len 4 (Nd.nb 2 (Nd.nb 1 b).2).2).2.2
  have e1 : (Nd.nb 1 b).2 = (Nd.tk 1 b).2 := rfl
  have e2 : (Nd.nb 2 (Nd.nb 1 b).2).2 = (Nd.tk 2 (Nd.nb 1 b).2).2 := rfl
  have e4 : (Nd.nb 4 (Nd.nb 2 (Nd.nb 1 b).2).2).2 = (Nd.tk 4 (Nd.nb 2 (Nd.nb 1 b).2).2).2 := rfl
  rw [← e1] at h1
  rw [← e2] at h2
  rw [← e4] at h4
  generalize (Nd.nb 4 (Nd.nb 2 (Nd.nb 1 b).2).2).2 = r at *
  have h3 : r.length * (5 + r.length) ≤ 1016 * (5 + 1016) := Nat.mul_le_mul (by omega) (by omega)
  rw [List.length_cons, List.length_map]
  omega

set_option maxRecDepth 100000 in
set_option maxHeartbeats 1000000 in
theorem nodeOf_any (w : World) (A : Option Addr) (c : Nat) (b : List Nat) (h : Bs w A 1016 c b) :
    Calls Tryz.prog 116 #[.slice A 1016 c] w fun e w' => (((Nd.nb 1 b).1 = 1 ∧ ∃ q, e = .returned (.iface 130 (.pointer (some ⟨q, 0, none⟩))) ∧ LeafOver w.heap.size w' q (Nd.pleaf b)) ∨
      ((Nd.nb 1 b).1 = 2 ∧ ∃ q, e = .returned (.iface 74 (.pointer (some ⟨q, 0, none⟩))) ∧ BranchOver w.heap.size w' q ((Nd.pbranch b).map Prod.fst) (Nd.pkid b :: (Nd.pbranch b).map Prod.snd)) ∨
      ((Nd.nb 1 b).1 ≠ 1 ∧ (Nd.nb 1 b).1 ≠ 2 ∧ e = .returned .nilIface)) ∧ Below w.heap.size w w' := by
  have hb := h.1
  have C1 := Lib.hid (clone_any w A 1016 c b h (by omega) (by omega))
  clear h
  go_enter Tryz.func116, Tryz.ntmps116
  go_wp2_with fail
  refine C1.out.mono ?_
  rintro e w1 ⟨D, c', rfl, r1, hD1, hD2, b1⟩
  have rd0 : Rd (w1.alloc (.cells #[.slice (some ⟨D, 0, none⟩) 1016 c'] 156)) w1.heap.size D b :=
    ⟨⟨_, heap_alloc_new w1 _, ⟨_, _, _, rfl, r1.alloc _, by omega⟩, fun k hk => by simpa [Value.ownBlock] using hk.symm⟩, by omega, by simp; omega⟩
  have B0 : Below w.heap.size w (w1.alloc (.cells #[.slice (some ⟨D, 0, none⟩) 1016 c'] 156)) := b1.alloc b1.size _
  have hs1 := b1.size
  have C2 := Lib.hid (number_any _ _ _ _ rd0 1 (.inl rfl))
  have HB0 := Lib.hid B0
  have hl1 := (Nd.tk_len 1 b).2.2
  have e1 : (Nd.nb 1 b).2 = (Nd.tk 1 b).2 := rfl
  rw [← e1] at hl1
  clear C1 r1 rd0 B0 e1
  go_wp2_with fail
  refine C2.out.mono ?_
  rintro e w2 ⟨rfl, rd2, of2⟩
  have B2 : Below w.heap.size w w2 := HB0.out.trans (of2.below (fun k hk => by have : k = w1.heap.size := hk; omega) (by have := HB0.out.size; omega))
  have hs2 := of2.size
  have hs0 := HB0.out.size
  clear C2 of2 HB0
  by_cases h1 : (Nd.nb 1 b).1 = 1
  · rw [h1]
    have C3 := Lib.hid (rleaf_any w2 _ _ _ rd2 (by omega))
    clear rd2
    go_wp2_with fail
    refine C3.out.mono ?_
    rintro e w3 ⟨⟨q, rfl, la⟩, of3⟩
    have B3 := B2.trans (of3.below (B := w.heap.size) (fun k hk => by have : k = w1.heap.size := hk; omega) (by omega))
    have LA := Lib.hid (la w.heap.size (by omega) (by omega))
    clear C3 of3 la B2
    go_wp2
    go_ret
    exact ⟨.inl ⟨h1, q, rfl, LA.out⟩, B3⟩
  · by_cases h2 : (Nd.nb 1 b).1 = 2
    · rw [h2]
      have C3 := Lib.hid (rbranch_any w2 _ _ _ rd2 (by omega))
      clear rd2
      go_wp2_with fail
      refine C3.out.mono ?_
      rintro e w3 ⟨⟨q, rfl, la⟩, of3⟩
      have B3 := B2.trans (of3.below (B := w.heap.size) (fun k hk => by have : k = w1.heap.size := hk; omega) (by omega))
      have LA := Lib.hid (la w.heap.size (by omega) (by omega))
      clear C3 of3 la B2
      go_wp2
      go_ret
      exact ⟨.inr (.inl ⟨h2, q, rfl, LA.out⟩), B3⟩
    · have d1 : ((((Nd.nb 1 b).1 : Nat) : Int) == 1) = false := by simp; omega
      have d2 : ((((Nd.nb 1 b).1 : Nat) : Int) == 2) = false := by simp; omega
      have H1 := Lib.hid h1
      have H2 := Lib.hid h2
      clear rd2 h1 h2
      go_wp2
      go_ret
      exact ⟨.inr (.inr ⟨H1.out, H2.out, rfl⟩), B2⟩

set_option maxRecDepth 100000 in
set_option maxHeartbeats 1000000 in
theorem fromPay_new (w : World) (A : Option Addr) (n c : Nat) (b : List Nat) (h : Bs w A n c b) :
    Calls Tryz.prog 95 #[.slice A n c] w fun e w' => ((∃ cs q, e = .returned (.tuple #[.iface 130 (.pointer (some ⟨q, 0, none⟩)), .int .i64 0]) ∧ LeafOver w.heap.size w' q cs ∧ IsLeaf b cs) ∨
      (∃ ks p ps q, e = .returned (.tuple #[.iface 74 (.pointer (some ⟨q, 0, none⟩)), .int .i64 0]) ∧ BranchOver w.heap.size w' q ks (p :: ps) ∧ IsBranch b ks p ps) ∨
      (e = .returned (.tuple #[.nilIface, .int .i64 5]) ∧ NoNode b)) ∧ Below w.heap.size w w' := by
  have hb := h.1
  by_cases hn : n = 1016
  · subst hn
    have C1 := Lib.hid (nodeOf_any w A c b h)
    have HS := Lib.hid h
    clear h
    go_enter Tryz.func95, Tryz.ntmps95
    go_wp2_with fail
    refine C1.out.mono ?_
    rintro e w1 ⟨ht, b1⟩
    have s1 := HS.out.on b1
    clear C1 HS
    rcases ht with ⟨h1, q, rfl, la⟩ | ⟨h1, q, rfl, la⟩ | ⟨h1, h2, rfl⟩
    · have he : ∀ W : World, (binOp .eql 68 (.iface 130 (.pointer (some ⟨q, 0, none⟩))) .nilIface).run Tryz.prog W = .ok (.bool false) W := fun _ => rfl
      have hm : ∀ (W : World), (method 204 130 (.pointer (some ⟨q, 0, none⟩)) "Pay").run Tryz.prog W = .ok (179, .pointer (some ⟨q, 0, none⟩)) W := fun _ => by kernel_rfl
      have C2 := Lib.hid (leafPay_any w1 q _ la.at_ (pleaf_bound hb))
      have HLA := Lib.hid la
      clear la
      go_wp2_with fail
      refine C2.out.mono ?_
      rintro e w2 ⟨⟨A2, n2, c2, rfl, r2⟩, b2⟩
      have C3 := Lib.hid (saysJust_any w2 _ _ _ _ _ _ _ _ (s1.on b2) r2 (by omega))
      have B2 := onto b1 b2
      have LA2 := Lib.hid (HLA.out.on b2)
      clear C2 HLA r2 s1 b1 b2
      go_wp2_with fail
      refine C3.out.mono ?_
      rintro e w3 ⟨rfl, b3⟩
      have B3 := onto B2 b3
      have LA3 := Lib.hid (LA2.out.on b3)
      clear C3 LA2 B2 b3
      by_cases hj : Just b (payL (Nd.pleaf b))
      · rw [decide_eq_true hj]
        have HN := Lib.hid ((just_leaf hb).1 hj)
        clear hj
        go_wp2
        go_ret2
        exact ⟨.inl ⟨_, q, rfl, LA3.out, HN.out⟩, B3⟩
      · rw [decide_eq_false hj]
        have HN := Lib.hid (noLeaf hb h1 hj)
        clear hj
        go_wp2
        go_ret2
        exact ⟨.inr (.inr ⟨rfl, HN.out⟩), B3⟩
    · have he : ∀ W : World, (binOp .eql 68 (.iface 74 (.pointer (some ⟨q, 0, none⟩))) .nilIface).run Tryz.prog W = .ok (.bool false) W := fun _ => rfl
      have hm : ∀ (W : World), (method 204 74 (.pointer (some ⟨q, 0, none⟩)) "Pay").run Tryz.prog W = .ok (170, .pointer (some ⟨q, 0, none⟩)) W := fun _ => by kernel_rfl
      have C2 := Lib.hid (branchPay_any w1 q _ _ la.at_ (pbranch_bound hb).1 (pbranch_bound hb).2)
      have HLA := Lib.hid la
      clear la
      go_wp2_with fail
      refine C2.out.mono ?_
      rintro e w2 ⟨⟨A2, n2, c2, rfl, r2⟩, b2⟩
      have C3 := Lib.hid (saysJust_any w2 _ _ _ _ _ _ _ _ (s1.on b2) r2 (by omega))
      have B2 := onto b1 b2
      have LA2 := Lib.hid (HLA.out.on b2)
      clear C2 HLA r2 s1 b1 b2
      go_wp2_with fail
      refine C3.out.mono ?_
      rintro e w3 ⟨rfl, b3⟩
      have B3 := onto B2 b3
      have LA3 := Lib.hid (LA2.out.on b3)
      clear C3 LA2 B2 b3
      by_cases hj : Just b (payB ((Nd.pbranch b).map Prod.fst) (Nd.pkid b :: (Nd.pbranch b).map Prod.snd))
      · rw [decide_eq_true hj]
        have HN := Lib.hid ((just_branch hb).1 hj)
        clear hj
        go_wp2
        go_ret2
        exact ⟨.inr (.inl ⟨_, _, _, q, rfl, LA3.out, HN.out⟩), B3⟩
      · rw [decide_eq_false hj]
        have HN := Lib.hid (noBranch hb h1 hj)
        clear hj
        go_wp2
        go_ret2
        exact ⟨.inr (.inr ⟨rfl, HN.out⟩), B3⟩
    · have he : ∀ W : World, (binOp .eql 68 .nilIface .nilIface).run Tryz.prog W = .ok (.bool true) W := fun _ => rfl
      have HN := Lib.hid (noMark h1 h2)
      clear h1 h2
      go_wp2
      go_ret2
      exact ⟨.inr (.inr ⟨rfl, HN.out⟩), b1⟩
  · have d : ((n : Int) != 1016) = true := by simp; omega
    have HN := Lib.hid (noNode_len (b := b) (by omega))
    clear h
    go_enter Tryz.func95, Tryz.ntmps95
    go_wp2
    go_ret2
    exact ⟨.inr (.inr ⟨rfl, HN.out⟩), Below.refl _ _⟩
theorem fromPay_any (w : World) (A : Option Addr) (n c : Nat) (b : List Nat) (h : Bs w A n c b) :
    Calls Tryz.prog 95 #[.slice A n c] w fun e w' => ((∃ cs q, e = .returned (.tuple #[.iface 130 (.pointer (some ⟨q, 0, none⟩)), .int .i64 0]) ∧ LeafAt w' q cs ∧ IsLeaf b cs) ∨
      (∃ ks p ps q, e = .returned (.tuple #[.iface 74 (.pointer (some ⟨q, 0, none⟩)), .int .i64 0]) ∧ BranchAt w' q ks (p :: ps) ∧ IsBranch b ks p ps) ∨
      (e = .returned (.tuple #[.nilIface, .int .i64 5]) ∧ NoNode b)) ∧ Below w.heap.size w w' :=
  (fromPay_new w A n c b h).mono fun e w' ⟨hh, hB⟩ => ⟨by
    rcases hh with ⟨cs, q, h1, h2, h3⟩ | ⟨ks, p, ps, q, h1, h2, h3⟩ | h1
    · exact .inl ⟨cs, q, h1, h2.at_, h3⟩
    · exact .inr (.inl ⟨ks, p, ps, q, h1, h2.at_, h3⟩)
    · exact .inr (.inr h1), hB⟩
end Go.Proofs.YtmcldkcmialfeaaGreat.Nn
