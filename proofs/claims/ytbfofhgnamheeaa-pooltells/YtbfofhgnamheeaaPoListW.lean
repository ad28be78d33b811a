/-
  List.
-/
import Derived.Test.YtbfofhgnamheeaaPoList
namespace Go.Proofs.Ytbfofhgnamheeaa.Pq
open Go.RowKit
set_option linter.unusedVariables false

theorem own_low {w : World} {base base' e size n : Nat} {v : Value} {xs : List Value} (h : w.ownsRow base e size v n xs) (hb : base' ≤ base) : w.ownsRow base' e size v n xs := by
  refine ⟨h.1, ?_⟩
  rcases h.2 with h0 | ⟨g, cap, cur, hv, hg, r⟩
  · exact .inl h0
  · exact .inr ⟨g, cap, cur, hv, Nat.le_trans hb hg, r⟩
theorem in_ok {d : Pl.Pd} (h : Pl.Ok d) : ∀ f ∈ d.l, In f := fun f hf => ⟨by have := h.ins f hf; have := h.high; have := h.cap; unfold I64; omega, h.gens f hf⟩

set_option maxRecDepth 100000 in
theorem list_any (w : World) (p mb : Nat) (d : Pl.Pd) (h : Po w p mb d) :
    Calls Try.prog 21 #[.pointer (some ⟨p, 0, none⟩)] w fun e w' => ∃ v, e = .returned v ∧ w'.ownsRow w.heap.size 57 2 v d.l.length (fc d.l) ∧ Below w.heap.size w w' := by
  have H := Lib.hid h
  have c2 := h.c2
  have hfew := h.few
  have CK := Lib.hid (keys_any mb w)
  have CS := Lib.hid (sorted_any w mb d.l h.map h.ok.rises hfew)
  clear h
  go_enter Try.func21, Try.ntmps21
  go_wp2_with fail
  refine CK.out.mono ?_
  rintro e w0 ⟨rfl, rfl⟩
  go_wp2_with fail
  refine CS.out.mono ?_
  rintro e w1 ⟨sv, rfl, hS, hB⟩
  have B1 : Below w.heap.size w w1 := ((Below.refl _ w).alloc (Nat.le_refl _) _).trans (hB.mono (by simp))
  have hP1 := H.out.on B1
  have HS := Lib.hid hS
  have HB := Lib.hid B1
  have HP := Lib.hid hP1
  obtain ⟨A, c, rfl, hnc, hcm⟩ := own_form hS
  unfold maxLen at hcm
  clear hS hB B1 hP1 CK CS c2
  generalize hn : d.l.length = n at *
  go_wp2_with fail
  go_loopw [3, 13] (fun o i wr => ∃ (k : Nat) (ov : Value), ov = o ∧ k ≤ n ∧ i = .int .i64 (k : Int) ∧ wr.ownsRow w1.heap.size 57 2 ov k (fc (d.l.take k)) ∧ Below w1.heap.size w1 wr) (fun _ i _ => n - (intOf i).toNat)
  case atStart => exact ⟨0, _, rfl, Nat.zero_le _, rfl, World.ownsRow_nil _ _ _ _, Below.refl _ _⟩
  case round =>
    obtain ⟨k, o, rfl, hk, rfl, hO, hb⟩ := hrel
    by_cases hlt : k < n
    · have z1 : (k : Int) < (n : Int) := by omega
      have hx : d.l[k]? = some d.l[k] := List.getElem?_eq_getElem (by omega)
      generalize d.l[k] = f at hx
      have hP := HP.out.on hb
      have hlk := (Pl.look_iff HP.out.ok.rises (no := f.1) (g := f.2)).2 (List.mem_of_getElem? hx)
      have hin := in_ok HP.out.ok f (List.mem_of_getElem? hx)
      have hrun := hP.map.look hin.1 hlk
      have c2 := hP.c2
      have hSr := own_on HS.out hb
      obtain ⟨g, rfl, cS⟩ : ∃ g, A = some ⟨g, 0, none⟩ ∧ wr.cell? ⟨g, k, none⟩ = some (.int .i64 f.1) := by
        rcases hSr.2 with ⟨_, h0⟩ | ⟨g, cap, cur, hv, _, _⟩
        · omega
        · injection hv with h1 _ h3
          subst h1 h3
          refine ⟨g, rfl, ?_⟩
          rw [hSr.cellAt k (by omega), List.getElem?_map, hx]; rfl
      have hl1 : (d.l.take k).length = k := by simp; omega
      have hta : d.l.take (k + 1) = d.l.take k ++ [f] := by rw [List.take_add_one, hx]; rfl
      have hO' : (wr.alloc (.cells #[.int .i64 f.1, .int .u64 (f.2 : Int)] 57)).ownsRow w1.heap.size 57 2 o (d.l.take k).length (fc (d.l.take k)) := by rw [hl1]; exact hO.alloc _
      have hbs := hb.size
      have AP := Lib.hid (fun ty => run_append_fs _ w1.heap.size ty o (d.l.take k) hO' _ 1 1 [f] (fs_new wr f hin) (by omega) (by simp; omega))
      have HB2 := Lib.hid (hb.alloc (by omega) (.cells #[.int .i64 f.1, .int .u64 (f.2 : Int)] 57))
      have HO2 := Lib.hid hO'
      have HT := Lib.hid hta
      clear hP hlk hin hSr hx hO hO' hta hb
      go_wp2_with (first
        | (at_builtin; refine wpList_append_ran _ rfl _ _ 22 22 rfl o (.slice (some ⟨wr.heap.size, 0, none⟩) 1 1) rfl rfl _ (AP.out _) ?_; rintro v2 w2 ⟨O2, g2⟩))
      have b2 := below_own HB2.out HO2.out g2 (by simp; omega) (Nat.le_refl _)
      rw [← HT.out] at O2
      have hl2 : (d.l.take (k + 1)).length = k + 1 := by simp; omega
      rw [hl2] at O2
      go_roundw
      case rel => exact ⟨k + 1, _, rfl, by omega, by go_num, O2, b2⟩
      case measure => simp [intOf]; omega
    · have z1 : ¬ ((k : Int) < (n : Int)) := by omega
      have hkn : k = n := by omega
      subst hkn
      rw [← hn, List.take_length, hn] at hO
      have HO := Lib.hid (And.intro hO hb)
      clear hO hb
      go_wp2
      go_ret
      obtain ⟨hO, hb⟩ := HO.out
      exact ⟨_, rfl, own_low hO HB.out.size, onto HB.out hb⟩

end Go.Proofs.Ytbfofhgnamheeaa.Pq
