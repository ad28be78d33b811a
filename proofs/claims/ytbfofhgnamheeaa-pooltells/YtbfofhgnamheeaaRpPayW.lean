/-
  The document's Pay: the walk.
-/
import Derived.Test.YtbfofhgnamheeaaRpPay
namespace Go.Proofs.Ytbfofhgnamheeaa.Pq
open Go.RowKit
set_option linter.unusedVariables false

/-- What the document's Pay leaves. -/
def RPaySays (w : World) (l : List Pl.F) (next : Int) (e : Ending) (w' : World) : Prop :=
  ∃ A c, e = .returned (.slice A (Pl.payOf l next).length c) ∧ Bs w' A (Pl.payOf l next).length c (Pl.payOf l next) ∧ (∀ g o, A = some ⟨g, o, none⟩ → At w' w.heap.size g o c (Pl.payOf l next)) ∧ Below w.heap.size w w'
theorem rpay_none {w w' : World} {l : List Pl.F} {next : Int} (h : ¬ Pl.May l next) (hb : Below w.heap.size w w') : RPaySays w l next (.returned (.slice none 0 0)) w' := by
  unfold RPaySays
  rw [payOf_no h]
  exact ⟨none, 0, rfl, Bs.nil_ _ _ _ (Nat.zero_le _), fun g o hh => (by cases hh), hb⟩
theorem rpay_yes {w w' : World} {l : List Pl.F} {next : Int} {g o c n : Nat} (h : Pl.May l next) (hn : n = (Pl.pay l next).length) (hA : At w' w.heap.size g o c (Pl.pay l next)) (hb : Below w.heap.size w w') : RPaySays w l next (.returned (.slice (some ⟨g, o, none⟩) n c)) w' := by
  unfold RPaySays
  rw [payOf_yes h]
  subst hn
  exact ⟨_, c, rfl, hA.bs, fun g' o' hh => by simp only [Option.some.injEq, Addr.mk.injEq] at hh; obtain ⟨rfl, rfl, _⟩ := hh; exact hA, hb⟩

set_option maxRecDepth 100000 in
set_option maxHeartbeats 2000000 in
theorem rpay_any (w : World) (A : Option Addr) (n c : Nat) (l : List Pl.F) (next : Int) (h : Fs w A n c l) (hi : I64 next) :
    Calls Try.prog 24 #[.slice A n c, .int .i64 next] w (RPaySays w l next) := by
  have H := Lib.hid h
  have hl := h.1
  have hnc := h.2.1
  have hcm := h.2.2.1
  unfold maxLen at hcm
  unfold I64 at hi
  obtain ⟨hi1, hi2⟩ := hi
  clear h
  by_cases h84 : n ≤ 84
  · have z1 : ¬ ((84 : Int) < (n : Int)) := by omega
    by_cases h0 : next < 0
    · have HN : Hid (¬ Pl.May l next) := fun hm => by have := hm.2.1.1; omega
      go_enter Try.func24, Try.ntmps24
      go_wp2
      go_ret
      exact rpay_none HN.out (Below.refl _ _)
    · by_cases h1 : (2147483647 : Int) < next
      · have HN : Hid (¬ Pl.May l next) := fun hm => by have := hm.2.1.2; omega
        go_enter Try.func24, Try.ntmps24
        go_wp2
        go_ret
        exact rpay_none HN.out (Below.refl _ _)
      · obtain ⟨x, rfl⟩ : ∃ x : Nat, next = (x : Int) := ⟨next.toNat, by omega⟩
        have HP : Hid (Pl.Page (x : Int)) := ⟨by omega, by omega⟩
        have u1 : IntKind.u64.wrap (n : Int) = (n : Int) := IntWalk.u64_in _ ⟨by omega, by omega⟩
        have u2 : IntKind.u64.wrap (x : Int) = (x : Int) := IntWalk.u64_in _ ⟨by omega, by omega⟩
        go_enter Try.func24, Try.ntmps24
        go_wp2_with fail
        refine (refKeyO_any w n (by unfold L64; omega)).mono ?_
        rintro e w1 ⟨kv1, rfl, O1, B1⟩
        obtain ⟨g1, c1, rfl, a1, a2, A6, _, _⟩ := key_at O1
        unfold maxLen at a2
        have a3 : ¬ c1 = 6 := by omega
        have HA6 := Lib.hid A6
        have HB1 := Lib.hid B1
        clear O1 B1 A6
        go_wp2_with fail
        refine (refKeyO_any w1 x (by unfold L64; omega)).mono ?_
        rintro e w2 ⟨kv2, rfl, O2, B2⟩
        obtain ⟨g2, c2, rfl, b1, b2, _, A4, _⟩ := key_at O2
        unfold maxLen at b2
        have b3 : ¬ c2 = 4 := by omega
        have hb2 := onto HB1.out B2
        have s4 := A4.bs
        rw [Nm.be_len] at s4
        have hA6 := HA6.out.on B2
        have AP := Lib.hid (fun ty => run_app_at w2 w.heap.size ty g1 6 (c1 - 6) 2 _ hA6 (Nm.be_len _ _) g2 4 4 (c2 - 4) _ s4 (by omega) hb2.size)
        have HA2 := Lib.hid hA6
        have HB2 := Lib.hid hb2
        clear O2 B2 A4 s4 hA6 hb2 HA6 HB1
        go_wp2_with (first
          | (at_builtin; refine wpList_append_ran _ rfl _ _ 48 48 rfl (.slice (some ⟨g1, 6, none⟩) 2 (c1 - 6)) (.slice (some ⟨g2, 4, none⟩) 4 (c2 - 4)) rfl rfl _ (AP.out _) ?_; rintro v3 w3 ⟨⟨g3, o3, c3, rfl, A3⟩, gr3⟩))
        have hb3 : Below w.heap.size w w3 := HB2.out.grown gr3 HB2.out.size (fun k hk => by injection hk with hk; subst hk; exact HA2.out.base)
        have e0 : told l (x : Int) 0 = Nm.be 2 n ++ Nm.be 4 x := by unfold told; rw [hl]; simp [Pl.all]
        rw [← e0] at A3
        have S3 := Lib.hid (And.intro A3 hb3)
        clear A3 hb3 gr3 e0 AP HA2 HB2
        go_wp2_with fail
        go_loopw [5, 6] (fun o i wr => ∃ (k g o' cap : Nat), o = .slice (some ⟨g, o', none⟩) (6 + 12 * k) cap ∧ k ≤ n ∧ i = .int .i64 (k : Int) ∧ At wr w.heap.size g o' cap (told l (x : Int) k) ∧ (∀ f ∈ l.take k, Pl.Page f.1) ∧ Below w.heap.size w wr) (fun _ i _ => n - (intOf i).toNat)
        case atStart => exact ⟨0, g3, o3, c3, rfl, Nat.zero_le _, rfl, S3.out.1, by simp, S3.out.2⟩
        case round =>
          obtain ⟨k, g, o, cap, rfl, hk, rfl, hA, hall, hb⟩ := hrel
          by_cases hlt : k < n
          · have z5 : (k : Int) < (n : Int) := by omega
            obtain ⟨b, off, f, rfl, hbl, hf, hin, q0w, q1w⟩ := H.out.get hlt
            have keep0 : Hid (∀ w' : World, Below w.heap.size w w' → w'.cell? ⟨b, off + k * 2, none⟩ = some (.int .i64 f.1) ∧ w'.cell? ⟨b, off + k * 2 + 1, none⟩ = some (.int .u64 (f.2 : Int))) := fun w' hb' => ⟨(hb'.cell (p := ⟨b, off + k * 2, none⟩) hbl).trans q0w, (hb'.cell (p := ⟨b, off + k * 2 + 1, none⟩) hbl).trans q1w⟩
            obtain ⟨q0, q1⟩ := keep0.out wr hb
            clear q0w q1w hbl
            by_cases hpf : Pl.Page f.1
            · obtain ⟨y, hy⟩ : ∃ y : Nat, f.1 = (y : Int) := ⟨f.1.toNat, by have := hpf.1; omega⟩
              have hy2 : y ≤ 2147483647 := by have := hpf.2; omega
              have y3 : ¬ (y : Int) < 0 := by omega
              have y4 : ¬ (2147483647 : Int) < (y : Int) := by omega
              have hst := told_step (next := (x : Int)) hf
              have hall2 : ∀ f' ∈ l.take (k + 1), Pl.Page f'.1 := fun f' hf' => by
                rw [List.take_add_one, hf] at hf'
                rcases List.mem_append.1 hf' with h1 | h1
                · exact hall f' h1
                · simp at h1; subst h1; exact hpf
              rw [show f.1.toNat = y by omega] at hst
              have hg := hin.2
              rw [hy] at q0
              have u3 : IntKind.u64.wrap (y : Int) = (y : Int) := IntWalk.u64_in _ ⟨by omega, by omega⟩
              have hAd : At wr.drew w.heap.size g o cap (told l (x : Int) k) := hA.at_ rfl
              have hbd : Below w.heap.size w wr.drew := below_drewN hb 1
              have htl : (told l (x : Int) k).length = 6 + 12 * k := by
                unfold told
                rw [List.length_append, List.length_append, Nm.be_len, Nm.be_len, Pl.all_len, List.length_take]; omega
              have HH := Lib.hid (And.intro hst (And.intro hall2 (And.intro hAd (And.intro hbd htl))))
              have keep := keep0
              rw [hy] at keep
              have HYL : Hid (L64 y) := by show L64 y; unfold L64; omega
              have HGL : Hid (L64 f.2) := hg
              have L1 : Hid (6 + 12 * k + 4 ≤ 100000) := by show _ ≤ _; omega
              have L2 : Hid (6 + 12 * k + 4 + 8 ≤ 100000) := by show _ ≤ _; omega
              have L3 : Hid ((told l (x : Int) k ++ Nm.be 4 y).length = 6 + 12 * k + 4) := by show _ = _; rw [List.length_append, htl, Nm.be_len]
              clear hst hall2 hall hA hb hf hin hpf hAd hbd htl hg keep0
              go_wp2_with fail
              go_region_held3 (fun w' => w'.cell? ⟨b, off + k * 2, none⟩ = some (.int .i64 (y : Int)) ∧ w'.cell? ⟨b, off + k * 2 + 1, none⟩ = some (.int .u64 (f.2 : Int))) (first | assumption | exact ⟨q0, q1⟩ | go_keep) (first
                | (go_at_call 39; refine (refKeyO_any w5 f.2 HGL.out).mono ?_; rintro e v6 ⟨kv6, rfl, O6, B6⟩; obtain ⟨g6, c6, rfl, d4, d5, _, _, A6⟩ := key_at O6; have hb6 := onto hb5 B6; have s6 := A6.bs; rw [Nm.be_len] at s6; have S6 : (fun w' : World => w'.cell? ⟨b, off + k * 2, none⟩ = some (.int .i64 (y : Int)) ∧ w'.cell? ⟨b, off + k * 2 + 1, none⟩ = some (.int .u64 (f.2 : Int))) v6 := keep.out v6 hb6; clear O6 A6)
                | (refine step_append_run rfl (.tmp 58) (.tmp 64) 48 48 rfl (.slice (some ⟨g5, o5, none⟩) (6 + 12 * k + 4) c5) (.slice (some ⟨g6, 0, none⟩) 8 c6) (by rfl) (by rfl) _ (run_app_at v6 w.heap.size _ g5 o5 c5 (6 + 12 * k + 4) _ (A5.on B6) L3.out g6 0 8 c6 _ s6 L2.out hb6.size) ?_; rintro v7 w7 ⟨⟨g7, o7, c7, rfl, A7⟩, gr7⟩; have hb7 : Below w.heap.size w w7 := hb6.grown gr7 hb6.size (fun j hj => by injection hj with hj; subst hj; exact A5.base); have S7 : (fun w' : World => w'.cell? ⟨b, off + k * 2, none⟩ = some (.int .i64 (y : Int)) ∧ w'.cell? ⟨b, off + k * 2 + 1, none⟩ = some (.int .u64 (f.2 : Int))) w7 := keep.out w7 hb7)
                | (refine step_append_run rfl (.tmp 49) (.tmp 57) 48 48 rfl (.slice (some ⟨g, o, none⟩) (6 + 12 * k) cap) (.slice (some ⟨g4, 4, none⟩) 4 (c4 - 4)) (by rfl) (by rfl) _ (run_app_at v4 w.heap.size _ g o cap (6 + 12 * k) _ (HH.out.2.2.1.on B4) HH.out.2.2.2.2 g4 4 4 (c4 - 4) _ s4 L1.out hb4.size) ?_; rintro v5 w5 ⟨⟨g5, o5, c5, rfl, A5⟩, gr5⟩; have hb5 : Below w.heap.size w w5 := hb4.grown gr5 hb4.size (fun j hj => by injection hj with hj; subst hj; exact HH.out.2.2.1.base); have S5 : (fun w' : World => w'.cell? ⟨b, off + k * 2, none⟩ = some (.int .i64 (y : Int)) ∧ w'.cell? ⟨b, off + k * 2 + 1, none⟩ = some (.int .u64 (f.2 : Int))) w5 := keep.out w5 hb5)
                | (go_at_call 39; refine (refKeyO_any wr.drew y HYL.out).mono ?_; rintro e v4 ⟨kv4, rfl, O4, B4⟩; obtain ⟨g4, c4, rfl, d1, d2, _, A4, _⟩ := key_at O4; have d3 : ¬ c4 = 4 := (by omega); have hb4 := onto HH.out.2.2.2.1 B4; have s4 := A4.bs; rw [Nm.be_len] at s4; have S4 : (fun w' : World => w'.cell? ⟨b, off + k * 2, none⟩ = some (.int .i64 (y : Int)) ∧ w'.cell? ⟨b, off + k * 2 + 1, none⟩ = some (.int .u64 (f.2 : Int))) v4 := keep.out v4 hb4; clear O4 A4)
                | fail)
              all_goals
                rw [HH.out.1] at A7
                have HE := Lib.hid (And.intro A7 hb7)
                clear A7 hb7 gr7 S7 s6 hb6 S6 B6 A5 hb5 S5 gr5 s4 hb4 S4 B4 d1 d2 d4 d5
                go_wp2
                go_roundw
                case rel => exact ⟨k + 1, _, _, _, rfl, by omega, by go_num, HE.out.1, HH.out.2.1, HE.out.2⟩
                case measure => simp [intOf]; omega
            · have HN : Hid (¬ Pl.May l (x : Int)) := fun hm => hpf (hm.2.2 f (List.mem_of_getElem? hf))
              have HB := Lib.hid hb
              by_cases y3 : f.1 < 0
              · clear hf hin hall hb hA hpf keep0
                go_wp2
                go_ret
                exact rpay_none HN.out HB.out
              · have y4 : (2147483647 : Int) < f.1 := Int.not_le.1 fun h => hpf ⟨by omega, h⟩
                clear hf hin hall hb hA hpf keep0
                go_wp2
                go_ret
                exact rpay_none HN.out HB.out
          · have z5 : ¬ ((k : Int) < (n : Int)) := by omega
            have hm : Pl.May l (x : Int) := ⟨by omega, HP.out, fun f hf => hall f (by rw [List.take_of_length_le (by omega)]; exact hf)⟩
            rw [told_all l _ (by omega)] at hA
            have e := Pl.pay_len l (x : Int)
            have HX := Lib.hid (And.intro hm (And.intro hA (And.intro hb e)))
            clear hm hA hb hall e
            go_wp2
            go_ret
            obtain ⟨hm, hA, hb, e⟩ := HX.out
            exact rpay_yes hm (by rw [e]; omega) hA hb
  · have z1 : (84 : Int) < (n : Int) := by omega
    have HN : Hid (¬ Pl.May l next) := fun hm => by have := hm.1; omega
    go_enter Try.func24, Try.ntmps24
    go_wp2
    go_ret
    exact rpay_none HN.out (Below.refl _ _)

end Go.Proofs.Ytbfofhgnamheeaa.Pq
