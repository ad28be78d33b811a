/-
  The document's FromPay: the walk.
-/
import Derived.Test.YtbfofhgnamheeaaRpFrom
namespace Go.Proofs.Ytbfofhgnamheeaa.Pq
open Go.RowKit
set_option linter.unusedVariables false

theorem item_row {l : List Nat} (hl : ∀ x ∈ l, x < 256) (i : Nat) : In (Pl.itemOf l i) ∧ 0 ≤ (Pl.itemOf l i).1 ∧ (Pl.itemOf l i).1 < 4294967296 := by
  have h1 := Nm.fromBe_lt ((l.drop (6 + 12 * i)).take 4) (fun x hx => hl x (List.mem_of_mem_drop (List.mem_of_mem_take hx)))
  have h2 := Nm.fromBe_lt ((l.drop (10 + 12 * i)).take 8) (fun x hx => hl x (List.mem_of_mem_drop (List.mem_of_mem_take hx)))
  have l1 : ((l.drop (6 + 12 * i)).take 4).length ≤ 4 := by simp; omega
  have l2 : ((l.drop (10 + 12 * i)).take 8).length ≤ 8 := by simp; omega
  have p1 : 256 ^ ((l.drop (6 + 12 * i)).take 4).length ≤ 256 ^ 4 := Nat.pow_le_pow_right (by omega) l1
  have p2 : 256 ^ ((l.drop (10 + 12 * i)).take 8).length ≤ 256 ^ 8 := Nat.pow_le_pow_right (by omega) l2
  have e1 : (256 : Nat) ^ 4 = 4294967296 := by decide
  have e2 : (256 : Nat) ^ 8 = 18446744073709551616 := by decide
  unfold Pl.itemOf In I64
  simp only
  omega
def lenV : Value → Nat
  | .slice _ n _ => n
  | _ => 0
theorem bs_lit (w : World) : Bs (w.alloc (.cells #[.int .u8 0] 5)) (some ⟨w.heap.size, 0, none⟩) 1 1 [0] := by
  have hn := heap_alloc_new w (.cells #[.int .u8 0] 5)
  refine ⟨rfl, Nat.le_refl _, by unfold maxLen; omega, by simp, fun _ => ⟨w.heap.size, 0, rfl, by simp, fun j x hx => ?_⟩⟩
  have hj : j = 0 := by have := (List.getElem?_eq_some_iff.1 hx).1; simp at this; exact this
  subst hj
  simp at hx
  subst hx
  have c0 := cell_of_row _ _ 0 _ _ (0, 0) hn
  rw [Nat.add_zero, c0]; rfl

set_option maxRecDepth 100000 in
set_option maxHeartbeats 2000000 in
theorem rfrom_any (w : World) (A : Option Addr) (n c : Nat) (l : List Nat) (hb : Bs w A n c l) :
    Calls Try.prog 28 #[.slice A n c] w (FromSays w l) := by
  have HB := Lib.hid hb
  have hl := hb.1
  have hnc := hb.2.1
  have hcm := hb.2.2.1
  have hlt := hb.2.2.2.1
  unfold maxLen at hcm
  by_cases hn : n = 1016
  · subst hn
    obtain ⟨b, off, rfl, hbl, hcell⟩ := hb.2.2.2.2 (by omega)
    obtain ⟨x, hx⟩ : ∃ x, l[0]? = some x := ⟨_, List.getElem?_eq_getElem (by omega)⟩
    obtain ⟨y, hy⟩ : ∃ y, l[1]? = some y := ⟨_, List.getElem?_eq_getElem (by omega)⟩
    have q0 := hcell 0 x hx
    have q1 := hcell 1 y hy
    rw [Nat.add_zero] at q0
    have hxl := hlt x (List.mem_of_getElem? hx)
    have hyl := hlt y (List.mem_of_getElem? hy)
    have hc := count_two hx hy
    have hor : IntKind.i64.wrap (256 * (x : Int) + (y : Int)) = ((Pl.count l : Nat) : Int) := by rw [IntWalk.i64_in _ ⟨by omega, by omega⟩, hc]; omega
    have hw1 : IntKind.i64.wrap (256 * (x : Int)) = 256 * (x : Int) := IntWalk.i64_in _ ⟨by omega, by omega⟩
    have G1 := Lib.hid (hb.cut_far 2 (by omega))
    have HL := Lib.hid (And.intro hl hlt)
    obtain ⟨k, hk⟩ : ∃ k, k = Pl.count l := ⟨_, rfl⟩
    have HK := Lib.hid hk
    have hk2 : k < 65536 := by rw [hk, hc]; omega
    rw [← hk] at hor
    have p4 : pad4 (l.drop 2) = (l.drop 2).take 4 := pad4_big (by rw [List.length_drop, hl]; omega)
    have hnx : Pl.nextOf l = ((Nm.fromBe ((l.drop 2).take 4) : Nat) : Int) := rfl
    have hnl := fromBe4_lt (l.drop 2) fun y hy => hlt y (List.mem_of_mem_drop hy)
    rw [p4] at hnl
    obtain ⟨z, hz⟩ : ∃ z, z = Nm.fromBe ((l.drop 2).take 4) := ⟨_, rfl⟩
    rw [← hz] at hnl hnx
    have HNX := Lib.hid hnx
    have HZ : Hid (Nm.fromBe (pad4 (l.drop 2)) = z) := by show _ = _; rw [p4, hz]
    have u1 : IntKind.i64.wrap (z : Int) = (z : Int) := IntWalk.i64_in _ ⟨by omega, by omega⟩
    clear hb hl hlt hcell hx hy hc hk p4 hz hnx
    go_enter Try.func28, Try.ntmps28
    go_wp2_with fail
    go_quiet (fail)
    have C1 := Lib.hid (refGet32_any (w.drewN nq) _ _ _ _ (by exact G1.out))
    rw [HZ.out] at C1
    go_wp2_with fail
    refine C1.out.mono ?_
    rintro e w1 ⟨rfl, hw1'⟩
    subst hw1'
    have HB1 : Hid (Below w.heap.size w (w.drewN nq)) := below_drewN (Below.refl _ w) nq
    generalize w.drewN nq = w1 at *
    clear C1 G1 q0 q1 hor hw1 hxl hyl
    by_cases h84 : k ≤ 84
    · have z2 : ¬ ((84 : Int) < (k : Int)) := by omega
      go_wp2_with fail
      go_loopw [7, 8] (fun o i wr => ∃ (j : Nat) (ov : Value), ov = o ∧ j ≤ k ∧ i = .int .i64 (j : Int) ∧ wr.ownsRow w.heap.size 57 2 ov (Pl.itemsTo l j).length (fc (Pl.itemsTo l j)) ∧ Below w.heap.size w wr) (fun _ i _ => k - (intOf i).toNat)
      case atStart => exact ⟨0, _, rfl, Nat.zero_le _, rfl, World.ownsRow_nil _ _ _ _, HB1.out⟩
      case round =>
        obtain ⟨j, ov, rfl, hj, rfl, hO, hb⟩ := hrel
        have HBr := Lib.hid (HB.out.on hb)
        have hitl := Pl.itemsTo_len l j
        by_cases hjk : j < k
        · have y1 : (j : Int) < (k : Int) := by omega
          obtain ⟨a6, ha6⟩ : ∃ a, a = 6 + 12 * j := ⟨_, rfl⟩
          obtain ⟨a10, ha10⟩ : ∃ a, a = 10 + 12 * j := ⟨_, rfl⟩
          obtain ⟨a18, ha18⟩ : ∃ a, a = 18 + 12 * j := ⟨_, rfl⟩
          have v0 : IntKind.i64.wrap (12 * (j : Int)) = 12 * (j : Int) := IntWalk.i64_in _ ⟨by omega, by omega⟩
          have v1 : IntKind.i64.wrap (10 + 12 * (j : Int)) = ((a10 : Nat) : Int) := by rw [IntWalk.i64_in _ ⟨by omega, by omega⟩]; omega
          have v2 : IntKind.i64.wrap (18 + 12 * (j : Int)) = ((a18 : Nat) : Int) := by rw [IntWalk.i64_in _ ⟨by omega, by omega⟩]; omega
          have v3 : IntKind.i64.wrap (6 + 12 * (j : Int)) = ((a6 : Nat) : Int) := by rw [IntWalk.i64_in _ ⟨by omega, by omega⟩]; omega
          have v4 : a10 ≤ a18 := by omega
          have v5 : a18 ≤ 1016 := by omega
          have v6 : a18 ≤ c := by omega
          have v7 : ¬ c = a10 := by omega
          have v8 : a18 - a10 = 8 := by omega
          have v9 : a6 ≤ 1016 := by omega
          have v10 : ¬ c = a6 := by omega
          have v11 : a6 < 1016 := by omega
          have C8 := Lib.hid (refUnkey_yes wr _ _ _ ((HBr.out.cut_far a10 (by omega)).first 8 (by omega)))
          have C4 := Lib.hid (refGet32_any wr _ _ _ _ (HBr.out.cut_far a6 v11))
          have hrow := item_row HL.out.2 j
          have e4 : Nm.fromBe (pad4 (l.drop a6)) = (Pl.itemOf l j).1.toNat := by
            rw [pad4_big (by rw [List.length_drop, HL.out.1]; omega), ha6]
            unfold Pl.itemOf; simp
          have e8 : Nm.fromBe ((l.drop a10).take 8) = (Pl.itemOf l j).2 := by rw [ha10]; rfl
          obtain ⟨yy, hyy⟩ : ∃ y : Nat, y = (Pl.itemOf l j).1.toNat := ⟨_, rfl⟩
          have hyr : (Pl.itemOf l j).1 = (yy : Int) := by have := hrow.2.1; omega
          have hy2 : yy < 4294967296 := by have := hrow.2.2; omega
          rw [e4, ← hyy] at C4
          rw [e8] at C8
          have u2 : IntKind.i64.wrap (yy : Int) = (yy : Int) := IntWalk.i64_in _ ⟨by omega, by omega⟩
          have hst := Pl.itemsTo_snoc l j
          have hr2 : In ((yy : Int), (Pl.itemOf l j).2) := by rw [← hyr]; exact hrow.1
          have hbs := hb.size
          have hO' := hO.alloc (.cells #[.int .i64 (yy : Int), .int .u64 ((Pl.itemOf l j).2 : Int)] 57)
          have AP := Lib.hid (fun ty => run_append_fs _ w.heap.size ty ov (Pl.itemsTo l j) hO' _ 1 1 [((yy : Int), (Pl.itemOf l j).2)] (fs_new wr ((yy : Int), (Pl.itemOf l j).2) hr2) (by omega) (by simp; omega))
          have HB2 := Lib.hid (hb.alloc (by omega) (.cells #[.int .i64 (yy : Int), .int .u64 ((Pl.itemOf l j).2 : Int)] 57))
          have HO2 := Lib.hid hO'
          have HRS : Hid (Pl.itemsTo l j ++ [((yy : Int), (Pl.itemOf l j).2)] = Pl.itemsTo l (j + 1)) := by show _ = _; rw [hst, ← hyr]
          clear hO hb hO' hr2 e8 e4 hyy hyr hrow hst ha6 ha10 ha18 hitl HBr
          generalize (Pl.itemOf l j).2 = gg at *
          go_wp2_with fail
          refine C8.out.mono ?_
          rintro e w2 ⟨rfl, rfl⟩
          go_wp2_with fail
          refine C4.out.mono ?_
          rintro e w3 ⟨rfl, rfl⟩
          go_wp2_with (first
            | (at_builtin; refine wpList_append_ran _ rfl _ _ 22 22 rfl ov (.slice (some ⟨wr.heap.size, 0, none⟩) 1 1) rfl rfl _ (AP.out _) ?_; rintro v4 w4 ⟨O4, g4⟩))
          have b4 := below_own HB2.out HO2.out g4 (by simp; omega) (Nat.le_refl _)
          rw [HRS.out] at O4
          go_roundw
          case rel => exact ⟨j + 1, _, rfl, by omega, by go_num, O4, b4⟩
          case measure => simp [intOf]; omega
        · have y1 : ¬ ((j : Int) < (k : Int)) := by omega
          have hje : j = k := by omega
          subst hje
          have hit : Pl.itemsTo l j = Pl.items l := by unfold Pl.items; rw [HK.out]
          rw [hit] at hO hitl
          have hins : ∀ f ∈ Pl.items l, In f := fun f hf => by
            unfold Pl.items Pl.itemsTo at hf
            obtain ⟨i, _, rfl⟩ := List.mem_map.1 hf
            exact (item_row HL.out.2 i).1
          obtain ⟨oA, oc, rfl, Fo⟩ := fs_own hO hins
          rw [hitl] at Fo ⊢
          have CP := Lib.hid (rpay_any wr oA j oc (Pl.items l) (z : Int) Fo (by unfold I64; omega))
          have HO := Lib.hid hO
          have HBb := Lib.hid hb
          clear hO hb hit hins Fo hitl
          go_wp2_with fail
          refine CP.out.mono ?_
          rintro e w2 ⟨pA, pc, rfl, S2, A2, B2⟩
          have hb2 := onto HBb.out B2
          have HO2 := Lib.hid (own_on2 HO.out B2)
          clear CP
          by_cases hm : Pl.May (Pl.items l) (z : Int)
          · rw [payOf_yes hm] at S2 A2 ⊢
            have hpl := Pl.pay_len (Pl.items l) (z : Int)
            have hil : (Pl.items l).length = j := by unfold Pl.items; rw [Pl.itemsTo_len, ← HK.out]
            rw [hil] at hpl
            obtain ⟨pg, po, rfl, _⟩ := S2.2.2.2.2 (by rw [hpl]; omega)
            have hA2 := A2 pg po rfl
            have hfu : Pl.full (Pl.items l) (z : Int) = Pl.pay (Pl.items l) (z : Int) ++ List.replicate (1016 - (6 + 12 * j)) 0 := by unfold Pl.full; rw [hpl]
            have hsi : Pl.Says l ↔ Pl.full (Pl.items l) (z : Int) = l := by
              constructor
              · intro h; have := h.2.2.2; rw [HNX.out] at this; exact this
              · intro h; exact ⟨HL.out.1, by rw [← HK.out]; exact h84, by rw [HNX.out]; exact hm, by rw [HNX.out]; exact h⟩
            rw [hpl] at ⊢
            obtain ⟨p, hp⟩ : ∃ p, p = 6 + 12 * j := ⟨_, rfl⟩
            rw [← hp] at hfu hpl ⊢
            have hp1 : 6 ≤ p := by omega
            have hp2 : p ≤ 1014 := by omega
            have p0 : ((p : Int) == 0) = false := by rw [beq_eq_false_iff_ne]; omega
            have HI := Lib.hid (And.intro hA2 (And.intro B2 (And.intro hpl (And.intro hfu hsi))))
            have HIL := Lib.hid hil
            clear hA2 B2 hpl hfu hsi S2 A2 hb2 hil hp hm HO2
            generalize Pl.pay (Pl.items l) (z : Int) = P at *
            generalize Pl.full (Pl.items l) (z : Int) = U at *
            obtain ⟨wq, hwq⟩ : ∃ wq, wq = wr := ⟨_, rfl⟩
            subst hwq
            go_wp2_with fail
            go_loopw [11] (fun o wr => ∃ (i g o' cap : Nat), o = .slice (some ⟨g, o', none⟩) (p + i) cap ∧ p + i ≤ 1016 ∧ At wr wq.heap.size g o' cap (P ++ List.replicate i 0) ∧ Below wq.heap.size wq wr) (fun o _ => 1016 - lenV o)
            case atStart => exact ⟨0, _, _, _, rfl, by omega, by simpa using HI.out.1, HI.out.2.1⟩
            case round =>
              obtain ⟨i, g, o, cap, rfl, hi, hA, hb⟩ := hrel
              by_cases hlt : p + i < 1016
              · have y1 : ((p + i : Nat) : Int) < 1016 := by omega
                have hbs := hb.size
                have hAa := hA.on (Below.alloc (Below.refl _ _) (Nat.le_refl _) (.cells #[.int .u8 0] 5))
                have hba := hb.alloc hbs (.cells #[.int .u8 0] 5)
                have hxl : (P ++ List.replicate i 0).length = p + i := by rw [List.length_append, HI.out.2.2.1, List.length_replicate]
                have AP := Lib.hid (fun ty => run_app_at _ wq.heap.size ty g o cap (p + i) _ hAa hxl _ 0 1 1 [0] (bs_lit wr) (by omega) hba.size)
                have HH := Lib.hid (And.intro hAa hba)
                clear hA hb hAa hba hxl
                go_wp2_with (first
                  | (at_builtin; refine wpList_append_ran _ rfl _ _ 48 48 rfl (.slice (some ⟨g, o, none⟩) (p + i) cap) (.slice (some ⟨wr.heap.size, 0, none⟩) 1 1) rfl rfl _ (AP.out _) ?_; rintro v3 w3 ⟨⟨g3, o3, c3, rfl, A3⟩, gr3⟩))
                have hb3 : Below wq.heap.size wq w3 := HH.out.2.grown gr3 HH.out.2.size (fun k hk => by injection hk with hk; subst hk; exact HH.out.1.base)
                rw [List.append_assoc, show List.replicate i 0 ++ [0] = List.replicate (i + 1) 0 from List.replicate_succ'.symm] at A3
                go_roundw
                case rel => exact ⟨i + 1, _, _, _, rfl, by omega, A3, hb3⟩
                case measure => simp [lenV]; omega
              · have hie : i = 1016 - p := by omega
                have y1 : ¬ ((p + i : Nat) : Int) < 1016 := by omega
                have S3 := hA.bs
                have hxl : (P ++ List.replicate i 0).length = p + i := by rw [List.length_append, HI.out.2.2.1, List.length_replicate]
                rw [hxl] at S3
                rw [hie, ← HI.out.2.2.2.1, ← hie] at S3
                have hbw := onto HBb.out hb
                have CS := Lib.hid (same_any wr _ _ _ _ _ _ U l S3 (HB.out.on hbw))
                have hown : wr.ownsRow w.heap.size 57 2 (.slice oA j oc) (Pl.items l).length (fc (Pl.items l)) := by
                  have h := own_on2 HO.out hb
                  rw [HIL.out] at h ⊢
                  exact h
                have HE := Lib.hid (And.intro hbw hown)
                clear hA hb S3 hxl hbw hie hown
                go_wp2_with fail
                refine CS.out.mono ?_
                rintro e w4 ⟨rfl, m4, rfl⟩
                clear CS
                by_cases hu : U = l
                · rw [decide_eq_true hu]
                  have HY : Hid (Pl.Says l) := HI.out.2.2.2.2.2 hu
                  clear hu
                  go_wp2
                  go_ret3
                  rw [← HNX.out]
                  exact from_yes HY.out HE.out.2 (below_drewN HE.out.1 _)
                · rw [decide_eq_false hu]
                  have HN : Hid (¬ Pl.Says l) := fun h => hu (HI.out.2.2.2.2.1 h)
                  clear hu
                  go_wp2
                  go_ret3
                  exact from_no HN.out (below_drewN HE.out.1 _)
          · rw [payOf_no hm] at S2 ⊢
            have HN : Hid (¬ Pl.Says l) := fun h => hm (by have := h.2.2.1; rw [HNX.out] at this; exact this)
            have HB2 := Lib.hid hb2
            clear S2 A2 B2 hb2 hm
            simp only [List.length_nil]
            go_wp2
            go_ret3
            exact from_no HN.out HB2.out
    · have z2 : (84 : Int) < (k : Int) := by omega
      have HN : Hid (¬ Pl.Says l) := fun h => h84 (by have := h.2.1; rw [← HK.out] at this; exact this)
      go_wp2
      go_ret3
      exact from_no HN.out HB1.out
  · have z1 : ((n : Int) != 1016) = true := by rw [bne_iff_ne]; omega
    have HN : Hid (¬ Pl.Says l) := fun h => hn (by rw [← hl]; exact h.1)
    clear hb hl hlt
    go_enter Try.func28, Try.ntmps28
    go_wp2
    go_ret3
    exact from_no HN.out (Below.refl _ _)

end Go.Proofs.Ytbfofhgnamheeaa.Pq
