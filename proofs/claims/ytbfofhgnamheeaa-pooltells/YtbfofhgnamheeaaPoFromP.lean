/-
  The program's FromPay.
-/
import Derived.Test.YtbfofhgnamheeaaPoFrom
import Derived.Test.YtbfofhgnamheeaaPoListW
namespace Go.Proofs.Ytbfofhgnamheeaa.Pq
open Go.RowKit
set_option linter.unusedVariables false

/-- What FromPay leaves. -/
def FromSays (w : World) (l : List Nat) (e : Ending) (w' : World) : Prop :=
  ∃ v, (Pl.Says l → e = .returned (.tuple #[v, .int .i64 (Pl.nextOf l), .int .i64 0]) ∧ w'.ownsRow w.heap.size 57 2 v (Pl.items l).length (fc (Pl.items l))) ∧
    (¬ Pl.Says l → e = .returned (.tuple #[.slice none 0 0, .int .i64 0, .int .i64 5])) ∧ Below w.heap.size w w'
theorem from_no {w w' : World} {l : List Nat} (h : ¬ Pl.Says l) (hb : Below w.heap.size w w') : FromSays w l (.returned (.tuple #[.slice none 0 0, .int .i64 0, .int .i64 5])) w' :=
  ⟨.slice none 0 0, fun h' => absurd h' h, fun _ => rfl, hb⟩
theorem from_yes {w w' : World} {l : List Nat} {v : Value} (h : Pl.Says l) (hO : w'.ownsRow w.heap.size 57 2 v (Pl.items l).length (fc (Pl.items l))) (hb : Below w.heap.size w w') : FromSays w l (.returned (.tuple #[v, .int .i64 (Pl.nextOf l), .int .i64 0])) w' :=
  ⟨v, fun _ => ⟨rfl, hO⟩, fun h' => absurd h h', hb⟩
theorem count_two {l : List Nat} {x y : Nat} (hx : l[0]? = some x) (hy : l[1]? = some y) : Pl.count l = x * 256 + y := by
  match l, hx, hy with
  | a :: b :: r, hx, hy =>
    simp at hx hy
    subst hx hy
    unfold Pl.count
    simp [Nm.fromBe]
theorem or_i64 (x y : Nat) (hx : x < 256) (hy : y < 256) : bits .or .i64 ((x : Int) * 256) (y : Int) = ((x * 256 + y : Nat) : Int) := by
  have e : (x : Int) * 256 = ((x * 256 : Nat) : Int) := by omega
  rw [e]
  show IntKind.i64.wrap ((BitVec.ofInt 64 ((x * 256 : Nat) : Int) ||| BitVec.ofInt 64 (y : Int)).toNat : Int) = _
  rw [BitVec.toNat_or, ofInt_u64 (x * 256) (by omega), ofInt_u64 y (by omega), nat_join 8 _ _ (by omega) (by omega), IntWalk.i64_in _ ⟨by omega, by omega⟩]

set_option maxRecDepth 100000 in
set_option maxHeartbeats 1000000 in
theorem fromPay_any (w : World) (A : Option Addr) (n c : Nat) (l : List Nat) (hb : Bs w A n c l) :
    Calls Try.prog 27 #[.slice A n c] w (FromSays w l) := by
  have HB := Lib.hid hb
  have hl := hb.1
  have hnc := hb.2.1
  have hcm := hb.2.2.1
  have hlt := hb.2.2.2.1
  unfold maxLen at hcm
  by_cases hn : n = 1016
  · subst hn
    obtain ⟨b, off, rfl, hbl, hcell⟩ := hb.2.2.2.2 (by omega)
    obtain ⟨x, hx⟩ : ∃ x, l[0]? = some x := ⟨_, List.getElem?_eq_getElem (by omega)⟩
    obtain ⟨y, hy⟩ : ∃ y, l[1]? = some y := ⟨_, List.getElem?_eq_getElem (by omega)⟩
    have q0 := hcell 0 x hx
    have q1 := hcell 1 y hy
    rw [Nat.add_zero] at q0
    have hxl := hlt x (List.mem_of_getElem? hx)
    have hyl := hlt y (List.mem_of_getElem? hy)
    have hc := count_two hx hy
    have hsi := Pl.says_iff hl hlt
    have G1 := Lib.hid ((hb.cut_far 2 (by omega)).first 4 (by omega))
    have HL := Lib.hid (And.intro hl hlt)
    have HS := Lib.hid hsi
    have HC := Lib.hid hc
    clear hb hl hlt hcell hx hy hsi hc
    go_enter Try.func27, Try.ntmps27
    go_wp2_with fail
    go_quiet (fail)
    have hor := or_i64 x y hxl hyl
    have hcx := HC.out
    rw [← hcx] at hor
    rw [hor]
    have hc2 : Pl.count l < 65536 := by rw [hcx]; omega
    obtain ⟨k, hk⟩ : ∃ k, k = Pl.count l := ⟨_, rfl⟩
    have HK := Lib.hid hk
    rw [← hk] at hc2 ⊢
    clear hor hcx hk q0 q1 hxl hyl HC
    have p4 : pad4 ((l.drop 2).take 4) = (l.drop 2).take 4 := by
      rw [pad4_big (by rw [List.length_take, List.length_drop, HL.out.1]; omega), List.take_take, Nat.min_self]
    have hnx : Pl.nextOf l = ((Nm.fromBe ((l.drop 2).take 4) : Nat) : Int) := rfl
    have hnl := fromBe4_lt ((l.drop 2).take 4) fun y hy => HL.out.2 y (List.mem_of_mem_drop (List.mem_of_mem_take hy))
    rw [p4] at hnl
    have C1 := Lib.hid (get32_any (w.drewN nq) _ _ _ _ (by exact G1.out))
    rw [p4] at C1
    obtain ⟨z, hz⟩ : ∃ z, z = Nm.fromBe ((l.drop 2).take 4) := ⟨_, rfl⟩
    rw [← hz] at C1 hnl hnx
    have HNX := Lib.hid hnx
    have u1 : IntKind.i64.wrap (z : Int) = (z : Int) := IntWalk.i64_in _ ⟨by omega, by omega⟩
    clear p4 hz hnx G1
    go_wp2_with fail
    refine C1.out.mono ?_
    rintro e w1 ⟨rfl, B1⟩
    have hb1 : Below w.heap.size w w1 := onto (below_drewN (Below.refl _ w) nq) B1
    have HB1 := Lib.hid hb1
    have CT := Lib.hid (mayTell_any w1 (z : Int))
    clear B1 hb1 C1
    by_cases h84 : k ≤ 84
    · have z2 : ¬ ((84 : Int) < (k : Int)) := by omega
      by_cases hp : Pl.Page (z : Int)
      · rw [decide_eq_true hp] at CT
        obtain ⟨en, hen⟩ : ∃ en, en = 6 + 12 * k := ⟨_, rfl⟩
        have HEN := Lib.hid hen
        have v1 : IntKind.i64.wrap ((k : Int) * 12) = (k : Int) * 12 := IntWalk.i64_in _ ⟨by omega, by omega⟩
        have v2 : IntKind.i64.wrap (6 + (k : Int) * 12) = ((en : Nat) : Int) := by rw [IntWalk.i64_in _ ⟨by omega, by omega⟩]; omega
        have v3 : 6 ≤ en := by omega
        have v4 : en ≤ 1016 := by omega
        have v5 : en ≤ c := by omega
        have hB1 := HB.out.on HB1.out
        have CF := Lib.hid (freedOf_any w1 _ (en - 6) (c - 6) k _ ((hB1.cut_far 6 (by omega)).first (en - 6) (by omega)) (by omega) h84)
        rw [show en - 6 = 12 * k by omega, rows_items] at CF
        rw [show 12 * k = en - 6 by omega] at CF
        clear hen hB1
        go_wp2_with fail
        refine CT.out.mono ?_
        rintro e w1' ⟨rfl, rfl⟩
        go_wp2_with fail
        refine CF.out.mono ?_
        rintro e w2 ⟨v, rfl, hO, B2⟩
        have hb2 := onto HB1.out B2
        have v6 : ¬ c = en := by have := HEN.out; omega
        have v7 : en < 1016 := by have := HEN.out; omega
        have CZ := Lib.hid (zeros_any w2 _ _ _ _ ((HB.out.on hb2).cut_far en v7))
        have HB2 := Lib.hid hb2
        have hIt : Pl.items l = Pl.itemsTo l k := by unfold Pl.items; rw [HK.out]
        have HSk : Hid (Pl.Says l ↔ Tellable (Pl.itemsTo l k) ∧ l.drop en = List.replicate (1016 - en) 0) := by
          show _ ↔ _
          rw [HS.out, hIt, ← HK.out, HNX.out, ← HEN.out]
          constructor
          · rintro ⟨⟨_, _, a⟩, b⟩; exact ⟨a, b⟩
          · rintro ⟨a, b⟩; exact ⟨⟨h84, hp, a⟩, b⟩
        have HIT := Lib.hid hIt
        clear B2 hb2 CF CT hIt
        by_cases ht : Tellable (Pl.itemsTo l k)
        · have hOw := own_low (hO ht) HB1.out.size
          rw [decide_eq_true ht]
          have HO2 := Lib.hid hOw
          obtain ⟨vA, vc, rfl, _, _⟩ := own_form2 hOw
          clear hO hOw
          by_cases hzr : l.drop en = List.replicate (1016 - en) 0
          · rw [decide_eq_true hzr] at CZ
            have HY : Hid (Pl.Says l) := HSk.out.2 ⟨ht, hzr⟩
            clear hzr ht
            go_wp2_with fail
            refine CZ.out.mono ?_
            rintro e w3 ⟨rfl, rfl⟩
            go_wp2
            go_ret3
            have hfin := from_yes (w := w) HY.out (by rw [HIT.out]; exact HO2.out) HB2.out
            rw [HNX.out] at hfin
            exact hfin
          · rw [decide_eq_false hzr] at CZ
            have HN : Hid (¬ Pl.Says l) := fun h => hzr (HSk.out.1 h).2
            clear hzr ht
            go_wp2_with fail
            refine CZ.out.mono ?_
            rintro e w3 ⟨rfl, rfl⟩
            go_wp2
            go_ret3
            exact from_no HN.out HB2.out
        · rw [decide_eq_false ht]
          have HN : Hid (¬ Pl.Says l) := fun h => ht (HSk.out.1 h).1
          clear hO ht CZ
          go_wp2
          go_ret3
          exact from_no HN.out HB2.out
      · rw [decide_eq_false hp] at CT
        have HN : Hid (¬ Pl.Says l) := fun h => hp (by have := ((HS.out).1 h).1.2.1; rw [HNX.out] at this; exact this)
        go_wp2_with fail
        refine CT.out.mono ?_
        rintro e w1' ⟨rfl, rfl⟩
        go_wp2
        go_ret3
        exact from_no HN.out HB1.out
    · have z2 : (84 : Int) < (k : Int) := by omega
      have HN : Hid (¬ Pl.Says l) := fun h => h84 (by have := h.2.1; rw [← HK.out] at this; exact this)
      go_wp2
      go_ret3
      exact from_no HN.out HB1.out
  · have z1 : ((n : Int) != 1016) = true := by rw [bne_iff_ne]; omega
    have HN : Hid (¬ Pl.Says l) := fun h => hn (by rw [← hl]; exact h.1)
    clear hb hl hlt
    go_enter Try.func27, Try.ntmps27
    go_wp2
    go_ret3
    exact from_no HN.out (Below.refl _ _)

end Go.Proofs.Ytbfofhgnamheeaa.Pq
