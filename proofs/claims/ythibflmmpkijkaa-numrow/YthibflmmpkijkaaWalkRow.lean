/-
  NumRow: short numbers one behind the other are got one by one, each from behind the one ahead, to the end.
-/
import Derived.Test.YthibflmmpkijkaaAwake
import Derived.Test.YthibflmmpkijkaaApp
import Derived.Test.YthibflmmpkijkaaSame
import Derived.Deep.RegionHeld3
namespace Go.Proofs.Ythibflmmpkijkaa
open Go.RowKit
set_option linter.unusedVariables false

/-- The slice value '.slice A n c' reads as the numbers vs, each of 64 bits. -/
def Us (w : World) (A : Option Addr) (n c : Nat) (vs : List Nat) : Prop :=
  vs.length = n ∧ n ≤ c ∧ c ≤ maxLen ∧ (∀ x ∈ vs, L64 x) ∧
  (0 < n → ∃ b off, A = some ⟨b, off, none⟩ ∧ b < w.heap.size ∧ ∀ (j x : Nat), vs[j]? = some x → w.cell? ⟨b, off + j, none⟩ = some (.int .u64 (x : Int)))
theorem Us.on {w w' : World} {A : Option Addr} {n c : Nat} {l : List Nat} (h : Us w A n c l) (hb : Below w.heap.size w w') : Us w' A n c l := by
  obtain ⟨h1, h2, h3, h4, h5⟩ := h
  refine ⟨h1, h2, h3, h4, fun hn => ?_⟩
  obtain ⟨b, off, e, hlt, hc⟩ := h5 hn
  exact ⟨b, off, e, Nat.lt_of_lt_of_le hlt hb.size, fun j x hx => (hb.cell (p := ⟨b, off + j, none⟩) (by exact hlt)).trans (hc j x hx)⟩

theorem Us.of_row {w : World} {a : Option Addr} {len cap : Nat} {zs : List Int}
    (h : (a = none ∧ len = 0 ∧ cap = 0 ∧ zs = []) ∨ ∃ x, a = some x ∧ len ≤ cap ∧ cap ≤ maxLen ∧ zs.length = cap ∧ (∀ i, i < zs.length → w.cell? (x.add i) = some (.int .u64 (zs.getD i 0))) ∧ ∀ n ∈ zs, (Lit.int .u64 n).wf = true) :
    ∃ l, Us w a len cap l := by
  rcases h with ⟨rfl, rfl, rfl, rfl⟩ | ⟨x, rfl, hl, hm, hz, hcell, hwz⟩
  · exact ⟨[], rfl, Nat.le_refl _, Nat.zero_le _, by simp, fun h => absurd h (by omega)⟩
  · have hr : ∀ n ∈ zs, 0 ≤ n ∧ n ≤ 18446744073709551615 := fun n hn => bounds_u64 (hwz n hn)
    refine ⟨(zs.take len).map Int.toNat, by simp; omega, hl, hm, ?_, fun hpos => ?_⟩
    · intro y hy
      obtain ⟨n, hn, rfl⟩ := List.mem_map.1 hy
      have := hr n (List.mem_of_mem_take hn)
      unfold L64; omega
    · obtain ⟨b, off, spot⟩ := x
      have h0 := hcell 0 (by omega)
      have hspot : spot = none := by simpa [Addr.add] using World.cell?_spot h0
      subst hspot
      refine ⟨b, off, rfl, ?_, fun j y hy => ?_⟩
      · rcases Nat.lt_or_ge b w.heap.size with h | h
        · exact h
        · have h0' : w.cell? ⟨b, off, none⟩ = some (.int .u64 (zs.getD 0 0)) := by simpa [Addr.add] using h0
          simp [World.cell?, Array.getElem?_eq_none h] at h0'
      · rw [List.getElem?_map, List.getElem?_take] at hy
        split at hy
        · cases hz' : zs[j]? with
          | none => rw [hz'] at hy; cases hy
          | some n =>
            rw [hz'] at hy
            simp only [Option.map_some, Option.some.injEq] at hy
            subst hy
            have hjl := (List.getElem?_eq_some_iff.1 hz').1
            have hc := hcell j hjl
            have hg : zs.getD j 0 = n := by rw [List.getD_eq_getElem?_getD, hz']; rfl
            have hn := hr n (List.mem_of_getElem? hz')
            rw [hg] at hc
            have e : ((n.toNat : Nat) : Int) = n := by omega
            rw [e]
            by_cases hj0 : j = 0
            · subst hj0; simpa [Addr.add] using hc
            · simpa [Addr.add, hj0] using hc
        · cases hy

/-- The bytes of numbers, one behind the other. -/
def cat (vs : List Nat) : List Nat := (vs.map Nm.put).flatten
theorem cat_nil : cat [] = [] := rfl
theorem cat_cons (v : Nat) (vs : List Nat) : cat (v :: vs) = Nm.put v ++ cat vs := rfl
theorem cat_snoc (vs : List Nat) (v : Nat) : cat (vs ++ [v]) = cat vs ++ Nm.put v := by simp [cat]
theorem cat_lt (vs : List Nat) : ∀ x ∈ cat vs, x < 256 := by
  intro x hx
  obtain ⟨l, hl, hx⟩ := List.mem_flatten.1 hx
  obtain ⟨v, _, rfl⟩ := List.mem_map.1 hl
  exact Nm.put_lt v x hx
theorem cat_len (vs : List Nat) : (cat vs).length ≤ 10 * vs.length := by
  induction vs with
  | nil => simp [cat]
  | cons v vs ih => rw [cat_cons, List.length_append, List.length_cons]; have := Nm.put_len v; omega

set_option maxRecDepth 100000 in
set_option maxHeartbeats 1000000 in
theorem numRow_walk (w : World) (A : Option Addr) (n c : Nat) (vs : List Nat) (hb : Us w A n c vs) :
    Calls Try.prog 9 #[.slice A n c] w fun e w' => e = .returned (.bool true) ∧ Below w.heap.size w w' := by
  obtain ⟨i0, hi, hz0, hz1, hz2⟩ := info_parts Try.info5
  have hcm := hb.2.2.1
  have hnc := hb.2.1
  unfold maxLen at hcm
  go_enter Try.func9, Try.ntmps9
  go_wp2_with fail
  refine (awake_any _).mono ?_
  rintro e w1 ⟨rfl, b1⟩
  have s1 := hb.on b1
  go_wp2
  go_loopw [3, 4] (fun v i wr => ∃ k : Nat, k ≤ n ∧ k ≤ 100 ∧ i = .int .i64 k ∧ wr.ownsRow w1.heap.size 5 1 v (cat (vs.take k)).length (bv (cat (vs.take k))) ∧ Below w1.heap.size w1 wr) (fun _ i _ => 100 - (intOf i).toNat)
  case atStart => exact ⟨0, Nat.zero_le _, Nat.zero_le _, rfl, World.ownsRow_nil _ _ _ _, Below.refl _ _⟩
  case round =>
    obtain ⟨k, hk, hk100, rfl, hown, hbel⟩ := hrel
    have hsz := hbel.size
    by_cases hlt : k < n ∧ k < 100
    · obtain ⟨hlt, hlt100⟩ := hlt
      have s2 := s1.on hbel
      obtain ⟨x, hx⟩ : ∃ x, vs[k]? = some x := ⟨_, List.getElem?_eq_getElem (by rw [s2.1]; omega)⟩
      have hx64 := s2.2.2.2.1 x (List.mem_of_getElem? hx)
      obtain ⟨b, off, rfl, _, hcell⟩ := s2.2.2.2.2 (by omega)
      have hcx := hcell k x hx
      have HT : Hid (vs.take (k + 1) = vs.take k ++ [x]) := by show _ = _; rw [List.take_add_one, hx]; rfl
      have hcl := cat_len (vs.take k)
      have hcl2 : (vs.take k).length ≤ k := List.length_take_le _ _
      clear hx hcell s2
      go_wp2_with fail
      refine (put_any _ _ hx64).mono ?_
      rintro e w2 ⟨A2, n2, c2, rfl, p2, b2⟩
      have hn2 : n2 ≤ 10 := by have := p2.1; have := Nm.put_len x; omega
      have own2 : w2.ownsRow w1.heap.size 5 1 u3 (cat (vs.take k)).length (bv (cat (vs.take k))) := hown.kept (only_of b2 none) (by cases hv : u3.ownBlock <;> simp)
      have bel2 := hbel.trans (b2.mono hsz)
      have N2 := Lib.hid p2.1
      have hsz2 := bel2.size
      clear hcx hown hbel b2
      go_wp2_with (at_builtin; refine wpList_append_bs _ rfl _ _ 23 rfl w1.heap.size 5 i0 (.int .u8 0) Try.underlying23 hi hz0 hz1 hz2 rfl _ _ _ rfl own2 _ _ _ _ rfl p2 (by omega) hsz2 ?_; intro v3 w3 O3 g3)
      have bel3 := below_own bel2 own2 g3 hsz2 (Nat.le_refl _)
      have O3' : w3.ownsRow w1.heap.size 5 1 v3 (cat (vs.take (k + 1))).length (bv (cat (vs.take (k + 1)))) := by
        rw [HT.out, cat_snoc, List.length_append, N2.out]
        simpa [bv] using O3
      clear O3 g3 own2 bel2 p2
      go_roundw
      case rel => exact ⟨k + 1, by omega, by omega, by go_num, O3', bel3⟩
      case measure => simp [intOf]; omega
    · by_cases hkn : k < n
      · have hk' : ¬ k < 100 := by omega
        have gk : decide ((k : Int) < 100) = false := by simp; omega
        obtain ⟨Ab, cb, rfl, hbs⟩ := Bs.of_own hown (cat_lt _)
        clear hown
        generalize hm0 : (cat (vs.take k)).length = m0 at *
        clear hm0
        go_wp2
        go_loopw [3, 5] (fun v i wr => ∃ (j m : Nat) (A' : Option Addr) (c' : Nat), j ≤ k ∧ i = .int .i64 j ∧ v = .slice A' m c' ∧ Bs wr A' m c' (cat ((vs.take k).drop j)) ∧ Below w1.heap.size w1 wr) (fun _ i _ => k - (intOf i).toNat)
        case atStart => exact ⟨0, _, _, _, Nat.zero_le _, rfl, rfl, hbs, hbel⟩
        case round =>
          clear hbs hbel hsz
          obtain ⟨j, m, A', c', hj, rfl, rfl, hbs, hbel⟩ := hrel
          have s2 := s1.on hbel
          by_cases hjk : j < k
          · obtain ⟨x, hx⟩ : ∃ x, vs[j]? = some x := ⟨_, List.getElem?_eq_getElem (by rw [s2.1]; omega)⟩
            have hx64 := s2.2.2.2.1 x (List.mem_of_getElem? hx)
            have hD : (vs.take k).drop j = x :: (vs.take k).drop (j + 1) := by
              have h : (vs.take k)[j]? = some x := by rw [List.getElem?_take, if_pos hjk]; exact hx
              obtain ⟨h', e⟩ := List.getElem?_eq_some_iff.1 h
              rw [List.drop_eq_getElem_cons h', e]
            rw [hD, cat_cons] at hbs
            clear hD
            generalize hrest : cat ((vs.take k).drop (j + 1)) = rest at *
            have HR := Lib.hid hrest
            clear hrest
            obtain ⟨bl, ol, rfl, hbl, hcell⟩ := s2.2.2.2.2 (by omega)
            have hcx := hcell j x hx
            clear hcell hx s2
            have hjn : j < n := by omega
            have hj100 : j < 100 := by omega
            go_wp2_with fail
            refine (get_any _ _ _ _ _ hbs).mono ?_
            rintro e w3 ⟨rfl, b3⟩
            rw [Nm.get_put x rest hx64]
            have hbs3 := hbs.on b3
            have hcx3 := (b3.cell (p := ⟨bl, ol + j, none⟩) (by exact hbl)).trans hcx
            have hbl3 : bl < w3.heap.size := Nat.lt_of_lt_of_le hbl b3.size
            have bel3 := hbel.trans (b3.mono hbel.size)
            clear hbs b3 hcx hbel
            have hp := Nm.put_pos x
            have hp10 := Nm.put_len x
            have hm : (Nm.put x).length ≤ m := by have := hbs3.1; rw [List.length_append] at this; omega
            have hmc := hbs3.2.1
            obtain ⟨b', o', rfl, _, _⟩ := hbs3.2.2.2.2 (by omega)
            have hcc := hbs3.2.2.1
            have F := hbs3.first (Nm.put x).length hm
            rw [List.take_left' rfl] at F
            generalize hq : (Nm.put x).length = q at *
            have HQ := Lib.hid hq
            clear hq
            have g1 : decide ((q : Int) < 1) = false := by simp; omega
            have g2 : ((x : Int) != (x : Int)) = false := by simp
            have g3 : (q : Int) ≤ (c' : Int) := by omega
            have g4 : (0 : Int) ≤ (q : Int) := by omega
            have g5 : (j : Int) < (n : Int) := by omega
            have g6 : (0 : Int) ≤ (j : Int) := by omega
            go_wp2_with fail
            go_region_held3 (fun w' => w'.cell? ⟨bl, ol + j, none⟩ = some (.int .u64 (x : Int))) (first | assumption | go_keep)
              (first | (go_at_call 14; refine (refPut_any _ _ hx64).mono ?_; rintro e w4 ⟨A4, n4, c4, rfl, p4, b4⟩; have F4 := F.drew.on b4; have hc4 := (b4.cell (p := ⟨bl, ol + j, none⟩) (by exact hbl3)).trans hcx3; have b4' : Below w3.heap.size w3 w4 := ((Below.refl w3.heap.size w3).drew).trans b4; clear b4) | (go_at_call 13; refine (same_eq _ _ _ _ _ _ _ _ (by assumption) (by assumption)).mono ?_; rintro e w5 ⟨rfl, m5, rfl⟩))
            have bel5 : Below w1.heap.size w1 (w4.drewN m5) := below_drewN (bel3.trans (b4'.mono bel3.size)) m5
            have hbs5 := (hbs3.on b4').drewN m5
            have hml : m = q + rest.length := by have := hbs5.1; rw [List.length_append, HQ.out] at this; omega
            clear hbs3 b4' bel3 F F4 hc4 p4
            by_cases hcq : c' = q
            · have hr0 : rest = [] := List.eq_nil_of_length_eq_zero (by omega)
              have hmq : m = q := by omega
              subst hcq
              subst hmq
              clear hml hbs5
              go_wp2
              go_roundw
              case rel => exact ⟨j + 1, _, _, _, by omega, by go_num, rfl, by rw [HR.out, hr0]; exact Bs.nil_ _ _ _ (by unfold maxLen; omega), bel5⟩
              case measure => simp [intOf]; omega
            · by_cases hr : rest.length = 0
              · have hr0 : rest = [] := List.eq_nil_of_length_eq_zero hr
                have HR0 := Lib.hid hr0
                have hmq : m = q := by omega
                subst hmq
                clear hml hbs5 hr hr0
                go_wp2
                go_roundw
                case rel => exact ⟨j + 1, _, _, _, by omega, by go_num, rfl, by rw [HR.out, HR0.out]; exact Bs.nil_ _ _ _ (by unfold maxLen at *; omega), bel5⟩
                case measure => simp [intOf]; omega
              · have T := hbs5.cut_far q (by omega)
                rw [show (Nm.put x ++ rest).drop q = rest from by rw [← HQ.out]; exact List.drop_left] at T
                have hqm : (q : Int) ≤ (m : Int) := by omega
                clear hml hbs5
                go_wp2
                go_roundw
                case rel => exact ⟨j + 1, _, _, _, by omega, by go_num, rfl, by rw [HR.out]; exact T, bel5⟩
                case measure => simp [intOf]; omega
          · obtain rfl : j = k := by omega
            have hm0 : m = 0 := by
              have := hbs.1
              rw [List.drop_eq_nil_of_le (List.length_take_le _ _)] at this
              simpa [cat] using this.symm
            subst hm0
            clear hbs s2
            have B := onto b1 hbel
            go_wp2
            go_ret
            exact ⟨rfl, B⟩
      · obtain rfl : k = n := by omega
        obtain ⟨Ab, cb, rfl, hbs⟩ := Bs.of_own hown (cat_lt _)
        clear hown
        generalize hm0 : (cat (vs.take k)).length = m0 at *
        clear hm0
        go_wp2
        go_loopw [3, 5] (fun v i wr => ∃ (j m : Nat) (A' : Option Addr) (c' : Nat), j ≤ k ∧ i = .int .i64 j ∧ v = .slice A' m c' ∧ Bs wr A' m c' (cat ((vs.take k).drop j)) ∧ Below w1.heap.size w1 wr) (fun _ i _ => k - (intOf i).toNat)
        case atStart => exact ⟨0, _, _, _, Nat.zero_le _, rfl, rfl, hbs, hbel⟩
        case round =>
          clear hbs hbel hsz
          obtain ⟨j, m, A', c', hj, rfl, rfl, hbs, hbel⟩ := hrel
          have s2 := s1.on hbel
          by_cases hjk : j < k
          · obtain ⟨x, hx⟩ : ∃ x, vs[j]? = some x := ⟨_, List.getElem?_eq_getElem (by rw [s2.1]; omega)⟩
            have hx64 := s2.2.2.2.1 x (List.mem_of_getElem? hx)
            have hD : (vs.take k).drop j = x :: (vs.take k).drop (j + 1) := by
              have h : (vs.take k)[j]? = some x := by rw [List.getElem?_take, if_pos hjk]; exact hx
              obtain ⟨h', e⟩ := List.getElem?_eq_some_iff.1 h
              rw [List.drop_eq_getElem_cons h', e]
            rw [hD, cat_cons] at hbs
            clear hD
            generalize hrest : cat ((vs.take k).drop (j + 1)) = rest at *
            have HR := Lib.hid hrest
            clear hrest
            obtain ⟨bl, ol, rfl, hbl, hcell⟩ := s2.2.2.2.2 (by omega)
            have hcx := hcell j x hx
            clear hcell hx s2
            have hjn : j < k := by omega
            have hj100 : j < 100 := by omega
            go_wp2_with fail
            refine (get_any _ _ _ _ _ hbs).mono ?_
            rintro e w3 ⟨rfl, b3⟩
            rw [Nm.get_put x rest hx64]
            have hbs3 := hbs.on b3
            have hcx3 := (b3.cell (p := ⟨bl, ol + j, none⟩) (by exact hbl)).trans hcx
            have hbl3 : bl < w3.heap.size := Nat.lt_of_lt_of_le hbl b3.size
            have bel3 := hbel.trans (b3.mono hbel.size)
            clear hbs b3 hcx hbel
            have hp := Nm.put_pos x
            have hp10 := Nm.put_len x
            have hm : (Nm.put x).length ≤ m := by have := hbs3.1; rw [List.length_append] at this; omega
            have hmc := hbs3.2.1
            obtain ⟨b', o', rfl, _, _⟩ := hbs3.2.2.2.2 (by omega)
            have hcc := hbs3.2.2.1
            have F := hbs3.first (Nm.put x).length hm
            rw [List.take_left' rfl] at F
            generalize hq : (Nm.put x).length = q at *
            have HQ := Lib.hid hq
            clear hq
            have g1 : decide ((q : Int) < 1) = false := by simp; omega
            have g2 : ((x : Int) != (x : Int)) = false := by simp
            have g3 : (q : Int) ≤ (c' : Int) := by omega
            have g4 : (0 : Int) ≤ (q : Int) := by omega
            have g5 : (j : Int) < (k : Int) := by omega
            have g6 : (0 : Int) ≤ (j : Int) := by omega
            go_wp2_with fail
            go_region_held3 (fun w' => w'.cell? ⟨bl, ol + j, none⟩ = some (.int .u64 (x : Int))) (first | assumption | go_keep)
              (first | (go_at_call 14; refine (refPut_any _ _ hx64).mono ?_; rintro e w4 ⟨A4, n4, c4, rfl, p4, b4⟩; have F4 := F.drew.on b4; have hc4 := (b4.cell (p := ⟨bl, ol + j, none⟩) (by exact hbl3)).trans hcx3; have b4' : Below w3.heap.size w3 w4 := ((Below.refl w3.heap.size w3).drew).trans b4; clear b4) | (go_at_call 13; refine (same_eq _ _ _ _ _ _ _ _ (by assumption) (by assumption)).mono ?_; rintro e w5 ⟨rfl, m5, rfl⟩))
            have bel5 : Below w1.heap.size w1 (w4.drewN m5) := below_drewN (bel3.trans (b4'.mono bel3.size)) m5
            have hbs5 := (hbs3.on b4').drewN m5
            have hml : m = q + rest.length := by have := hbs5.1; rw [List.length_append, HQ.out] at this; omega
            clear hbs3 b4' bel3 F F4 hc4 p4
            by_cases hcq : c' = q
            · have hr0 : rest = [] := List.eq_nil_of_length_eq_zero (by omega)
              have hmq : m = q := by omega
              subst hcq
              subst hmq
              clear hml hbs5
              go_wp2
              go_roundw
              case rel => exact ⟨j + 1, _, _, _, by omega, by go_num, rfl, by rw [HR.out, hr0]; exact Bs.nil_ _ _ _ (by unfold maxLen; omega), bel5⟩
              case measure => simp [intOf]; omega
            · by_cases hr : rest.length = 0
              · have hr0 : rest = [] := List.eq_nil_of_length_eq_zero hr
                have HR0 := Lib.hid hr0
                have hmq : m = q := by omega
                subst hmq
                clear hml hbs5 hr hr0
                go_wp2
                go_roundw
                case rel => exact ⟨j + 1, _, _, _, by omega, by go_num, rfl, by rw [HR.out, HR0.out]; exact Bs.nil_ _ _ _ (by unfold maxLen at *; omega), bel5⟩
                case measure => simp [intOf]; omega
              · have T := hbs5.cut_far q (by omega)
                rw [show (Nm.put x ++ rest).drop q = rest from by rw [← HQ.out]; exact List.drop_left] at T
                have hqm : (q : Int) ≤ (m : Int) := by omega
                clear hml hbs5
                go_wp2
                go_roundw
                case rel => exact ⟨j + 1, _, _, _, by omega, by go_num, rfl, by rw [HR.out]; exact T, bel5⟩
                case measure => simp [intOf]; omega
          · obtain rfl : j = k := by omega
            have hm0 : m = 0 := by
              have := hbs.1
              rw [List.drop_eq_nil_of_le (List.length_take_le _ _)] at this
              simpa [cat] using this.symm
            subst hm0
            clear hbs s2
            have B := onto b1 hbel
            go_wp2
            go_ret
            exact ⟨rfl, B⟩

end Go.Proofs.Ythibflmmpkijkaa
