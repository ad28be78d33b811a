/-
  The program's FromPay: freedOf, allZero.
-/
import Derived.Test.YtbfofhgnamheeaaPoPay
namespace Go.Proofs.Ytbfofhgnamheeaa.Pq
open Go.RowKit
set_option linter.unusedVariables false

theorem pad4_big {l : List Nat} (h : 4 ≤ l.length) : pad4 l = l.take 4 := by
  unfold pad4
  simp [h]
/-- The freed pages that m whole rows tell. -/
def rowOf (l : List Nat) (i : Nat) : Pl.F := ((Nm.fromBe ((l.drop (12 * i)).take 4) : Int), Nm.fromBe ((l.drop (12 * i + 4)).take 8))
def rows (l : List Nat) (m : Nat) : List Pl.F := (List.range m).map (rowOf l)
theorem rows_len (l : List Nat) (m : Nat) : (rows l m).length = m := by simp [rows]
theorem rows_snoc (l : List Nat) (m : Nat) : rows l (m + 1) = rows l m ++ [rowOf l m] := by simp [rows, List.range_succ]
theorem rows_items (b : List Nat) (m : Nat) : rows ((b.drop 6).take (12 * m)) m = Pl.itemsTo b m := by
  unfold rows Pl.itemsTo
  refine List.map_congr_left fun i hi => ?_
  have hi := List.mem_range.1 hi
  unfold rowOf Pl.itemOf
  rw [List.drop_take, List.take_take, List.drop_drop, List.drop_take, List.take_take, List.drop_drop]
  rw [show min 4 (12 * m - 12 * i) = 4 by omega, show min 8 (12 * m - (12 * i + 4)) = 8 by omega, show 6 + (12 * i + 4) = 10 + 12 * i by omega]
def Tellable (L : List Pl.F) : Prop := ∀ f ∈ L, Pl.Page f.1
instance (L : List Pl.F) : Decidable (Tellable L) := inferInstanceAs (Decidable (∀ f ∈ L, Pl.Page f.1))
theorem rowOf_in {l : List Nat} (hl : ∀ x ∈ l, x < 256) (i : Nat) : In (rowOf l i) ∧ 0 ≤ (rowOf l i).1 ∧ (rowOf l i).1 < 4294967296 := by
  have h1 := Nm.fromBe_lt ((l.drop (12 * i)).take 4) (fun x hx => hl x (List.mem_of_mem_drop (List.mem_of_mem_take hx)))
  have h2 := Nm.fromBe_lt ((l.drop (12 * i + 4)).take 8) (fun x hx => hl x (List.mem_of_mem_drop (List.mem_of_mem_take hx)))
  have l1 : ((l.drop (12 * i)).take 4).length ≤ 4 := by simp; omega
  have l2 : ((l.drop (12 * i + 4)).take 8).length ≤ 8 := by simp; omega
  have p1 : 256 ^ ((l.drop (12 * i)).take 4).length ≤ 256 ^ 4 := Nat.pow_le_pow_right (by omega) l1
  have p2 : 256 ^ ((l.drop (12 * i + 4)).take 8).length ≤ 256 ^ 8 := Nat.pow_le_pow_right (by omega) l2
  have e1 : (256 : Nat) ^ 4 = 4294967296 := by decide
  have e2 : (256 : Nat) ^ 8 = 18446744073709551616 := by decide
  unfold rowOf In I64
  simp only
  omega
/-- What freedOf leaves. -/
def FreedSays (w : World) (L : List Pl.F) (e : Ending) (w' : World) : Prop :=
  ∃ v, e = .returned (.tuple #[v, .bool (decide (Tellable L))]) ∧ (Tellable L → w'.ownsRow w.heap.size 57 2 v L.length (fc L)) ∧ Below w.heap.size w w'
theorem freed_no {w w' : World} {L : List Pl.F} (h : ¬ Tellable L) (hb : Below w.heap.size w w') : FreedSays w L (.returned (.tuple #[.slice none 0 0, .bool false])) w' :=
  ⟨_, by rw [decide_eq_false h], fun h' => absurd h' h, hb⟩
theorem freed_yes {w w' : World} {L : List Pl.F} {v : Value} (h : Tellable L) (hO : w'.ownsRow w.heap.size 57 2 v L.length (fc L)) (hb : Below w.heap.size w w') : FreedSays w L (.returned (.tuple #[v, .bool true])) w' :=
  ⟨_, by rw [decide_eq_true h], fun _ => hO, hb⟩

set_option maxRecDepth 100000 in
set_option maxHeartbeats 1000000 in
theorem freedOf_any (w : World) (A : Option Addr) (n c m : Nat) (l : List Nat) (hb : Bs w A n c l) (hn : n = 12 * m) (hm : m ≤ 84) :
    Calls Try.prog 41 #[.slice A n c] w (FreedSays w (rows l m)) := by
  have HB := Lib.hid hb
  have hl := hb.1
  have hnc := hb.2.1
  have hcm := hb.2.2.1
  have hlt := hb.2.2.2.1
  unfold maxLen at hcm
  have HN := Lib.hid hn
  have HL := Lib.hid hlt
  have HLn := Lib.hid hl
  have hn8 : n ≤ 1008 := by omega
  clear hb hl hlt hn
  go_enter Try.func41, Try.ntmps41
  go_wp2_with fail
  go_loopw [4, 5] (fun o i wr => ∃ (k : Nat) (ov : Value), ov = o ∧ k ≤ m ∧ i = .int .i64 ((12 * k : Nat) : Int) ∧ wr.ownsRow w.heap.size 57 2 ov (rows l k).length (fc (rows l k)) ∧ Tellable (rows l k) ∧ Below w.heap.size w wr) (fun _ i _ => n - (intOf i).toNat)
  case atStart => exact ⟨0, _, rfl, Nat.zero_le _, rfl, World.ownsRow_nil _ _ _ _, fun f hf => by simp [rows] at hf, Below.refl _ _⟩
  case round =>
    obtain ⟨k, ov, rfl, hk, rfl, hO, hT, hb⟩ := hrel
    have hNo := HN.out
    obtain ⟨a, ha⟩ : ∃ a, a = 12 * k := ⟨_, rfl⟩
    rw [← ha]
    by_cases hlt : k < m
    · have z1 : (a : Int) < (n : Int) := by omega
      have z2 : a < n := by omega
      have z3 : a ≤ n := by omega
      have z4 : ¬ c = a := by omega
      have z5 : a + 12 ≤ n := by omega
      have z6 : a + 12 ≤ c := by omega
      have y4 : IntKind.i64.wrap ((a : Int) + 4) = ((a + 4 : Nat) : Int) := by rw [IntWalk.i64_in _ ⟨by omega, by omega⟩]; omega
      have y12 : IntKind.i64.wrap ((a : Int) + 12) = ((a + 12 : Nat) : Int) := by rw [IntWalk.i64_in _ ⟨by omega, by omega⟩]; omega
      have hB := HB.out.on hb
      obtain ⟨b, off, rfl, hbl, _⟩ := hB.2.2.2.2 (by omega)
      have G1 := Lib.hid (hB.cut_far a z2)
      have hrow := rowOf_in HL.out k
      have HH := Lib.hid (And.intro hO (And.intro hT (And.intro hb hB)))
      have HA := Lib.hid ha
      have hst := rows_snoc l k
      have HST := Lib.hid hst
      clear hO hT hb hB hbl ha hNo hst
      go_wp2_with fail
      refine (get32_any wr _ _ _ _ G1.out).mono ?_
      rintro e w1 ⟨rfl, B1⟩
      have e4 : Nm.fromBe (pad4 (l.drop a)) = (rowOf l k).1.toNat := by
        rw [pad4_big (by rw [List.length_drop, HLn.out]; omega)]
        unfold rowOf
        rw [HA.out]; simp
      obtain ⟨y, hy⟩ : ∃ y : Nat, y = (rowOf l k).1.toNat := ⟨_, rfl⟩
      rw [e4, ← hy]
      have hyr : (rowOf l k).1 = (y : Int) := by have := hrow.2.1; omega
      have hy2 : y < 4294967296 := by have := hrow.2.2; omega
      have u1 : IntKind.i64.wrap (y : Int) = (y : Int) := IntWalk.i64_in _ ⟨by omega, by omega⟩
      have CT := Lib.hid (mayTell_any w1 (y : Int))
      obtain ⟨hO, hT, hb, hB⟩ := HH.out
      have hb1 := onto hb B1
      have hB1 := hB.on B1
      have O1 := own_on2 hO B1
      have G2 := Lib.hid ((hB1.cut_far (a + 4) (by omega)).first 8 (by omega))
      have HIn := Lib.hid hrow.1
      have HYR := Lib.hid hyr
      have H1 := Lib.hid (And.intro O1 (And.intro hT hb1))
      clear hO hT hb hB hb1 hB1 O1 B1 e4 hy hrow hyr G1 HH
      by_cases hp : Pl.Page (y : Int)
      · rw [decide_eq_true hp] at CT
        go_wp2_with fail
        refine CT.out.mono ?_
        rintro e w1' ⟨rfl, rfl⟩
        go_wp2_with fail
        refine (unkey_yes w1 _ _ _ G2.out).mono ?_
        rintro e w2 ⟨rfl, rfl⟩
        have e8 : Nm.fromBe ((l.drop (a + 4)).take 8) = (rowOf l k).2 := by unfold rowOf; rw [HA.out]
        rw [e8]
        obtain ⟨hO, hT, hb⟩ := H1.out
        have hr2 : In ((y : Int), (rowOf l k).2) := by have := HIn.out; rw [← HYR.out]; exact this
        have hbs := hb.size
        have hlk := rows_len l k
        have hO' := hO.alloc (.cells #[.int .i64 (y : Int), .int .u64 ((rowOf l k).2 : Int)] 57)
        have AP := Lib.hid (fun ty => run_append_fs _ w.heap.size ty ov (rows l k) hO' _ 1 1 [((y : Int), (rowOf l k).2)] (fs_new w1 ((y : Int), (rowOf l k).2) hr2) (by omega) (by simp; omega))
        have HB2 := Lib.hid (hb.alloc (by omega) (.cells #[.int .i64 (y : Int), .int .u64 ((rowOf l k).2 : Int)] 57))
        have HO2 := Lib.hid hO'
        have HTT : Hid (Tellable (rows l (k + 1))) := fun f hf => by
          rw [HST.out] at hf
          rcases List.mem_append.1 hf with h1 | h1
          · exact hT f h1
          · simp at h1; subst h1; rw [HYR.out]; exact hp
        have HRS : Hid (rows l k ++ [((y : Int), (rowOf l k).2)] = rows l (k + 1)) := by show _ = _; rw [HST.out, ← HYR.out]
        clear hO hT hb hO' hr2 e8 hp
        generalize (rowOf l k).2 = g at *
        go_wp2_with (first
          | (at_builtin; refine wpList_append_ran _ rfl _ _ 22 22 rfl ov (.slice (some ⟨w1.heap.size, 0, none⟩) 1 1) rfl rfl _ (AP.out _) ?_; rintro v3 w3 ⟨O3, g3⟩))
        have b3 := below_own HB2.out HO2.out g3 (by simp; omega) (Nat.le_refl _)
        rw [HRS.out] at O3
        have hae := HA.out
        go_roundw
        case rel => exact ⟨k + 1, _, rfl, by omega, by go_num, O3, HTT.out, b3⟩
        case measure => simp [intOf]; omega
      · rw [decide_eq_false hp] at CT
        have HN2 : Hid (¬ Tellable (rows l m)) := fun ht => hp (by
          rw [← HYR.out]
          refine ht _ ?_
          unfold rows
          exact List.mem_map.2 ⟨k, List.mem_range.2 hlt, rfl⟩)
        clear hp
        go_wp2_with fail
        refine CT.out.mono ?_
        rintro e w1' ⟨rfl, rfl⟩
        go_wp2
        go_ret2
        exact freed_no HN2.out H1.out.2.2
    · have hkm : k = m := by omega
      subst hkm
      have z1 : ¬ (a : Int) < (n : Int) := by omega
      have HH := Lib.hid (And.intro hO (And.intro hT hb))
      clear hO hT hb ha hNo
      go_wp2
      go_ret2
      obtain ⟨hO, hT, hb⟩ := HH.out
      exact freed_yes hT hO hb

set_option maxRecDepth 100000 in
theorem zeros_any (w : World) (A : Option Addr) (n c : Nat) (l : List Nat) (hb : Bs w A n c l) :
    Calls Try.prog 42 #[.slice A n c] w fun e w' => e = .returned (.bool (decide (l = List.replicate n 0))) ∧ w = w' := by
  obtain ⟨h1, h2, h3, h4, h5⟩ := hb
  unfold maxLen at h3
  have H1 := Lib.hid h1
  have H4 := Lib.hid h4
  have H5 := Lib.hid h5
  clear h1 h4 h5
  generalize hD : decide (l = List.replicate n 0) = D
  have HD := Lib.hid hD
  clear hD
  go_enter Try.func42, Try.ntmps42
  go_wp2
  go_loop [4, 7] (fun _ i => ∃ k : Nat, k ≤ n ∧ i = .int .i64 k ∧ l.take k = List.replicate k 0) (fun _ i => n - (intOf i).toNat)
  case atStart => exact ⟨0, Nat.zero_le _, rfl, rfl⟩
  case round =>
    obtain ⟨k, hk, rfl, ht⟩ := hrel
    have HT := Lib.hid ht
    clear ht
    by_cases hlt : k < n
    · obtain ⟨b, off, rfl, hbl, hcell⟩ := H5.out (by omega)
      obtain ⟨x, hx⟩ : ∃ x, l[k]? = some x := ⟨_, List.getElem?_eq_getElem (by rw [H1.out]; omega)⟩
      have hx256 := H4.out x (List.mem_of_getElem? hx)
      have hcx := hcell k x hx
      have HX := Lib.hid hx
      clear hx hcell
      by_cases h0 : x = 0
      · subst h0
        go_wp2
        go_round
        case rel => exact ⟨k + 1, by omega, by go_num, by rw [List.take_add_one, HX.out, HT.out, List.replicate_succ']; rfl⟩
        case measure => simp [intOf]; omega
      · have e : D = false := by
          rw [← HD.out]
          simp only [decide_eq_false_iff_not]
          intro e
          have := HX.out
          rw [e, List.getElem?_replicate] at this
          simp [hlt] at this
          exact h0 this.symm
        subst e
        have hxx : ((x : Int) != 0) = true := by rw [bne_iff_ne]; omega
        go_wp2
        go_ret
        exact ⟨rfl, rfl⟩
    · have e : D = true := by
        rw [← HD.out, decide_eq_true_iff, ← List.take_of_length_le (l := l) (i := k) (by rw [H1.out]; omega), HT.out, show k = n by omega]
      subst e
      go_wp2
      go_ret
      exact ⟨rfl, rfl⟩

end Go.Proofs.Ytbfofhgnamheeaa.Pq
