/-
  TextWords: its walk.
-/
import Derived.Test.YtmlonlipieedbaaDoorTxAwake
namespace Go.Proofs.YtmlonlipieedbaaDoor
open Go.RowKit Go.Lib
set_option linter.unusedVariables false

theorem wg_each : ∀ (l acc : List UInt8), ∀ x ∈ Tx.wg acc l, x.length ≤ acc.length + l.length
  | [], acc, x, hx => by
    rw [Tx.wg_nil] at hx
    split at hx
    · cases hx
    · rw [List.mem_singleton] at hx; subst hx; omega
  | b :: t, acc, x, hx => by
    cases hb : Tx.bl b with
    | true =>
      rw [Tx.wg_blank acc b t hb] at hx
      rcases List.mem_append.1 hx with hx | hx
      · split at hx
        · cases hx
        · rw [List.mem_singleton] at hx; subst hx; omega
      · have := wg_each t [] x hx; simp at *; omega
    | false =>
      rw [Tx.wg, if_neg (by rw [hb]; decide)] at hx
      have := wg_each t (acc ++ [b]) x hx
      simp at *; omega
theorem words_each (l : List UInt8) : ∀ x ∈ Tx.words l, x.length ≤ l.length := fun x hx => by
  have := wg_each l [] x hx
  simpa using this
theorem tabs_len (ws : List (List UInt8)) (M : Nat) (h : ∀ x ∈ ws, x.length ≤ M) : (Tx.tabs ws).length ≤ ws.length * (M + 1) := by
  induction ws with
  | nil => simp [Tx.tabs]
  | cons x ws ih =>
    have h1 := h x (by simp)
    have h2 := ih fun y hy => h y (by simp [hy])
    show ((9 :: x) ++ Tx.tabs ws).length ≤ _
    rw [List.length_append, List.length_cons, List.length_cons, Nat.add_mul, Nat.one_mul]
    omega

set_option maxRecDepth 100000 in
set_option maxHeartbeats 2000000 in
theorem textWords_walk (s : ByteArray) (w : World) (hs : s.size ≤ maxLen) (hT : Tabs w) :
    Calls Tryd.prog 8 #[.string s] w fun e w' => e = .returned (.bool true) ∧ Below w.heap.size w w' := by
  unfold maxLen at hs
  have HT := Lib.hid hT
  clear hT
  by_cases h1 : 600 < s.size
  · have h1' : 600 < (s.size : Int) := by omega
    go_enter Tryd.func8, Tryd.ntmps8
    go_wp2_with fail
    refine (awake_any _ HT.out).mono ?_
    rintro e w1 ⟨rfl, b1⟩
    go_wp2
    go_ret
    exact ⟨rfl, b1⟩
  · have h1' : ¬ 600 < (s.size : Int) := by omega
    have hz : s.size ≤ 1000000 := by omega
    have C1 := Lib.hid (fun W => words_any s W hz)
    have C2 := Lib.hid (fun W => lower_any s W hz)
    have hlz : (ba (Tx.lower s.data.toList)).size ≤ 1000000 := by rw [ba_size, Tx.lower, List.length_map, ← size_eq]; exact hz
    have C3 := Lib.hid (fun W => words_any (ba (Tx.lower s.data.toList)) W hlz)
    have C4 := Lib.hid (fun W => lower_any (ba (Tx.lower s.data.toList)) W hlz)
    rw [ba_data, Tx.words_low, List.length_map] at C3
    rw [ba_data, Tx.lower_lower] at C4
    have hgood := Lib.hid (Tx.words_good s.data.toList)
    have heach := Lib.hid (words_each s.data.toList)
    have hn : (Tx.words s.data.toList).length ≤ 601 := by
      have h2 := Tx.wg_len s.data.toList []
      rw [← size_eq] at h2
      show (Tx.wg [] s.data.toList).length ≤ 601
      omega
    generalize Tx.words s.data.toList = ws at C1 C3 hgood heach hn
    generalize ba (Tx.lower s.data.toList) = lo at C2 C3 C4
    obtain ⟨n, hnn⟩ : ∃ n, ws.length = n := ⟨_, rfl⟩
    rw [hnn] at C1 C3 hn
    have HN := Lib.hid hnn
    have e1 : (lo.toList == lo.toList) = true := by simp
    have e2 : ((n : Int) != (n : Int)) = false := by simp
    clear hnn hlz h1
    go_enter Tryd.func8, Tryd.ntmps8
    go_wp2_with fail
    refine (awake_any _ HT.out).mono ?_
    rintro e w1 ⟨rfl, b1⟩
    go_wp2_with fail
    refine (C1.out _).mono ?_
    rintro e w2 ⟨A, c, rfl, V, b2⟩
    have B2 := onto b1 b2
    have HV := Lib.hid V
    clear b1 b2 HT C1 V
    go_wp2_with fail
    go_loopw [4, 5] (fun t i wr => ∃ (k : Nat) (o : ByteArray), i = .int .i64 (k : Int) ∧ k ≤ n ∧ t = .string o ∧ o.size ≤ k * 601 ∧ Hid (o.data.toList = Tx.tabs (ws.take k)) ∧ Below w2.heap.size w2 wr) (fun _ i _ => n - (RowKit.intOf i).toNat)
    case atStart => exact ⟨0, ⟨#[]⟩, rfl, Nat.zero_le _, rfl, Nat.le_refl _, rfl, Below.refl _ _⟩
    case round =>
      obtain ⟨k, o, rfl, hk, rfl, ho, H, hbel⟩ := hrel
      have hsz := hbel.size
      by_cases hlt : k < n
      · obtain ⟨b, off, x, rfl, hx, cx⟩ := sv_at (HV.out.on hbel) hlt
        have hbl : b < wr.heap.size := World.block_lt_of_cell? wr _ cx
        have hgx := hgood.out x (List.mem_of_getElem? hx)
        have hex := heach.out x (List.mem_of_getElem? hx)
        rw [← size_eq] at hex
        have HX := Lib.hid hx
        have hxs : (ba x).size ≤ 600 := by rw [ba_size]; omega
        have C5 := Lib.hid (fun W => words_any (ba x) W (by omega))
        rw [ba_data, Tx.words_one x hgx, List.length_singleton] at C5
        have hxe : (ba x).toList ≠ [] := by rw [ByteArray.toList_eq, ba_data]; exact hgx.1
        have hob : (ba x).toList.isEmpty = false := by cases h : (ba x).toList with | nil => exact absurd h hxe | cons _ _ => rfl
        have hoc : ((ba x).toList == []) = false := by cases h : (ba x).toList with | nil => exact absurd h hxe | cons _ _ => rfl
        have hsum : (o ++ ⟨#[9]⟩ ++ ba x : ByteArray).size ≤ (k + 1) * 601 := by
          rw [ByteArray.size_append, ByteArray.size_append]
          show o.size + 1 + (ba x).size ≤ _
          omega
        have H2 : Hid ((o ++ ⟨#[9]⟩ ++ ba x : ByteArray).data.toList = Tx.tabs (ws.take (k + 1))) := by
          show _ = _
          rw [app_data, app_data, H.out, ba_data, take_snoc HX.out, Tx.tabs_snoc]; simp
        clear hx hgx hex hxe H
        go_wp2_with fail
        refine (C5.out _).mono ?_
        rintro e w3 ⟨A', c', rfl, _, b3⟩
        have cx3 : w3.cell? ⟨b, off + k, none⟩ = some (.string (ba x)) := (b3.cell (p := ⟨b, off + k, none⟩) hbl).trans cx
        have hbel3 := onto hbel b3
        clear cx b3 hbel C5
        go_wp2
        go_roundw
        case rel => exact ⟨k + 1, _, by go_num, by omega, rfl, hsum, H2, hbel3⟩
        case measure => simp [RowKit.intOf]; omega
      · obtain rfl : k = n := by omega
        have HO : Hid (o.data.toList = Tx.tabs ws) := by
          show _ = _
          rw [H.out, List.take_of_length_le (by rw [HN.out]; exact Nat.le_refl _)]
        have hon : o.size ≤ 1000000 := by omega
        have C6 := Lib.hid (fun W => words_any o W hon)
        rw [HO.out, Tx.words_tabs ws hgood.out, HN.out] at C6
        obtain ⟨wo, rfl⟩ : ∃ wo, wo = wr := ⟨_, rfl⟩
        clear H HO
        go_wp2_with fail
        refine (C2.out _).mono ?_
        rintro e w3 ⟨rfl, b3⟩
        go_wp2_with fail
        refine (C3.out _).mono ?_
        rintro e w4 ⟨A4, c4, rfl, V4, b4⟩
        go_wp2_with fail
        refine (C2.out _).mono ?_
        rintro e w5 ⟨rfl, b5⟩
        go_wp2_with fail
        refine (C4.out _).mono ?_
        rintro e w6 ⟨rfl, b6⟩
        go_wp2_with fail
        refine (C2.out _).mono ?_
        rintro e w7 ⟨rfl, b7⟩
        have V7 := ((V4.on b5).on b6).on b7
        have B7 := onto (onto (onto (onto (onto hbel b3) b4) b5) b6) b7
        have HV7 := Lib.hid V7
        have HV2 := Lib.hid (HV.out.on B7)
        clear b3 b4 b5 b6 b7 V4 V7 hbel C2 C3 C4
        go_wp2_with fail
        go_loopw [7] (fun i wr => ∃ (j : Nat), i = .int .i64 (j : Int) ∧ j ≤ k ∧ Below w7.heap.size w7 wr) (fun i _ => k - (RowKit.intOf i).toNat)
        case atStart => exact ⟨0, rfl, Nat.zero_le _, Below.refl _ _⟩
        case round =>
          obtain ⟨j, rfl, hj, hbj⟩ := hrel
          by_cases hjk : j < k
          · obtain ⟨b, off, x, hA, hx, cx⟩ := sv_at (HV2.out.on hbj) hjk
            subst hA
            obtain ⟨b', off', y, hA', hy, cy⟩ := sv_at (HV7.out.on hbj) hjk
            subst hA'
            have hbl : b < wr.heap.size := World.block_lt_of_cell? wr _ cx
            have hbl' : b' < wr.heap.size := World.block_lt_of_cell? wr _ cy
            have hyx : y = Tx.lower x := by
              rw [List.getElem?_map, hx] at hy
              injection hy with hy; exact hy.symm
            subst hyx
            have hex := heach.out x (List.mem_of_getElem? hx)
            rw [← size_eq] at hex
            have hxs : (ba x).size ≤ 600 := by rw [ba_size]; omega
            have C7 := Lib.hid (fun W => lower_any (ba x) W (by omega))
            rw [ba_data] at C7
            generalize ba (Tx.lower x) = lx at C7 cy
            generalize ba x = bx at C7 cx
            have e3 : (lx.toList == lx.toList) = true := by simp
            have z1 : (0 : Int) ≤ (j : Int) := by omega
            have z2 : (j : Int) < (k : Int) := by omega
            have run := hbj
            clear hx hy hex hbj hxs
            go_wp2_with fail
            go_region_held3 (fun w' => w'.cell? ⟨b, off + j, none⟩ = some (.string bx) ∧ w'.cell? ⟨b', off' + j, none⟩ = some (.string lx))
              (first | assumption | go_keep | exact ⟨(b8.cell (p := ⟨b, off + j, none⟩) hbl).trans cx, (b8.cell (p := ⟨b', off' + j, none⟩) hbl').trans cy⟩)
              ((go_at_call 19; refine (C7.out _).mono ?_; rintro e w8 ⟨rfl, b8⟩; first | replace run := onto run b8 | replace run := onto run.drew b8))
            clear cx cy C7
            go_wp2
            go_roundw
            case rel => exact ⟨j + 1, by go_num, by omega, run⟩
            case measure => simp [RowKit.intOf]; omega
          · go_wp2_with fail
            refine (C6.out _).mono ?_
            rintro e w8 ⟨A8, c8, rfl, V8, b8⟩
            have V9 := (HV2.out.on hbj).on b8
            have B8 := onto (onto (onto B2 B7) hbj) b8
            clear b8 hbj B7 B2
            go_wp2_with fail
            refine (refTexts_any _ _ _ _ _ _ _ ws ws V8 V9).mono ?_
            rintro e w9 ⟨rfl, m, rfl⟩
            rw [show decide (ws = ws) = true from by simp]
            go_wp2
            go_ret
            exact ⟨rfl, below_drewN B8 m⟩

end Go.Proofs.YtmlonlipieedbaaDoor
