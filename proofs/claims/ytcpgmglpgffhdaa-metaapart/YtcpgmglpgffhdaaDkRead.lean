/-
  The program's disk: copyOf, Read, Safe, forget.
-/
import Derived.Test.YtcpgmglpgffhdaaDkDisk
namespace Go.Proofs.Ytcpgmglpgffhdaa
open Go.RowKit
set_option linter.unusedVariables false

theorem splice_part (n m : Nat) (l : List Nat) (h : l.length = m) (hm : m ≤ n) : splice (List.replicate n 0) 0 l = l ++ List.replicate (n - m) 0 := by
  subst h
  simp [splice]
set_option maxRecDepth 100000 in
theorem copyD_bs (w : World) (A : Option Addr) (n c : Nat) (l : List Nat) (hb : Bs w A n c l) (hn : n ≤ 1024) :
    Calls Try.prog 48 #[.slice A n c] w fun e w' => e = .returned (.slice (some ⟨w.heap.size, 0, none⟩) 1024 1024) ∧ Row w' w.heap.size (l ++ List.replicate (1024 - n) 0) ∧ Below w.heap.size w w' := by
  obtain ⟨i0, hi, hz0, hz1, hz2⟩ := info_parts Try.info5
  have hsz : (Try.prog.info? 5).map (·.size) = some 1 := by rw [show Try.prog.info? 5 = _ from hi]; simp [hz1]
  have HB := Lib.hid hb
  have hl := hb.1
  have HL := Lib.hid hl
  clear hl hb
  go_enter Try.func48, Try.ntmps48
  go_wp2_with (first
    | (refine wpList_make_full _ rfl _ _ 25 rfl w.heap.size 5 i0 (.int .u8 0) 1 Try.underlying25 hi hz0 hz1 .i64 .i64 _ _ 1024 rfl rfl rfl rfl (by rw [hz2]; omega) (by unfold maxLen; omega) (Nat.le_refl _) ?_; intro w1 hown hgrow; rw [made_zero] at hown; have R1 := Lib.hid (Row.of_own hown); have B1 := (Below.refl w.heap.size w).grown hgrow (Nat.le_refl _) (fun k hk => by cases hk); have S1 := Lib.hid (HB.out.on B1); clear hown hgrow)
    | (refine wpList_copy_splice (o := ⟨some 7, _, _, _, _, _⟩) rfl (.tmp 5) (.tmp 6) 25 25 rfl 5 Try.underlying25 hsz _ _ _ _ _ _ rfl rfl w.heap.size 0 (bv (List.replicate 1024 0)) 5 R1.out (bv l) (by rw [bv_len, HL.out]; exact (Nat.min_eq_left hn).symm) (fun h => ⟨rfl, S1.out.src h⟩) (by rw [bv_len, bv_len, HL.out, List.length_replicate]; omega) (bv_one l) w.heap.size w B1 (Nat.le_refl _) ?_; intro w2 HG hB))
  go_ret
  refine ⟨rfl, ?_, hB⟩
  have := HG.out
  rwa [splice_bv, splice_part 1024 n l HL.out hn] at this
theorem copyD_any (w : World) (v : Value) (l : List Nat) (h : SfV w v l) :
    Calls Try.prog 48 #[v] w fun e w' => ∃ g, e = .returned (.slice (some ⟨g, 0, none⟩) 1024 1024) ∧ w.heap.size ≤ g ∧ Row w' g l ∧ Below w.heap.size w w' := by
  obtain ⟨A, n, c, l0, rfl, hb, hn, rfl⟩ := h.src
  refine (copyD_bs w A n c l0 hb hn).mono ?_
  rintro e w' ⟨rfl, hr, hB⟩
  exact ⟨_, rfl, Nat.le_refl _, hr, hB⟩


theorem read_no (w : World) (H : Hd) (d : Dk.Pd) (no : Int) (h : Dsk w H d) (hn : ¬ Dk.has d no) :
    Calls Try.prog 64 #[.pointer (some ⟨H.p, 0, none⟩), .int .i64 no] w fun e w' => e = .returned (.tuple #[.slice none 0 0, .int .i64 1]) ∧ w = w' := by
  have hd : decide (Dk.has d no) = false := by simpa using hn
  go_enter Try.func64, Try.ntmps64
  go_wp2_with fail
  refine (has_any w H d no h).mono ?_
  rintro e w1 ⟨rfl, rfl⟩
  rw [hd]
  clear hd h hn
  go_wp2
  go_ret2
  exact ⟨rfl, rfl⟩
theorem keyed : Maps.Keyed Try.prog 3 := Maps.int_keyed Try.underlying3
theorem zeroS (w : World) : (zeroValue 25).run Try.prog w = .ok (.slice none 0 0) w := by kernel_rfl
theorem key_of {no : Nat} (h : no < 9223372036854775808) : keyOf Try.prog 3 (.int .i64 (no : Int)) = some (key no) := Maps.keyOf_int_mk Try.underlying3 (WalkArith.wf_i64 (by omega))
theorem look_at {w : World} {mb : Nat} {d : Dk.Pd} {M : DataW Value} (h : Seen w mb d M) {no : Nat} (hn : no < 2048) :
    ∃ v, (Instr.lookup 65 (.map (some mb)) (.int .i64 (no : Int)) true).run Try.prog w = .ok (.tuple #[v, .bool (Maps.has M (key no))]) w ∧ M.atKey (key no) (.held (.slice none 0 0)) = .held v := by
  obtain ⟨v, ps, h1, h2⟩ := h.map.look_ok keyed Try.underlying65 (zeroS w) (zd := .held (.slice none 0 0)) (zp := []) rfl (key_of (no := no) (by omega))
  refine ⟨v, h1, ?_⟩
  simp only [hold, Option.some.injEq, Prod.mk.injEq] at h2
  exact h2.1.symm

theorem read_any (w : World) (H : Hd) (d : Dk.Pd) (no : Nat) (h : Dsk w H d) (hn : no < d.pages.length) :
    Calls Try.prog 64 #[.pointer (some ⟨H.p, 0, none⟩), .int .i64 (no : Int)] w fun e w' => ∃ g, e = .returned (.tuple #[.slice (some ⟨g, 0, none⟩) 1024 1024, .int .i64 0]) ∧ w.heap.size ≤ g ∧ (Dk.seen d no).length = 1024 ∧ (∀ x ∈ Dk.seen d no, x < 256) ∧ Row w' g (Dk.seen d no) ∧ Below w.heap.size w w' := by
  have hd : decide (Dk.has d (no : Int)) = true := by simp [Dk.has]; omega
  obtain ⟨vs, hs⟩ := h.safe
  obtain ⟨M, hM⟩ := h.seen
  have hfew := h.few
  obtain ⟨v, hrun, hat⟩ := look_at hM (no := no) (by omega)
  have hhas := hM.has no hn
  have c0 := h.c0
  have c2 := h.c2
  by_cases ha : d.waits.any (fun x => x.1 == no) = true
  · obtain ⟨v', h1, h2⟩ := hM.at_ no hn ha
    rw [hat] at h1
    injection h1 with h1
    subst h1
    rw [hhas, ha] at hrun
    have HV := Lib.hid h2
    clear hM hs hat hhas ha h2
    go_enter Try.func64, Try.ntmps64
    go_wp2_with fail
    refine (has_any w H d no h).mono ?_
    rintro e w1 ⟨rfl, rfl⟩
    rw [hd]
    clear hd h hn
    go_wp2_with fail
    refine (copyD_any _ _ _ (.inr HV.out)).mono ?_
    rintro e w2 ⟨g2, rfl, hg2, R2, B2⟩
    have HN := Lib.hid HV.out.len
    have HT := Lib.hid HV.out.lt
    clear HV
    go_wp2
    go_ret2
    exact ⟨g2, rfl, hg2, HN.out, HT.out, R2, B2⟩
  · have ha' : d.waits.any (fun x => x.1 == no) = false := Bool.eq_false_iff.2 ha
    obtain ⟨g, c, u, l, hv, hc, hl, hu, cu⟩ := hs.get hn
    have hse : Dk.seen d no = l := by
      unfold Dk.seen; rw [Dk.seen_none d no ha', List.getD_eq_getElem?_getD, hl]; rfl
    rw [hse]
    rw [hv] at c0
    rw [hhas, ha'] at hrun
    have z1 : (no : Int) < (d.pages.length : Int) := by omega
    clear hs hv hl hM hat hhas ha ha' hse
    go_enter Try.func64, Try.ntmps64
    go_wp2_with fail
    refine (has_any w H d no h).mono ?_
    rintro e w1 ⟨rfl, rfl⟩
    rw [hd]
    clear hd h hn
    go_wp2_with fail
    refine (copyD_any _ _ _ hu).mono ?_
    rintro e w2 ⟨g2, rfl, hg2, R2, B2⟩
    have HN := Lib.hid hu.len
    have HT := Lib.hid hu.lt
    clear hu
    go_wp2
    go_ret2
    exact ⟨g2, rfl, hg2, HN.out, HT.out, R2, B2⟩

/-- 'clear(m)'. -/
theorem map_clear {w : World} {P : Program} {k b n t e : Nat} {R : Value → Option (DataW Value × List MemPlace)} {D : DataW Value} (hm : w.ownsMap P k R b n D) (ht : P.underlying t = some (.map k e)) :
    ∃ w', (∀ ty, (Builtin.clear_ #[t] ty #[.map (some b)]).run P w = .ok (.tuple #[]) w') ∧ w'.ownsMap P k R b 0 (.map []) ∧ w.grownBy w' (some b) := by
  obtain ⟨es, clock, hb, _⟩ := hm
  refine ⟨ChangeMaps.setBlock w b (.map #[] clock), fun ty => ?_, ⟨#[], clock, ChangeMaps.heap_setBlock_same hb _, ⟨by simp, MapKept.stamped_empty clock, by simp⟩, Nat.le_refl _, rfl⟩, ⟨rfl, rfl, rfl, by simp [ChangeMaps.setBlock], fun i _ hi => ChangeMaps.heap_setBlock_other hb _ (fun e => hi (by rw [e]))⟩⟩
  simp [Builtin.clear_, run_underlying ht, MapKept.run_getObj_map hb, MapKept.run_setObj_map _ hb, Result.andThen]
  rfl
theorem wpList_clear_own {P : Program} (w : World) {ops : Array Oper} {rest : List Oper} {o : Oper} {a : Act} {Q : Exit → Act → World → Prop} (hg : o.guard = none) (m : Operand) (t : TypeId)
    (hop : o.op = Op.call { callee := Callee.builtin Builtin.clear, args := #[m], argTypes := #[t] }) (b : Nat) (hm : a.eval m = .map (some b)) (w' : World) (hrun : ∀ ty, (Builtin.clear_ #[t] ty #[.map (some b)]).run P w = .ok (.tuple #[]) w')
    (hK : wpList P ops Q rest (a.put o.dst (.tuple #[])) w') : wpList P ops Q (o :: rest) a w := by
  refine wpList_plain hg fun K' hK' => ?_
  unfold Oper.wp
  simp [execOp, hop, resolve, invoke, builtin, hm, hrun o.type, Result.andThen]
  exact hK' _ _ hK

end Go.Proofs.Ytcpgmglpgffhdaa
