/-
  The program's disk in memory; what only asks or arms.
-/
import Derived.Test.YtcpgmglpgffhdaaDkBase
namespace Go.Proofs.Ytcpgmglpgffhdaa
open Go.RowKit
set_option linter.unusedVariables false

/-- Where a disk lies. -/
structure Hd where
  p : Nat
  mb : Nat
  sv : Value
  wv : Value
def Hd.own (H : Hd) (k : Nat) : Prop := k = H.p ∨ k = H.mb ∨ H.sv.ownBlock = some k ∨ H.wv.ownBlock = some k
/-- A map's element stands for itself. -/
def hold (v : Value) : Option (DataW Value × List MemPlace) := some (.held v, [])
def key (no : Nat) : Lit := .int .i64 (no : Int)
/-- What the map above what is safe holds. -/
structure Seen (w : World) (mb : Nat) (d : Dk.Pd) (M : DataW Value) : Prop where
  map : w.ownsMap Try.prog 3 hold mb d.waits.length M
  has : ∀ no : Nat, no < d.pages.length → Maps.has M (key no) = d.waits.any (fun x => x.1 == no)
  at_ : ∀ no : Nat, no < d.pages.length → d.waits.any (fun x => x.1 == no) = true → ∃ v, M.atKey (key no) (.held (.slice none 0 0)) = .held v ∧ PgV w v (Dk.seen d no)
/-- The program's disk in memory. -/
structure Dsk (w : World) (H : Hd) (d : Dk.Pd) : Prop where
  str : w.heap[H.p]? = some (.cells #[H.sv, H.wv, .map (some H.mb), .int .i64 (d.left : Int), .bool d.down] 68 (0, 0))
  safe : ∃ vs, Ss w H.sv d.pages vs
  waits : ∃ xs, Ws w 76 H.wv d.waits xs
  seen : ∃ M, Seen w H.mb d M
  ins : ∀ x ∈ d.waits, x.1 < d.pages.length
  few : d.pages.length ≤ 2048
  low : d.left < 9223372036854775808

theorem Off.map_ {S : Nat → Prop} {w w1 : World} (h : Off S w w1) {P : Program} {k b n : Nat} {R : Value → Option (DataW Value × List MemPlace)} {D : DataW Value} (hm : w.ownsMap P k R b n D) (hn : ¬ S b) : w1.ownsMap P k R b n D := by
  obtain ⟨es, clock, hb, r⟩ := hm
  exact ⟨es, clock, h.at_ hb hn, r⟩
theorem map_block {w : World} {P : Program} {k b n : Nat} {R : Value → Option (DataW Value × List MemPlace)} {D : DataW Value} (hm : w.ownsMap P k R b n D) : ∃ es c, w.heap[b]? = some (.map es c) := by
  obtain ⟨es, clock, hb, _⟩ := hm
  exact ⟨_, _, hb⟩

section
variable {w w1 : World} {H : Hd} {d : Dk.Pd}
theorem Dsk.lt (h : Dsk w H d) {k : Nat} (hk : H.own k) : k < w.heap.size := by
  obtain ⟨vs, hs⟩ := h.safe
  obtain ⟨xs, hw⟩ := h.waits
  obtain ⟨M, hm⟩ := h.seen
  rcases hk with rfl | rfl | hk | hk
  · exact (Array.getElem?_eq_some_iff.1 h.str).1
  · exact hm.map.lt
  · exact own_lt hs.own hk
  · exact own_lt hw.own hk
theorem Dsk.free (h : Dsk w H d) : Free H.own w := by
  obtain ⟨vs, hs⟩ := h.safe
  obtain ⟨xs, hw⟩ := h.waits
  obtain ⟨M, hm⟩ := h.seen
  intro k cs m hk hh
  rcases hk with rfl | rfl | hk | hk
  · rw [h.str] at hh; simp at hh
  · obtain ⟨es, c, hb⟩ := map_block hm.map; rw [hb] at hh; cases hh
  · obtain ⟨cs', hc⟩ := own_type hs.own hk; rw [hc] at hh; simp at hh
  · obtain ⟨cs', hc⟩ := own_type hw.own hk; rw [hc] at hh; simp at hh
/-- The disk stays while nothing of its own is touched. -/
theorem Dsk.off {S : Nat → Prop} (h : Dsk w H d) (ho : Off S w w1) (hf : Free S w) (hn : ∀ k, H.own k → ¬ S k) : Dsk w1 H d := by
  obtain ⟨vs, hs⟩ := h.safe
  obtain ⟨xs, hw⟩ := h.waits
  obtain ⟨M, hm⟩ := h.seen
  exact ⟨ho.at_ h.str (hn _ (.inl rfl)), ⟨vs, hs.off ho hf fun k hk => hn k (.inr (.inr (.inl hk)))⟩, ⟨xs, hw.off ho hf fun k hk => hn k (.inr (.inr (.inr hk)))⟩,
    ⟨M, ho.map_ hm.map (hn _ (.inr (.inl rfl))), hm.has, fun no h1 h2 => by obtain ⟨v, h3, h4⟩ := hm.at_ no h1 h2; exact ⟨v, h3, h4.off ho hf⟩⟩, h.ins, h.few, h.low⟩
theorem Dsk.on (h : Dsk w H d) (hb : Below w.heap.size w w1) : Dsk w1 H d :=
  h.off (S := fun _ => False) (Off.of_below hb) (fun _ _ _ h => h.elim) fun _ _ h => h
theorem Dsk.drewN (h : Dsk w H d) (m : Nat) : Dsk (w.drewN m) H d := h.on (below_drewN (Below.refl _ _) m)
theorem Dsk.frz (h : Dsk w H d) (j : Nat) : w.frozen? ⟨H.p, j, none⟩ = false := frozen_of_row w H.p j _ _ h.str
theorem Dsk.c0 (h : Dsk w H d) : w.cell? ⟨H.p, 0, none⟩ = some H.sv := cell_of_row w _ 0 _ _ (0, 0) h.str
theorem Dsk.c1 (h : Dsk w H d) : w.cell? ⟨H.p, 1, none⟩ = some H.wv := cell_of_row w _ 1 _ _ (0, 0) h.str
theorem Dsk.c2 (h : Dsk w H d) : w.cell? ⟨H.p, 2, none⟩ = some (.map (some H.mb)) := cell_of_row w _ 2 _ _ (0, 0) h.str
theorem Dsk.c3 (h : Dsk w H d) : w.cell? ⟨H.p, 3, none⟩ = some (.int .i64 (d.left : Int)) := cell_of_row w _ 3 _ _ (0, 0) h.str
theorem Dsk.c4 (h : Dsk w H d) : w.cell? ⟨H.p, 4, none⟩ = some (.bool d.down) := cell_of_row w _ 4 _ _ (0, 0) h.str
/-- The struct's own block is none of the others. -/
theorem Dsk.p_sv (h : Dsk w H d) {k : Nat} (hk : H.sv.ownBlock = some k) : k ≠ H.p := by
  rintro rfl
  obtain ⟨vs, hs⟩ := h.safe
  obtain ⟨cs', hc⟩ := own_type hs.own hk; rw [h.str] at hc; simp at hc
theorem Dsk.p_wv (h : Dsk w H d) {k : Nat} (hk : H.wv.ownBlock = some k) : k ≠ H.p := by
  rintro rfl
  obtain ⟨vs, hs⟩ := h.waits
  obtain ⟨cs', hc⟩ := own_type hs.own hk; rw [h.str] at hc; simp at hc
theorem Dsk.p_mb (h : Dsk w H d) : H.mb ≠ H.p := by
  intro e
  obtain ⟨M, hm⟩ := h.seen
  obtain ⟨es, c, hb⟩ := map_block hm.map; rw [e, h.str] at hb; cases hb
theorem Dsk.p_free (h : Dsk w H d) : Free (fun k => k = H.p) w := by
  intro k cs m hk hh
  subst hk
  rw [h.str] at hh; simp at hh
/-- The two numbers are written. -/
theorem Dsk.turn (h : Dsk w H d) (ho : Off (fun k => k = H.p) w w1) {e : Dk.Pd} (hp : e.pages = d.pages) (hw : e.waits = d.waits) (hl : e.left < 9223372036854775808)
    (hs : w1.heap[H.p]? = some (.cells #[H.sv, H.wv, .map (some H.mb), .int .i64 (e.left : Int), .bool e.down] 68 (0, 0))) : Dsk w1 H e := by
  obtain ⟨vs, hsf⟩ := h.safe
  obtain ⟨xs, hwt⟩ := h.waits
  obtain ⟨M, hm⟩ := h.seen
  have hf := h.p_free
  refine ⟨hs, ⟨vs, ?_⟩, ⟨xs, ?_⟩, ⟨M, ?_⟩, by rw [hw, hp]; exact h.ins, by rw [hp]; exact h.few, hl⟩
  · rw [hp]; exact hsf.off ho hf fun k hk => h.p_sv hk
  · rw [hw]; exact hwt.off ho hf fun k hk => h.p_wv hk
  · refine ⟨by rw [hw]; exact ho.map_ hm.map h.p_mb, by rw [hw, hp]; exact hm.has, ?_⟩
    rw [hw, hp]
    intro no h1 h2
    obtain ⟨v, h3, h4⟩ := hm.at_ no h1 h2
    exact ⟨v, h3, by rw [Dk.seen_eq hp hw]; exact h4.off ho hf⟩
end

theorem has_any (w : World) (H : Hd) (d : Dk.Pd) (no : Int) (h : Dsk w H d) :
    Calls Try.prog 47 #[.pointer (some ⟨H.p, 0, none⟩), .int .i64 no] w fun e w' => e = .returned (.bool (decide (Dk.has d no))) ∧ w = w' := by
  obtain ⟨vs, hs⟩ := h.safe
  obtain ⟨A, c, hv, _, _⟩ := hs.form
  have c0 := h.c0
  rw [hv] at c0
  clear hs hv h
  generalize hn : d.pages.length = n at *
  have hd : decide (Dk.has d no) = decide (0 ≤ no ∧ no < (n : Int)) := by rw [decide_eq_decide]; unfold Dk.has; rw [hn]
  rw [hd]
  clear hn hd
  by_cases h0 : 0 ≤ no
  · by_cases h1 : no < (n : Int)
    · have hd : decide (0 ≤ no ∧ no < (n : Int)) = true := by simp; omega
      rw [hd]
      clear hd
      go_enter Try.func47, Try.ntmps47
      go_wp2
      go_ret
      exact ⟨rfl, rfl⟩
    · have hd : decide (0 ≤ no ∧ no < (n : Int)) = false := by simp; omega
      rw [hd]
      clear hd
      have hf : decide (no < (n : Int)) = false := by simp; omega
      go_enter Try.func47, Try.ntmps47
      go_wp2
      go_ret
      exact ⟨rfl, rfl⟩
  · have hd : decide (0 ≤ no ∧ no < (n : Int)) = false := by simp; omega
    rw [hd]
    clear hd
    have hf : decide (0 ≤ no) = false := by simp; omega
    go_enter Try.func47, Try.ntmps47
    go_wp2
    go_ret
    exact ⟨rfl, rfl⟩

theorem str_set {w : World} {p : Nat} {a0 a1 a2 a3 a4 : Value} {t : TypeId} (h : w.heap[p]? = some (.cells #[a0, a1, a2, a3, a4] t (0, 0))) (v : Value) :
    (w.setCell ⟨p, 1, none⟩ v).heap[p]? = some (.cells #[a0, v, a2, a3, a4] t (0, 0)) ∧ (w.setCell ⟨p, 3, none⟩ v).heap[p]? = some (.cells #[a0, a1, a2, v, a4] t (0, 0)) ∧ (w.setCell ⟨p, 4, none⟩ v).heap[p]? = some (.cells #[a0, a1, a2, a3, v] t (0, 0)) :=
  ⟨heap_setCell_same w p 1 _ t v h, heap_setCell_same w p 3 _ t v h, heap_setCell_same w p 4 _ t v h⟩
theorem arm_any (w : World) (H : Hd) (d : Dk.Pd) (n : Int) (h : Dsk w H d) (hn : n < 9223372036854775808) :
    Calls Try.prog 22 #[.pointer (some ⟨H.p, 0, none⟩), .int .i64 n] w fun e w' => e = .returned (.tuple #[]) ∧ Dsk w' H (Dk.armed d n.toNat) ∧ Off (fun k => k = H.p) w w' := by
  have c3 := h.c3
  have f3 := h.frz 3
  have hD : ∀ m : Nat, m < 9223372036854775808 → Hid (Dsk (w.setCell ⟨H.p, 3, none⟩ (.int .i64 (m : Int))) H (Dk.armed d m) ∧ Off (fun k => k = H.p) w (w.setCell ⟨H.p, 3, none⟩ (.int .i64 (m : Int)))) := by
    intro m hm
    have hs := (str_set h.str (.int .i64 (m : Int))).2.1
    have ho : Off (fun k => k = H.p) w (w.setCell ⟨H.p, 3, none⟩ (.int .i64 (m : Int))) := (Off.refl _ _).set _ rfl
    exact ⟨h.turn (e := Dk.armed d m) ho rfl rfl hm hs, ho⟩
  clear h
  by_cases h0 : n < 0
  · have e : n.toNat = 0 := by omega
    rw [e]
    have HD := hD 0 (by omega)
    clear hD e
    go_enter Try.func22, Try.ntmps22
    go_wp2
    go_end0
    exact ⟨rfl, HD.out⟩
  · obtain ⟨m, rfl⟩ : ∃ m : Nat, n = (m : Int) := ⟨n.toNat, by omega⟩
    have HD := hD m (by omega)
    rw [Int.toNat_natCast]
    clear hD
    have h1 : ¬ ((m : Int) < 0) := h0
    go_enter Try.func22, Try.ntmps22
    go_wp2
    go_end0
    exact ⟨rfl, HD.out⟩

/-- One more act, the power being there. -/
theorem act_any (w : World) (H : Hd) (d : Dk.Pd) (h : Dsk w H d) (hd : d.down = false) :
    Calls Try.prog 42 #[.pointer (some ⟨H.p, 0, none⟩)] w fun e w' => e = .returned (.int .i64 (Dk.code (Dk.act d))) ∧ Dsk w' H (Dk.act d) ∧ Off (fun k => k = H.p) w w' := by
  have c3 := h.c3
  have c4 := h.c4
  have f3 := h.frz 3
  have f4 := h.frz 4
  have hlow := h.low
  have hs := h.str
  rw [hd] at c4
  by_cases h0 : d.left = 0
  · have e : Dk.act d = d := by unfold Dk.act; rw [if_pos h0]
    have e2 : Dk.code d = 0 := by unfold Dk.code; rw [hd]; rfl
    rw [e, e2]
    have HD := Lib.hid h
    rw [h0] at c3
    clear h hs hlow e e2
    go_enter Try.func42, Try.ntmps42
    go_wp2
    go_ret
    exact ⟨rfl, HD.out, Off.refl _ _⟩
  · obtain ⟨m, hm⟩ : ∃ m, d.left = m + 1 := ⟨d.left - 1, by omega⟩
    have e : Dk.act d = { d with left := m, down := decide (m = 0) } := by
      unfold Dk.act
      rw [if_neg h0, hm]
      simp
    have hs1 := (str_set h.str (.int .i64 (m : Int))).2.1
    have hs2 := (str_set hs1 (.bool (decide (m = 0)))).2.2
    have ho : Off (fun k => k = H.p) w ((w.setCell ⟨H.p, 3, none⟩ (.int .i64 (m : Int))).setCell ⟨H.p, 4, none⟩ (.bool (decide (m = 0)))) := ((Off.refl (fun k => k = H.p) w).set _ rfl).set _ rfl
    have HD := Lib.hid (h.turn (e := { d with left := m, down := decide (m = 0) }) ho rfl rfl (by show m < _; omega) hs2)
    have HO := Lib.hid ho
    rw [e]
    rw [hm] at c3
    have wm : wrap64 ((m : Int) + 1 - 1) = (m : Int) := by rw [show (m : Int) + 1 - 1 = (m : Int) from by omega]; exact IntWalk.wrap64_in _ ⟨by omega, by omega⟩
    have gm : ((m : Int) + 1) > 0 := by omega
    have c3' : w.cell? ⟨H.p, 3, none⟩ = some (.int .i64 ((m : Int) + 1)) := by rw [c3]; simp
    clear h hs hs1 hs2 ho c3 e
    by_cases hz : m = 0
    · subst hz
      have ec : Dk.code { d with left := 0, down := decide (0 = 0) } = 3 := rfl
      rw [ec]
      have e1 : (((0 : Nat) : Int) == 0) = true := rfl
      go_enter Try.func42, Try.ntmps42
      go_wp2
      go_ret
      exact ⟨rfl, HD.out, HO.out⟩
    · have hz' : decide (m = 0) = false := by simp; omega
      have ec : Dk.code { d with left := m, down := decide (m = 0) } = 0 := by unfold Dk.code; simp [hz]
      rw [ec]
      have e1 : ((m : Int) == 0) = false := by simp; omega
      rw [hz'] at HD HO
      rw [hz']
      clear hz hz' ec
      go_enter Try.func42, Try.ntmps42
      go_wp2
      go_ret
      exact ⟨rfl, HD.out, HO.out⟩

end Go.Proofs.Ytcpgmglpgffhdaa
