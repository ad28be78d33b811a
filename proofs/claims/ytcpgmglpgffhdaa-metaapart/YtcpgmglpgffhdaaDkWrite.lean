/-
  The program's disk: forget, Write.
-/
import Derived.Test.YtcpgmglpgffhdaaDkRead
namespace Go.Proofs.Ytcpgmglpgffhdaa
open Go.RowKit
set_option linter.unusedVariables false

/-- The disk of H is written, and is the one of H' then. -/
structure Step (w : World) (H : Hd) (w' : World) (H' : Hd) : Prop where
  off : Off H.own w w'
  same : H'.p = H.p
  own : ∀ k, H'.own k → H.own k ∨ w.heap.size ≤ k
theorem Step.refl (w : World) (H : Hd) : Step w H w H := ⟨Off.refl _ _, rfl, fun _ => .inl⟩
theorem Step.trans {w w1 w2 : World} {H H1 H2 : Hd} (h : Step w H w1 H1) (h2 : Step w1 H1 w2 H2) : Step w H w2 H2 :=
  ⟨h.off.trans' h2.off h.own, h2.same.trans h.same, fun k hk => by
    rcases h2.own k hk with a | a
    · exact h.own k a
    · exact .inr (Nat.le_trans h.off.size a)⟩
theorem Step.of_p {w w' : World} {H : Hd} (h : Off (fun k => k = H.p) w w') : Step w H w' H := ⟨h.mono fun k hk => .inl (.inl hk), rfl, fun _ => .inl⟩
theorem Step.of_below {w w' : World} {H : Hd} (h : Below w.heap.size w w') : Step w H w' H := ⟨Off.of_below h, rfl, fun _ => .inl⟩

/-- What a write touches. -/
def Hd.wr (H : Hd) (k : Nat) : Prop := k = H.p ∨ k = H.mb ∨ H.wv.ownBlock = some k
section
variable {w w1 : World} {H : Hd} {d : Dk.Pd}
theorem Hd.wr_own {k : Nat} (h : H.wr k) : H.own k := by
  rcases h with h | h | h
  · exact .inl h
  · exact .inr (.inl h)
  · exact .inr (.inr (.inr h))
theorem Dsk.sv_wr (h : Dsk w H d) {k : Nat} (hk : H.sv.ownBlock = some k) : ¬ H.wr k := by
  obtain ⟨vs, hs⟩ := h.safe
  obtain ⟨cs, hc⟩ := own_type hs.own hk
  rintro (rfl | rfl | hw)
  · exact h.p_sv hk rfl
  · obtain ⟨M, hm⟩ := h.seen
    obtain ⟨es, c, hb⟩ := map_block hm.map; rw [hb] at hc; cases hc
  · obtain ⟨xs, hx⟩ := h.waits
    obtain ⟨cs', hc'⟩ := own_type hx.own hw; rw [hc'] at hc; simp at hc
theorem Dsk.mb_wv (h : Dsk w H d) : H.wv.ownBlock ≠ some H.mb := by
  intro hw
  obtain ⟨xs, hx⟩ := h.waits
  obtain ⟨M, hm⟩ := h.seen
  obtain ⟨cs', hc'⟩ := own_type hx.own hw
  obtain ⟨es, c, hb⟩ := map_block hm.map; rw [hb] at hc'; cases hc'
theorem Dsk.wr_free (h : Dsk w H d) : Free H.wr w := fun k cs m hk => h.free k cs m (Hd.wr_own hk)
end

/-- What 'forget' asks for, and what it leaves. -/
theorem forget_any (w : World) (H : Hd) (d : Dk.Pd) {vs : List Value} {M : DataW Value} {n : Nat} (hstr : w.heap[H.p]? = some (.cells #[H.sv, H.wv, .map (some H.mb), .int .i64 (d.left : Int), .bool d.down] 68 (0, 0)))
    (hs : Ss w H.sv d.pages vs) (hm : w.ownsMap Try.prog 3 hold H.mb n M) (hfew : d.pages.length ≤ 2048) (hlow : d.left < 9223372036854775808) :
    Calls Try.prog 43 #[.pointer (some ⟨H.p, 0, none⟩)] w fun e w' => e = .returned (.tuple #[]) ∧ Dsk w' ⟨H.p, H.mb, H.sv, .slice none 0 0⟩ { d with waits := [] } ∧ Off (fun k => k = H.p ∨ k = H.mb) w w' := by
  have c1 := cell_of_row w _ 1 _ _ (0, 0) hstr
  have c2 := cell_of_row w _ 2 _ _ (0, 0) hstr
  have f1 := frozen_of_row w H.p 1 _ _ hstr
  simp at c1 c2
  obtain ⟨es, cl, hblk⟩ := map_block hm
  have p_mb : H.mb ≠ H.p := by intro e; rw [e, hstr] at hblk; cases hblk
  have hs1 := (str_set hstr (.slice none 0 0)).1
  have ho1 : Off (fun k => k = H.p ∨ k = H.mb) w (w.setCell ⟨H.p, 1, none⟩ (.slice none 0 0)) := (Off.refl (fun k => k = H.p ∨ k = H.mb) w).set _ (.inl rfl)
  have hop : Off (fun k => k = H.p) w (w.setCell ⟨H.p, 1, none⟩ (.slice none 0 0)) := (Off.refl (fun k => k = H.p) w).set _ rfl
  obtain ⟨w2, hrun, hm2, hg2⟩ := map_clear (hop.map_ hm p_mb) Try.underlying65
  have ho2 : Off (fun k => k = H.p ∨ k = H.mb) w w2 := ho1.trans (Off.of_grown hg2 fun k hk => by injection hk with hk; exact .inr hk.symm)
  have hf : Free (fun k => k = H.p ∨ k = H.mb) w := by
    intro k cs m hk hh
    rcases hk with rfl | rfl
    · rw [hstr] at hh; simp at hh
    · rw [hblk] at hh; cases hh
  have hD : Dsk w2 ⟨H.p, H.mb, H.sv, .slice none 0 0⟩ { d with waits := [] } := by
    refine ⟨?_, ⟨vs, hs.off ho2 hf fun k hk hk' => ?_⟩, ⟨[], World.ownsRow_nil _ _ _ _, Along.nil_⟩, ⟨_, hm2, fun _ _ => rfl, fun _ _ h => by simp at h⟩, by simp, hfew, hlow⟩
    · exact (hg2.block H.p (Array.getElem?_eq_some_iff.1 hs1).1 (fun e => by injection e with e; exact p_mb e.symm)).trans hs1
    · obtain ⟨cs, hc⟩ := own_type hs.own hk
      rcases hk' with rfl | rfl
      · rw [hstr] at hc; simp at hc
      · rw [hblk] at hc; cases hc
  have HD := Lib.hid hD
  have HO := Lib.hid ho2
  clear hD ho2 hf hm2 hg2 ho1 hop hs1 hm hs hblk p_mb hstr
  go_enter Try.func43, Try.ntmps43
  go_wp2_with (at_builtin; refine wpList_clear_own _ rfl _ 65 rfl H.mb rfl w2 hrun ?_)
  go_end0
  exact ⟨rfl, HD.out, HO.out⟩

theorem Dsk.pushed {w w5 : World} {H : Hd} {d : Dk.Pd} {no g cap : Nat} {l : List Nat} {u : Value} {xs : List (Nat × Value)} {M : DataW Value} (h : Dsk w H d) (hM : Seen w H.mb d M) (hxs : Ws w 76 H.wv d.waits xs) (hno : no < d.pages.length)
    (ho : Off H.wr w w5) (hu : PgV w5 u l) (hstr : w5.heap[H.p]? = some (.cells #[H.sv, .slice (some ⟨g, 0, none⟩) (d.waits.length + 1) cap, .map (some H.mb), .int .i64 (d.left : Int), .bool d.down] 68 (0, 0)))
    (hrow : w5.ownsRow 0 76 2 (.slice (some ⟨g, 0, none⟩) (d.waits.length + 1) cap) (d.waits.length + 1) (wc xs ++ [.int .i64 (no : Int), u]))
    (hmap : w5.ownsMap Try.prog 3 hold H.mb (d.waits.length + 1) (M.put (key no) (.held u))) : Dsk w5 ⟨H.p, H.mb, H.sv, .slice (some ⟨g, 0, none⟩) (d.waits.length + 1) cap⟩ (Dk.push d no l) := by
  obtain ⟨vs, hs⟩ := h.safe
  have hf := h.wr_free
  have hwl : (Dk.push d no l).waits.length = d.waits.length + 1 := by simp [Dk.push]
  refine ⟨hstr, ⟨vs, hs.off ho hf fun k hk => h.sv_wr hk⟩, ⟨xs ++ [(no, u)], ?_, ?_⟩, ⟨M.put (key no) (.held u), ?_, ?_, ?_⟩, ?_, h.few, h.low⟩
  · rw [hwl, wc_snoc]; exact hrow
  · exact (hxs.along.mono fun x y hr => ⟨hr.1, hr.2.off ho hf⟩).snoc ⟨rfl, hu⟩
  · rw [hwl]; exact hmap
  · intro q hq
    have ha : (Dk.push d no l).waits.any (fun x => x.1 == q) = (d.waits.any (fun x => x.1 == q) || no == q) := by simp [Dk.push]
    rw [ha]
    by_cases he : no = q
    · subst he
      rw [Maps.has_put_same hM.map.isMap (by exact trivial)]; simp
    · rw [Maps.has_put_other (by unfold key; intro e; injection e with _ e; omega), hM.has q hq]
      have : (no == q) = false := by simpa using he
      rw [this, Bool.or_false]
  · intro q hq hh
    have ha : (Dk.push d no l).waits.any (fun x => x.1 == q) = (d.waits.any (fun x => x.1 == q) || no == q) := by simp [Dk.push]
    rw [ha] at hh
    rw [Dk.seen_push]
    by_cases he : no = q
    · subst he
      rw [if_pos rfl]
      exact ⟨u, Maps.atKey_put_same hM.map.isMap (by exact trivial) _ _, hu⟩
    · have : (no == q) = false := by simpa using he
      rw [this, Bool.or_false] at hh
      obtain ⟨v, h1, h2⟩ := hM.at_ q hq hh
      rw [if_neg he]
      exact ⟨v, by rw [Maps.atKey_put_other (by unfold key; intro e; injection e with _ e; omega)]; exact h1, h2.off ho hf⟩
  · intro x hx
    rcases List.mem_append.1 hx with h1 | h1
    · exact h.ins x h1
    · simp at h1; subst h1; exact hno

end Go.Proofs.Ytcpgmglpgffhdaa
