/-
  The program's disk: Sync.
-/
import Derived.Test.YtcpgmglpgffhdaaDkWr
import Derived.BigRegion
namespace Go.Proofs.Ytcpgmglpgffhdaa
open Go.RowKit
set_option linter.unusedVariables false

/-- The row of safe pages is written: all else of the disk is as it was. -/
structure Mid (w0 w : World) (H : Hd) (ps : List (List Nat)) : Prop where
  off : Off (fun k => H.sv.ownBlock = some k) w0 w
  safe : ∃ vs, Ss w H.sv ps vs
section
variable {w0 w : World} {H : Hd} {d : Dk.Pd} {ps : List (List Nat)}
theorem Dsk.sv_free (h : Dsk w0 H d) : Free (fun k => H.sv.ownBlock = some k) w0 := fun k cs m hk => h.free k cs m (.inr (.inr (.inl hk)))
theorem Dsk.mid (h : Dsk w0 H d) : Mid w0 w0 H d.pages := ⟨Off.refl _ _, h.safe⟩
theorem Mid.str (h : Mid w0 w H ps) (hd : Dsk w0 H d) : w.heap[H.p]? = some (.cells #[H.sv, H.wv, .map (some H.mb), .int .i64 (d.left : Int), .bool d.down] 68 (0, 0)) :=
  h.off.at_ hd.str fun hk => hd.p_sv hk rfl
theorem Mid.waits (h : Mid w0 w H ps) (hd : Dsk w0 H d) : ∃ xs, Ws w 76 H.wv d.waits xs := by
  obtain ⟨xs, hx⟩ := hd.waits
  exact ⟨xs, hx.off h.off hd.sv_free fun k hk hk' => hd.sv_wr hk' (.inr (.inr hk))⟩
theorem Mid.map (h : Mid w0 w H ps) (hd : Dsk w0 H d) : ∃ M, w.ownsMap Try.prog 3 hold H.mb d.waits.length M := by
  obtain ⟨M, hM⟩ := hd.seen
  exact ⟨M, h.off.map_ hM.map fun hk => hd.sv_wr hk (.inr (.inl rfl))⟩
theorem Mid.lt (h : Mid w0 w H ps) (hd : Dsk w0 H d) {k : Nat} (hk : H.own k) : k < w.heap.size := Nat.lt_of_lt_of_le (hd.lt hk) h.off.size
theorem Mid.below {w1 : World} (h : Mid w0 w H ps) (hb : Below w.heap.size w w1) : Mid w0 w1 H ps := by
  obtain ⟨vs, hs⟩ := h.safe
  exact ⟨h.off.trans (Off.of_below hb), vs, hs.on hb⟩
/-- One page is set. -/
theorem Mid.put {g n c : Nat} (h : Mid w0 w H ps) (hv : H.sv = .slice (some ⟨g, 0, none⟩) n c) (k : Nat) {u : Value} {l : List Nat} (hu : SfV w u l) : Mid w0 (w.setCell ⟨g, k, none⟩ u) H (ps.set k l) := by
  obtain ⟨vs, hs⟩ := h.safe
  refine ⟨h.off.set _ (by rw [hv]; rfl), vs.set k u, ?_⟩
  rw [hv] at hs ⊢
  exact hs.put k hu
end

set_option maxRecDepth 100000 in
set_option maxHeartbeats 1000000 in
theorem sync_go (w : World) (H : Hd) (d : Dk.Pd) (h : Dsk w H d) (hd : d.down = false) (hd1 : (Dk.act d).down = false) (hm : d.waits.length < 1000) :
    Calls Try.prog 20 #[.pointer (some ⟨H.p, 0, none⟩)] w fun e w' => ∃ H', e = .returned (.int .i64 0) ∧ Dsk w' H' (Dk.settled (Dk.act d)) ∧ Step w H w' H' := by
  have c4 := h.c4
  rw [hd] at c4
  have ec : Dk.code (Dk.act d) = 0 := by unfold Dk.code; rw [hd1]; rfl
  have hm1 : (Dk.act d).waits.length < 1000 := by rw [Dk.act_waits]; exact hm
  have hp1 : (Dk.act d).pages.length = d.pages.length := by rw [Dk.act_pages]
  have C := Lib.hid (act_any w H d h hd)
  rw [ec] at C
  clear ec
  generalize Dk.act d = d1 at *
  go_enter Try.func20, Try.ntmps20
  go_wp2_with fail
  refine C.out.mono ?_
  rintro e w1 ⟨rfl, h1, o1⟩
  have S1 := Lib.hid (Step.of_p (H := H) o1)
  clear hd hd1 hp1 h c4 o1 hm C
  obtain ⟨xs, hx⟩ := h1.waits
  obtain ⟨A, c, hwv, hwc, hwm⟩ := hx.form
  have c1 := h1.c1
  rw [hwv] at c1
  unfold maxLen at hwm
  have HW := Lib.hid hwv
  have HD := Lib.hid h1
  clear hx hwv h1
  go_wp2_with fail
  go_loopw [19] (fun i wr => ∃ k : Nat, k ≤ d1.waits.length ∧ i = .int .i64 (k : Int) ∧ Mid w1 wr H (Dk.stTo d1 k)) (fun i _ => d1.waits.length - (intOf i).toNat)
  case atStart => exact ⟨0, Nat.zero_le _, rfl, HD.out.mid⟩
  case round =>
    obtain ⟨k, hk, rfl, hM⟩ := hrel
    by_cases hlt : k < d1.waits.length
    · obtain ⟨xs, hx⟩ := hM.waits HD.out
      obtain ⟨g, c', no, u, l, hv, hc', hw, hu, cn, cu⟩ := hx.get hlt
      rw [HW.out] at hv
      injection hv with hv _ hv2
      subst hv hv2
      obtain ⟨gu, ku, rfl, _, _, _⟩ := hu.form
      have hno : no < d1.pages.length := HD.out.ins _ (List.mem_of_getElem? hw)
      obtain ⟨vs, hs⟩ := hM.safe
      have hno' : no < (Dk.stTo d1 k).length := by rw [Dk.stTo_len]; exact hno
      obtain ⟨gs, cs, us, ls, hsv, hcs, _, _, cus⟩ := hs.get hno'
      rw [Dk.stTo_len] at hsv hcs
      have c0 := cell_of_row wr _ 0 _ _ (0, 0) (hM.str HD.out)
      rw [hsv] at c0
      have hsf : wr.frozen? ⟨gs, no, none⟩ = false := by rw [hsv] at hs; exact hs.frozen no
      have hpl : H.p < wr.heap.size := hM.lt HD.out (.inl rfl)
      have hgl : gs < wr.heap.size := own_lt hs.own (by rw [hsv]; rfl)
      simp at c0
      have hN := (((hM.put hsv no (.inr hu)).below ((Below.refl _ _).alloc (Nat.le_refl _) (.cells #[.int .i64 (no : Int), .slice (some ⟨gu, 0, none⟩) 1024 ku] 76))).below (Below.refl _ _).drew)
      rw [← Dk.st_step hw] at hN
      have HN := Lib.hid hN
      have z1 : (no : Int) < (d1.pages.length : Int) := by omega
      have z2 : (k : Int) < (d1.waits.length : Int) := by omega
      clear hx hs hN hw hM
      go_wp2_with fail
      go_region
      go_wp2
      go_roundw
      case rel => exact ⟨k + 1, by omega, by go_num, HN.out⟩
      case measure => simp [intOf]; omega
    · have hk' : k = d1.waits.length := by omega
      have hf : ¬ ((k : Int) < (d1.waits.length : Int)) := by omega
      have hst := hM.str (d := d1) HD.out
      obtain ⟨vs, hs⟩ := hM.safe
      obtain ⟨M, hMM⟩ := hM.map HD.out
      have C := Lib.hid (forget_any wr H { d1 with pages := Dk.stTo d1 k } hst hs hMM (by rw [Dk.stTo_len]; exact HD.out.few) HD.out.low)
      have HO := Lib.hid hM.off
      have HK := Lib.hid hk'
      clear hs hMM hM hlt hk' hst
      go_wp2_with fail
      refine C.out.mono ?_
      rintro e w3 ⟨rfl, h3, o3⟩
      have HF := Lib.hid h3
      clear C h3
      go_wp2
      go_ret
      have h3 := HF.out
      rw [HK.out] at h3
      refine ⟨_, rfl, h3, S1.out.trans ⟨(HO.out.mono fun j hj => .inl (.inr (.inr (.inl hj)))).trans (o3.mono fun j hj => ?_), rfl, fun j hj => ?_⟩⟩
      · rcases hj with hj | hj
        · exact .inl (.inl hj)
        · exact .inl (.inr (.inl hj))
      · rcases hj with hj | hj | hj | hj
        · exact .inl (.inl hj)
        · exact .inl (.inr (.inl hj))
        · exact .inl (.inr (.inr (.inl hj)))
        · cases hj

theorem sync_off (w : World) (H : Hd) (d : Dk.Pd) (h : Dsk w H d) (hd : d.down = true) :
    Calls Try.prog 20 #[.pointer (some ⟨H.p, 0, none⟩)] w fun e w' => e = .returned (.int .i64 3) ∧ w = w' := by
  have c4 := h.c4
  rw [hd] at c4
  clear h
  go_enter Try.func20, Try.ntmps20
  go_wp2
  go_ret
  exact ⟨rfl, rfl⟩
theorem sync_goes (w : World) (H : Hd) (d : Dk.Pd) (h : Dsk w H d) (hd : d.down = false) (hd1 : (Dk.act d).down = true) :
    Calls Try.prog 20 #[.pointer (some ⟨H.p, 0, none⟩)] w fun e w' => e = .returned (.int .i64 3) ∧ Dsk w' H (Dk.act d) ∧ Off (fun k => k = H.p) w w' := by
  have c4 := h.c4
  rw [hd] at c4
  have ec : Dk.code (Dk.act d) = 3 := by unfold Dk.code; rw [hd1]; rfl
  have C := Lib.hid (act_any w H d h hd)
  rw [ec] at C
  clear h ec
  go_enter Try.func20, Try.ntmps20
  go_wp2_with fail
  refine C.out.mono ?_
  rintro e w1 ⟨rfl, h1, o1⟩
  go_wp2
  go_ret
  exact ⟨rfl, h1, o1⟩
/-- Sync, whatever the disk. -/
theorem sync_any (w : World) (H : Hd) (d : Dk.Pd) (h : Dsk w H d) (hm : d.waits.length < 1000) :
    Calls Try.prog 20 #[.pointer (some ⟨H.p, 0, none⟩)] w fun e w' => ∃ H', e = .returned (.int .i64 (Dk.syncCode d)) ∧ Dsk w' H' (Dk.sync d) ∧ Step w H w' H' := by
  cases hd : d.down with
  | true =>
    have e1 : Dk.syncCode d = 3 := by unfold Dk.syncCode; rw [hd]; rfl
    have e2 : Dk.sync d = d := by unfold Dk.sync; rw [hd]; rfl
    rw [e1, e2]
    refine (sync_off w H d h hd).mono ?_
    rintro e w' ⟨rfl, rfl⟩
    exact ⟨H, rfl, h, Step.refl _ _⟩
  | false =>
    cases hd1 : (Dk.act d).down with
    | true =>
      have e1 : Dk.syncCode d = 3 := by unfold Dk.syncCode; rw [hd, hd1]; rfl
      have e2 : Dk.sync d = Dk.act d := by unfold Dk.sync; rw [hd, hd1]; rfl
      rw [e1, e2]
      refine (sync_goes w H d h hd hd1).mono ?_
      rintro e w' ⟨rfl, h1, o1⟩
      exact ⟨H, rfl, h1, Step.of_p o1⟩
    | false =>
      have e1 : Dk.syncCode d = 0 := by unfold Dk.syncCode; rw [hd, hd1]; rfl
      have e2 : Dk.sync d = Dk.settled (Dk.act d) := by unfold Dk.sync; rw [hd, hd1]; rfl
      rw [e1, e2]
      exact sync_go w H d h hd hd1 hm

end Go.Proofs.Ytcpgmglpgffhdaa
