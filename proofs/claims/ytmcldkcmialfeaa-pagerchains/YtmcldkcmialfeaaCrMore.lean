/-
  More, Sum (crc): four bits at a time are the document's one by one.
-/
import Derived.Test.YtmcldkcmialfeaaCrMake
import Derived.Lib.SlBytesConst
namespace Go.Proofs.Ytmcldkcmialfeaa
open Go.RowKit
set_option linter.unusedVariables false

theorem not32 {x : Nat} (h : L32 x) : bits .xor .u32 4294967295 (x : Int) = ((4294967295 - x : Nat) : Int) := by
  unfold L32 at h
  have e := u32_xor_nat 4294967295 x (by omega) h
  have e2 : 4294967295 ^^^ x = 4294967295 - x := by
    have h1 : (BitVec.ofNat 32 x).toNat = x := by rw [BitVec.toNat_ofNat]; omega
    have h2 : (BitVec.allOnes 32 ^^^ BitVec.ofNat 32 x).toNat = 4294967295 ^^^ x := by rw [BitVec.toNat_xor, h1]; rfl
    rw [← h2, BitVec.allOnes_xor, BitVec.toNat_not, h1]
  rw [e2] at e
  exact e
theorem and_low {z : Nat} (h : L32 z) : bits .and .u32 (z : Int) 15 = ((z % 16 : Nat) : Int) := by
  unfold L32 at h
  have := u32_and_nat z 15 h (by omega)
  rw [nat_mask4] at this
  exact this
theorem xor_out {z t : Nat} (h : L32 z) (ht : L32 t) : bits .xor .u32 ((z : Int) / 16) (t : Int) = ((z / 16 ^^^ t : Nat) : Int) := by
  unfold L32 at h ht
  have := u32_xor_nat (z / 16) t (by omega) ht
  rw [← this]; simp
/-- What one step of four bits takes and gives. -/
theorem step4 {w : World} {g : Nat} (hc : ∀ i, i < 16 → w.cell? ⟨g, i, none⟩ = some (.int .u32 (Cr.Tn 4 i : Int))) {z : Nat} (h : L32 z) :
    ∃ m t z1 : Nat, m < 16 ∧ L32 z1 ∧ bits .and .u32 (z : Int) 15 = (m : Int) ∧ w.cell? ⟨g, m, none⟩ = some (.int .u32 (t : Int)) ∧ bits .xor .u32 ((z : Int) / 16) (t : Int) = (z1 : Int) ∧ Hid (z1 = Cr.Tn 4 z) := by
  have ht : L32 (Cr.Tn 4 (z % 16)) := Cr.Tn_lt 4 (by omega)
  have e := Cr.Tn4 z
  refine ⟨z % 16, Cr.Tn 4 (z % 16), Cr.Tn 4 z, by omega, Cr.Tn_lt 4 h, and_low h, hc _ (by omega), ?_, rfl⟩
  rw [xor_out h ht, ← e]

set_option maxRecDepth 100000 in
set_option maxHeartbeats 2000000 in
theorem more_any (w : World) (s : Nat) (hs : L32 s) (A : Option Addr) (n c : Nat) (l : List Nat) (hb : Bs w A n c l) :
    Calls Try.prog 90 #[.int .u32 (s : Int), .slice A n c] w fun e w' => e = .returned (.int .u32 (Cr.more s l : Int)) ∧ Below w.heap.size w w' := by
  have hi : Hid ((Try.prog.info? 129).map (·.size) = some 16) := by show _ = _; kernel_rfl
  have s16 := stepCells_size 16
  have HS := Lib.hid hs
  have n0 := not32 hs
  have hsg : IntKind.u32.signed = false := rfl
  have hmx : IntKind.u32.max = 4294967295 := by decide
  go_enter Try.func90, Try.ntmps90
  go_wp2_with fail
  refine (makeSteps_any _).mono ?_
  rintro e w1 ⟨rfl, b1⟩
  go_wp2_with (first | (refine wpList_store_row rfl _ _ _ rfl _ _ rfl rfl _ _ (heap_alloc_last w1 _) (by rw [s16]; exact hi.out) (by rw [s16]; rfl) (stepCells_one 16) ?_; rw [World.setRow_alloc_new]))
  have CC : Hid (∀ i, i < 16 → (w1.alloc (.cells (stepCells 16) 129)).cell? ⟨w1.heap.size, i, none⟩ = some (.int .u32 (Cr.Tn 4 i : Int))) := by
    intro i h16
    rw [cell_of_row _ _ i _ _ _ (heap_alloc_last w1 _), stepCells_at 16 i h16, if_pos h16]
  have B1 : Below w.heap.size w (w1.alloc (.cells (stepCells 16) 129)) := b1.alloc b1.size _
  have S1 := hb.on B1
  generalize w1.alloc (.cells (stepCells 16) 129) = w2 at *
  generalize w1.heap.size = g at *
  obtain ⟨h1, h2, h3, h4, h5⟩ := S1
  unfold maxLen at h3
  have H1 := Lib.hid h1
  have H4 := Lib.hid h4
  have H5 := Lib.hid h5
  have hv : L32 (4294967295 - s) := by unfold L32; omega
  have HV : Hid ((4294967295 - s : Nat) = 4294967295 - s) := rfl
  generalize hvs : 4294967295 - s = v0 at hv n0 ⊢
  clear h1 h4 h5 hb b1 s16 hi n0 HV hs
  have HVS := Lib.hid hvs
  clear hvs
  go_loop [6, 14] (fun v i => ∃ k x : Nat, k ≤ n ∧ i = .int .i64 k ∧ v = .int .u32 (x : Int) ∧ L32 x ∧ Hid (x = Cr.run v0 (l.take k))) (fun _ i => n - (intOf i).toNat)
  case atStart => exact ⟨0, v0, Nat.zero_le _, rfl, rfl, hv, rfl⟩
  case round =>
    obtain ⟨k, x, hk, rfl, rfl, hx, HX⟩ := hrel
    by_cases hlt : k < n
    · obtain ⟨b, off, rfl, hbl, hcell⟩ := H5.out (by omega)
      obtain ⟨y, hy⟩ : ∃ y, l[k]? = some y := ⟨_, List.getElem?_eq_getElem (by rw [H1.out]; omega)⟩
      have hy256 := H4.out y (List.mem_of_getElem? hy)
      have hcx := hcell k y hy
      have HR : Hid (Cr.Tn 4 (Cr.Tn 4 (x ^^^ y)) = Cr.run v0 (l.take (k + 1))) := by
        show _ = _
        rw [List.take_add_one, hy, Option.toList_some, Cr.run_snoc, ← HX.out]; rfl
      have a0 := xor_byte hx hy256
      have hz := hx.xor hy256
      clear hy hcell
      generalize x ^^^ y = z at *
      obtain ⟨m, t, z1, hm, hz1, e1, e2, e3, E4⟩ := step4 CC.out hz
      obtain ⟨m', t', z2, hm', hz2, e1', e2', e3', E4'⟩ := step4 CC.out hz1
      have HZ : Hid (z2 = Cr.run v0 (l.take (k + 1))) := by show _ = _; rw [← HR.out, ← E4.out, E4'.out]
      clear HR E4 E4'
      go_wp2
      go_round
      case rel => exact ⟨k + 1, z2, by omega, by go_num, by first | rfl | go_num, hz2, HZ⟩
      case measure => simp [intOf]; omega
    · have a := not32 hx
      have HE : Hid ((4294967295 - x : Nat) = Cr.more s l) := by
        show _ = _
        rw [HX.out, List.take_of_length_le (by rw [H1.out]; omega), ← HVS.out]; rfl
      rw [HE.out] at a
      go_wp2
      go_ret
      exact ⟨rfl, B1⟩

set_option maxRecDepth 100000 in
theorem sum_any (w : World) (A : Option Addr) (n c : Nat) (l : List Nat) (hb : Bs w A n c l) :
    Calls Try.prog 70 #[.slice A n c] w fun e w' => e = .returned (.int .u32 (Cr.sum l : Int)) ∧ Below w.heap.size w w' := by
  go_enter Try.func70, Try.ntmps70
  go_wp2_with fail
  refine (more_any _ 0 (by unfold L32; omega) _ _ _ _ hb).mono ?_
  rintro e w1 ⟨rfl, b1⟩
  go_wp2
  go_ret
  exact ⟨rfl, b1⟩

theorem Bs.lit (w : World) (l : List Nat) (h : ∀ x ∈ l, x < 256) (hl : l.length ≤ maxLen) (t : TypeId) (fr : Nat × Nat) : Bs (w.alloc (.cells (bv l).toArray t fr)) (some ⟨w.heap.size, 0, none⟩) l.length l.length l := by
  refine ⟨rfl, Nat.le_refl _, hl, h, fun _ => ⟨w.heap.size, 0, rfl, by simp, fun j x hx => ?_⟩⟩
  have : (bv l)[j]? = some (.int .u8 (x : Int)) := by simp [bv, hx]
  rw [Nat.zero_add, cell_of_row _ _ j _ _ _ (heap_alloc_last w _)]
  simpa using this

end Go.Proofs.Ytmcldkcmialfeaa
