/-
  The program's Pay.
-/
import Derived.Test.YtbhahihgojhcmaaRtMay
import Derived.Test.YtbhahihgojhcmaaRtApp
import Derived.Test.YtbhahihgojhcmaaNbFour
import Derived.Lib.SlBytesConst
namespace Go.Proofs.Ytbhahihgojhcmaa.Rt
open Go.RowKit
set_option linter.unusedVariables false

def payL (L : List Rm.R) : List Nat := if Rm.may L = true then Rm.pay L else []
/-- What the page says, up to some root. -/
def upTo (L : List Rm.R) (k : Nat) : List Nat := [67, 82, 79, 79] ++ (L.length :: Rm.encs (L.take k))
theorem upTo_zero (L : List Rm.R) : upTo L 0 = [67, 82, 79, 79] ++ [L.length] := by simp [upTo, Rm.encs]
theorem upTo_all {L : List Rm.R} {k : Nat} (h : L.length ≤ k) : upTo L k = Rm.pay L := by unfold upTo Rm.pay; rw [List.take_of_length_le h]
theorem upTo_next {L : List Rm.R} {k : Nat} {x : Rm.R} (h : L[k]? = some x) : upTo L (k + 1) = upTo L k ++ [x.name.length] ++ x.name ++ Nm.be 4 x.page.toNat ++ Nm.be 4 x.count.toNat := by
  unfold upTo
  rw [List.take_add_one, h, Rm.encs_app]
  simp [Rm.encs, Rm.enc]
theorem upTo_len {L : List Rm.R} (h : ∀ r ∈ L, Rm.One r) {k : Nat} (hk : L.length ≤ 12) : (upTo L k).length ≤ 401 := by
  have h1 := Rm.encs_len (L.take k) fun r hr => (h r (List.mem_of_mem_take hr)).1.1.2
  have h2 : (L.take k).length ≤ 12 := by rw [List.length_take]; omega
  unfold upTo
  simp only [List.length_append, List.length_cons, List.length_nil]
  omega

set_option maxRecDepth 100000 in
set_option maxHeartbeats 2000000 in
theorem pay_any (w : World) (A : Option Addr) (n c : Nat) (L : List Rm.R) (h : Rs w A n c L) :
    Calls Try.prog 8 #[.slice A n c] w fun e w' => ∃ A' c', e = .returned (.slice A' (payL L).length c') ∧ Bs w' A' (payL L).length c' (payL L) ∧ Below w.heap.size w w' := by
  have hM := Lib.hid (may_any w A n c L h)
  have H := Lib.hid h
  have hl := h.1
  have hcm := h.2.2.1
  have hnc := h.2.1
  unfold maxLen at hcm
  clear h
  cases hmay : Rm.may L with
  | false =>
    rw [hmay] at hM
    have hp : payL L = [] := by unfold payL; rw [hmay]; rfl
    rw [hp]
    go_enter Try.func8, Try.ntmps8
    go_wp2_with fail
    refine hM.out.mono ?_
    rintro e w1 ⟨rfl, B1⟩
    go_wp2
    go_ret
    exact ⟨none, 0, rfl, Bs.nil_ _ _ _ (Nat.zero_le _), B1⟩
  | true =>
    rw [hmay] at hM
    have hp : payL L = Rm.pay L := by unfold payL; rw [hmay]; rfl
    rw [hp]
    have h12 := Rm.may_len hmay
    have HOne := Lib.hid (Rm.may_one hmay)
    have HU := Lib.hid (fun k => upTo_len (k := k) (Rm.may_one hmay) h12)
    have kc := fun (w : World) (C : Array Value) (n c : Nat) => Lib.run_convert_bytes_const (P := Try.prog) w 23 5 C n c Try.underlying23 Try.underlying5
    have hw8 : (n : Int) % 256 = (n : Int) := by omega
    clear hp hmay
    go_enter Try.func8, Try.ntmps8
    go_wp2_with fail
    refine hM.out.mono ?_
    rintro e w1 ⟨rfl, B1⟩
    have HB1 := Lib.hid B1
    have S1 := Lib.hid (croo_bs w1 (4, 5))
    have b2 : Below w1.heap.size w1 (w1.alloc (.cells #[.int .u8 67, .int .u8 82, .int .u8 79, .int .u8 79] 5 (4, 5))) := (Below.refl _ _).alloc (Nat.le_refl _) _
    have hl1 := bs_lit1 (w1.alloc (.cells #[.int .u8 67, .int .u8 82, .int .u8 79, .int .u8 79] 5 (4, 5))) n (by omega)
    rw [show (w1.alloc (.cells #[.int .u8 67, .int .u8 82, .int .u8 79, .int .u8 79] 5 (4, 5))).heap.size = w1.heap.size + 1 by simp] at hl1
    have S2 := Lib.hid (S1.out.alloc (.cells #[.int .u8 (n : Int)] 5))
    have b3 := b2.alloc b2.size (.cells #[.int .u8 (n : Int)] 5)
    have AP := Lib.hid (fun ty => run_addN _ _ _ 4 _ S2.out _ _ 1 1 _ hl1 (by omega) (by omega) ty)
    have HB3 := Lib.hid b3
    clear b2 b3 hl1 B1
    go_wp2_with (at_builtin; refine wpList_append_ran _ rfl _ _ 23 23 rfl _ _ rfl rfl _ (AP.out _) ?_; rintro v4 w4 O4)
    generalize (w1.alloc (.cells #[.int .u8 67, .int .u8 82, .int .u8 79, .int .u8 79] 5 (4, 5))).alloc (.cells #[.int .u8 (n : Int)] 5) = wB at *
    have HBW : Hid (∀ W, Below wB.heap.size wB W → Below w.heap.size w W) := fun W hW => HB1.out.trans ((HB3.out.trans (hW.mono HB3.out.size)).mono HB1.out.size)
    rw [← hl, ← upTo_zero] at O4
    have HO4 := Lib.hid O4
    clear O4 AP S1 S2 HB3 HB1 hM
    go_loopw [3, 18] (fun out i wr => ∃ (k : Nat) (ov : Value), ov = out ∧ k ≤ n ∧ i = .int .i64 (k : Int) ∧ Hid (OwnB wB wr ov (upTo L k))) (fun _ i _ => n - (intOf i).toNat)
    case atStart => exact ⟨0, _, rfl, Nat.zero_le _, rfl, HO4.out⟩
    case round =>
      obtain ⟨k, ov, rfl, hk, rfl, HO⟩ := hrel
      by_cases hlt : k < n
      · obtain ⟨bb, off, x, rfl, hbb, hx, hin, c0, c1, c2⟩ := (H.out.on (HBW.out _ HO.out.bel)).get hlt
        have hone := HOne.out x (List.mem_of_getElem? hx)
        have hnx := upTo_next hx
        obtain ⟨nm, pg, ct⟩ := x
        have hnl := hone.1.1.2
        obtain ⟨⟨p, rfl⟩, ⟨q, rfl⟩⟩ : (∃ p : Nat, pg = (p : Int)) ∧ ∃ q : Nat, ct = (q : Int) := by
          have h1 := hone.in32
          unfold Rm.In32 at h1
          simp only at h1
          exact ⟨⟨pg.toNat, by omega⟩, ⟨ct.toNat, by omega⟩⟩
        have hp4 : p < 4294967296 := by have h1 := hone.in32; unfold Rm.In32 at h1; simp only at h1; omega
        have hq4 : q < 4294967296 := by have h1 := hone.in32; unfold Rm.In32 at h1; simp only at h1; omega
        have hnm := hin.nm
        simp only [Int.toNat_natCast] at hnl hnx hnm c0 c1 c2
        have HNM := Lib.hid hnm
        have HN := Lib.hid hnx
        have HUK := HU.out k
        have hsz := txt_size nm
        have hw8 : ((txt nm).size : Int) % 256 = (nm.length : Int) := by rw [hsz]; omega
        have K1 : Rb (wr.alloc (.cells #[.string (txt nm), .int .i64 (p : Int), .int .i64 (q : Int)] 34)) wr.heap.size ⟨nm, (p : Int), (q : Int)⟩ := Rb.new wr ⟨nm, (p : Int), (q : Int)⟩
        have bA : Below wr.heap.size wr (wr.alloc (.cells #[.string (txt nm), .int .i64 (p : Int), .int .i64 (q : Int)] 34)) := (Below.refl _ _).alloc (Nat.le_refl _) _
        have O1 := HO.out.on bA
        have hs1 : (wr.alloc (.cells #[.string (txt nm), .int .i64 (p : Int), .int .i64 (q : Int)] 34)).heap.size = wr.heap.size + 1 := by simp
        obtain ⟨d0, d1, d2⟩ := K1.at_
        have bL := bs_lit1 (wr.alloc (.cells #[.string (txt nm), .int .i64 (p : Int), .int .i64 (q : Int)] 34)) nm.length (by omega)
        have O2 := O1.on ((Below.refl _ _).alloc (Nat.le_refl _) (.cells #[.int .u8 (nm.length : Int)] 5))
        have K2 := K1.alloc (.cells #[.int .u8 (nm.length : Int)] 5)
        rw [hs1] at bL
        have AP7 := Lib.hid (fun ty => run_addB wB _ ov _ O2 _ 1 1 _ bL (by omega) ty)
        have HO2 := Lib.hid O2
        have HK2 := Lib.hid K2
        have wp1 : (p : Int) % 4294967296 = (p : Int) := by omega
        have wq1 : (q : Int) % 4294967296 = (q : Int) := by omega
        simp only at d0 d1 d2
        clear hx hin hone bA O1 O2 K1 K2 bL hs1 hsz hnx hnm
        go_wp2_with (first
          | (at_builtin; refine wpList_append_ran _ rfl _ _ 23 23 rfl _ _ rfl rfl _ (AP7.out _) ?_; rintro v7 w7 ⟨O7, G7⟩; have K7 := HK2.out.grownB HO2.out G7; clear d0 d1 d2 c0 c1 c2; obtain ⟨d0, d1, d2⟩ := K7.at_; simp only at d0 d1 d2; have AP8 := Lib.hid (fun ty => run_addS wB w7 v7 _ O7 nm HNM.out (by simp; omega) ty); have HO7 := Lib.hid O7; have HK7 := Lib.hid K7; clear O7 K7 G7)
          | (at_builtin; refine wpList_append_ran _ rfl _ _ 23 9 rfl _ _ rfl rfl _ (AP8.out _) ?_; rintro v8 w8 ⟨O8, G8⟩; have K8 := HK7.out.grownB HO7.out G8; clear d0 d1 d2; obtain ⟨d0, d1, d2⟩ := K8.at_; simp only at d0 d1 d2))
        refine (put32_any w8 p hp4).mono ?_
        rintro e w9 ⟨A9, k9, rfl, s9, B9⟩
        have O9 := O8.on B9
        have K9 := K8.on B9
        have AP9 := Lib.hid (fun ty => run_addB wB _ v8 _ O9 _ 4 k9 _ s9 (by simp; omega) ty)
        have HO9 := Lib.hid O9
        have HK9 := Lib.hid K9
        obtain ⟨b9, o9, rfl⟩ := s9.some_ (by omega)
        clear O8 K8 G8 AP7 AP8 HO7 HK7 HK2 HO2 O9 K9 s9 B9 d0 d1 d2
        go_wp2_with (at_builtin; refine wpList_append_ran _ rfl _ _ 23 23 rfl _ _ rfl rfl _ (AP9.out _) ?_; rintro v10 w10 ⟨O10, G10⟩; have K10 := HK9.out.grownB HO9.out G10; obtain ⟨d0, d1, d2⟩ := K10.at_; simp only at d0 d1 d2)
        refine (put32_any w10 q hq4).mono ?_
        rintro e w11 ⟨A11, k11, rfl, s11, B11⟩
        have O11 := O10.on B11
        have AP11 := Lib.hid (fun ty => run_addB wB _ v10 _ O11 _ 4 k11 _ s11 (by simp [Nm.be_len]; omega) ty)
        obtain ⟨b11, o11, rfl⟩ := s11.some_ (by omega)
        clear O10 K10 G10 AP9 HO9 HK9 O11 s11 B11 d0 d1 d2
        go_wp2_with (at_builtin; refine wpList_append_ran _ rfl _ _ 23 23 rfl _ _ rfl rfl _ (AP11.out _) ?_; rintro v12 w12 ⟨O12, G12⟩)
        rw [← HN.out] at O12
        have HO12 := Lib.hid O12
        clear O12 G12 AP11
        go_wp2_with fail
        go_roundw
        case rel => exact ⟨k + 1, _, rfl, by omega, by go_num, HO12.out⟩
        case measure => simp [intOf]; omega
      · have hO := HO.out
        rw [upTo_all (by omega)] at hO
        obtain ⟨A5, c5, rfl, R5⟩ := hO.bs
        have HR5 := Lib.hid R5
        have HB5 := Lib.hid (HBW.out _ hO.bel)
        clear hO R5
        go_wp2_with fail
        go_ret
        exact ⟨A5, c5, rfl, HR5.out, HB5.out⟩

end Go.Proofs.Ytbhahihgojhcmaa.Rt
