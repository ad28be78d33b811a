/-
  The steps that come in: what a row of them reads as; are they small enough?
-/
import Derived.Test.YtakoajbfkinlcaaDkAwake
namespace Go.Proofs.Ytakoajbfkinlcaa
open Go.RowKit
set_option linter.unusedVariables false

/-- A step, as it lies in memory. -/
structure Dov where
  kind : Int
  no : Int
  byte : Nat
  kA : Option Addr
  kn : Nat
  kc : Nat
  keep : List Bool
  torn : Int
/-- A number of 64 bits with a sign. -/
def I64 (z : Int) : Prop := -9223372036854775808 ≤ z ∧ z < 9223372036854775808
/-- The step x lies at ⟨b, o⟩. -/
structure DoAt (w : World) (b o : Nat) (x : Dov) : Prop where
  kind : w.cell? ⟨b, o, none⟩ = some (.int .i64 x.kind)
  no : w.cell? ⟨b, o + 1, none⟩ = some (.int .i64 x.no)
  byte : w.cell? ⟨b, o + 2, none⟩ = some (.int .u8 (x.byte : Int))
  keep : w.cell? ⟨b, o + 3, none⟩ = some (.slice x.kA x.kn x.kc)
  torn : w.cell? ⟨b, o + 4, none⟩ = some (.int .i64 x.torn)
  rd : Rd w x.kA x.kn x.kc (x.keep.map Value.bool)
  kindI : I64 x.kind
  noI : I64 x.no
  byteI : x.byte < 256
  tornI : I64 x.torn
/-- The slice value '.slice A n c' reads as the steps L. -/
def Dos (w : World) (A : Option Addr) (n c : Nat) (L : List Dov) : Prop :=
  L.length = n ∧ n ≤ c ∧ c ≤ maxLen ∧ (0 < n → ∃ b off, A = some ⟨b, off, none⟩ ∧ b < w.heap.size ∧ ∀ (j : Nat) (x : Dov), L[j]? = some x → DoAt w b (off + j * 5) x)
section
variable {w w' : World} {A : Option Addr} {n c : Nat} {L : List Dov}
theorem DoAt.on {b o : Nat} {x : Dov} (h : DoAt w b o x) (hl : b < w.heap.size) (hb : Below w.heap.size w w') : DoAt w' b o x :=
  ⟨(hb.cell (p := ⟨b, o, none⟩) hl).trans h.kind, (hb.cell (p := ⟨b, o + 1, none⟩) hl).trans h.no, (hb.cell (p := ⟨b, o + 2, none⟩) hl).trans h.byte, (hb.cell (p := ⟨b, o + 3, none⟩) hl).trans h.keep, (hb.cell (p := ⟨b, o + 4, none⟩) hl).trans h.torn, h.rd.on hb, h.kindI, h.noI, h.byteI, h.tornI⟩
theorem Dos.on (h : Dos w A n c L) (hb : Below w.heap.size w w') : Dos w' A n c L := by
  obtain ⟨h1, h2, h3, h5⟩ := h
  refine ⟨h1, h2, h3, fun hp => ?_⟩
  obtain ⟨b, off, e, hlt, hc⟩ := h5 hp
  exact ⟨b, off, e, Nat.lt_of_lt_of_le hlt hb.size, fun j x hx => (hc j x hx).on hlt hb⟩
theorem Dos.get (h : Dos w A n c L) {k : Nat} (hk : k < n) : ∃ b off x, A = some ⟨b, off, none⟩ ∧ b < w.heap.size ∧ L[k]? = some x ∧ DoAt w b (off + k * 5) x := by
  obtain ⟨h1, h2, h3, h5⟩ := h
  obtain ⟨b, off, e, hlt, hc⟩ := h5 (by omega)
  have hl : k < L.length := by omega
  exact ⟨b, off, L[k], e, hlt, List.getElem?_eq_getElem hl, hc k _ (List.getElem?_eq_getElem hl)⟩
end

/-- How many steps are gone through. -/
def smallTo (L : List Dov) (k : Nat) : Bool := (L.take k).all fun x => decide (x.kn ≤ 1000)
theorem smallTo_step {L : List Dov} {k : Nat} {x : Dov} (h : L[k]? = some x) : smallTo L (k + 1) = (smallTo L k && decide (x.kn ≤ 1000)) := by
  unfold smallTo; rw [List.take_add_one, h]; simp
theorem smallTo_all {L : List Dov} {k : Nat} (h : L.length ≤ k) (hk : k ≤ 60) : smallTo L k = smallTo L 60 := by
  unfold smallTo; rw [List.take_of_length_le h, List.take_of_length_le (by omega)]
theorem smallTo_no {L : List Dov} {k : Nat} (h : smallTo L k = false) (hk : k ≤ 60) : smallTo L 60 = false := by
  unfold smallTo at *
  rw [List.all_eq_false] at *
  obtain ⟨x, hx, hn⟩ := h
  exact ⟨x, List.mem_of_mem_take (i := k) (by rw [List.take_take, Nat.min_eq_left hk]; exact hx), hn⟩

set_option maxRecDepth 100000 in
theorem small_any (w : World) (A : Option Addr) (n c : Nat) (L : List Dov) (h : Dos w A n c L) :
    Calls Try.prog 9 #[.slice A n c] w fun e w' => e = .returned (.bool (smallTo L 60)) ∧ w = w' := by
  have hl := h.1
  have hcm := h.2.2.1
  have hnc := h.2.1
  unfold maxLen at hcm
  have H := Lib.hid h
  clear h
  go_enter Try.func9, Try.ntmps9
  go_wp2_with fail
  go_loopw [3] (fun i wr => ∃ k : Nat, k ≤ n ∧ k ≤ 60 ∧ i = .int .i64 (k : Int) ∧ smallTo L k = true ∧ wr = w) (fun i _ => n - (intOf i).toNat)
  case atStart => exact ⟨0, Nat.zero_le _, Nat.zero_le _, rfl, rfl, rfl⟩
  case round =>
    obtain ⟨k, hk, hk6, rfl, hs, rfl⟩ := hrel
    by_cases hlt : k < n
    · have z1 : (k : Int) < (n : Int) := by omega
      by_cases hlt6 : k < 60
      · have z2 : (k : Int) < 60 := by omega
        obtain ⟨b, off, x, rfl, hb, hx, hd⟩ := H.out.get hlt
        have ck := hd.keep
        have hst := smallTo_step hx
        rw [hs, Bool.true_and] at hst
        clear hd hb
        by_cases hq : x.kn ≤ 1000
        · have hq1 : ¬ ((1000 : Int) < (x.kn : Int)) := by omega
          rw [decide_eq_true hq] at hst
          have HS := Lib.hid hst
          clear hst hs hx hq
          go_wp2
          go_roundw
          case rel => exact ⟨k + 1, by omega, by omega, by go_num, HS.out, by trivial⟩
          case measure => simp [intOf]; omega
        · have hq1 : (1000 : Int) < (x.kn : Int) := by omega
          rw [decide_eq_false hq] at hst
          have HS := Lib.hid (smallTo_no hst (by omega))
          clear hst hs hx hq
          go_wp2
          go_ret
          rw [HS.out]; exact ⟨rfl, rfl⟩
      · have z2 : ¬ ((k : Int) < 60) := by omega
        have z2' : decide ((k : Int) < 60) = false := by simp; omega
        have e6 : k = 60 := by omega
        rw [e6] at hs
        have HS := Lib.hid hs
        clear hs e6 hlt6
        go_wp2
        go_ret
        rw [HS.out]; exact ⟨rfl, rfl⟩
    · have z1 : ¬ ((k : Int) < (n : Int)) := by omega
      have z1' : decide ((k : Int) < (n : Int)) = false := by simp; omega
      have e : smallTo L 60 = true := by rw [← smallTo_all (k := k) (by omega) hk6]; exact hs
      have HS := Lib.hid e
      clear hs e hlt
      go_wp2
      go_ret
      rw [HS.out]; exact ⟨rfl, rfl⟩

end Go.Proofs.Ytakoajbfkinlcaa
