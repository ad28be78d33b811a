/-
  The program's pager: how many pages a chain needs, a chain's page, dropping some pages.
-/
import Derived.Test.YtmcldkcmialfeaaPrHas
namespace Go.Proofs.Ytmcldkcmialfeaa.Pr
open Go.RowKit
set_option linter.unusedVariables false

/-- How many pages a chain of z bytes needs. -/
def pagesOf (z : Int) : Int := if z < 1 then 0 else (z - 1) / 1010 + 1

set_option maxRecDepth 100000 in
theorem pagesFor_any (w : World) (z : Int) (hz : I64 z) : Calls Try.prog 33 #[.int .i64 z] w fun e w' => e = .returned (.int .i64 (pagesOf z)) ∧ w = w' := by
  unfold I64 at hz
  by_cases h : z < 1
  · have e : pagesOf z = 0 := if_pos h
    rw [e]
    clear e
    go_enter Try.func33, Try.ntmps33
    go_wp2
    go_ret
    exact ⟨rfl, rfl⟩
  · have e : pagesOf z = (z - 1) / 1010 + 1 := if_neg h
    have h1 : IntKind.i64.wrap (z - 1) = z - 1 := IntWalk.i64_in _ ⟨by omega, by omega⟩
    have h2 : Int.tdiv (z - 1) 1010 = (z - 1) / 1010 := Int.tdiv_eq_ediv_of_nonneg (by omega)
    have h3 : IntKind.i64.wrap ((z - 1) / 1010) = (z - 1) / 1010 := IntWalk.i64_in _ ⟨by omega, by omega⟩
    have h4 : IntKind.i64.wrap ((z - 1) / 1010 + 1) = (z - 1) / 1010 + 1 := IntWalk.i64_in _ ⟨by omega, by omega⟩
    rw [e]
    clear e
    go_enter Try.func33, Try.ntmps33
    go_wp2
    go_ret
    exact ⟨rfl, rfl⟩

/-- Some pages are dropped, one after the other. -/
def dropAll (a : Pa) (l : List Int) : Pa := l.foldl drop a
theorem dropAll_step {a : Pa} {l : List Int} {k : Nat} {no : Int} (h : l[k]? = some no) : dropAll a (l.take (k + 1)) = drop (dropAll a (l.take k)) no := by
  rw [List.take_add_one, h]
  unfold dropAll
  rw [Option.toList_some, List.foldl_append]; rfl

/-- Nothing of the disk's, nothing of the pager's is a row of numbers. -/
theorem dsk_int {w : World} {H : Hd} {d : Dk.Pd} (h : Dsk w H d) {k : Nat} {cs : Array Value} {m : Nat × Nat} (hk : H.own k) : w.heap[k]? ≠ some (.cells cs 3 m) := by
  obtain ⟨vs, hs⟩ := h.safe
  obtain ⟨xs, hw⟩ := h.waits
  obtain ⟨M, hm⟩ := h.seen
  intro hh
  rcases hk with rfl | rfl | hk | hk
  · rw [h.str] at hh; simp at hh
  · obtain ⟨es, c, hb⟩ := map_block hm.map; rw [hb] at hh; cases hh
  · obtain ⟨cs', hc⟩ := own_type hs.own hk; rw [hc] at hh; simp at hh
  · obtain ⟨cs', hc⟩ := own_type hw.own hk; rw [hc] at hh; simp at hh
theorem pgr_int {w : World} {G : Gh} {a : Pa} (h : Pgr w G a) {k : Nat} {cs : Array Value} {m : Nat × Nat} (hk : G.own k) : w.heap[k]? ≠ some (.cells cs 3 m) := by
  obtain ⟨vs, hv⟩ := h.fresh
  intro hh
  rcases hk with rfl | rfl | (rfl | rfl) | hk
  · have := h.str; unfold Str at this; rw [this] at hh; simp at hh
  · exact map_free hv.block hh
  · rw [h.pool.str] at hh; simp at hh
  · exact map_free h.pool.map.block hh
  · exact dsk_int h.disk hk hh

/-- A row of numbers of one's own, as cells. -/
def zv (l : List Int) : List Value := l.map fun z => .int .i64 z
/-- A drop keeps a row of numbers. -/
theorem drop_keeps {w : World} {G : Gh} {a : Pa} (no : Int) (h : Pgr w G a) (hi : I64 no) {base n : Nat} {v : Value} {xs : List Value} (hr : w.ownsRow base 3 1 v n xs) :
    Calls Try.prog 22 #[.pointer (some ⟨G.x, 0, none⟩), .int .i64 no] w fun e w' => e = .returned (.tuple #[]) ∧ Pgr w' G (drop a no) ∧ Off G.own w w' ∧ w'.ownsRow base 3 1 v n xs := by
  refine (drop_any w G a no h hi).mono ?_
  rintro e w' ⟨rfl, h', ho⟩
  exact ⟨rfl, h', ho, ho.own hr fun k hk hs => by obtain ⟨cs, hc⟩ := own_type hr hk; exact pgr_int h hs hc⟩

set_option maxRecDepth 100000 in
theorem dropAll_any (w : World) (G : Gh) (a : Pa) (h : Pgr w G a) {base : Nat} (A : Option Addr) (n c : Nat) (l : List Int) (hr : w.ownsRow base 3 1 (.slice A n c) n (zv l)) (hl : ∀ z ∈ l, I64 z) :
    Calls Try.prog 30 #[.pointer (some ⟨G.x, 0, none⟩), .slice A n c] w fun e w' => e = .returned (.tuple #[]) ∧ Pgr w' G (dropAll a l) ∧ Off G.own w w' := by
  have HR := Lib.hid hr
  have HL := Lib.hid hl
  have HG := Lib.hid h
  have r1 := hr.1
  unfold zv at r1
  rw [List.length_map] at r1
  have r1 : l.length = n := by omega
  obtain ⟨_, _, e0, hnc, hcm⟩ := own_form hr
  injection e0 with e1 _ e3
  subst e1 e3
  unfold maxLen at hcm
  clear hr hl h
  go_enter Try.func30, Try.ntmps30
  go_wp2_with fail
  go_loopw [8] (fun i wr => ∃ k : Nat, k ≤ n ∧ i = .int .i64 (k : Int) ∧ Pgr wr G (dropAll a (l.take k)) ∧ Off G.own w wr ∧ wr.ownsRow base 3 1 (.slice A n c) n (zv l)) (fun i _ => n - (intOf i).toNat)
  case atStart => exact ⟨0, Nat.zero_le _, rfl, by rw [List.take_zero]; exact HG.out, Off.refl _ _, HR.out⟩
  case round =>
    obtain ⟨k, hk, rfl, hG, hO, hr⟩ := hrel
    by_cases hlt : k < n
    · have z1 : (k : Int) < (n : Int) := by omega
      have hx : l[k]? = some l[k] := List.getElem?_eq_getElem (by omega)
      generalize l[k] = no at hx
      obtain ⟨g, rfl, ck⟩ : ∃ g, A = some ⟨g, 0, none⟩ ∧ wr.cell? ⟨g, k, none⟩ = some (.int .i64 no) := by
        rcases hr.2 with ⟨_, h0⟩ | ⟨g, cap, cur, hv, _, _⟩
        · omega
        · injection hv with h1 _ h3
          subst h1 h3
          refine ⟨g, rfl, ?_⟩
          rw [hr.cellAt k (by omega), zv, List.getElem?_map, hx]; rfl
      have CD := Lib.hid (drop_keeps no hG (HL.out no (List.mem_of_getElem? hx)) hr)
      have HS := Lib.hid (dropAll_step (a := a) hx)
      have HO := Lib.hid hO
      clear hx hG hO hr
      go_wp2_with fail
      refine CD.out.mono ?_
      rintro e w2 ⟨rfl, hG2, hO2, hr2⟩
      rw [← HS.out] at hG2
      have HG2 := Lib.hid (And.intro hG2 (And.intro (HO.out.trans hO2) hr2))
      clear hG2 hO2 hr2 CD
      go_wp2
      go_roundw
      case rel => exact ⟨k + 1, by omega, by go_num, HG2.out⟩
      case measure => simp [intOf]; omega
    · have z1 : ¬ (k : Int) < (n : Int) := by omega
      have hkn : k = n := by omega
      rw [show l.take k = l by rw [hkn, ← r1]; exact List.take_length] at hG
      have RS := Lib.hid (And.intro hG hO)
      clear hG hO hr
      go_wp2
      go_end0
      exact ⟨rfl, RS.out⟩

end Go.Proofs.Ytmcldkcmialfeaa.Pr
