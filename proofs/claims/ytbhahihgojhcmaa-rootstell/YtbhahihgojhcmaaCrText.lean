/-
  Bytes as a text.
-/
import Derived.Test.YtbhahihgojhcmaaCrApp
import Derived.Laws.BytesArg
namespace Go.Proofs.Ytbhahihgojhcmaa
open Go.RowKit
set_option linter.unusedVariables false

/-- The text that bytes are. -/
def txt (l : List Nat) : ByteArray := strOfNums (l.map Int.ofNat)
theorem Bs.text {P : Program} {w : World} {A : Option Addr} {n c : Nat} {l : List Nat} (h : Bs w A n c l) (src dst e : TypeId) (hs : P.underlying src = some (.slice e)) (he : P.underlying e = some (.int .u8)) (hd : P.underlying dst = some .string) :
    (convert src dst (.slice A n c)).run P w = .ok (.string (txt l)) w := by
  obtain ⟨h1, h2, h3, h4, h5⟩ := h
  match A, h5 with
  | none, h5 =>
    have hn : n = 0 := by
      rcases Nat.eq_zero_or_pos n with h | h
      · exact h
      · obtain ⟨_, _, e, _⟩ := h5 h; cases e
    subst hn
    obtain rfl : l = [] := List.eq_nil_of_length_eq_zero h1
    rw [run_convert_bytes_nil w src e hs he _ _ dst hd]; rfl
  | some a, h5 =>
    have hl : (loadCells a n).run P w = .ok ((l.map Int.ofNat).map (Value.int .u8)).toArray w := by
      have := run_loadCells_list (P := P) w a ((l.map Int.ofNat).map (Value.int .u8)) (fun j v hj => by
        have hjl : j < l.length := by
          have := (List.getElem?_eq_some_iff.1 hj).1
          simpa using this
        obtain ⟨b, off, e, hlt, hc⟩ := h5 (by omega)
        injection e with e
        subst e
        have hplain : (⟨b, off, none⟩ : Addr).add j = ⟨b, off + j, none⟩ := by unfold Addr.add; split <;> simp_all
        rw [hplain, hc j l[j] (List.getElem?_eq_getElem hjl)]
        simp [List.getElem?_eq_getElem hjl] at hj
        rw [hj])
      simpa [h1] using this
    rw [run_convert_bytes_string w src dst e _ n c hs he hd, run_bytesToString w _ n c _ hl, foldl_push_bytes]
    simp [txt, strOfNums, ByteArray.empty, ByteArray.emptyWithCapacity]
    rfl

theorem txt_inj {l m : List Nat} (hl : ∀ x ∈ l, x < 256) (hm : ∀ x ∈ m, x < 256) (h : txt l = txt m) : l = m := by
  have e : ∀ k : List Nat, (∀ x ∈ k, x < 256) → (txt k).data.toList.map UInt8.toNat = k := by
    intro k hk
    unfold txt
    rw [strOfNums_data, List.map_map, List.map_map]
    conv => rhs; rw [← List.map_id k]
    refine List.map_congr_left fun x hx => ?_
    have := hk x hx
    simp [UInt8.toNat_ofNat']
    omega
  rw [← e l hl, h, e m hm]

end Go.Proofs.Ytbhahihgojhcmaa
