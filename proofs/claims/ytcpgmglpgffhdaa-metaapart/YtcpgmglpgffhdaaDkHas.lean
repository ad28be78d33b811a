/-
  A disk that stands at one place while it is written: the contracts once more, for whoever holds one.
-/
import Derived.Test.YtcpgmglpgffhdaaDkWait
namespace Go.Proofs.Ytcpgmglpgffhdaa
open Go.RowKit
set_option linter.unusedVariables false

/-- Since wb: at p stands the disk d; nothing else has turned but what S tells, and what is new. -/
def Has (S : Nat → Prop) (wb w : World) (p : Nat) (d : Dk.Pd) : Prop := ∃ H : Hd, H.p = p ∧ Dsk w H d ∧ (∀ k, H.own k → S k ∨ wb.heap.size ≤ k) ∧ Off S wb w
section
variable {S : Nat → Prop} {wb w w' : World} {p : Nat} {d e : Dk.Pd}
theorem Has.off (h : Has S wb w p d) : Off S wb w := by obtain ⟨H, _, _, _, ho⟩ := h; exact ho
theorem Has.on (h : Has S wb w p d) (hb : Below w.heap.size w w') : Has S wb w' p d := by
  obtain ⟨H, hp, hD, ho, hO⟩ := h
  exact ⟨H, hp, hD.on hb, ho, hO.trans (Off.of_below hb)⟩
theorem Has.drewN (h : Has S wb w p d) (m : Nat) : Has S wb (w.drewN m) p d := h.on (below_drewN (Below.refl _ _) m)
theorem Has.drew (h : Has S wb w p d) : Has S wb w.drew p d := h.on (Below.refl _ _).drew
theorem Has.step {H H' : Hd} (hp : H.p = p) (ho : ∀ k, H.own k → S k ∨ wb.heap.size ≤ k) (hO : Off S wb w) (hD : Dsk w' H' e) (ht : Step w H w' H') : Has S wb w' p e := by
  refine ⟨H', ht.same.trans hp, hD, fun k hk => ?_, hO.trans' ht.off ho⟩
  rcases ht.own k hk with a | a
  · exact ho k a
  · exact .inr (Nat.le_trans hO.size a)
theorem Has.pf (h : Has S wb w p d) (he : d = e) : Has S wb w p e := he ▸ h
theorem Has.few (h : Has S wb w p d) : d.pages.length ≤ 2048 := by obtain ⟨H, _, hD, _⟩ := h; exact hD.few
theorem Has.ins (h : Has S wb w p d) : ∀ x ∈ d.waits, x.1 < d.pages.length := by obtain ⟨H, _, hD, _⟩ := h; exact hD.ins
/-- Begun anew: what the disk owns now may turn. -/
theorem Has.anew (h : Has S wb w p d) : ∃ S' : Nat → Prop, Has S' w w p d ∧ (∀ k, S' k → k < w.heap.size) ∧ (∀ k, S' k → S k ∨ wb.heap.size ≤ k) ∧ Free S' w := by
  obtain ⟨H, hp, hD, ho, hO⟩ := h
  exact ⟨H.own, ⟨H, hp, hD, fun k hk => .inl hk, Off.refl _ _⟩, fun k hk => hD.lt hk, ho, hD.free⟩
theorem Has.back {S' : Nat → Prop} (h : Has S wb w p d) (h' : Has S' w w' p e) (sub : ∀ k, S' k → S k ∨ wb.heap.size ≤ k) : Has S wb w' p e := by
  obtain ⟨H', hp, hD, ho, hO⟩ := h'
  refine ⟨H', hp, hD, fun k hk => ?_, h.off.trans' hO sub⟩
  rcases ho k hk with a | a
  · exact sub k a
  · exact .inr (Nat.le_trans h.off.size a)
theorem Has.below (h : Has (fun _ => False) wb w p d) : Below wb.heap.size wb w := h.off.below (fun _ h => h.elim) (Nat.le_refl _)
theorem Row.off {g : Nat} {l : List Nat} (h : Row w g l) (ho : Off S w w') (hf : Free S w) : Row w' g l := ho.at_ h fun hs => hf g _ _ hs h
theorem addr_add (g i : Nat) : (⟨g, 0, none⟩ : Addr).add i = ⟨g, 0 + i, none⟩ := by unfold Addr.add; split <;> simp_all
end

theorem hnew (w : World) (z : Int) (n : Nat) (hn : (n : Int) = min (max z 0) 2048) :
    Calls Try.prog 16 #[.int .i64 z] w fun e w' => ∃ p, e = .returned (.pointer (some ⟨p, 0, none⟩)) ∧ Has (fun _ => False) w w' p (Dk.fresh n) := by
  refine (newD_any w z n hn).mono ?_
  rintro e w' ⟨H, rfl, hD, ho, hB⟩
  exact ⟨H.p, rfl, H, rfl, hD, fun k hk => .inr (ho k hk), Off.of_below hB⟩
section
variable {S : Nat → Prop} {wb : World} (w : World) (p : Nat) (d : Dk.Pd) (h : Has S wb w p d)
include h
theorem hwrite (no : Int) (n c : Nat) (A : Option Addr) (l : List Nat) (hb : Bs w A n c l) (hm : d.waits.length < 1000) :
    Calls Try.prog 26 #[.pointer (some ⟨p, 0, none⟩), .int .i64 no, .slice A n c] w fun e w' => e = .returned (.int .i64 (Dk.writeCode d no l)) ∧ Has S wb w' p (Dk.write d no l) := by
  obtain ⟨H, rfl, hD, ho, hO⟩ := h
  refine (write_any w H d no n c A l hD hb hm).mono ?_
  rintro e w' ⟨H', rfl, h', t'⟩
  exact ⟨rfl, Has.step rfl ho hO h' t'⟩
theorem hsync (hm : d.waits.length < 1000) :
    Calls Try.prog 20 #[.pointer (some ⟨p, 0, none⟩)] w fun e w' => e = .returned (.int .i64 (Dk.syncCode d)) ∧ Has S wb w' p (Dk.sync d) := by
  obtain ⟨H, rfl, hD, ho, hO⟩ := h
  refine (sync_any w H d hD hm).mono ?_
  rintro e w' ⟨H', rfl, h', t'⟩
  exact ⟨rfl, Has.step rfl ho hO h' t'⟩
theorem harm (n : Int) (hn : n < 9223372036854775808) :
    Calls Try.prog 22 #[.pointer (some ⟨p, 0, none⟩), .int .i64 n] w fun e w' => e = .returned (.tuple #[]) ∧ Has S wb w' p (Dk.armed d n.toNat) := by
  obtain ⟨H, rfl, hD, ho, hO⟩ := h
  refine (arm_any w H d n hD hn).mono ?_
  rintro e w' ⟨rfl, h', t'⟩
  exact ⟨rfl, Has.step rfl ho hO h' (Step.of_p t')⟩
theorem hcrash (A : Option Addr) (n c : Nat) (keep : List Bool) (torn : Int) (hk : Rd w A n c (keep.map Value.bool)) (hA : ∀ b off, A = some ⟨b, off, none⟩ → (¬ S b ∧ b < wb.heap.size) ∨ ∃ cs m, w.heap[b]? = some (.cells cs 4 m)) (hm : d.waits.length < 1000) :
    Calls Try.prog 24 #[.pointer (some ⟨p, 0, none⟩), .slice A n c, .int .i64 torn] w fun e w' => e = .returned (.tuple #[]) ∧ Has S wb w' p (Dk.crashed d keep torn) := by
  obtain ⟨H, rfl, hD, ho, hO⟩ := h
  refine (crash_any w H d A n c keep torn hD hk ?_ hm).mono ?_
  · intro _ b off e hb
    rcases hA b off e with ⟨h1, h2⟩ | ⟨cs, m, hc⟩
    · rcases ho b hb with a | a
      · exact h1 a
      · omega
    · obtain ⟨vs, hs⟩ := hD.safe
      obtain ⟨xs, hw⟩ := hD.waits
      obtain ⟨M, hmm⟩ := hD.seen
      rcases hb with rfl | rfl | hb | hb
      · rw [hD.str] at hc; simp at hc
      · obtain ⟨es, c', hb⟩ := map_block hmm.map; rw [hb] at hc; cases hc
      · obtain ⟨cs', hc'⟩ := own_type hs.own hb; rw [hc'] at hc; simp at hc
      · obtain ⟨cs', hc'⟩ := own_type hw.own hb; rw [hc'] at hc; simp at hc
  · rintro e w' ⟨H', rfl, h', t'⟩
    exact ⟨rfl, Has.step rfl ho hO h' t'⟩
theorem hread (no : Nat) (hn : no < d.pages.length) : Calls Try.prog 64 #[.pointer (some ⟨p, 0, none⟩), .int .i64 (no : Int)] w fun e w' => ∃ g, e = .returned (.tuple #[.slice (some ⟨g, 0, none⟩) 1024 1024, .int .i64 0]) ∧ w.heap.size ≤ g ∧ (Dk.seen d no).length = 1024 ∧ (∀ x ∈ Dk.seen d no, x < 256) ∧ Row w' g (Dk.seen d no) ∧ Below w.heap.size w w' := by
  obtain ⟨H, rfl, hD, ho, hO⟩ := h
  exact read_any w H d no hD hn
theorem hread_no (no : Int) (hn : ¬ Dk.has d no) : Calls Try.prog 64 #[.pointer (some ⟨p, 0, none⟩), .int .i64 no] w fun e w' => e = .returned (.tuple #[.slice none 0 0, .int .i64 1]) ∧ w = w' := by
  obtain ⟨H, rfl, hD, ho, hO⟩ := h
  exact read_no w H d no hD hn
end

end Go.Proofs.Ytcpgmglpgffhdaa
