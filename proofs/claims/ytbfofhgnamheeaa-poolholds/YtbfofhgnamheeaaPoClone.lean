/-
  Clone.
-/
import Derived.Test.YtbfofhgnamheeaaPoList
namespace Go.Proofs.Ytbfofhgnamheeaa.Pq
open Go.RowKit
set_option linter.unusedVariables false

theorem mapClone_any (w : World) (mb : Nat) (l : List Pl.F) (hm : Mp w mb l) : Calls Try.prog 33 #[.map (some mb)] w fun e w' =>
    e = .returned (.map (some w.heap.size)) ∧ Mp w' w.heap.size l ∧ Below w.heap.size w w' :=
  (AnyW.maps_Clone_owns Try.laidClone 3 (plainElem Try.prog 34) mb l.length (md l) w hm).mono fun e w' h => ⟨h.1, h.2.1, h.2.2.2⟩
theorem made_str (w : World) (a b : Value) (m : Value) (t : TypeId) : (w.alloc (.cells #[a, b, m] t)).heap[w.heap.size]? = some (.cells #[a, b, m] t (0, 0)) := heap_alloc_new w _

set_option maxRecDepth 100000 in
theorem clone_any (w : World) (p mb : Nat) (d : Pl.Pd) (h : Po w p mb d) :
    Calls Try.prog 18 #[.pointer (some ⟨p, 0, none⟩)] w fun e w' => ∃ q mq, e = .returned (.pointer (some ⟨q, 0, none⟩)) ∧ Po w' q mq d ∧ w.heap.size ≤ q ∧ w.heap.size ≤ mq ∧ Below w.heap.size w w' := by
  have H := Lib.hid h
  have c0 := h.c0
  have c1 := h.c1
  have c2 := h.c2
  clear h
  go_enter Try.func18, Try.ntmps18
  go_wp2_with fail
  have hD : Po w.drew p mb d := H.out.off (S := fun _ => False) ((Off.refl _ w).drew) fun _ _ h => h
  have HD := Lib.hid hD
  clear hD
  go_region_held3 (fun w' => w'.cell? ⟨p, 0, none⟩ = some (.int .i64 d.cap) ∧ w'.cell? ⟨p, 1, none⟩ = some (.int .i64 d.high) ∧ w'.cell? ⟨p, 2, none⟩ = some (.map (some mb))) (first | assumption | exact ⟨c0, c1, c2⟩ | go_keep)
    (first | (go_at_call 33; refine (mapClone_any _ mb d.l HD.out.map).mono ?_; rintro e w3 ⟨rfl, M3, B3⟩; have P3 := HD.out.on B3; have S3 : (fun w' : World => w'.cell? ⟨p, 0, none⟩ = some (.int .i64 d.cap) ∧ w'.cell? ⟨p, 1, none⟩ = some (.int .i64 d.high) ∧ w'.cell? ⟨p, 2, none⟩ = some (.map (some mb))) w3 := ⟨P3.c0, P3.c1, P3.c2⟩))
  all_goals
    go_wp2
    go_ret
    have hB : Below w.heap.size w (w3.alloc (.cells #[.int .i64 d.cap, .int .i64 d.high, .map (some w.drew.heap.size)] 63)) := (Below.mk B3.os B3.tape B3.output B3.size B3.block : Below w.heap.size w w3).alloc B3.size _
    exact ⟨w3.heap.size, w.heap.size, rfl, ⟨made_str _ _ _ _ _, M3.at_ (Below.heap_alloc _ _ _ M3.lt), H.out.ok⟩, B3.size, Nat.le_refl _, hB⟩

end Go.Proofs.Ytbfofhgnamheeaa.Pq
