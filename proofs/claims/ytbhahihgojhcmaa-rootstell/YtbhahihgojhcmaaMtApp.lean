/-
  append(dst, bs...) where dst is any slice of bytes without room for bs (a constant's row, too): a new row of the call's own.
-/
import Derived.Test.YtbhahihgojhcmaaCrApp
namespace Go.Proofs.Ytbhahihgojhcmaa
open Go.RowKit
set_option linter.unusedVariables false

theorem bs_news {w : World} {b off n c : Nat} {l : List Nat} (h : Bs w (some ⟨b, off, none⟩) n c l) : ∀ (j : Nat) (u : Value), (bv l)[j]? = some u → w.cell? ((⟨b, off, none⟩ : Addr).add j) = some u := by
  obtain ⟨h1, _, _, _, h5⟩ := h
  intro j u hu
  have hj : j < l.length := by have := (List.getElem?_eq_some_iff.1 hu).1; rwa [bv_len] at this
  obtain ⟨b', off', hh, _, hc⟩ := h5 (by omega)
  injection hh with hh
  injection hh with hb ho
  subst hb ho
  have hcj := hc j l[j] (List.getElem?_eq_getElem hj)
  have hu' : u = .int .u8 (l[j] : Int) := by
    have := hu
    simp only [bv, List.getElem?_map, List.getElem?_eq_getElem hj, Option.map_some, Option.some.injEq] at this
    exact this.symm
  rw [hu']
  by_cases hj0 : j = 0
  · subst hj0; simpa [Addr.add] using hcj
  · simpa [Addr.add, hj0] using hcj

theorem wpList_append_new {P : Program} (w : World) {ops : Array Oper} {rest : List Oper} {o : Oper} {a : Act} {Q : Exit → Act → World → Prop} (hgd : o.guard = none) (s x : Operand) (t : TypeId)
    (ho : o.op = .call { callee := .builtin .append, args := #[s, x], argTypes := #[t, t] })
    (e : TypeId) (i : TypeInfo) (z : Value) (ht : P.underlying t = some (.slice e)) (hi : P.info? e = some i) (hz : i.zero = some z)
    (hsize : i.size = 1) (hby : i.bytes = 1) (hzs : z.cells.size = 1)
    (b off n k : Nat) (l0 : List Nat) (hs : a.eval s = .slice (some ⟨b, off, none⟩) n k) (h0 : Bs w (some ⟨b, off, none⟩) n k l0)
    (b' off' m c : Nat) (l : List Nat) (hx : a.eval x = .slice (some ⟨b', off', none⟩) m c) (hr : Bs w (some ⟨b', off', none⟩) m c l) (hroom : k < n + m) (hsum : n + m ≤ 1000000)
    (h : ∀ cap w', w'.ownsRow w.heap.size e 1 (.slice (some ⟨w.heap.size, 0, none⟩) (n + m) cap) (n + m) (bv (l0 ++ l)) → Below w.heap.size w w' → wpList P ops Q rest (a.put o.dst (.slice (some ⟨w.heap.size, 0, none⟩) (n + m) cap)) w') : wpList P ops Q (o :: rest) a w := by
  have hl0 : (bv l0).length = n * i.size := by rw [bv_len, hsize, Nat.mul_one]; exact h0.1
  have hl : (bv l).length = m * i.size := by rw [bv_len, hsize, Nat.mul_one]; exact hr.1
  have hrun := run_append_grow (P := P) w t o.type e i z ht hi hz ⟨b, off, none⟩ n k (bv l0) hl0 (bs_news h0) ⟨b', off', none⟩ m c (bv l) hl (bs_news hr) hroom (by omega) (growslice_fits (by omega) (by rw [hby]; omega))
  have hge := grownCap_ge w (n + m) k e
  have hcm : grownCap w (n + m) k e ≤ maxLen := grownCap_le_maxLen w (n + m) k e (by unfold maxLen; omega)
  refine wpList_plain hgd fun K hK => ?_
  unfold Oper.wp execOp
  simp only [ho, resolve, invoke, builtin, Sem.run_bind, Sem.run_pure, Result.andThen_ok, List.map_toArray, List.map_cons, List.map_nil, hs, hx, hrun]
  refine hK _ _ (h _ _ ⟨?_, .inr ⟨w.heap.size, _, _, rfl, Nat.le_refl _, heap_alloc_new w.drew _, hge, hcm, ?_, ?_⟩⟩ ⟨rfl, rfl, rfl, by simp, fun j hj => heap_alloc_old w.drew _ hj⟩)
  · rw [bv_len, List.length_append, h0.1, hr.1, Nat.mul_one]
  · simp only [Array.size_append, List.size_toArray, size_zeroCells, hzs, hl0, hl, hsize]; omega
  · have e1 : bv (l0 ++ l) = bv l0 ++ bv l := by simp [bv]
    rw [e1]
    simp only [Array.toList_append]
    rw [show (n + m) * 1 = (bv l0 ++ bv l).length from by rw [List.length_append, bv_len, bv_len, h0.1, hr.1, Nat.mul_one]]
    exact List.take_left

end Go.Proofs.Ytbhahihgojhcmaa
