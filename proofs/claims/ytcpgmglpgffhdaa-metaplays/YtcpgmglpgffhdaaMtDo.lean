/-
  The steps of layer 6 that come in: what a row of them reads as.
-/
import Derived.Test.YtcpgmglpgffhdaaMtOpen
namespace Go.Proofs.Ytcpgmglpgffhdaa
open Go.ChangeShapes Go.WideShapes Go.RowKit
set_option linter.unusedVariables false

/-- A step, as it lies in memory. -/
structure Dov where
  kind : Int
  m : Mt.M
  n : Int
  kA : Option Addr
  kn : Nat
  kc : Nat
  keep : List Bool
  bA : Option Addr
  bn : Nat
  bc : Nat
  bytes : List Nat
def Dov.cells (x : Dov) : Array Value := #[.int .i64 x.kind, .int .u64 (x.m.gen : Int), .int .i64 x.m.high, .int .i64 x.m.root, .int .i64 x.m.free, .int .i64 x.n, .slice x.kA x.kn x.kc, .slice x.bA x.bn x.bc]
/-- The step x lies at ⟨b, o⟩. -/
structure DoAt (w : World) (b o : Nat) (x : Dov) : Prop where
  c0 : w.cell? ⟨b, o, none⟩ = some (.int .i64 x.kind)
  c1 : w.cell? ⟨b, o + 1, none⟩ = some (.int .u64 (x.m.gen : Int))
  c2 : w.cell? ⟨b, o + 2, none⟩ = some (.int .i64 x.m.high)
  c3 : w.cell? ⟨b, o + 3, none⟩ = some (.int .i64 x.m.root)
  c4 : w.cell? ⟨b, o + 4, none⟩ = some (.int .i64 x.m.free)
  c5 : w.cell? ⟨b, o + 5, none⟩ = some (.int .i64 x.n)
  c6 : w.cell? ⟨b, o + 6, none⟩ = some (.slice x.kA x.kn x.kc)
  c7 : w.cell? ⟨b, o + 7, none⟩ = some (.slice x.bA x.bn x.bc)
  rd : Rd w x.kA x.kn x.kc (x.keep.map Value.bool)
  bs : Bs w x.bA x.bn x.bc x.bytes
  kindI : I64 x.kind
  nI : I64 x.n
/-- The slice value '.slice A n c' reads as the steps L. -/
def Dos (w : World) (A : Option Addr) (n c : Nat) (L : List Dov) : Prop :=
  L.length = n ∧ n ≤ c ∧ c ≤ maxLen ∧ (0 < n → ∃ b off, A = some ⟨b, off, none⟩ ∧ b < w.heap.size ∧ ∀ (j : Nat) (x : Dov), L[j]? = some x → DoAt w b (off + j * 8) x)
section
variable {w w' : World} {A : Option Addr} {n c : Nat} {L : List Dov}
theorem DoAt.on {b o : Nat} {x : Dov} (h : DoAt w b o x) (hl : b < w.heap.size) (hb : Below w.heap.size w w') : DoAt w' b o x :=
  ⟨(hb.cell (p := ⟨b, o, none⟩) hl).trans h.c0, (hb.cell (p := ⟨b, o + 1, none⟩) hl).trans h.c1, (hb.cell (p := ⟨b, o + 2, none⟩) hl).trans h.c2, (hb.cell (p := ⟨b, o + 3, none⟩) hl).trans h.c3, (hb.cell (p := ⟨b, o + 4, none⟩) hl).trans h.c4,
   (hb.cell (p := ⟨b, o + 5, none⟩) hl).trans h.c5, (hb.cell (p := ⟨b, o + 6, none⟩) hl).trans h.c6, (hb.cell (p := ⟨b, o + 7, none⟩) hl).trans h.c7, h.rd.on hb, h.bs.on hb, h.kindI, h.nI⟩
theorem Dos.on (h : Dos w A n c L) (hb : Below w.heap.size w w') : Dos w' A n c L := by
  obtain ⟨h1, h2, h3, h5⟩ := h
  refine ⟨h1, h2, h3, fun hp => ?_⟩
  obtain ⟨b, off, e, hlt, hc⟩ := h5 hp
  exact ⟨b, off, e, Nat.lt_of_lt_of_le hlt hb.size, fun j x hx => (hc j x hx).on hlt hb⟩
theorem Dos.get (h : Dos w A n c L) {k : Nat} (hk : k < n) : ∃ b off x, A = some ⟨b, off, none⟩ ∧ b < w.heap.size ∧ L[k]? = some x ∧ DoAt w b (off + k * 8) x := by
  obtain ⟨h1, h2, h3, h5⟩ := h
  obtain ⟨b, off, e, hlt, hc⟩ := h5 (by omega)
  have hl : k < L.length := by omega
  exact ⟨b, off, L[k], e, hlt, List.getElem?_eq_getElem hl, hc k _ (List.getElem?_eq_getElem hl)⟩
end
/-- A step in a block of its own. -/
def Dbx (w : World) (g : Nat) (x : Dov) : Prop := w.heap[g]? = some (.cells x.cells 41 (0, 0))
theorem Dbx.lt {w : World} {g : Nat} {x : Dov} (h : Dbx w g x) : g < w.heap.size := (Array.getElem?_eq_some_iff.1 h).1
theorem Dbx.on {w w' : World} {g : Nat} {x : Dov} (h : Dbx w g x) (hb : Below w.heap.size w w') : Dbx w' g x := (hb.block g h.lt).trans h
theorem Dbx.cells {w : World} {g : Nat} {x : Dov} (h : Dbx w g x) : w.cell? ⟨g, 0, none⟩ = some (.int .i64 x.kind) ∧ w.cell? ⟨g, 1, none⟩ = some (.int .u64 (x.m.gen : Int)) ∧ w.cell? ⟨g, 2, none⟩ = some (.int .i64 x.m.high) ∧ w.cell? ⟨g, 3, none⟩ = some (.int .i64 x.m.root) ∧ w.cell? ⟨g, 4, none⟩ = some (.int .i64 x.m.free) ∧
    w.cell? ⟨g, 5, none⟩ = some (.int .i64 x.n) ∧ w.cell? ⟨g, 6, none⟩ = some (.slice x.kA x.kn x.kc) ∧ w.cell? ⟨g, 7, none⟩ = some (.slice x.bA x.bn x.bc) :=
  ⟨cell_of_row w _ 0 _ _ (0, 0) h, cell_of_row w _ 1 _ _ (0, 0) h, cell_of_row w _ 2 _ _ (0, 0) h, cell_of_row w _ 3 _ _ (0, 0) h, cell_of_row w _ 4 _ _ (0, 0) h, cell_of_row w _ 5 _ _ (0, 0) h, cell_of_row w _ 6 _ _ (0, 0) h, cell_of_row w _ 7 _ _ (0, 0) h⟩

/-- A slice of bytes, opened. -/
theorem open_bytes6 {H : Type} {enc : TypeId × Value → H} {P : Program} {w : World} {base : Nat} {spare : Nat → Bool} {held : Bool} {t e : TypeId} {fuel : Nat} {v : Value} {x : DataW H × List MemPlace}
    (ht : P.underlying t = some (.slice e)) (he : P.underlying e = some (.int .u8)) (ce : P.cellsOf e = 1) (h : DataW.trod enc P w base spare held fuel t [v] = some x) :
    ∃ A n c, v = .slice A n c ∧ ∃ l : List Nat, Bs w A n c l := by
  rcases Deep.open_slice1 ht ce h with ⟨hv, _⟩ | ⟨a, len, cap, m, n, V, D, Pl, hv, hb, hl, hm, hmm, _, hx⟩
  · simp at hv
    exact ⟨_, _, _, hv, [], Bs.nil_ _ _ _ (Nat.zero_le _)⟩
  · simp at hv
    have hx' : ∀ i, i < len → ∃ z : Nat, z < 256 ∧ w.cell? (a.add i) = some (.int .u8 (z : Int)) := by
      intro i hi
      obtain ⟨h1, h2⟩ := hx i (by rw [hmm]; split <;> omega)
      obtain ⟨b, hb, _, wf⟩ := DataW.trod_int he h2
      simp at hb
      have b2 := bounds_u8 wf
      obtain ⟨z, rfl⟩ := Int.eq_ofNat_of_zero_le b2.1
      exact ⟨z, by omega, by rw [h1, hb]⟩
    obtain ⟨f, hf⟩ := Deep.choose_lt hx'
    refine ⟨_, _, _, hv, (List.range len).map f, by simp, hl, hm, ?_, fun hn => ?_⟩
    · intro z hz
      obtain ⟨i, hi, rfl⟩ := List.mem_map.1 hz
      exact (hf i (List.mem_range.1 hi)).1
    · obtain ⟨b, off, spot⟩ := a
      have hc0 := (hf 0 hn).2
      have hspot : spot = none := by simpa [Addr.add] using World.cell?_spot hc0
      subst hspot
      refine ⟨b, off, rfl, ?_, fun j v hj => ?_⟩
      · rcases Nat.lt_or_ge b w.heap.size with h | h
        · exact h
        · have h' : w.cell? ⟨b, off, none⟩ = some (.int .u8 (f 0 : Int)) := by simpa [Addr.add] using hc0
          simp [World.cell?, Array.getElem?_eq_none h] at h'
      · rw [List.getElem?_map] at hj
        cases hr : (List.range len)[j]? with
        | none => rw [hr] at hj; cases hj
        | some i =>
          rw [hr] at hj
          obtain ⟨hi, e⟩ := List.getElem?_eq_some_iff.1 hr
          rw [List.getElem_range] at e
          subst e
          rw [List.length_range] at hi
          simp at hj
          subst hj
          rw [← WideShapes.add_plain]; exact (hf j hi).2

theorem opened_bytes {H : Type} {enc : TypeId × Value → H} {W : World} {base : Nat} {a0 : Option Addr} {len0 cap0 : Nat} {d0 : DataW H} {p0 : List MemPlace}
    (h0 : DataW.Trod enc Try.prog W base (fun _ => true) true 25 (.slice a0 len0 cap0) d0 p0) : ∃ L, Bs W a0 len0 cap0 L := by
  obtain ⟨fuel, hf⟩ := h0
  obtain ⟨A, n, c, e, l, hl⟩ := open_bytes6 Try.underlying25 Try.underlying5 (by kernel_rfl) (v := .slice a0 len0 cap0) hf
  injection e with e1 e2 e3
  subst e1 e2 e3
  exact ⟨l, hl⟩
theorem Try.doFields : ∃ fs, Try.prog.underlying 41 = some (.struct fs) ∧ fs.map (fun f => (f.type, f.offset)) = #[(3, 0), (24, 1), (3, 5), (39, 6), (25, 7)] ∧ Try.prog.cellsOf 41 = 8 ∧ Try.prog.cellsOf 3 = 1 ∧ Try.prog.cellsOf 24 = 4 ∧ Try.prog.cellsOf 39 = 1 ∧ Try.prog.cellsOf 25 = 1 :=
  ⟨_, Try.underlying41, by kernel_rfl, by kernel_rfl, by kernel_rfl, by kernel_rfl, by kernel_rfl, by kernel_rfl⟩

instance : Inhabited Dov := ⟨⟨0, ⟨0, 0, 0, 0⟩, 0, none, 0, 0, [], none, 0, 0, []⟩⟩
theorem opened_dos {H : Type} {enc : TypeId × Value → H} {W : World} {base : Nat} {a0 : Option Addr} {len0 cap0 : Nat} {d0 : DataW H} {p0 : List MemPlace}
    (h0 : DataW.Trod enc Try.prog W base (fun _ => true) true 34 (.slice a0 len0 cap0) d0 p0) : ∃ L, Dos W a0 len0 cap0 L := by
  obtain ⟨fuel, hf⟩ := h0
  obtain ⟨fs, hfs, hty, hce, s1, s4, s6, s7⟩ := Try.doFields
  rcases Deep.open_slice Try.underlying34 hf with ⟨hcs, _⟩ | ⟨a, len, cap, m, n, D, Pl, hcs, _, hl, hm, hmm, _, hrow⟩
  · simp [Value.cells] at hcs
    obtain ⟨rfl, rfl, rfl⟩ := hcs
    exact ⟨[], rfl, Nat.le_refl _, Nat.zero_le _, fun h => absurd h (by omega)⟩
  · simp [Value.cells] at hcs
    obtain ⟨rfl, rfl, rfl⟩ := hcs
    rw [hce] at hrow
    have tyAt : ∀ (j : Nat) (t o : Nat), #[(3, 0), (24, 1), (3, 5), (39, 6), (25, 7)][j]? = some (t, o) → ∃ f : Field, fs[j]? = some f ∧ f.type = t ∧ f.offset = o := by
      intro j t o hj
      rw [← hty, Array.getElem?_map] at hj
      cases hq : fs[j]? with
      | none => rw [hq] at hj; cases hj
      | some f => rw [hq] at hj; injection hj with hj; injection hj with h1 h2; exact ⟨f, rfl, h1, h2⟩
    obtain ⟨f0, g0, e0, o0⟩ := tyAt 0 _ _ rfl
    obtain ⟨f1, g1, e1, o1⟩ := tyAt 1 _ _ rfl
    obtain ⟨f2, g2, e2, o2⟩ := tyAt 2 _ _ rfl
    obtain ⟨f3, g3, e3, o3⟩ := tyAt 3 _ _ rfl
    obtain ⟨f4, g4, e4, o4⟩ := tyAt 4 _ _ rfl
    have hsz : fs.size = 5 := by have := congrArg Array.size hty; simpa using this
    obtain ⟨b, off, spot⟩ := a
    have hrow' : ∀ i, i < len0 → ∃ V : List Value, V.length = 8 ∧ (∀ j, j < 8 → W.cell? (Addr.add ⟨b, off, spot⟩ (i * 8 + j)) = V[j]?) ∧ DataW.trod enc Try.prog W base (fun _ => true) true n 41 V = some (D i, Pl i) := by
      intro i hi
      obtain ⟨V, h1, h2⟩ := hrow i (by rw [hmm]; split <;> omega)
      obtain ⟨_, hlen, hcell⟩ := World.cells?_some h1
      exact ⟨V, hlen, fun j hj => by rw [← hcell j hj, Deep.add_add], h2⟩
    have hsp : 0 < len0 → spot = none := by
      intro hn
      obtain ⟨V0, hV0, hc0, _⟩ := hrow' 0 hn
      have c00 := hc0 0 (by omega)
      have hv : V0[0]? = some V0[0] := List.getElem?_eq_getElem (by omega)
      rw [hv] at c00
      have := World.cell?_spot c00
      simpa [Addr.add] using this
    have each : ∀ i, i < len0 → ∃ x : Dov, spot = none ∧ b < W.heap.size ∧ DoAt W b (off + i * 8) x := by
      intro i hi
      obtain ⟨V, hV, hc, ht⟩ := hrow' i hi
      obtain ⟨xs, k, _, _, _, hxl, hf'⟩ := DataW.trod_struct hfs ht
      match V, hV with
      | [v0, v1, v2, v3, v4, v5, v6, v7], _ =>
        have t0 := hf' 0 f0 g0
        have t1 := hf' 1 f1 g1
        have t2 := hf' 2 f2 g2
        have t3 := hf' 3 f3 g3
        have t4 := hf' 4 f4 g4
        rw [e0, o0, s1, List.getElem?_eq_getElem (show 0 < xs.length by omega)] at t0
        rw [e1, o1, s4, List.getElem?_eq_getElem (show 1 < xs.length by omega)] at t1
        rw [e2, o2, s1, List.getElem?_eq_getElem (show 2 < xs.length by omega)] at t2
        rw [e3, o3, s6, List.getElem?_eq_getElem (show 3 < xs.length by omega)] at t3
        rw [e4, o4, s7, List.getElem?_eq_getElem (show 4 < xs.length by omega)] at t4
        replace t0 : DataW.trod enc Try.prog W base (fun _ => true) true k 3 [v0] = some xs[0] := t0
        replace t1 : DataW.trod enc Try.prog W base (fun _ => true) true k 24 [v1, v2, v3, v4] = some xs[1] := t1
        replace t2 : DataW.trod enc Try.prog W base (fun _ => true) true k 3 [v5] = some xs[2] := t2
        replace t3 : DataW.trod enc Try.prog W base (fun _ => true) true k 39 [v6] = some xs[3] := t3
        replace t4 : DataW.trod enc Try.prog W base (fun _ => true) true k 25 [v7] = some xs[4] := t4
        obtain ⟨x0, q0, _, w0⟩ := DataW.trod_int Try.underlying3 t0
        obtain ⟨mm, q1⟩ := meta_cells t1
        obtain ⟨x2, q2, _, w2⟩ := DataW.trod_int Try.underlying3 t2
        obtain ⟨A3, k3, c3, q3, l3, r3⟩ := open_bools6 Try.underlying39 Try.underlying4 (by kernel_rfl) t3
        obtain ⟨A4, k4, c4, q4, l4, r4⟩ := open_bytes6 Try.underlying25 Try.underlying5 (by kernel_rfl) t4
        simp at q0 q1 q2
        obtain ⟨q1a, q1b, q1c, q1d⟩ := q1
        subst q0 q1a q1b q1c q1d q2 q3 q4
        have hspot : spot = none := hsp (by omega)
        subst hspot
        simp only [WideShapes.add_plain] at hc
        have i0 := bounds_i64 w0
        have i2 := bounds_i64 w2
        refine ⟨⟨x0, mm, x2, A3, k3, c3, l3, A4, k4, c4, l4⟩, rfl, ?_, ⟨by simpa using hc 0 (by omega), by simpa [Nat.add_assoc] using hc 1 (by omega), by simpa [Nat.add_assoc] using hc 2 (by omega), by simpa [Nat.add_assoc] using hc 3 (by omega), by simpa [Nat.add_assoc] using hc 4 (by omega), by simpa [Nat.add_assoc] using hc 5 (by omega), by simpa [Nat.add_assoc] using hc 6 (by omega), by simpa [Nat.add_assoc] using hc 7 (by omega), r3, r4, ?_, ?_⟩⟩
        · have c0 := hc 0 (by omega)
          rcases Nat.lt_or_ge b W.heap.size with h | h
          · exact h
          · simp [World.cell?, Array.getElem?_eq_none h] at c0
        · exact ⟨by show _ ≤ x0; omega, by show x0 < _; omega⟩
        · exact ⟨by show _ ≤ x2; omega, by show x2 < _; omega⟩
    obtain ⟨f, hfx⟩ := Deep.choose_lt each
    refine ⟨(List.range len0).map f, by simp, hl, hm, fun hn => ?_⟩
    obtain ⟨hs, hb, _⟩ := hfx 0 hn
    subst hs
    refine ⟨b, off, rfl, hb, fun j x hj => ?_⟩
    rw [List.getElem?_map] at hj
    cases hr : (List.range len0)[j]? with
    | none => rw [hr] at hj; cases hj
    | some i =>
      rw [hr] at hj
      obtain ⟨hi, e⟩ := List.getElem?_eq_some_iff.1 hr
      rw [List.getElem_range] at e
      subst e
      rw [List.length_range] at hi
      injection hj with hj
      subst hj
      exact (hfx j hi).2.2

end Go.Proofs.Ytcpgmglpgffhdaa
