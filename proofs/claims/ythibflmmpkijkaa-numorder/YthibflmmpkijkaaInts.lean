/-
  PutInt and GetInt, the program's and the document's.
-/
import Derived.Test.YthibflmmpkijkaaPut
import Derived.Test.YthibflmmpkijkaaGet
import Derived.Test.YthibflmmpkijkaaRefGet
namespace Go.Proofs.Ythibflmmpkijkaa
open Go.RowKit
set_option linter.unusedVariables false

/-- A number of 64 bits with a sign. -/
def I64 (v : Int) : Prop := -9223372036854775808 ≤ v ∧ v ≤ 9223372036854775807
/-- A number with a sign as one without. -/
def zig (v : Int) : Nat := if 0 ≤ v then (2 * v).toNat else (-2 * v - 1).toNat
def unzig (n : Nat) : Int := if n % 2 = 0 then (n / 2 : Nat) else -((n / 2 : Nat) : Int) - 1
theorem zig_lt {v : Int} (h : I64 v) : L64 (zig v) := by unfold I64 at h; unfold L64 zig; split <;> omega
theorem unzig_zig (v : Int) : unzig (zig v) = v := by
  unfold unzig zig
  by_cases h : 0 ≤ v
  · rw [if_pos h, if_pos (by omega)]; omega
  · rw [if_neg h, if_neg (by omega)]; omega

theorem zig_pos {v : Int} (h : I64 v) (h0 : 0 ≤ v) : IntKind.u64.wrap (2 * IntKind.u64.wrap v) = (zig v : Int) := by
  unfold I64 at h
  unfold zig
  rw [if_pos h0, IntKind.wrap_u64, IntKind.wrap_u64]; omega
theorem zig_neg {v : Int} (h : I64 v) (h0 : ¬ 0 ≤ v) : IntKind.u64.wrap (IntKind.u64.wrap (2 * IntKind.u64.wrap (wrap64 (-wrap64 (v + 1)))) + 1) = (zig v : Int) := by
  unfold I64 at h
  unfold zig
  rw [if_neg h0, IntWalk.wrap64_in (v + 1) ⟨by omega, by omega⟩, IntWalk.wrap64_in (-(v + 1)) ⟨by omega, by omega⟩]
  simp only [IntKind.wrap_u64]; omega
theorem half_even {x : Nat} (h : L64 x) (h2 : x % 2 = 0) : wrap64 (IntKind.u64.wrap ((x : Int) / 2)) = unzig x := by
  unfold L64 at h
  unfold unzig
  rw [if_pos h2, IntKind.wrap_u64, IntWalk.wrap64_in _ ⟨by omega, by omega⟩]; omega
theorem half_odd {x : Nat} (h : L64 x) (h2 : ¬ x % 2 = 0) : wrap64 (wrap64 (-wrap64 (IntKind.u64.wrap ((x : Int) / 2))) - 1) = unzig x := by
  unfold L64 at h
  have e : IntKind.u64.wrap ((x : Int) / 2) = (x : Int) / 2 := by rw [IntKind.wrap_u64]; omega
  unfold unzig
  rw [if_neg h2, e, IntWalk.wrap64_in ((x : Int) / 2) ⟨by omega, by omega⟩, IntWalk.wrap64_in (-((x : Int) / 2)) ⟨by omega, by omega⟩, IntWalk.wrap64_in _ ⟨by omega, by omega⟩]; omega

set_option maxRecDepth 100000 in
set_option maxHeartbeats 400000 in
theorem putInt_any (w : World) (v : Int) (hv : I64 v) :
    Calls Try.prog 12 #[.int .i64 v] w fun e w' => ∃ A n c, e = .returned (.slice A n c) ∧ Bs w' A n c (Nm.put (zig v)) ∧ Below w.heap.size w w' := by
  have hz := zig_lt hv
  by_cases h0 : 0 ≤ v
  · have HE := Lib.hid (zig_pos hv h0)
    go_enter Try.func12, Try.ntmps12
    go_wp2_with fail
    rw [HE.out]
    refine (put_any _ _ hz).mono ?_
    rintro e w1 ⟨A, n, c, rfl, hbs, hbel⟩
    go_wp2
    go_ret
    exact ⟨A, n, c, rfl, hbs, hbel⟩
  · have HE := Lib.hid (zig_neg hv h0)
    go_enter Try.func12, Try.ntmps12
    go_wp2_with fail
    rw [HE.out]
    refine (put_any _ _ hz).mono ?_
    rintro e w1 ⟨A, n, c, rfl, hbs, hbel⟩
    go_wp2
    go_ret
    exact ⟨A, n, c, rfl, hbs, hbel⟩

set_option maxRecDepth 100000 in
set_option maxHeartbeats 400000 in
theorem refPutInt_any (w : World) (v : Int) (hv : I64 v) :
    Calls Try.prog 15 #[.int .i64 v] w fun e w' => ∃ A n c, e = .returned (.slice A n c) ∧ Bs w' A n c (Nm.put (zig v)) ∧ Below w.heap.size w w' := by
  have hz := zig_lt hv
  by_cases h0 : 0 ≤ v
  · have HE := Lib.hid (zig_pos hv h0)
    go_enter Try.func15, Try.ntmps15
    go_wp2_with fail
    rw [HE.out]
    refine (refPut_any _ _ hz).mono ?_
    rintro e w1 ⟨A, n, c, rfl, hbs, hbel⟩
    go_wp2
    go_ret
    exact ⟨A, n, c, rfl, hbs, hbel⟩
  · have HE := Lib.hid (zig_neg hv h0)
    go_enter Try.func15, Try.ntmps15
    go_wp2_with fail
    rw [HE.out]
    refine (refPut_any _ _ hz).mono ?_
    rintro e w1 ⟨A, n, c, rfl, hbs, hbel⟩
    go_wp2
    go_ret
    exact ⟨A, n, c, rfl, hbs, hbel⟩

set_option maxRecDepth 100000 in
set_option maxHeartbeats 400000 in
theorem getInt_any (w : World) (A : Option Addr) (n c : Nat) (l : List Nat) (hb : Bs w A n c l) :
    Calls Try.prog 17 #[.slice A n c] w fun e w' => e = .returned (.tuple #[.int .i64 (unzig (Nm.get l).1), .int .i64 ((Nm.get l).2 : Int)]) ∧ Below w.heap.size w w' := by
  have hl : L64 (Nm.get l).1 := Nm.get_fst_lt l hb.2.2.2.1
  go_enter Try.func17, Try.ntmps17
  go_wp2_with fail
  refine (get_any _ A n c l hb).mono ?_
  rintro e w1 ⟨rfl, hbel⟩
  generalize hx : (Nm.get l).1 = x at *
  generalize hy : (Nm.get l).2 = y at *
  have HX := Lib.hid hx
  have HY := Lib.hid hy
  clear hx hy
  by_cases h2 : x % 2 = 0
  · have hd : ((x : Int) % 2 == 0) = true := by rw [beq_iff_eq]; omega
    have hd' : ((x : Int) % 2 == 1) = false := by rw [beq_eq_false_iff_ne]; omega
    have HE := Lib.hid (half_even hl h2)
    clear h2
    go_wp2
    go_ret2
    exact ⟨by rw [HX.out, HY.out, HE.out]; rfl, hbel⟩
  · have hd : ((x : Int) % 2 == 0) = false := by rw [beq_eq_false_iff_ne]; omega
    have hd' : ((x : Int) % 2 == 1) = true := by rw [beq_iff_eq]; omega
    have HE := Lib.hid (half_odd hl h2)
    clear h2
    go_wp2
    go_ret2
    exact ⟨by rw [HX.out, HY.out, HE.out]; rfl, hbel⟩

set_option maxRecDepth 100000 in
set_option maxHeartbeats 400000 in
theorem refGetInt_any (w : World) (A : Option Addr) (n c : Nat) (l : List Nat) (hb : Bs w A n c l) :
    Calls Try.prog 19 #[.slice A n c] w fun e w' => e = .returned (.tuple #[.int .i64 (unzig (Nm.get l).1), .int .i64 ((Nm.get l).2 : Int)]) ∧ Below w.heap.size w w' := by
  have hl : L64 (Nm.get l).1 := Nm.get_fst_lt l hb.2.2.2.1
  go_enter Try.func19, Try.ntmps19
  go_wp2_with fail
  refine (refGet_any _ A n c l hb).mono ?_
  rintro e w1 ⟨rfl, hbel⟩
  generalize hx : (Nm.get l).1 = x at *
  generalize hy : (Nm.get l).2 = y at *
  have HX := Lib.hid hx
  have HY := Lib.hid hy
  clear hx hy
  by_cases h2 : x % 2 = 0
  · have hd : ((x : Int) % 2 == 0) = true := by rw [beq_iff_eq]; omega
    have hd' : ((x : Int) % 2 == 1) = false := by rw [beq_eq_false_iff_ne]; omega
    have HE := Lib.hid (half_even hl h2)
    clear h2
    go_wp2
    go_ret2
    exact ⟨by rw [HX.out, HY.out, HE.out]; rfl, hbel⟩
  · have hd : ((x : Int) % 2 == 0) = false := by rw [beq_eq_false_iff_ne]; omega
    have hd' : ((x : Int) % 2 == 1) = true := by rw [beq_iff_eq]; omega
    have HE := Lib.hid (half_odd hl h2)
    clear h2
    go_wp2
    go_ret2
    exact ⟨by rw [HX.out, HY.out, HE.out]; rfl, hbel⟩

end Go.Proofs.Ythibflmmpkijkaa
