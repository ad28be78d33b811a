/-
  A disk, plainly: what is safe, what waits, how many acts are left till the power goes, whether it is gone. No Go here.
-/
import Derived.Test.YtcpgmglpgffhdaaPgMath
namespace Go.Proofs.Ytcpgmglpgffhdaa.Dk

structure Pd where
  pages : List (List Nat)
  waits : List (Nat × List Nat)
  left : Nat
  down : Bool

/-- One more act, the power being there. -/
def act (d : Pd) : Pd := if d.left = 0 then d else { d with left := d.left - 1, down := decide (d.left = 1) }
def code (d : Pd) : Int := if d.down then 3 else 0
/-- One write more waits. -/
def push (d : Pd) (no : Nat) (l : List Nat) : Pd := { d with waits := d.waits ++ [(no, l)] }
/-- The pages behind the first k writes that wait. -/
def stTo (d : Pd) : Nat → List (List Nat)
  | 0 => d.pages
  | k + 1 => match d.waits[k]? with
    | some x => (stTo d k).set x.1 x.2
    | none => stTo d k
def settled (d : Pd) : Pd := { d with pages := stTo d d.waits.length, waits := [] }
def kept (keep : List Bool) (k : Nat) : Bool := keep.getD k false
/-- What survives of a write. -/
def left_ (torn : Int) (k : Nat) (l : List Nat) : List Nat := if (k : Int) = torn then Pg.torn l else l
/-- The pages behind the first k writes, of which some survive. -/
def crTo (d : Pd) (keep : List Bool) (torn : Int) : Nat → List (List Nat)
  | 0 => d.pages
  | k + 1 => match d.waits[k]? with
    | some x => if kept keep k then (crTo d keep torn k).set x.1 (left_ torn k x.2) else crTo d keep torn k
    | none => crTo d keep torn k
def crashed (d : Pd) (keep : List Bool) (torn : Int) : Pd := { pages := crTo d keep torn d.waits.length, waits := [], left := 0, down := false }
/-- The page no, as seen behind the first k writes. -/
def seenTo (d : Pd) (no : Nat) : Nat → List Nat
  | 0 => d.pages.getD no []
  | k + 1 => match d.waits[k]? with
    | some x => if x.1 = no then x.2 else seenTo d no k
    | none => seenTo d no k
def seen (d : Pd) (no : Nat) : List Nat := seenTo d no d.waits.length
def armed (d : Pd) (n : Nat) : Pd := { d with left := n }
def fresh (n : Nat) : Pd := { pages := List.replicate n (List.replicate 1024 0), waits := [], left := 0, down := false }
/-- Is there such a page? -/
def has (d : Pd) (no : Int) : Prop := 0 ≤ no ∧ no < (d.pages.length : Int)
instance (d : Pd) (no : Int) : Decidable (has d no) := inferInstanceAs (Decidable (_ ∧ _))

/-- A write, whole. -/
def write (d : Pd) (no : Int) (l : List Nat) : Pd := if has d no ∧ l.length = 1024 then (if d.down then d else act (push d no.toNat l)) else d
def writeCode (d : Pd) (no : Int) (l : List Nat) : Int := if has d no ∧ l.length = 1024 then (if d.down then 3 else code (act (push d no.toNat l))) else 1
/-- A sync, whole. -/
def sync (d : Pd) : Pd := if d.down then d else if (act d).down then act d else settled (act d)
def syncCode (d : Pd) : Int := if d.down then 3 else if (act d).down then 3 else 0

theorem act_pages (d : Pd) : (act d).pages = d.pages := by unfold act; split <;> rfl
theorem act_waits (d : Pd) : (act d).waits = d.waits := by unfold act; split <;> rfl
theorem act_left (d : Pd) : (act d).left ≤ d.left := by unfold act; split <;> simp
theorem stTo_len (d : Pd) : ∀ k, (stTo d k).length = d.pages.length
  | 0 => rfl
  | k + 1 => by
    unfold stTo
    split
    · rw [List.length_set, stTo_len d k]
    · exact stTo_len d k
theorem crTo_len (d : Pd) (keep : List Bool) (torn : Int) : ∀ k, (crTo d keep torn k).length = d.pages.length
  | 0 => rfl
  | k + 1 => by
    unfold crTo
    split
    · split
      · rw [List.length_set, crTo_len d keep torn k]
      · exact crTo_len d keep torn k
    · exact crTo_len d keep torn k
theorem cr_stay {d : Pd} {keep : List Bool} {torn : Int} {k : Nat} (hk : kept keep k = false) : crTo d keep torn (k + 1) = crTo d keep torn k := by
  rw [crTo]; split <;> simp [hk]
theorem crTo_far (d : Pd) (keep : List Bool) (torn : Int) : ∀ j, crTo d keep torn (keep.length + j) = crTo d keep torn keep.length
  | 0 => rfl
  | j + 1 => by
    have : kept keep (keep.length + j) = false := by unfold kept; rw [List.getD_eq_getElem?_getD, List.getElem?_eq_none (by omega)]; rfl
    rw [← Nat.add_assoc, cr_stay this, crTo_far d keep torn j]
theorem crTo_min (d : Pd) (keep : List Bool) (torn : Int) : crTo d keep torn (min d.waits.length keep.length) = crTo d keep torn d.waits.length := by
  rcases Nat.le_total d.waits.length keep.length with h | h
  · rw [Nat.min_eq_left h]
  · rw [Nat.min_eq_right h]
    have := crTo_far d keep torn (d.waits.length - keep.length)
    rw [← this]; congr 1; omega
theorem crTo_nil (d : Pd) (torn : Int) (k : Nat) : crTo d [] torn k = d.pages := by
  have := crTo_far d [] torn k
  simpa [crTo] using this
theorem st_step {d : Pd} {k : Nat} {x : Nat × List Nat} (h : d.waits[k]? = some x) : stTo d (k + 1) = (stTo d k).set x.1 x.2 := by
  rw [stTo, h]
theorem cr_step {d : Pd} {keep : List Bool} {torn : Int} {k : Nat} {x : Nat × List Nat} (h : d.waits[k]? = some x) (hk : kept keep k = true) : crTo d keep torn (k + 1) = (crTo d keep torn k).set x.1 (left_ torn k x.2) := by
  rw [crTo, h]; simp [hk]
theorem seen_step {d : Pd} {no k : Nat} {x : Nat × List Nat} (h : d.waits[k]? = some x) : seenTo d no (k + 1) = if x.1 = no then x.2 else seenTo d no k := by
  rw [seenTo, h]
/-- What is seen is what is safe behind a sync. -/
theorem st_seen (d : Pd) (hw : ∀ x ∈ d.waits, x.1 < d.pages.length) (no : Nat) : ∀ k, (stTo d k).getD no [] = seenTo d no k
  | 0 => rfl
  | k + 1 => by
    have ih := st_seen d hw no k
    unfold stTo seenTo
    split
    · rename_i x hx
      have hlt := hw x (List.mem_of_getElem? hx)
      rw [List.getD_eq_getElem?_getD, List.getElem?_set, stTo_len]
      by_cases he : x.1 = no
      · subst he; simp [hlt]
      · rw [if_neg he, if_neg he, ← List.getD_eq_getElem?_getD, ih]
    · exact ih
theorem seenTo_push (d : Pd) (no : Nat) (l : List Nat) (q : Nat) : ∀ k, k ≤ d.waits.length → seenTo (push d no l) q k = seenTo d q k
  | 0, _ => rfl
  | k + 1, h => by
    unfold seenTo
    have : (push d no l).waits[k]? = d.waits[k]? := by unfold push; simp only []; rw [List.getElem?_append_left (by omega)]
    rw [this]
    rw [seenTo_push d no l q k (by omega)]
theorem seen_push (d : Pd) (no : Nat) (l : List Nat) (q : Nat) : seen (push d no l) q = if no = q then l else seen d q := by
  unfold seen
  have hl : (push d no l).waits.length = d.waits.length + 1 := by simp [push]
  rw [hl, seen_step (x := (no, l)) (by simp [push]), seenTo_push d no l q _ (Nat.le_refl _)]
theorem seen_none (d : Pd) (no : Nat) (h : d.waits.any (fun x => x.1 == no) = false) : ∀ k, seenTo d no k = d.pages.getD no []
  | 0 => rfl
  | k + 1 => by
    unfold seenTo
    split
    · rename_i x hx
      have := List.any_eq_false.1 h x (List.mem_of_getElem? hx)
      rw [if_neg (by simpa using this)]
      exact seen_none d no h k
    · exact seen_none d no h k
theorem seen_eq {d e : Pd} (hp : d.pages = e.pages) (hw : d.waits = e.waits) (no : Nat) : seen d no = seen e no := by
  have : ∀ k, seenTo d no k = seenTo e no k := by
    intro k
    induction k with
    | zero => simp [seenTo, hp]
    | succ k ih => unfold seenTo; rw [hw, ih]
  unfold seen
  rw [hw, this]
theorem seen_act (d : Pd) (no : Nat) : seen (act d) no = seen d no := seen_eq (act_pages d) (act_waits d) no

end Go.Proofs.Ytcpgmglpgffhdaa.Dk
