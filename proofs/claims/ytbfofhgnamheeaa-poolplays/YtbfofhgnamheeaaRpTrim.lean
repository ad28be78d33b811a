/-
  The document's Trim.
-/
import Derived.Test.YtbfofhgnamheeaaRpAlloc
namespace Go.Proofs.Ytbfofhgnamheeaa.Pq
open Go.RowKit
set_option linter.unusedVariables false

def rhiOf (q : Nat) (w : World) : Nat := match w.cell? ⟨q, 1, none⟩ with
  | some (.int _ x) => x.toNat
  | _ => 0
theorem rhiOf_rf {w : World} {q : Nat} {v : Value} {d : Pl.Pd} (h : Rf w q v d) : rhiOf q w = d.high.toNat := by unfold rhiOf; rw [h.c1]

set_option maxRecDepth 100000 in
set_option maxHeartbeats 4000000 in
theorem rtrim_any (w : World) (q : Nat) (v : Value) (d : Pl.Pd) (hz : Nat) (h : Rf w q v d) :
    Calls Try.prog 17 #[.pointer (some ⟨q, 0, none⟩), .int .u64 (hz : Int)] w fun e w' => e = .returned (.int .i64 ((Pl.trim d hz).2 : Int)) ∧ (∃ v', Rf w' q v' (Pl.trim d hz).1) ∧ Off (fun k => k = q) w w' := by
  have H := Lib.hid h
  have hd2 := h.ok.two
  have hdc := h.ok.high
  have hdm := h.ok.cap
  clear h
  go_enter Try.func17, Try.ntmps17
  go_wp2_with fail
  go_loopw [5] (fun x wr => ∃ (k : Nat) (e : Pl.Pd) (ve : Value), x = .int .i64 (k : Int) ∧ Rf wr q ve e ∧ Off (fun j => j = q) w wr ∧ (k : Int) = d.high - e.high ∧ (Pl.trim d hz).1 = (Pl.trim e hz).1 ∧ (Pl.trim d hz).2 = (Pl.trim e hz).2 + k) (fun _ wr => rhiOf q wr)
  case atStart => exact ⟨0, d, v, rfl, H.out, Off.refl _ _, by simp, rfl, by omega⟩
  case round =>
    obtain ⟨k, e, ve, rfl, he, ho, hk, t1, t2⟩ := hrel
    have HE := Lib.hid he
    have HO := Lib.hid ho
    have HKk := Lib.hid hk
    have hkb : k ≤ 2048 := by have := he.ok.two; omega
    clear hk
    have e1 := he.c1
    have e2 := he.c2
    have eo2 := he.ok.two
    have ec := he.ok.high
    have em := he.ok.cap
    have efew := he.few
    have gi := Pl.goes_iff he.ok hz
    obtain ⟨A, c, rfl, hF⟩ := he.fs
    have hnc := hF.2.1
    have hcm := hF.2.2.1
    unfold maxLen at hcm
    have HF := Lib.hid hF
    clear hF ho he
    have stays : ¬ Pl.goes e hz → Hid ((Pl.trim d hz).2 = k ∧ (Pl.trim d hz).1 = e) := fun hg => by
      have := Pl.trim_stays hg
      rw [this] at t1 t2
      exact ⟨by simpa using t2, t1⟩
    by_cases hh : e.high ≤ 2
    · have ng : ¬ Pl.goes e hz := fun hg => by have := hg.1; omega
      have ST := stays ng
      have z1 : ¬ (2 : Int) < e.high := by omega
      have z1' : decide ((2 : Int) < e.high) = false := by simp; omega
      clear stays gi t1 t2 ng
      go_wp2_with fail
      go_quiet (fail)
      all_goals
        go_wp2
        go_ret
        obtain ⟨s1, s2⟩ := ST.out
        rw [s1, s2]
        exact ⟨rfl, ⟨_, HE.out.drewN _⟩, HO.out.drewN _⟩
    · have z1 : (2 : Int) < e.high := by omega
      by_cases hl : e.l.length = 0
      · have ng : ¬ Pl.goes e hz := fun hg => by
          obtain ⟨_, x, hx, _⟩ := gi.1 hg
          have := (List.getElem?_eq_some_iff.1 hx).1; omega
        have ST := stays ng
        rw [hl] at e2
        clear stays gi t1 t2 ng hnc HF efew hh
        go_wp2_with fail
        go_quiet (fail)
        all_goals
          go_wp2
          go_ret
          obtain ⟨s1, s2⟩ := ST.out
          rw [s1, s2]
          exact ⟨rfl, ⟨_, HE.out.drewN _⟩, HO.out.drewN _⟩
      · have hx : e.l[e.l.length - 1]? = some e.l[e.l.length - 1] := List.getElem?_eq_getElem (by omega)
        generalize e.l[e.l.length - 1] = x at hx
        obtain ⟨n, hn⟩ : ∃ n, n = e.l.length := ⟨_, rfl⟩
        have HN := Lib.hid hn
        obtain ⟨b, off, x', rfl, hbl, hx', hin, q0, q1⟩ := HF.out.get (k := e.l.length - 1) (by omega)
        rw [hx] at hx'
        injection hx' with hx'
        subst hx'
        obtain ⟨j, hj⟩ : ∃ j, j = e.l.length - 1 := ⟨_, rfl⟩
        have HJ := Lib.hid hj
        rw [← hj] at q0 q1 hx
        have C := Lib.hid (fun m => rcut_any (wr.drewN m) q _ e j (HE.out.drewN m) (by omega))
        rw [← hn] at e2 HF hnc efew
        have w1 : IntKind.i64.wrap ((n : Int) - 1) = ((j : Nat) : Int) := by rw [IntWalk.i64_in _ ⟨by omega, by omega⟩]; omega
        have w1' : (n : Int) - 1 = ((j : Nat) : Int) := by omega
        have w2 : j < n := by omega
        have w2' : (j : Int) < (n : Int) := by omega
        have w3 : 0 < n := by omega
        have hbi : ∀ hz, Pl.goes e hz ↔ x.1 = e.high - 1 ∧ x.2 ≤ hz := fun hz => by
          rw [Pl.goes_iff HE.out.ok hz]
          constructor
          · rintro ⟨_, y, hy, r⟩
            rw [← HJ.out, hx] at hy; injection hy with hy; subst hy; exact r
          · intro r
            exact ⟨z1, x, by rw [← HJ.out]; exact hx, r⟩
        have gg := hbi hz
        clear hbi gi hin hbl HF hl hj
        by_cases hp : x.1 = e.high - 1
        · have z2 : (x.1 == e.high - 1) = true := by simpa using hp
          by_cases hle : x.2 ≤ hz
          · have z3 : (x.2 : Int) ≤ (hz : Int) := by omega
            have hg := gg.2 ⟨hp, hle⟩
            have ht := Pl.trim_goes hg
            have hok := Pl.off_ok HE.out.ok hg
            have T := Lib.hid (And.intro t1 (And.intro t2 (And.intro ht hok)))
            rw [hp] at q0
            clear stays gg t1 t2 ht hok hg hle hp hx z2 hn
            go_wp2_with fail
            go_quiet (fail)
            all_goals
              go_wp2_with fail
              refine (C.out _).mono ?_
              rintro e' w1 ⟨⟨u, rfl⟩, ⟨v', hR⟩, hO⟩
              obtain ⟨t1, t2, t3, t4⟩ := T.out
              have r1 := hR.c1
              have r2 := hR.frz 1
              have hj := HJ.out
              have hlo : Pl.off e = { e with high := e.high - 1, l := Pl.cut e.l j } := by unfold Pl.off; rw [← hj]
              rw [hlo] at t3 t4
              have SH := Lib.hid (rset_high hR (e.high - 1) t4)
              have OO := Lib.hid ((HO.out.drewN _).trans hO)
              have TT := Lib.hid (And.intro t1 (And.intro t2 t3))
              clear t1 t2 t3 t4 hR hO hlo hj
              go_wp2
              obtain ⟨R1, R2⟩ := SH.out
              obtain ⟨t1, t2, t3⟩ := TT.out
              rw [t3] at t1 t2
              have q1 := rhiOf_rf R1
              have q2 := rhiOf_rf HE.out
              have hkk := HKk.out
              go_roundw
              case rel => exact ⟨k + 1, _, _, by go_num, R1, OO.out.trans R2, by show _ = d.high - (e.high - 1); push_cast; omega, t1, by rw [t2]; show _ + 1 + k = _ + (k + 1); omega⟩
              case measure => rw [q1, q2]; show (e.high - 1).toNat < _; omega
          · have z3 : ¬ (x.2 : Int) ≤ (hz : Int) := by omega
            have z3' : decide ((x.2 : Int) ≤ (hz : Int)) = false := by simp; omega
            have ST := stays fun hg => hle (gg.1 hg).2
            rw [hp] at q0
            clear stays gg t1 t2 hle hp hx z2 hn C
            go_wp2_with fail
            go_quiet (fail)
            all_goals
              go_wp2
              go_ret
              obtain ⟨s1, s2⟩ := ST.out
              rw [s1, s2]
              exact ⟨rfl, ⟨_, HE.out.drewN _⟩, HO.out.drewN _⟩
        · have z2 : (x.1 == e.high - 1) = false := by simpa using hp
          have ST := stays fun hg => hp (gg.1 hg).1
          clear stays gg t1 t2 hp hx hn C
          go_wp2_with fail
          go_quiet (fail)
          all_goals
            go_wp2
            go_ret
            obtain ⟨s1, s2⟩ := ST.out
            rw [s1, s2]
            exact ⟨rfl, ⟨_, HE.out.drewN _⟩, HO.out.drewN _⟩

end Go.Proofs.Ytbfofhgnamheeaa.Pq
