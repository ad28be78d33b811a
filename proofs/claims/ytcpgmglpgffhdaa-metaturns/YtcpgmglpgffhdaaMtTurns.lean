/-
  MetaTurns: versions one behind the other, whatever the power cuts off.
-/
import Derived.Test.YtcpgmglpgffhdaaMtAwake
import Derived.Test.YtcpgmglpgffhdaaMtDo
namespace Go.Proofs.Ytcpgmglpgffhdaa
open Go.RowKit
set_option linter.unusedVariables false

section
variable {S : Nat → Prop} {wb w wa : World} {p : Nat} {d : Dk.Pd}
/-- Begun anew behind what was made since: none of it is the disk's. -/
theorem Has.anew' (h : Has S wb w p d) (hb : Below w.heap.size w wa) : ∃ S' : Nat → Prop, Has S' wa wa p d ∧ (∀ k, S' k → k < w.heap.size) ∧ (∀ k, S' k → S k ∨ wb.heap.size ≤ k) := by
  obtain ⟨H, hp, hD, ho, hO⟩ := h
  exact ⟨H.own, ⟨H, hp, hD.on hb, fun k hk => .inl hk, Off.refl _ _⟩, fun k hk => hD.lt hk, ho⟩
theorem hcrash0 (h : Has S wb w p d) (A : Option Addr) (n c : Nat) (keep : List Bool) (torn : Int) (hk : Rd w A n c (keep.map Value.bool)) (hA : 0 < n → ∀ b off, A = some ⟨b, off, none⟩ → ¬ S b ∧ b < wb.heap.size) (hm : d.waits.length < 1000) :
    Calls Try.prog 24 #[.pointer (some ⟨p, 0, none⟩), .slice A n c, .int .i64 torn] w fun e w' => e = .returned (.tuple #[]) ∧ Has S wb w' p (Dk.crashed d keep torn) := by
  obtain ⟨H, rfl, hD, ho, hO⟩ := h
  refine (crash_any w H d A n c keep torn hD hk (fun hn b off eb hb => ?_) hm).mono ?_
  · obtain ⟨h1, h2⟩ := hA hn b off eb
    rcases ho b hb with a | a
    · exact h1 a
    · omega
  · rintro e w' ⟨H', rfl, h', t'⟩
    exact ⟨rfl, Has.step rfl ho hO h' t'⟩
end
theorem Rd.spot {w : World} {A : Option Addr} {n c : Nat} {l : List Value} (h : Rd w A n c l) (hn : 0 < n) : ∀ b off, A = some ⟨b, off, none⟩ → b < w.heap.size := by
  intro b off e
  obtain ⟨b', off', e', hb, _⟩ := h.2.2.2 hn
  rw [e] at e'
  injection e' with e'
  injection e' with e1 e2
  rw [e1]; exact hb

set_option maxRecDepth 100000 in
set_option maxHeartbeats 1000000 in
theorem metaTurns_walk (w : World) (f : Nat) (A : Option Addr) (n c : Nat) (L : List Dov) (hf : f < 65536) (hL : Dos w A n c L) :
    Calls Try.prog 5 #[.int .u16 (f : Int), .slice A n c] w fun e w' => e = .returned (.bool true) ∧ Below w.heap.size w w' := by
  have hcm := hL.2.2.1
  have hnc := hL.2.1
  unfold maxLen at hcm
  have HL := Lib.hid hL
  clear hL
  go_enter Try.func5, Try.ntmps5
  go_wp2_with fail
  refine (awake_any _).mono ?_
  rintro e w1 ⟨rfl, b1⟩
  have HB1 := Lib.hid b1
  clear b1
  go_wp2_with fail
  refine (hnew w1 2 2 (by decide)).mono ?_
  rintro e w2 ⟨p, rfl, h2⟩
  have wf1 : IntKind.u64.wrap (f : Int) = (f : Int) := IntWalk.u64_in _ ⟨by omega, by omega⟩
  have wf2 : IntKind.u64.wrap (1 + (f : Int)) = ((f + 1 : Nat) : Int) := by rw [IntWalk.u64_in _ ⟨by omega, by omega⟩]; omega
  obtain ⟨t1, t2, t3, t4⟩ := Mt.good_first (g := f + 1) (by omega) (by omega)
  have C1 := Lib.hid (hmwrite w2 p _ h2 (Mt.ver (f + 1)) (by show 0 < 1000; omega))
  rw [t1] at C1
  obtain ⟨g0, hg0⟩ : ∃ g0, g0 = f + 1 := ⟨_, rfl⟩
  rw [← hg0] at C1 wf2 t2 t3 t4
  have hgl : 1 ≤ g0 ∧ g0 ≤ 65536 := by omega
  have HG := Lib.hid t4
  unfold mv at C1
  replace C1 : Hid _ := C1
  clear h2 t1 t4 hg0
  go_wp2_with fail
  refine C1.out.mono ?_
  rintro e w3 ⟨rfl, h3⟩
  have C2 := Lib.hid (hsync w3 p _ h3 (by omega))
  rw [t2] at C2
  clear h3 C1 t2 t3
  go_wp2_with fail
  refine C2.out.mono ?_
  rintro e w4 ⟨rfl, h4⟩
  have H4 := Lib.hid h4
  generalize Dk.sync (Mt.write (Dk.fresh 2) (Mt.ver g0)) = d0 at *
  clear h4 C2 wf1 wf2
  go_wp2_with fail
  go_loopw [6, 7, 8, 9, 10, 11, 12] (fun vg vi _ _ _ _ _ wr => ∃ (k g : Nat) (d : Dk.Pd), k ≤ n ∧ k ≤ 40 ∧ vi = .int .i64 (k : Int) ∧ vg = .int .u64 (g : Int) ∧ 1 ≤ g ∧ g ≤ 65536 + k ∧ Mt.Good d g ∧ Has (fun _ => False) w1 wr p d) (fun _ vi _ _ _ _ _ _ => n - (intOf vi).toNat)
  case atStart => exact ⟨0, g0, d0, Nat.zero_le _, Nat.zero_le _, rfl, rfl, hgl.1, hgl.2, HG.out, H4.out⟩
  case round =>
    obtain ⟨k, g, d, hk, hk4, rfl, rfl, hg1, hg2, hG, hD⟩ := hrel
    have HD := Lib.hid hD
    have HGd := Lib.hid hG
    have HBr := Lib.hid (onto HB1.out hD.below)
    clear hG hD
    by_cases hlt : k < n
    · have z1 : (k : Int) < (n : Int) := by omega
      by_cases hlt4 : k < 40
      · have z2 : (k : Int) < 40 := by omega
        obtain ⟨b, off, x, rfl, hb, hx, hd⟩ := HL.out.get hlt
        have hdw := hd.on hb HBr.out
        have c0 := hdw.c0
        have c1 := hdw.c1
        have c2 := hdw.c2
        have c3 := hdw.c3
        have c4 := hdw.c4
        have c5 := hdw.c5
        have c6 := hdw.c6
        have c7 := hdw.c7
        have Hkd := Lib.hid hd.rd
        have Hni := Lib.hid hd.nI
        have HK := Lib.hid (heap_alloc_new wr (.cells x.cells 41))
        have HAl := Lib.hid ((Below.refl wr.heap.size wr).alloc (Nat.le_refl _) (.cells x.cells 41))
        have HLt := Lib.hid (alloc_lt wr (.cells x.cells 41))
        have hgg : g + 1 ≤ 1152921504606846976 := by omega
        have hkc : Hid (x.kn ≤ x.kc ∧ x.kc ≤ maxLen) := ⟨Hkd.out.2.1, Hkd.out.2.2.1⟩
        clear hdw hd hx
        unfold Dov.cells at *
        by_cases hq : x.kn ≤ 1000
        · have hq1 : ¬ ((1000 : Int) < (x.kn : Int)) := by omega
          obtain ⟨S', hS, hlow, hsub⟩ := HD.out.anew' HAl.out
          have HS := Lib.hid hS
          have Hlow := Lib.hid hlow
          have Hsub := Lib.hid hsub
          have C3 := Lib.hid (harm _ p d hS x.n Hni.out.2)
          obtain ⟨r1, r2, r3⟩ := HGd.out.round (n := x.n.toNat) hg1 hgg x.keep x.kind
          clear hS hlow hsub
          go_wp2_with fail
          refine C3.out.mono ?_
          rintro e w5 ⟨rfl, h5⟩
          have C4 := Lib.hid (hmwrite w5 p _ h5 (Mt.ver (g + 1)) (by show d.waits.length < 1000; rw [HGd.out.waits]; decide))
          have wg : IntKind.u64.wrap ((g : Int) + 1) = ((g + 1 : Nat) : Int) := by rw [IntWalk.u64_in _ ⟨by omega, by omega⟩]; omega
          obtain ⟨g', hg'⟩ : ∃ g', g' = g + 1 := ⟨_, rfl⟩
          rw [← hg'] at C4 wg r1 r2 r3
          have HG' := Lib.hid hg'
          clear hg'
          unfold mv at C4
          replace C4 : Hid (Calls Try.prog 18 #[.pointer (some ⟨p, 0, none⟩), .agg #[.int .u64 (g' : Int), .int .i64 2, .int .i64 0, .int .i64 0]] w5 fun e w' => e = .returned (.int .i64 (Mt.writeCode (Dk.armed d x.n.toNat) (Mt.ver g'))) ∧ Has S' (wr.alloc (.cells #[.int .i64 x.kind, .int .u64 (x.m.gen : Int), .int .i64 x.m.high, .int .i64 x.m.root, .int .i64 x.m.free, .int .i64 x.n, .slice x.kA x.kn x.kc, .slice x.bA x.bn x.bc] 41)) w' p (Mt.write (Dk.armed d x.n.toNat) (Mt.ver g'))) := C4
          clear C3 h5 c0 c1 c2 c3 c4 c5 c6 c7
          generalize Mt.writeCode (Dk.armed d x.n.toNat) (Mt.ver g') = E at *
          generalize Mt.write (Dk.armed d x.n.toNat) (Mt.ver g') = d1 at *
          go_wp2_with fail
          refine C4.out.mono ?_
          rintro e w6 ⟨rfl, h6⟩
          have C5 := Lib.hid (hsync w6 p _ h6 (by omega))
          clear C4 h6
          generalize Dk.syncCode d1 = F at *
          generalize Dk.sync d1 = d2 at *
          go_wp2_with fail
          refine C5.out.mono ?_
          rintro e w7 ⟨rfl, h7⟩
          have hbx := h7.off.at_ HK.out (fun h => absurd (Hlow.out _ h) (Nat.lt_irrefl _))
          have a0 := cell_of_row w7 _ 0 _ _ (0, 0) hbx
          have a6 := cell_of_row w7 _ 6 _ _ (0, 0) hbx
          replace a0 : w7.cell? ⟨wr.heap.size, 0, none⟩ = some (.int .i64 x.kind) := a0
          replace a6 : w7.cell? ⟨wr.heap.size, 6, none⟩ = some (.slice x.kA x.kn x.kc) := a6
          have Q7 := (onto HBr.out HAl.out).trans (h7.off.below (B := w.heap.size) (fun k hk => Nat.le_trans HB1.out.size ((Hsub.out k hk).resolve_left id)) (Nat.le_trans HBr.out.size (Nat.le_of_lt HLt.out)))
          have C6 := Lib.hid (hcrash0 h7 x.kA x.kn x.kc x.keep x.kind (Hkd.out.on Q7) (fun hn b off eb => ⟨fun hs => by have h1 := (Hsub.out b hs).resolve_left id; have h2 := Hkd.out.spot hn b off eb; have h3 := HB1.out.size; omega, by have h2 := Hkd.out.spot hn b off eb; have h3 := HBr.out.size; have h4 := HLt.out; omega⟩) (by omega))
          have HDa := Lib.hid (HD.out.on HAl.out)
          have hg1' : 1 ≤ g' := by have := HG'.out; omega
          have hg2' : g' ≤ 65536 + (k + 1) := by have := HG'.out; omega
          have hgn : g' = g + 1 := HG'.out
          clear C5 h7 hbx Q7
          generalize Dk.crashed d2 x.keep x.kind = d3 at *
          clear hgn
          go_wp2_with fail
          refine C6.out.mono ?_
          rintro e w8 ⟨rfl, h8⟩
          clear C6 a0 a6
          have ngg : (g : Int) < (g' : Int) := by have := HG'.out; omega
          rcases r3 with ⟨hG3, hne⟩ | hG3
          · clear r1 r2
            have h9 := h8
            have N9 := hG3.newest hg1
            have N9c := hG3.code hg1
            have C7 := Lib.hid (hnewest w8 p _ h8)
            rw [N9, N9c] at C7
            unfold mv Mt.ver at C7
            simp only at C7
            have H8 := Lib.hid h8
            have HG3 := Lib.hid hG3
            clear h8 h9 hG3 N9 N9c
            go_wp2_with fail
            refine C7.out.mono ?_
            rintro e w9 ⟨rfl, b9⟩
            have H9 := Lib.hid (HDa.out.back ((H8.out.on b9).on ((Below.refl w9.heap.size w9).alloc (Nat.le_refl _) (.cells #[.int .u64 (g : Int), .int .i64 2, .int .i64 0, .int .i64 0] 24))) Hsub.out)
            clear b9 C7 H8
            by_cases hE : E = 0
            · have hF : ¬ F = 0 := fun h => hne ⟨hE, h⟩
              have e1 : (E == 0) = true := by simpa using hE
              have e2 : (F == 0) = false := by simpa using hF
              clear hne hE hF
              go_wp2
              go_roundw
              case rel => exact ⟨k + 1, g, d3, by omega, by omega, by go_num, rfl, hg1, by omega, HG3.out, H9.out⟩
              case measure => simp [intOf]; omega
            · have e1 : (E == 0) = false := by simpa using hE
              clear hne hE
              go_wp2
              go_roundw
              case rel => exact ⟨k + 1, g, d3, by omega, by omega, by go_num, rfl, hg1, by omega, HG3.out, H9.out⟩
              case measure => simp [intOf]; omega
          · clear r1 r2
            have h9 := h8
            have N9 := hG3.newest hg1'
            have N9c := hG3.code hg1'
            have C7 := Lib.hid (hnewest w8 p _ h8)
            rw [N9, N9c] at C7
            unfold mv Mt.ver at C7
            simp only at C7
            have H8 := Lib.hid h8
            have HG3 := Lib.hid hG3
            clear h8 h9 hG3 N9 N9c
            go_wp2_with fail
            refine C7.out.mono ?_
            rintro e w9 ⟨rfl, b9⟩
            have H9 := Lib.hid (HDa.out.back ((H8.out.on b9).on ((Below.refl w9.heap.size w9).alloc (Nat.le_refl _) (.cells #[.int .u64 (g' : Int), .int .i64 2, .int .i64 0, .int .i64 0] 24))) Hsub.out)
            clear b9 C7 H8
            have n1 : ((g' : Int) != (g : Int)) = true := by rw [bne_iff_ne]; omega
            by_cases hE : E = 0
            · have e1 : (E == 0) = true := by simpa using hE
              by_cases hF : F = 0
              · have e2 : (F == 0) = true := by simpa using hF
                clear hE hF
                go_wp2
                go_roundw
                case rel => exact ⟨k + 1, g', d3, by omega, by omega, by go_num, rfl, hg1', by omega, HG3.out, H9.out⟩
                case measure => simp [intOf]; omega
              · have e2 : (F == 0) = false := by simpa using hF
                clear hE hF
                go_wp2
                go_roundw
                case rel => exact ⟨k + 1, g', d3, by omega, by omega, by go_num, rfl, hg1', by omega, HG3.out, H9.out⟩
                case measure => simp [intOf]; omega
            · have e1 : (E == 0) = false := by simpa using hE
              clear hE
              go_wp2
              go_roundw
              case rel => exact ⟨k + 1, g', d3, by omega, by omega, by go_num, rfl, hg1', by omega, HG3.out, H9.out⟩
              case measure => simp [intOf]; omega
        · have hq1 : (1000 : Int) < (x.kn : Int) := by omega
          have HE := Lib.hid (onto HBr.out HAl.out)
          clear hq
          go_wp2
          go_ret
          exact ⟨rfl, HE.out⟩
      · have z2 : ¬ ((k : Int) < 40) := by omega
        have z2' : decide ((k : Int) < 40) = false := by simp; omega
        go_wp2
        go_ret
        exact ⟨rfl, HBr.out⟩
    · have z1 : ¬ ((k : Int) < (n : Int)) := by omega
      have z1' : decide ((k : Int) < (n : Int)) = false := by simp; omega
      go_wp2
      go_ret
      exact ⟨rfl, HBr.out⟩

end Go.Proofs.Ytcpgmglpgffhdaa
