/-
  DiskTorn: of a write that is torn the page's last byte is another one, and all others are as written; one that isn't kept leaves it as it was.
-/
import Derived.Test.YtakoajbfkinlcaaDkAwake
import Derived.Test.YtakoajbfkinlcaaSame
namespace Go.Proofs.Ytakoajbfkinlcaa
open Go.RowKit
set_option linter.unusedVariables false

theorem torn_plain (la lb : List Nat) (k0 : Bool) (t : Int) : (Dk.crashed (Dk.push (Dk.settled (Dk.push (Dk.fresh 1) 0 la)) 0 lb) [k0] t).pages = [if k0 then Dk.left_ t 0 lb else la] := by
  show Dk.crTo _ _ _ _ = _
  rw [show (Dk.push (Dk.settled (Dk.push (Dk.fresh 1) 0 la)) 0 lb).waits.length = 0 + 1 from rfl]
  cases k0
  · rw [Dk.cr_stay rfl]; rfl
  · rw [Dk.cr_step (x := (0, lb)) rfl rfl]; rfl
theorem one_bool (w : World) (b : Bool) : Rd (w.alloc (.cells #[.bool b] 4)) (some ⟨w.heap.size, 0, none⟩) 1 1 ([b].map Value.bool) :=
  ⟨rfl, Nat.le_refl _, by unfold maxLen; omega, fun _ => ⟨_, _, rfl, by simp, fun j v hv => by
    have := cell_one_new w (.bool b) 4 j v hv
    rw [addr_add] at this
    exact this⟩⟩
set_option maxRecDepth 100000 in
theorem flip_all : ∀ x : Fin 256, 255 - x.1 = x.1 ^^^ 255 := by decide
theorem flip_u8 (x : Nat) (h : x < 256) : IntKind.u8.wrap (255 - (x : Int)) = ((x ^^^ 255 : Nat) : Int) := by
  have e : 255 - x = x ^^^ 255 := flip_all ⟨x, h⟩
  rw [IntWalk.u8_in _ ⟨by omega, by omega⟩, ← e]; omega
theorem flip_ne (x : Nat) (h : x < 256) : x ^^^ 255 ≠ x := by
  have e : 255 - x = x ^^^ 255 := flip_all ⟨x, h⟩
  omega

theorem Row.head {w : World} {g : Nat} {l : List Nat} (h : Row w g l) (hl : ∀ x ∈ l, x < 256) (hn : l.length = 1024) : Bs w (some ⟨g, 0, none⟩) 1023 1024 (l.take 1023) := by
  refine ⟨by rw [List.length_take, hn]; omega, by omega, by unfold maxLen; omega, fun x hx => hl x (List.mem_of_mem_take hx), fun _ => ⟨g, 0, rfl, h.lt, fun j x hx => ?_⟩⟩
  rw [List.getElem?_take] at hx
  split at hx
  · rw [Nat.zero_add]; exact h.cell hx
  · cases hx
theorem torn_take {l : List Nat} (h : l.length = 1024) : (Pg.torn l).take 1023 = l.take 1023 := by
  unfold Pg.torn; rw [h]
  exact List.take_set_of_le (by omega)
theorem torn_len (l : List Nat) : (Pg.torn l).length = l.length := by unfold Pg.torn; exact List.length_set

/-- What the law asks behind the loss: the page that is safe then, its last byte. -/
theorem left_plain {lb : List Nat} {b : Nat} (t0 : Bool) (n : lb.length = 1024) (h3 : lb[1023]? = some b) : (Dk.left_ (if t0 then 0 else -1) 0 lb).take 1023 = lb.take 1023 ∧ (Dk.left_ (if t0 then 0 else -1) 0 lb)[1023]? = some (if t0 then b ^^^ 255 else b) := by
  cases t0 with
  | false => exact ⟨rfl, h3⟩
  | true =>
    refine ⟨torn_take n, ?_⟩
    show (Pg.torn lb)[1023]? = _
    rw [torn_last n, List.getD_eq_getElem?_getD, h3]; rfl

set_option maxRecDepth 100000 in
set_option maxHeartbeats 2000000 in
theorem diskTorn_walk (w : World) (a b : Nat) (k0 t0 : Bool) (ha : a < 256) (hb : b < 256) :
    Calls Try.prog 6 #[.int .u8 (a : Int), .int .u8 (b : Int), .agg #[.bool k0, .bool t0]] w fun e w' => e = .returned (.bool true) ∧ Below w.heap.size w w' := by
  obtain ⟨la, hla⟩ : ∃ l, l = List.replicate 1024 a := ⟨_, rfl⟩
  obtain ⟨lb, hlb⟩ : ∃ l, l = List.replicate 1024 b := ⟨_, rfl⟩
  have na : Hid (la.length = 1024) := by show _ = _; rw [hla]; exact List.length_replicate
  have nb : Hid (lb.length = 1024) := by show _ = _; rw [hlb]; exact List.length_replicate
  have ta : Hid (∀ x ∈ la, x < 256) := by intro x hx; rw [hla] at hx; have := List.eq_of_mem_replicate hx; omega
  have tb : Hid (∀ x ∈ lb, x < 256) := by intro x hx; rw [hlb] at hx; have := List.eq_of_mem_replicate hx; omega
  have lb3 : Hid (lb[1023]? = some b) := by show _ = _; rw [hlb]; exact rep_at (by omega)
  have FA := Lib.hid (fun W => filled_any W a ha)
  have FB := Lib.hid (fun W => filled_any W b hb)
  rw [← hla] at FA
  rw [← hlb] at FB
  clear hla hlb
  have w0 := Lib.hid (write_calm (d := Dk.fresh 1) (no := 0) rfl rfl (by rw [fresh_len]; omega) na.out)
  have w1 := Lib.hid (sync_calm (d := Dk.push (Dk.fresh 1) 0 la) rfl rfl)
  have w2 := Lib.hid (write_calm (d := Dk.settled (Dk.push (Dk.fresh 1) 0 la)) (no := 0) rfl rfl (by show 0 < (Dk.stTo _ _).length; rw [Dk.stTo_len]; exact Nat.succ_pos _) nb.out)
  have hN := Lib.hid (fun W => hnew W 1 1 (by omega))
  have cd0 : w0.out.2 = w0.out.2 := rfl
  clear cd0
  go_enter Try.func6, Try.ntmps6
  go_wp2_with fail
  refine (awake_any _).mono ?_
  rintro e v0 ⟨rfl, B0⟩
  have hbx : (w.alloc (.cells #[.bool k0, .bool t0] 54)).heap.size = w.heap.size + 1 := by simp
  have kb : v0.heap[w.heap.size]? = some (.cells #[.bool k0, .bool t0] 54 (0, 0)) := (B0.block w.heap.size (by rw [hbx]; omega)).trans (heap_alloc_new w _)
  have Bw : Below w.heap.size w v0 := ((Below.refl w.heap.size w).alloc (Nat.le_refl _) _).trans (B0.mono (by rw [hbx]; omega))
  clear B0 hbx
  go_wp2_with fail
  refine (hN.out _).mono ?_
  rintro e v1 ⟨p, rfl, h1⟩
  go_wp2_with fail
  refine (FA.out _).mono ?_
  rintro e v2 ⟨g2, rfl, _, R2, B2⟩
  have h2 := h1.on B2
  have s2 := R2.bs' ta.out na.out (by omega)
  clear h1 B2 R2
  go_wp2_with fail
  refine (hwrite v2 p _ h2 0 1024 1024 _ la s2 (by show 0 < 1000; omega)).mono ?_
  rintro e v3 ⟨rfl, h3⟩
  have h3' := h3.pf w0.out.1
  rw [show Dk.writeCode (Dk.fresh 1) 0 la = 0 from w0.out.2]
  clear h2 s2 h3
  go_wp2_with fail
  refine (hsync v3 p _ h3' (by show 1 < 1000; omega)).mono ?_
  rintro e v4 ⟨rfl, h4⟩
  have h4' := h4.pf w1.out.1
  rw [w1.out.2]
  clear h3' h4
  go_wp2_with fail
  refine (FB.out _).mono ?_
  rintro e v5 ⟨g5, rfl, _, R5, B5⟩
  have h5 := h4'.on B5
  have s5 := R5.bs' tb.out nb.out (by omega)
  clear h4' B5 R5
  go_wp2_with fail
  refine (hwrite v5 p _ h5 0 1024 1024 _ lb s5 (by show 0 < 1000; omega)).mono ?_
  rintro e v6 ⟨rfl, h6⟩
  have h6' := h6.pf w2.out.1
  rw [show Dk.writeCode (Dk.settled (Dk.push (Dk.fresh 1) 0 la)) 0 lb = 0 from w2.out.2]
  clear h5 s5 h6
  have kb6 := h6'.off.at_ kb id
  have k0' := cell_of_row v6 _ 0 _ _ (0, 0) kb6
  have k1' := cell_of_row v6 _ 1 _ _ (0, 0) kb6
  simp at k0' k1'
  have hlt6 : w.heap.size < v6.heap.size := (Array.getElem?_eq_some_iff.1 kb6).1
  have h7 := h6'.on ((Below.refl _ _).alloc (Nat.le_refl _) (.cells #[.bool k0] 4))
  have kb7 : (v6.alloc (.cells #[.bool k0] 4)).heap[w.heap.size]? = some (.cells #[.bool k0, .bool t0] 54 (0, 0)) := (((Below.refl v6.heap.size v6).alloc (Nat.le_refl _) (.cells #[.bool k0] 4)).block _ hlt6).trans kb6
  have K7 := Lib.hid (one_bool v6 k0)
  have H7 := Lib.hid h7
  have KB7 := Lib.hid kb7
  have nb7 : Hid (v6.heap.size ≠ w.heap.size) := by intro h; omega
  have hp := Lib.hid (torn_plain la lb k0 (if t0 then 0 else -1))
  have lp := Lib.hid (left_plain t0 nb.out lb3.out)
  clear h6' h7 kb7 kb6
  cases t0 with
  | false =>
    go_wp2_with fail
    refine (hcrash _ p _ H7.out _ 1 1 [k0] (-1) K7.out (fun b off e => .inr (by injection e with e; injection e with e; subst e; exact ⟨_, _, heap_alloc_new v6 _⟩)) (by show 1 < 1000; omega)).mono ?_
    rintro e v8 ⟨rfl, h8⟩
    have hp' : (Dk.crashed (Dk.push (Dk.settled (Dk.push (Dk.fresh 1) 0 la)) 0 lb) [k0] (-1)).pages = [if k0 then Dk.left_ (-1) 0 lb else la] := hp.out
    have hl8 : 0 < (Dk.crashed (Dk.push (Dk.settled (Dk.push (Dk.fresh 1) 0 la)) 0 lb) [k0] (-1)).pages.length := by rw [hp']; exact Nat.succ_pos _
    have kb8 : v8.heap[w.heap.size]? = some (.cells #[.bool k0, .bool false] 54 (0, 0)) := h8.off.at_ kb id
    clear H7 K7 k0' k1' hlt6 KB7 nb7
    go_wp2_with fail
    refine (hsafe v8 p _ h8 0 hl8).mono ?_
    rintro e v9 ⟨g9, l9, rfl, _, e9, n9, t9, R9, B9⟩
    rw [hp'] at e9
    injection e9 with e9
    have kb9 : v9.heap[w.heap.size]? = some (.cells #[.bool k0, .bool false] 54 (0, 0)) := (B9.block _ (Array.getElem?_eq_some_iff.1 kb8).1).trans kb8
    have BW := Lib.hid (Bw.trans ((h8.on B9).off.below (fun _ h => h.elim) (Nat.le_refl _) |>.mono Bw.size))
    have c90 := cell_of_row v9 _ 0 _ _ (0, 0) kb9
    have c91 := cell_of_row v9 _ 1 _ _ (0, 0) kb9
    simp at c90 c91
    have lt9 : w.heap.size < v9.heap.size := (Array.getElem?_eq_some_iff.1 kb9).1
    clear h8 hl8 kb8 hp hp'
    cases k0 with
    | false =>
      replace e9 : la = l9 := e9
      subst e9
      clear lp
      go_wp2_with fail
      refine (FA.out _).mono ?_
      rintro e v10 ⟨g10, rfl, _, R10, B10⟩
      have s9 := (R9.on B10).bs' ta.out na.out (by omega)
      have s10 := R10.bs' ta.out na.out (by omega)
      go_wp2_with fail
      refine (same_eq v10 _ _ _ _ _ _ la s9 s10).mono ?_
      rintro e v11 ⟨rfl, m, rfl⟩
      go_wp2
      go_ret
      exact ⟨rfl, below_drewN (BW.out.trans (B10.mono BW.out.size)) m⟩
    | true =>
      replace e9 : Dk.left_ (-1) 0 lb = l9 := e9
      have lp' : l9.take 1023 = lb.take 1023 ∧ l9[1023]? = some (b) := by rw [← e9]; exact lp.out
      have L1 := Lib.hid lp'.1
      have x9 := R9.cell lp'.2
      have lg9 := R9.lt
      have R9' := Lib.hid R9
      have T9 := Lib.hid t9
      have N9 := Lib.hid n9
      clear lp lp' e9 R9 n9 t9 kb9
      have e1 : ((b : Int) == (b : Int)) = true := by simp

      go_wp2_with fail
      go_region_held3 (fun _ => True) (trivial) (first | (go_at_call 13; refine (FB.out _).mono ?_; rintro e v10 ⟨g10, rfl, _, R10, B10⟩; replace B10 : Below v9.heap.size v9 v10 := ((Below.refl v9.heap.size v9).drew).trans B10) | (go_at_call 28; refine (same_eq _ _ _ _ _ _ _ (lb.take 1023) (by rw [← L1.out]; exact (R9'.out.on B10).head T9.out N9.out) (R10.head tb.out nb.out)).mono ?_; rintro e v11 ⟨rfl, m, rfl⟩))
      have d91 := (B10.cell (p := ⟨w.heap.size, 1, none⟩) lt9).trans c91
      have y9 := (B10.cell (p := ⟨g9, 1023, none⟩) lg9).trans x9
      have HE := Lib.hid (below_drewN (BW.out.trans (B10.mono BW.out.size)) m)
      clear B10 c90 c91 x9 R10
      go_wp2
      go_ret
      exact ⟨rfl, HE.out⟩
  | true =>
    go_wp2_with fail
    refine (hcrash _ p _ H7.out _ 1 1 [k0] 0 K7.out (fun b off e => .inr (by injection e with e; injection e with e; subst e; exact ⟨_, _, heap_alloc_new v6 _⟩)) (by show 1 < 1000; omega)).mono ?_
    rintro e v8 ⟨rfl, h8⟩
    have hp' : (Dk.crashed (Dk.push (Dk.settled (Dk.push (Dk.fresh 1) 0 la)) 0 lb) [k0] 0).pages = [if k0 then Dk.left_ 0 0 lb else la] := hp.out
    have hl8 : 0 < (Dk.crashed (Dk.push (Dk.settled (Dk.push (Dk.fresh 1) 0 la)) 0 lb) [k0] 0).pages.length := by rw [hp']; exact Nat.succ_pos _
    have kb8 : v8.heap[w.heap.size]? = some (.cells #[.bool k0, .bool true] 54 (0, 0)) := h8.off.at_ kb id
    clear H7 K7 k0' k1' hlt6 KB7 nb7
    go_wp2_with fail
    refine (hsafe v8 p _ h8 0 hl8).mono ?_
    rintro e v9 ⟨g9, l9, rfl, _, e9, n9, t9, R9, B9⟩
    rw [hp'] at e9
    injection e9 with e9
    have kb9 : v9.heap[w.heap.size]? = some (.cells #[.bool k0, .bool true] 54 (0, 0)) := (B9.block _ (Array.getElem?_eq_some_iff.1 kb8).1).trans kb8
    have BW := Lib.hid (Bw.trans ((h8.on B9).off.below (fun _ h => h.elim) (Nat.le_refl _) |>.mono Bw.size))
    have c90 := cell_of_row v9 _ 0 _ _ (0, 0) kb9
    have c91 := cell_of_row v9 _ 1 _ _ (0, 0) kb9
    simp at c90 c91
    have lt9 : w.heap.size < v9.heap.size := (Array.getElem?_eq_some_iff.1 kb9).1
    clear h8 hl8 kb8 hp hp'
    cases k0 with
    | false =>
      replace e9 : la = l9 := e9
      subst e9
      clear lp
      go_wp2_with fail
      refine (FA.out _).mono ?_
      rintro e v10 ⟨g10, rfl, _, R10, B10⟩
      have s9 := (R9.on B10).bs' ta.out na.out (by omega)
      have s10 := R10.bs' ta.out na.out (by omega)
      go_wp2_with fail
      refine (same_eq v10 _ _ _ _ _ _ la s9 s10).mono ?_
      rintro e v11 ⟨rfl, m, rfl⟩
      go_wp2
      go_ret
      exact ⟨rfl, below_drewN (BW.out.trans (B10.mono BW.out.size)) m⟩
    | true =>
      replace e9 : Dk.left_ 0 0 lb = l9 := e9
      have lp' : l9.take 1023 = lb.take 1023 ∧ l9[1023]? = some (b ^^^ 255) := by rw [← e9]; exact lp.out
      have L1 := Lib.hid lp'.1
      have x9 := R9.cell lp'.2
      have lg9 := R9.lt
      have R9' := Lib.hid R9
      have T9 := Lib.hid t9
      have N9 := Lib.hid n9
      clear lp lp' e9 R9 n9 t9 kb9
      have e1 : (((b ^^^ 255 : Nat) : Int) == (b : Int)) = false := by
        have := flip_ne b hb
        simp only [beq_eq_false_iff_ne, ne_eq]; omega
      have e2 := flip_u8 b hb
      generalize b ^^^ 255 = bx at *
      have e3 : ((bx : Int) == (bx : Int)) = true := by simp

      go_wp2_with fail
      go_region_held3 (fun _ => True) (trivial) (first | (go_at_call 13; refine (FB.out _).mono ?_; rintro e v10 ⟨g10, rfl, _, R10, B10⟩; replace B10 : Below v9.heap.size v9 v10 := ((Below.refl v9.heap.size v9).drew).trans B10) | (go_at_call 28; refine (same_eq _ _ _ _ _ _ _ (lb.take 1023) (by rw [← L1.out]; exact (R9'.out.on B10).head T9.out N9.out) (R10.head tb.out nb.out)).mono ?_; rintro e v11 ⟨rfl, m, rfl⟩))
      have d91 := (B10.cell (p := ⟨w.heap.size, 1, none⟩) lt9).trans c91
      have y9 := (B10.cell (p := ⟨g9, 1023, none⟩) lg9).trans x9
      have HE := Lib.hid (below_drewN (BW.out.trans (B10.mono BW.out.size)) m)
      clear B10 c90 c91 x9 R10
      go_wp2
      go_ret
      exact ⟨rfl, HE.out⟩

end Go.Proofs.Ytakoajbfkinlcaa
