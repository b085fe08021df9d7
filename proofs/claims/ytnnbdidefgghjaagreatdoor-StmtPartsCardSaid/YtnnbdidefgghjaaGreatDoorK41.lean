/-
  The answer's SameExpr and SameExprs: their contracts.
  Whether two statements are alike, wherever they stand: the contracts of the answer's SameStmt and SameStmts.
-/
import Derived.Test.YtnnbdidefgghjaaGreatDoorK39
import Derived.Test.YtnnbdidefgghjaaGreatDoorK40
import Derived.StillTailTactics
namespace Go.Proofs.YtnnbdidefgghjaaGreatDoor
open Go.RowKit
open Px (RT tokAt)
open Pe

set_option maxRecDepth 8000 in
set_option maxHeartbeats 2000000 in
theorem rsame_step (w : World) (_B : Nat) (_x _y : Ex) (xk : Int) (xn : Int) (xs : List UInt8) (xo : List UInt8) (xd : Int) (xp : Option Addr) (xl : Nat) (xc : Nat) (xa : Int) (xb : Int) (xr : Int) (xe : Int) (xf : Int) (yk : Int) (yn : Int) (ys : List UInt8) (yo : List UInt8) (yd : Int) (yp : Option Addr) (yl : Nat) (yc : Nat) (ya : Int) (yb : Int) (yr : Int) (ye : Int) (yf : Int)
    (v : Bool) (hk : ∀ w1, Below w.heap.size w w1 → Calls Tryz.prog 29 #[.slice xp xl xc, .slice yp yl yc] w1 fun e w' => e = .returned (.bool v) ∧ Below w1.heap.size w1 w') :
    Calls Tryz.prog 49 #[.agg #[.int .i64 xk, .int .i64 xn, .string (cbs xs), .string (cbs xo), .int .i64 xd, .slice xp xl xc, .int .i64 xa, .int .i64 xb, .int .i64 xr, .int .i64 xe, .int .i64 xf], .agg #[.int .i64 yk, .int .i64 yn, .string (cbs ys), .string (cbs yo), .int .i64 yd, .slice yp yl yc, .int .i64 ya, .int .i64 yb, .int .i64 yr, .int .i64 ye, .int .i64 yf]] w fun e w' => e = .returned (.bool (xk == yk && xn == yn && xs == ys && (xo == yo && xd == yd) && (xb == yb && xr == yr && xe == ye) && xf == yf && v)) ∧ Below w.heap.size w w' := by
  have h1 := eq_of2 xo yo xd yd
  have h2 := eq_ty3 xb xr xe yb yr ye
  have hsx := beq_cbs xs ys
  have hbb : Below w.heap.size w ((w.alloc (.cells #[.int .i64 xk, .int .i64 xn, .string (cbs xs), .string (cbs xo), .int .i64 xd, .slice xp xl xc, .int .i64 xa, .int .i64 xb, .int .i64 xr, .int .i64 xe, .int .i64 xf] 73)).alloc (.cells #[.int .i64 yk, .int .i64 yn, .string (cbs ys), .string (cbs yo), .int .i64 yd, .slice yp yl yc, .int .i64 ya, .int .i64 yb, .int .i64 yr, .int .i64 ye, .int .i64 yf] 73)) := ((Below.refl _ _).alloc (Nat.le_refl _) _).alloc (by rw [size_alloc]; omega) _
  have HK := Lib.hid (hk _ hbb)
  have HBB := Lib.hid hbb
  clear hk hbb
  generalize (xo == yo && xd == yd) = g1 at h1 ⊢
  generalize (xb == yb && xr == yr && xe == ye) = g2 at h2 ⊢
  generalize (xs == ys) = g3 at hsx ⊢
  cases hc1 : (xk == yk) with
  | false =>
    go_enter Tryz.func49, Tryz.ntmps49
    go_wp2_with fail
    go_ret
    exact ⟨rfl, HBB.out⟩
  | true =>
    cases hc2 : (xn == yn) with
    | false =>
      go_enter Tryz.func49, Tryz.ntmps49
      go_wp2_with fail
      go_ret
      exact ⟨rfl, HBB.out⟩
    | true =>
      cases g3 with
      | false =>
        go_enter Tryz.func49, Tryz.ntmps49
        go_wp2_with fail
        go_ret
        exact ⟨rfl, HBB.out⟩
      | true =>
        cases g1 with
        | false =>
          go_enter Tryz.func49, Tryz.ntmps49
          go_wp2_with fail
          go_ret
          exact ⟨rfl, HBB.out⟩
        | true =>
          cases g2 with
          | false =>
            go_enter Tryz.func49, Tryz.ntmps49
            go_wp2_with fail
            go_ret
            exact ⟨rfl, HBB.out⟩
          | true =>
            cases hc6 : (xf == yf) with
            | false =>
              go_enter Tryz.func49, Tryz.ntmps49
              go_wp2_with fail
              go_ret
              exact ⟨rfl, HBB.out⟩
            | true =>
              go_enter Tryz.func49, Tryz.ntmps49
              go_wp2_with (go_at_call 29; refine (HK.out).mono ?_; rintro e w1 ⟨rfl, hb1⟩)
              go_ret
              exact ⟨rfl, below_seq HBB.out hb1 HBB.out.size⟩

set_option maxRecDepth 8000 in
set_option maxHeartbeats 4000000 in
theorem sameExprs_any (w : World) (ks ls : List Ex) (p q : Option Addr) (c d : Nat) (hp : KidsAt w 0 p ks) (hq : KidsAt w 0 q ls) (hl : ks.length ≤ 9223372036854775807) (hel : ∀ e ∈ ks, ∀ e2, SameOk 49 w e e2) :
    Calls Tryz.prog 29 #[.slice p ks.length c, .slice q ls.length d] w fun e w' => e = .returned (.bool (sameL ks ls)) ∧ Below w.heap.size w w' := by
  have HP := Lib.hid hp
  have HQ := Lib.hid hq
  have HEL := Lib.hid hel
  have HL := Lib.hid hl
  clear hp hq hel hl
  by_cases hlen : ks.length = ls.length
  · have hd0 : ((ks.length : Int) != (ls.length : Int)) = false := by rw [hlen]; exact bne_self_eq_false _
    have HLEN := Lib.hid hlen
    clear hlen
    go_enter Tryz.func29, Tryz.ntmps29
    go_wp2_with fail
    go_loopg [5] ks.length (fun n v wr => ∃ j : Nat, n + j = ks.length ∧ v = .int .i64 (j : Int) ∧ Below w.heap.size w wr ∧ sameL (ks.drop j) (ls.drop j) = sameL ks ls)
    case atStart => exact ⟨0, rfl, rfl, Below.refl _ _, rfl⟩
    case round =>
      obtain ⟨j, hj, rfl, hb, hs⟩ := hrel
      have HB := Lib.hid hb
      have HS := Lib.hid hs
      have HJ := Lib.hid hj
      clear hb hs hj
      cases gk with
      | zero =>
        obtain rfl : j = ks.length := by have := HJ.out; omega
        have hd1 : decide ((ks.length : Int) < (ks.length : Int)) = false := decide_eq_false (by omega)
        go_wp2_with fail
        go_ret
        refine ⟨cret_bool ?_, HB.out⟩
        rw [← HS.out, List.drop_of_length_le (Nat.le_refl _), List.drop_of_length_le (by rw [HLEN.out]; exact Nat.le_refl _), sameL]
      | succ m =>
        have hjl : j < ks.length := by have := HJ.out; omega
        have hjl2 : j < ls.length := by have := HLEN.out; omega
        have hd1 : decide ((j : Int) < (ks.length : Int)) = true := decide_eq_true (by omega)
        have hi1 : (j : Int) < (ks.length : Int) := by omega
        have hi2 : (j : Int) < (ls.length : Int) := by omega
        have hd2 : decide (ks.length ≤ j) = false := decide_eq_false (by omega)
        have hd3 : decide (ls.length ≤ j) = false := decide_eq_false (by omega)
        have hdw : wrap64 ((j : Int) + 1) = ((j + 1 : Nat) : Int) := by have := HL.out; simp [wrap64]; omega
        have he1 := List.getElem?_eq_getElem hjl
        have he2 := List.getElem?_eq_getElem hjl2
        have hd4 : ks.drop j = ks[j] :: ks.drop (j + 1) := List.drop_eq_getElem_cons hjl
        have hd5 : ls.drop j = ls[j] :: ls.drop (j + 1) := List.drop_eq_getElem_cons hjl2
        have HE := Lib.hid (HEL.out _ (List.getElem_mem hjl) (ls[j]))
        generalize ks[j] = e1 at he1 hd4 HE
        generalize ls[j] = e2 at he2 hd5 HE
        have HD4 := Lib.hid hd4
        have HD5 := Lib.hid hd5
        obtain ⟨bl, off, vs, rfl, hbl, hi, hc⟩ := (HP.out.below HB.out).get he1
        obtain ⟨bl2, off2, vs2, rfl, hbl2, hi', hc2⟩ := (HQ.out.below HB.out).get he2
        obtain ⟨xk, xn, xs, xo, xd, xp, xl, xc, xa, xb, xr, xe, xf, rfl⟩ := hi.out
        obtain ⟨yk, yn, ys, yo, yd, yp, yl, yc, ya, yb, yr, ye, yf, rfl⟩ := hi'.out
        obtain ⟨x0, x1, x2, x3, x4, x5, x6, x7, x8, x9, xX⟩ := eleven_of hc
        obtain ⟨y0, y1, y2, y3, y4, y5, y6, y7, y8, y9, yX⟩ := eleven_of hc2
        have HI := Lib.hid hi
        have HI2 := Lib.hid hi'
        clear hc hc2 hi hi' he1 he2 hd4 hd5
        have hne1 : bl ≠ wr.heap.size := Nat.ne_of_lt hbl
        have hne2 : bl2 ≠ wr.heap.size := Nat.ne_of_lt hbl2
        have hi3 : (0 : Int) ≤ (j : Int) := by omega
        go_wp2_with fail
        refine wp_region_still_tail 8 (by kernel_rfl) (by kernel_rfl) ?_
        simp only [List.take_succ_cons, List.take_zero, List.drop_succ_cons, List.drop_zero]
        change wpStill _ _ wr.drew _ _ _
        repeat still_step
        refine wpStill_nil ?_
        change wpList _ _ _ _ _ wr.drew
        have HBD : Hid (Below w.heap.size w wr.drew) := HB.out.drew
        go_wp2_with fail
        refine (HE.out _ _ _ HBD.out (HI.out.below (Below.refl _ _).drew) (HI2.out.below (Below.refl _ _).drew)).mono ?_
        rintro e w2 ⟨rfl, hb3⟩
        have HB2 := Lib.hid (below_seq HBD.out hb3 HBD.out.size)
        clear hb3
        cases hse : sameE e1 e2 with
        | false =>
          have HSE := Lib.hid hse
          try rw [hse]
          clear hse
          go_wp2_with fail
          go_ret
          refine ⟨cret_bool ?_, HB2.out⟩
          rw [← HS.out, HD4.out, HD5.out, sameL, HSE.out, Bool.false_and]
        | true =>
          have HSE := Lib.hid hse
          try rw [hse]
          clear hse
          go_wp2_with fail
          go_roundg m
          case measure => omega
          case rel => exact ⟨j + 1, by have := HJ.out; omega, by first | rfl | simp [hdw], HB2.out, by rw [← HS.out, HD4.out, HD5.out, sameL, HSE.out, Bool.true_and]⟩
  · have hd0 : ((ks.length : Int) != (ls.length : Int)) = true := bne_iff_ne.2 (by omega)
    rw [sameL_len _ _ hlen]
    clear hlen
    go_enter Tryz.func29, Tryz.ntmps29
    go_wp2_with fail
    go_ret
    exact ⟨rfl, Below.refl _ _⟩

theorem rsame_n : ∀ (n : Nat) (x y : Ex), SizeOf.sizeOf x ≤ n → fitE x = true → ∀ w, SameOk 49 w x y := by
  intro n
  induction n with
  | zero => intro x y h; cases x; simp at h
  | succ n ih =>
    intro x y hs hf w w1 vs vs2 _ hi hi2
    obtain ⟨xk, xn, xs, xo, xd, ks, xa, xb, xr, xe, xf⟩ := x
    obtain ⟨yk, yn, ys, yo, yd, ls, ya, yb, yr, ye, yf⟩ := y
    obtain ⟨p, c, rfl, hp⟩ := hi.kids
    obtain ⟨q, d, rfl, hq⟩ := hi2.kids
    rw [fitE, Bool.and_eq_true] at hf
    have hk : ∀ w2, Below w1.heap.size w1 w2 → _ := fun w2 hb => sameExprs_any w2 ks ls p q c d (hp.below hb) (hq.below hb) (of_decide_eq_true hf.1) (fun e he e2 => ih e e2 (by have := sizes_kid he xk xn xs xo xd xa xb xr xe xf; omega) (fitL_mem hf.2 he) w2)
    have hst := rsame_step w1 0 (.mk xk xn xs xo xd ks xa xb xr xe xf) (.mk yk yn ys yo yd ls ya yb yr ye yf) xk xn xs xo xd p ks.length c xa xb xr xe xf yk yn ys yo yd q ls.length d ya yb yr ye yf (sameL ks ls) hk
    rw [sameE]
    exact hst
end Go.Proofs.YtnnbdidefgghjaaGreatDoor
namespace Go.Proofs.YtnnbdidefgghjaaGreatDoor
open Go.RowKit
open Px (RT tokAt)
open Pe
open Ps (Sm PX)

set_option maxRecDepth 8000 in
set_option maxHeartbeats 4000000 in
theorem sameStmts_any (w : World) (ks ls : List Sm) (p q : Option Addr) (c d : Nat) (hp : SsAt w 0 p ks) (hq : SsAt w 0 q ls) (hl : ks.length ≤ 9223372036854775807) (hel : ∀ e ∈ ks, ∀ e2, SSameOk 14 w e e2) :
    Calls Tryz.prog 30 #[.slice p ks.length c, .slice q ls.length d] w fun e w' => e = .returned (.bool (sameML ks ls)) ∧ Below w.heap.size w w' := by
  have HP := Lib.hid hp
  have HQ := Lib.hid hq
  have HEL := Lib.hid hel
  have HL := Lib.hid hl
  clear hp hq hel hl
  by_cases hlen : ks.length = ls.length
  · have hd0 : ((ks.length : Int) != (ls.length : Int)) = false := by rw [hlen]; exact bne_self_eq_false _
    have HLEN := Lib.hid hlen
    clear hlen
    go_enter Tryz.func30, Tryz.ntmps30
    go_wp2_with fail
    go_loopg [5] ks.length (fun n v wr => ∃ j : Nat, n + j = ks.length ∧ v = .int .i64 (j : Int) ∧ Below w.heap.size w wr ∧ sameML (ks.drop j) (ls.drop j) = sameML ks ls)
    case atStart => exact ⟨0, rfl, rfl, Below.refl _ _, rfl⟩
    case round =>
      obtain ⟨j, hj, rfl, hb, hs⟩ := hrel
      have HB := Lib.hid hb
      have HS := Lib.hid hs
      have HJ := Lib.hid hj
      clear hb hs hj
      cases gk with
      | zero =>
        obtain rfl : j = ks.length := by have := HJ.out; omega
        have hd1 : decide ((ks.length : Int) < (ks.length : Int)) = false := decide_eq_false (by omega)
        go_wp2_with fail
        go_ret
        refine ⟨cret_bool ?_, HB.out⟩
        rw [← HS.out, List.drop_of_length_le (Nat.le_refl _), List.drop_of_length_le (by rw [HLEN.out]; exact Nat.le_refl _), sameML]
      | succ m =>
        have hjl : j < ks.length := by have := HJ.out; omega
        have hjl2 : j < ls.length := by have := HLEN.out; omega
        have hd1 : decide ((j : Int) < (ks.length : Int)) = true := decide_eq_true (by omega)
        have hi1 : (j : Int) < (ks.length : Int) := by omega
        have hi2 : (j : Int) < (ls.length : Int) := by omega
        have hd2 : decide (ks.length ≤ j) = false := decide_eq_false (by omega)
        have hd3 : decide (ls.length ≤ j) = false := decide_eq_false (by omega)
        have hdw : wrap64 ((j : Int) + 1) = ((j + 1 : Nat) : Int) := by have := HL.out; simp [wrap64]; omega
        have he1 := List.getElem?_eq_getElem hjl
        have he2 := List.getElem?_eq_getElem hjl2
        have hd4 : ks.drop j = ks[j] :: ks.drop (j + 1) := List.drop_eq_getElem_cons hjl
        have hd5 : ls.drop j = ls[j] :: ls.drop (j + 1) := List.drop_eq_getElem_cons hjl2
        have HE := Lib.hid (HEL.out _ (List.getElem_mem hjl) (ls[j]))
        generalize ks[j] = e1 at he1 hd4 HE
        generalize ls[j] = e2 at he2 hd5 HE
        have HD4 := Lib.hid hd4
        have HD5 := Lib.hid hd5
        obtain ⟨bl, off, vs, rfl, hbl, hi, hc⟩ := (HP.out.below HB.out).get he1
        obtain ⟨bl2, off2, vs2, rfl, hbl2, hi', hc2⟩ := (HQ.out.below HB.out).get he2
        obtain ⟨xk, xs, xo, xd, xep, xel, xec, xbp, xbl, xbc, xlp, xll, xlc, xa, xr, rfl⟩ := hi.out
        obtain ⟨yk, ys, yo, yd, yep, yel, yec, ybp, ybl, ybc, ylp, yll, ylc, ya, yr, rfl⟩ := hi'.out
        obtain ⟨x0, x1, x2, x3, x4, x5, x6, x7, x8⟩ := nine_of hc
        obtain ⟨y0, y1, y2, y3, y4, y5, y6, y7, y8⟩ := nine_of hc2
        have HI := Lib.hid hi
        have HI2 := Lib.hid hi'
        clear hc hc2 hi hi' he1 he2 hd4 hd5
        have hne1 : bl ≠ wr.heap.size := Nat.ne_of_lt hbl
        have hne2 : bl2 ≠ wr.heap.size := Nat.ne_of_lt hbl2
        have hi3 : (0 : Int) ≤ (j : Int) := by omega
        go_wp2_with fail
        refine wp_region_still_tail 8 (by kernel_rfl) (by kernel_rfl) ?_
        simp only [List.take_succ_cons, List.take_zero, List.drop_succ_cons, List.drop_zero]
        change wpStill _ _ wr.drew _ _ _
        repeat still_step
        refine wpStill_nil ?_
        change wpList _ _ _ _ _ wr.drew
        have HBD : Hid (Below w.heap.size w wr.drew) := HB.out.drew
        go_wp2_with fail
        refine (HE.out _ _ _ HBD.out (HI.out.below (Below.refl _ _).drew) (HI2.out.below (Below.refl _ _).drew)).mono ?_
        rintro e w2 ⟨rfl, hb3⟩
        have HB2 := Lib.hid (below_seq HBD.out hb3 HBD.out.size)
        clear hb3
        cases hse : sameM e1 e2 with
        | false =>
          have HSE := Lib.hid hse
          try rw [hse]
          clear hse
          go_wp2_with fail
          go_ret
          refine ⟨cret_bool ?_, HB2.out⟩
          rw [← HS.out, HD4.out, HD5.out, sameML, HSE.out, Bool.false_and]
        | true =>
          have HSE := Lib.hid hse
          try rw [hse]
          clear hse
          go_wp2_with fail
          go_roundg m
          case measure => omega
          case rel => exact ⟨j + 1, by have := HJ.out; omega, by first | rfl | simp [hdw], HB2.out, by rw [← HS.out, HD4.out, HD5.out, sameML, HSE.out, Bool.true_and]⟩
  · have hd0 : ((ks.length : Int) != (ls.length : Int)) = true := bne_iff_ne.2 (by omega)
    rw [sameML_len _ _ hlen]
    clear hlen
    go_enter Tryz.func30, Tryz.ntmps30
    go_wp2_with fail
    go_ret
    exact ⟨rfl, Below.refl _ _⟩


set_option maxRecDepth 8000 in
set_option maxHeartbeats 4000000 in
theorem rssame_step (w : World) (xk : Int) (xs xo : List UInt8) (xd : Int) (xep : Option Addr) (xel xec : Nat) (xbp : Option Addr) (xbl xbc : Nat) (xlp : Option Addr) (xll xlc : Nat) (xa xr : Int) (yk : Int) (ys yo : List UInt8) (yd : Int) (yep : Option Addr) (yel yec : Nat) (ybp : Option Addr) (ybl ybc : Nat) (ylp : Option Addr) (yll ylc : Nat) (ya yr : Int) (v1 v2 v3 : Bool)
    (hk1 : ∀ w1, Below w.heap.size w w1 → Calls Tryz.prog 29 #[.slice xep xel xec, .slice yep yel yec] w1 fun e w' => e = .returned (.bool v1) ∧ Below w1.heap.size w1 w')
    (hk2 : ∀ w1, Below w.heap.size w w1 → Calls Tryz.prog 30 #[.slice xbp xbl xbc, .slice ybp ybl ybc] w1 fun e w' => e = .returned (.bool v2) ∧ Below w1.heap.size w1 w')
    (hk3 : ∀ w1, Below w.heap.size w w1 → Calls Tryz.prog 30 #[.slice xlp xll xlc, .slice ylp yll ylc] w1 fun e w' => e = .returned (.bool v3) ∧ Below w1.heap.size w1 w') :
    Calls Tryz.prog 14 #[.agg #[.int .i64 xk, .string (cbs xs), .string (cbs xo), .int .i64 xd, .slice xep xel xec, .slice xbp xbl xbc, .slice xlp xll xlc, .int .i64 xa, .int .i64 xr], .agg #[.int .i64 yk, .string (cbs ys), .string (cbs yo), .int .i64 yd, .slice yep yel yec, .slice ybp ybl ybc, .slice ylp yll ylc, .int .i64 ya, .int .i64 yr]] w fun e w' => e = .returned (.bool (xk == yk && xs == ys && (xo == yo && xd == yd) && xr == yr && v1 && v2 && v3)) ∧ Below w.heap.size w w' := by
  have h1 := eq_of2 xo yo xd yd
  have hsx := beq_cbs xs ys
  have hbb : Below w.heap.size w ((w.alloc (.cells #[.int .i64 xk, .string (cbs xs), .string (cbs xo), .int .i64 xd, .slice xep xel xec, .slice xbp xbl xbc, .slice xlp xll xlc, .int .i64 xa, .int .i64 xr] 38)).alloc (.cells #[.int .i64 yk, .string (cbs ys), .string (cbs yo), .int .i64 yd, .slice yep yel yec, .slice ybp ybl ybc, .slice ylp yll ylc, .int .i64 ya, .int .i64 yr] 38)) := ((Below.refl _ _).alloc (Nat.le_refl _) _).alloc (by rw [size_alloc]; omega) _
  obtain ⟨wa, hwa⟩ : ∃ wa, wa = (w.alloc (.cells #[.int .i64 xk, .string (cbs xs), .string (cbs xo), .int .i64 xd, .slice xep xel xec, .slice xbp xbl xbc, .slice xlp xll xlc, .int .i64 xa, .int .i64 xr] 38)).alloc (.cells #[.int .i64 yk, .string (cbs ys), .string (cbs yo), .int .i64 yd, .slice yep yel yec, .slice ybp ybl ybc, .slice ylp yll ylc, .int .i64 ya, .int .i64 yr] 38) := ⟨_, rfl⟩
  have hk1x : wa.heap[w.heap.size]? = some (.cells #[.int .i64 xk, .string (cbs xs), .string (cbs xo), .int .i64 xd, .slice xep xel xec, .slice xbp xbl xbc, .slice xlp xll xlc, .int .i64 xa, .int .i64 xr] 38 (0, 0)) := by rw [hwa]; exact alloc_box _ (heap_alloc_new w _)
  have hk1y : wa.heap[w.heap.size + 1]? = some (.cells #[.int .i64 yk, .string (cbs ys), .string (cbs yo), .int .i64 yd, .slice yep yel yec, .slice ybp ybl ybc, .slice ylp yll ylc, .int .i64 ya, .int .i64 yr] 38 (0, 0)) := by rw [hwa]; have := heap_alloc_new (w.alloc (.cells #[.int .i64 xk, .string (cbs xs), .string (cbs xo), .int .i64 xd, .slice xep xel xec, .slice xbp xbl xbc, .slice xlp xll xlc, .int .i64 xa, .int .i64 xr] 38)) (.cells #[.int .i64 yk, .string (cbs ys), .string (cbs yo), .int .i64 yd, .slice yep yel yec, .slice ybp ybl ybc, .slice ylp yll ylc, .int .i64 ya, .int .i64 yr] 38); rw [size_alloc] at this; exact this
  rw [← hwa] at hbb
  have HKX := Lib.hid hk1x
  have HKY := Lib.hid hk1y
  have HBB := Lib.hid hbb
  have HK1 := Lib.hid hk1
  have HK2 := Lib.hid hk2
  have HK3 := Lib.hid hk3
  clear hk1 hk2 hk3 hbb hk1x hk1y
  generalize (xo == yo && xd == yd) = g1 at h1 ⊢
  generalize (xs == ys) = g3 at hsx ⊢
  cases hc1 : (xk == yk) with
  | false =>
    go_enter Tryz.func14, Tryz.ntmps14
    go_wp2_with fail
    go_ret
    exact ⟨rfl, by rw [← hwa]; exact HBB.out⟩
  | true =>
    cases g3 with
    | false =>
      go_enter Tryz.func14, Tryz.ntmps14
      go_wp2_with fail
      go_ret
      exact ⟨rfl, by rw [← hwa]; exact HBB.out⟩
    | true =>
      cases g1 with
      | false =>
        go_enter Tryz.func14, Tryz.ntmps14
        go_wp2_with fail
        go_ret
        exact ⟨rfl, by rw [← hwa]; exact HBB.out⟩
      | true =>
        cases hc6 : (xr == yr) with
        | false =>
          go_enter Tryz.func14, Tryz.ntmps14
          go_wp2_with fail
          go_ret
          exact ⟨rfl, by rw [← hwa]; exact HBB.out⟩
        | true =>
          go_enter Tryz.func14, Tryz.ntmps14
          go_wp2_with fail
          rw [← hwa]
          clear hwa
          refine (HK1.out _ HBB.out).mono ?_
          rintro e w1 ⟨rfl, hb⟩
          have HB1 := Lib.hid (below_seq HBB.out hb HBB.out.size)
          have HX1 := Lib.hid ((hb.block _ (heap_lt' HKX.out)).trans HKX.out)
          have HY1 := Lib.hid ((hb.block _ (heap_lt' HKY.out)).trans HKY.out)
          clear hb
          cases v1 with
          | false =>
            go_wp2_with fail
            go_ret
            exact ⟨rfl, HB1.out⟩
          | true =>
            obtain ⟨⟨x0, x1, x2, x3, x4, x5, x6, x7, x8⟩, p0, p1, p2, p3, p4, p5, p6, p7, p8⟩ := nen (HX1.out)
            have hlx := heap_lt' (HX1.out)
            obtain ⟨⟨y0, y1, y2, y3, y4, y5, y6, y7, y8⟩, q0, q1, q2, q3, q4, q5, q6, q7, q8⟩ := nen (HY1.out)
            have hly := heap_lt' (HY1.out)
            go_wp2_with fail
            clear x0 x1 x2 x3 x4 x5 x6 x7 x8 y0 y1 y2 y3 y4 y5 y6 y7 y8 p0 p1 p2 p3 p4 p5 p6 p7 p8 q0 q1 q2 q3 q4 q5 q6 q7 q8 hlx hly
            refine (HK2.out _ HB1.out).mono ?_
            rintro e w2 ⟨rfl, hb⟩
            have HB2 := Lib.hid (below_seq HB1.out hb HB1.out.size)
            have HX2 := Lib.hid ((hb.block _ (heap_lt' HX1.out)).trans HX1.out)
            have HY2 := Lib.hid ((hb.block _ (heap_lt' HY1.out)).trans HY1.out)
            clear hb
            cases v2 with
            | false =>
              go_wp2_with fail
              go_ret
              exact ⟨rfl, HB2.out⟩
            | true =>
              obtain ⟨⟨x0, x1, x2, x3, x4, x5, x6, x7, x8⟩, p0, p1, p2, p3, p4, p5, p6, p7, p8⟩ := nen (HX2.out)
              have hlx := heap_lt' (HX2.out)
              obtain ⟨⟨y0, y1, y2, y3, y4, y5, y6, y7, y8⟩, q0, q1, q2, q3, q4, q5, q6, q7, q8⟩ := nen (HY2.out)
              have hly := heap_lt' (HY2.out)
              go_wp2_with fail
              clear x0 x1 x2 x3 x4 x5 x6 x7 x8 y0 y1 y2 y3 y4 y5 y6 y7 y8 p0 p1 p2 p3 p4 p5 p6 p7 p8 q0 q1 q2 q3 q4 q5 q6 q7 q8 hlx hly
              refine (HK3.out _ HB2.out).mono ?_
              rintro e w3 ⟨rfl, hb⟩
              have HB3 := Lib.hid (below_seq HB2.out hb HB2.out.size)
              have HX3 := Lib.hid ((hb.block _ (heap_lt' HX2.out)).trans HX2.out)
              have HY3 := Lib.hid ((hb.block _ (heap_lt' HY2.out)).trans HY2.out)
              clear hb
              go_wp2_with fail
              go_ret
              exact ⟨rfl, HB3.out⟩

theorem rssame_n : ∀ (n : Nat) (x y : Sm), SizeOf.sizeOf x ≤ n → fitM x = true → ∀ w, SSameOk 14 w x y := by
  intro n
  induction n with
  | zero => intro x y h; cases x; simp at h
  | succ n ih =>
    intro x y hs hf w w1 vs vs2 _ hi hi2
    obtain ⟨xk, xs, xo, xd, es, bs, ls, xa, xr⟩ := x
    obtain ⟨yk, ys, yo, yd, es2, bs2, ls2, ya, yr⟩ := y
    obtain ⟨p, c, q, d, r, f, rfl, he, hb, hl⟩ := hi.parts
    obtain ⟨p2, c2, q2, d2, r2, f2, rfl, he2, hb2, hl2⟩ := hi2.parts
    obtain ⟨f1, f3, f4, f5, f6, f7⟩ := fitM_out hf
    have k1 : ∀ w2, Below w1.heap.size w1 w2 → _ := fun w2 hw => sameExprs_any w2 es es2 p p2 c c2 (he.below hw) (he2.below hw) (by omega) (fun e hm e2 => rsame_n _ e e2 (Nat.le_refl _) (fitL_mem f1 hm) w2)
    have k2 : ∀ w2, Below w1.heap.size w1 w2 → _ := fun w2 hw => sameStmts_any w2 bs bs2 q q2 d d2 (hb.below hw) (hb2.below hw) (by omega) (fun e hm e2 => ih e e2 (by have := sizes_b hm xk xs xo xd es ls xa xr; omega) (fitML_mem f4 hm) w2)
    have k3 : ∀ w2, Below w1.heap.size w1 w2 → _ := fun w2 hw => sameStmts_any w2 ls ls2 r r2 f f2 (hl.below hw) (hl2.below hw) (by omega) (fun e hm e2 => ih e e2 (by have := sizes_l hm xk xs xo xd es bs xa xr; omega) (fitML_mem f6 hm) w2)
    have hst := rssame_step w1 xk xs xo xd p es.length c q bs.length d r ls.length f xa xr yk ys yo yd p2 es2.length c2 q2 bs2.length d2 r2 ls2.length f2 ya yr (sameL es es2) (sameML bs bs2) (sameML ls ls2) k1 k2 k3
    rw [sameM]
    exact hst
theorem rssame_any (w : World) (x y : Sm) {vs vs2 : List Value} {B B2 : Nat} (hi : SIs w B x vs) (hi2 : SIs w B2 y vs2) (hf : fitM x = true) :
    Calls Tryz.prog 14 #[.agg ⟨vs⟩, .agg ⟨vs2⟩] w fun e w' => e = .returned (.bool (sameM x y)) ∧ Below w.heap.size w w' :=
  rssame_n _ x y (Nat.le_refl _) hf w w vs vs2 (Below.refl _ _) (SIs.lower (Nat.zero_le _) _ hi) (SIs.lower (Nat.zero_le _) _ hi2)
end Go.Proofs.YtnnbdidefgghjaaGreatDoor
