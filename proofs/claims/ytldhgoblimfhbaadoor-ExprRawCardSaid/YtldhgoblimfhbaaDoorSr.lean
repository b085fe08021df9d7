/-
  The answer's SameExpr and SameExprs: their contracts; the law's own small.
-/
import Derived.Test.YtldhgoblimfhbaaDoorSn
import Derived.StillTailTactics
namespace Go.Proofs.YtldhgoblimfhbaaDoor
open Go.RowKit
open Px (RT tokAt)
open Pe

set_option maxRecDepth 8000 in
set_option maxHeartbeats 2000000 in
theorem rsame_step (w : World) (_B : Nat) (_x _y : Ex) (xk : Int) (xn : Int) (xs : List UInt8) (xo : List UInt8) (xd : Int) (xp : Option Addr) (xl : Nat) (xc : Nat) (xa : Int) (xb : Int) (xr : Int) (xe : Int) (xf : Int) (yk : Int) (yn : Int) (ys : List UInt8) (yo : List UInt8) (yd : Int) (yp : Option Addr) (yl : Nat) (yc : Nat) (ya : Int) (yb : Int) (yr : Int) (ye : Int) (yf : Int)
    (v : Bool) (hk : ∀ w1, Below w.heap.size w w1 → Calls Tryd.prog 30 #[.slice xp xl xc, .slice yp yl yc] w1 fun e w' => e = .returned (.bool v) ∧ Below w1.heap.size w1 w') :
    Calls Tryd.prog 16 #[.agg #[.int .i64 xk, .int .i64 xn, .string (cbs xs), .string (cbs xo), .int .i64 xd, .slice xp xl xc, .int .i64 xa, .int .i64 xb, .int .i64 xr, .int .i64 xe, .int .i64 xf], .agg #[.int .i64 yk, .int .i64 yn, .string (cbs ys), .string (cbs yo), .int .i64 yd, .slice yp yl yc, .int .i64 ya, .int .i64 yb, .int .i64 yr, .int .i64 ye, .int .i64 yf]] w fun e w' => e = .returned (.bool (xk == yk && xn == yn && xs == ys && (xo == yo && xd == yd) && (xb == yb && xr == yr && xe == ye) && xf == yf && v)) ∧ Below w.heap.size w w' := by
  have h1 := eq_of2 xo yo xd yd
  have h2 := eq_ty3 xb xr xe yb yr ye
  have hsx := beq_cbs xs ys
  have hbb : Below w.heap.size w ((w.alloc (.cells #[.int .i64 xk, .int .i64 xn, .string (cbs xs), .string (cbs xo), .int .i64 xd, .slice xp xl xc, .int .i64 xa, .int .i64 xb, .int .i64 xr, .int .i64 xe, .int .i64 xf] 39)).alloc (.cells #[.int .i64 yk, .int .i64 yn, .string (cbs ys), .string (cbs yo), .int .i64 yd, .slice yp yl yc, .int .i64 ya, .int .i64 yb, .int .i64 yr, .int .i64 ye, .int .i64 yf] 39)) := ((Below.refl _ _).alloc (Nat.le_refl _) _).alloc (by rw [size_alloc]; omega) _
  have HK := Lib.hid (hk _ hbb)
  have HBB := Lib.hid hbb
  clear hk hbb
  generalize (xo == yo && xd == yd) = g1 at h1 ⊢
  generalize (xb == yb && xr == yr && xe == ye) = g2 at h2 ⊢
  generalize (xs == ys) = g3 at hsx ⊢
  cases hc1 : (xk == yk) with
  | false =>
    go_enter Tryd.func16, Tryd.ntmps16
    go_wp2_with fail
    go_ret
    exact ⟨rfl, HBB.out⟩
  | true =>
    cases hc2 : (xn == yn) with
    | false =>
      go_enter Tryd.func16, Tryd.ntmps16
      go_wp2_with fail
      go_ret
      exact ⟨rfl, HBB.out⟩
    | true =>
      cases g3 with
      | false =>
        go_enter Tryd.func16, Tryd.ntmps16
        go_wp2_with fail
        go_ret
        exact ⟨rfl, HBB.out⟩
      | true =>
        cases g1 with
        | false =>
          go_enter Tryd.func16, Tryd.ntmps16
          go_wp2_with fail
          go_ret
          exact ⟨rfl, HBB.out⟩
        | true =>
          cases g2 with
          | false =>
            go_enter Tryd.func16, Tryd.ntmps16
            go_wp2_with fail
            go_ret
            exact ⟨rfl, HBB.out⟩
          | true =>
            cases hc6 : (xf == yf) with
            | false =>
              go_enter Tryd.func16, Tryd.ntmps16
              go_wp2_with fail
              go_ret
              exact ⟨rfl, HBB.out⟩
            | true =>
              go_enter Tryd.func16, Tryd.ntmps16
              go_wp2_with (go_at_call 30; refine (HK.out).mono ?_; rintro e w1 ⟨rfl, hb1⟩)
              go_ret
              exact ⟨rfl, below_seq HBB.out hb1 HBB.out.size⟩

set_option maxRecDepth 8000 in
set_option maxHeartbeats 4000000 in
theorem sameExprs_any (w : World) (ks ls : List Ex) (p q : Option Addr) (c d : Nat) (hp : KidsAt w 0 p ks) (hq : KidsAt w 0 q ls) (hl : ks.length ≤ 9223372036854775807) (hel : ∀ e ∈ ks, ∀ e2, SameOk 16 w e e2) :
    Calls Tryd.prog 30 #[.slice p ks.length c, .slice q ls.length d] w fun e w' => e = .returned (.bool (sameL ks ls)) ∧ Below w.heap.size w w' := by
  have HP := Lib.hid hp
  have HQ := Lib.hid hq
  have HEL := Lib.hid hel
  have HL := Lib.hid hl
  clear hp hq hel hl
  by_cases hlen : ks.length = ls.length
  · have hd0 : ((ks.length : Int) != (ls.length : Int)) = false := by rw [hlen]; exact bne_self_eq_false _
    have HLEN := Lib.hid hlen
    clear hlen
    go_enter Tryd.func30, Tryd.ntmps30
    go_wp2_with fail
    go_loopg [5] ks.length (fun n v wr => ∃ j : Nat, n + j = ks.length ∧ v = .int .i64 (j : Int) ∧ Below w.heap.size w wr ∧ sameL (ks.drop j) (ls.drop j) = sameL ks ls)
    case atStart => exact ⟨0, rfl, rfl, Below.refl _ _, rfl⟩
    case round =>
      obtain ⟨j, hj, rfl, hb, hs⟩ := hrel
      have HB := Lib.hid hb
      have HS := Lib.hid hs
      have HJ := Lib.hid hj
      clear hb hs hj
      cases gk with
      | zero =>
        obtain rfl : j = ks.length := by have := HJ.out; omega
        have hd1 : decide ((ks.length : Int) < (ks.length : Int)) = false := decide_eq_false (by omega)
        go_wp2_with fail
        go_ret
        refine ⟨cret_bool ?_, HB.out⟩
        rw [← HS.out, List.drop_of_length_le (Nat.le_refl _), List.drop_of_length_le (by rw [HLEN.out]; exact Nat.le_refl _), sameL]
      | succ m =>
        have hjl : j < ks.length := by have := HJ.out; omega
        have hjl2 : j < ls.length := by have := HLEN.out; omega
        have hd1 : decide ((j : Int) < (ks.length : Int)) = true := decide_eq_true (by omega)
        have hi1 : (j : Int) < (ks.length : Int) := by omega
        have hi2 : (j : Int) < (ls.length : Int) := by omega
        have hd2 : decide (ks.length ≤ j) = false := decide_eq_false (by omega)
        have hd3 : decide (ls.length ≤ j) = false := decide_eq_false (by omega)
        have hdw : wrap64 ((j : Int) + 1) = ((j + 1 : Nat) : Int) := by have := HL.out; simp [wrap64]; omega
        have he1 := List.getElem?_eq_getElem hjl
        have he2 := List.getElem?_eq_getElem hjl2
        have hd4 : ks.drop j = ks[j] :: ks.drop (j + 1) := List.drop_eq_getElem_cons hjl
        have hd5 : ls.drop j = ls[j] :: ls.drop (j + 1) := List.drop_eq_getElem_cons hjl2
        have HE := Lib.hid (HEL.out _ (List.getElem_mem hjl) (ls[j]))
        generalize ks[j] = e1 at he1 hd4 HE
        generalize ls[j] = e2 at he2 hd5 HE
        have HD4 := Lib.hid hd4
        have HD5 := Lib.hid hd5
        obtain ⟨bl, off, vs, rfl, hbl, hi, hc⟩ := (HP.out.below HB.out).get he1
        obtain ⟨bl2, off2, vs2, rfl, hbl2, hi', hc2⟩ := (HQ.out.below HB.out).get he2
        obtain ⟨xk, xn, xs, xo, xd, xp, xl, xc, xa, xb, xr, xe, xf, rfl⟩ := hi.out
        obtain ⟨yk, yn, ys, yo, yd, yp, yl, yc, ya, yb, yr, ye, yf, rfl⟩ := hi'.out
        obtain ⟨x0, x1, x2, x3, x4, x5, x6, x7, x8, x9, xX⟩ := eleven_of hc
        obtain ⟨y0, y1, y2, y3, y4, y5, y6, y7, y8, y9, yX⟩ := eleven_of hc2
        have HI := Lib.hid hi
        have HI2 := Lib.hid hi'
        clear hc hc2 hi hi' he1 he2 hd4 hd5
        have hne1 : bl ≠ wr.heap.size := Nat.ne_of_lt hbl
        have hne2 : bl2 ≠ wr.heap.size := Nat.ne_of_lt hbl2
        have hi3 : (0 : Int) ≤ (j : Int) := by omega
        go_wp2_with fail
        refine wp_region_still_tail 8 (by kernel_rfl) (by kernel_rfl) ?_
        simp only [List.take_succ_cons, List.take_zero, List.drop_succ_cons, List.drop_zero]
        change wpStill _ _ wr.drew _ _ _
        repeat still_step
        refine wpStill_nil ?_
        change wpList _ _ _ _ _ wr.drew
        have HBD : Hid (Below w.heap.size w wr.drew) := HB.out.drew
        go_wp2_with fail
        refine (HE.out _ _ _ HBD.out (HI.out.below (Below.refl _ _).drew) (HI2.out.below (Below.refl _ _).drew)).mono ?_
        rintro e w2 ⟨rfl, hb3⟩
        have HB2 := Lib.hid (below_seq HBD.out hb3 HBD.out.size)
        clear hb3
        cases hse : sameE e1 e2 with
        | false =>
          have HSE := Lib.hid hse
          try rw [hse]
          clear hse
          go_wp2_with fail
          go_ret
          refine ⟨cret_bool ?_, HB2.out⟩
          rw [← HS.out, HD4.out, HD5.out, sameL, HSE.out, Bool.false_and]
        | true =>
          have HSE := Lib.hid hse
          try rw [hse]
          clear hse
          go_wp2_with fail
          go_roundg m
          case measure => omega
          case rel => exact ⟨j + 1, by have := HJ.out; omega, by first | rfl | simp [hdw], HB2.out, by rw [← HS.out, HD4.out, HD5.out, sameL, HSE.out, Bool.true_and]⟩
  · have hd0 : ((ks.length : Int) != (ls.length : Int)) = true := bne_iff_ne.2 (by omega)
    rw [sameL_len _ _ hlen]
    clear hlen
    go_enter Tryd.func30, Tryd.ntmps30
    go_wp2_with fail
    go_ret
    exact ⟨rfl, Below.refl _ _⟩

theorem rsame_n : ∀ (n : Nat) (x y : Ex), SizeOf.sizeOf x ≤ n → fitE x = true → ∀ w, SameOk 16 w x y := by
  intro n
  induction n with
  | zero => intro x y h; cases x; simp at h
  | succ n ih =>
    intro x y hs hf w w1 vs vs2 _ hi hi2
    obtain ⟨xk, xn, xs, xo, xd, ks, xa, xb, xr, xe, xf⟩ := x
    obtain ⟨yk, yn, ys, yo, yd, ls, ya, yb, yr, ye, yf⟩ := y
    obtain ⟨p, c, rfl, hp⟩ := hi.kids
    obtain ⟨q, d, rfl, hq⟩ := hi2.kids
    rw [fitE, Bool.and_eq_true] at hf
    have hk : ∀ w2, Below w1.heap.size w1 w2 → _ := fun w2 hb => sameExprs_any w2 ks ls p q c d (hp.below hb) (hq.below hb) (of_decide_eq_true hf.1) (fun e he e2 => ih e e2 (by have := sizes_kid he xk xn xs xo xd xa xb xr xe xf; omega) (fitL_mem hf.2 he) w2)
    have hst := rsame_step w1 0 (.mk xk xn xs xo xd ks xa xb xr xe xf) (.mk yk yn ys yo yd ls ya yb yr ye yf) xk xn xs xo xd p ks.length c xa xb xr xe xf yk yn ys yo yd q ls.length d ya yb yr ye yf (sameL ks ls) hk
    rw [sameE]
    exact hst
theorem rsame_any (w : World) (x y : Ex) {vs vs2 : List Value} {B B2 : Nat} (hi : Is w B x vs) (hi2 : Is w B2 y vs2) (hf : fitE x = true) :
    Calls Tryd.prog 16 #[.agg ⟨vs⟩, .agg ⟨vs2⟩] w fun e w' => e = .returned (.bool (sameE x y)) ∧ Below w.heap.size w w' :=
  rsame_n _ x y (Nat.le_refl _) hf w w vs vs2 (Below.refl _ _) (Is.lower (Nat.zero_le _) _ hi) (Is.lower (Nat.zero_le _) _ hi2)

/-- What small owes: a number between nought and what it was handed. -/
def SmallOk (w : World) (e : Ex) : Prop := ∀ (w1 : World) (vs : List Value) (n : Int), Below w.heap.size w w1 → Is w1 0 e vs → 0 < n → n ≤ 300 → Calls Tryd.prog 17 #[.agg ⟨vs⟩, .int .i64 n] w1 fun en w' => (∃ m : Int, 0 ≤ m ∧ m ≤ n ∧ en = .returned (.int .i64 m)) ∧ Below w1.heap.size w1 w'

set_option maxRecDepth 8000 in
set_option maxHeartbeats 4000000 in
theorem small_step (w : World) (ks : List Ex) (p : Option Addr) (c : Nat) (xk : Int) (xn : Int) (xs : List UInt8) (xo : List UInt8) (xd : Int) (xa : Int) (xb : Int) (xr : Int) (xe : Int) (xf : Int) (n : Int) (hn : 0 < n) (hn2 : n ≤ 300) (hp : KidsAt w 0 p ks) (hl : ks.length ≤ 9223372036854775807) (hel : ∀ e ∈ ks, SmallOk w e) :
    Calls Tryd.prog 17 #[.agg #[.int .i64 xk, .int .i64 xn, .string (cbs xs), .string (cbs xo), .int .i64 xd, .slice p ks.length c, .int .i64 xa, .int .i64 xb, .int .i64 xr, .int .i64 xe, .int .i64 xf], .int .i64 n] w fun en w' => (∃ m : Int, 0 ≤ m ∧ m ≤ n ∧ en = .returned (.int .i64 m)) ∧ Below w.heap.size w w' := by
  have hdn : wrap64 (n - 1) = n - 1 := by simp [wrap64]; omega
  have HP := Lib.hid hp
  have HEL := Lib.hid hel
  have HL := Lib.hid hl
  have HN := Lib.hid hn
  have HN2 := Lib.hid hn2
  clear hp hel hl
  obtain ⟨ob, hob⟩ : ∃ ob : Obj, ob = .cells #[.int .i64 xk, .int .i64 xn, .string (cbs xs), .string (cbs xo), .int .i64 xd, .slice p ks.length c, .int .i64 xa, .int .i64 xb, .int .i64 xr, .int .i64 xe, .int .i64 xf] 39 := ⟨_, rfl⟩
  have HB0 := Lib.hid ((Below.refl w.heap.size w).alloc (Nat.le_refl _) ob)
  have HK0 := Lib.hid (heap_alloc_new w ob)
  rw [hob] at HB0 HK0
  go_enter Tryd.func17, Tryd.ntmps17
  go_wp2_with fail
  go_loopg [1, 5] ks.length (fun r nv iv wr => ∃ (j : Nat) (m : Int), r + j = ks.length ∧ iv = .int .i64 (j : Int) ∧ nv = .int .i64 m ∧ 0 ≤ m ∧ m ≤ n ∧ Below w.heap.size w wr ∧ wr.heap[w.heap.size]? = some (.cells #[.int .i64 xk, .int .i64 xn, .string (cbs xs), .string (cbs xo), .int .i64 xd, .slice p ks.length c, .int .i64 xa, .int .i64 xb, .int .i64 xr, .int .i64 xe, .int .i64 xf] 39 (0, 0)))
  case atStart => exact ⟨0, n - 1, rfl, rfl, by first | rfl | rw [hdn], by have := HN.out; omega, by omega, HB0.out, HK0.out⟩
  case round =>
    obtain ⟨j, m, hj, rfl, rfl, hm0, hm1, hb, hk⟩ := hrel
    have HB := Lib.hid hb
    have HK := Lib.hid hk
    have HJ := Lib.hid hj
    have HM0 := Lib.hid hm0
    have HM1 := Lib.hid hm1
    obtain ⟨⟨z0, z1, z2, z3, z4, z5, z6, z7, z8, z9, zX⟩, -⟩ := hen hk
    clear hb hk hj hm0 hm1 z0 z1 z2 z3 z4 z6 z7 z8 z9 zX
    cases gk with
    | zero =>
      obtain rfl : j = ks.length := by have := HJ.out; omega
      have hd1 : decide ((ks.length : Int) < (ks.length : Int)) = false := decide_eq_false (by omega)
      go_wp2_with fail
      go_ret
      exact ⟨⟨m, HM0.out, HM1.out, rfl⟩, HB.out⟩
    | succ rr =>
      have hjl : j < ks.length := by have := HJ.out; omega
      have hd1 : decide ((j : Int) < (ks.length : Int)) = true := decide_eq_true (by omega)
      by_cases hm : 0 < m
      · have hd2 : decide ((0 : Int) < m) = true := decide_eq_true hm
        have hi1 : (j : Int) < (ks.length : Int) := by omega
        have hd3 : decide (ks.length ≤ j) = false := decide_eq_false (by omega)
        have hdw : wrap64 ((j : Int) + 1) = ((j + 1 : Nat) : Int) := by have := HL.out; simp [wrap64]; omega
        have he1 := List.getElem?_eq_getElem hjl
        have HE := Lib.hid (HEL.out _ (List.getElem_mem hjl))
        generalize ks[j] = e1 at he1 HE
        obtain ⟨bl, off, vs, rfl, hbl, hi, hc⟩ := (HP.out.below HB.out).get he1
        obtain ⟨yk, yn, ys, yo, yd, yp, yl, yc, ya, yb, yr, ye, yf, rfl⟩ := hi.out
        obtain ⟨y0, y1, y2, y3, y4, y5, y6, y7, y8, y9, yX⟩ := eleven_of hc
        have HI := Lib.hid hi
        have HM := Lib.hid hm
        clear hc hi he1 hm
        go_wp2_with fail
        refine (HE.out _ _ m HB.out HI.out HM.out (by have := HM1.out; have := HN2.out; omega)).mono ?_
        rintro e w2 ⟨⟨m2, hm2, hm3, rfl⟩, hb2⟩
        have HB2 := Lib.hid (below_seq HB.out hb2 HB.out.size)
        have HK2 := Lib.hid ((hb2.block _ (heap_lt' HK.out)).trans HK.out)
        have H2 := Lib.hid hm2
        have H3 := Lib.hid hm3
        clear hb2 hm2 hm3
        go_wp2_with fail
        go_roundg rr
        case measure => omega
        case rel => exact ⟨j + 1, m2, by have := HJ.out; omega, by first | rfl | simp [hdw], rfl, H2.out, by have := H3.out; have := HM1.out; omega, HB2.out, HK2.out⟩
      · have hd2 : decide ((0 : Int) < m) = false := decide_eq_false hm
        clear hm
        go_wp2_with fail
        go_ret
        exact ⟨⟨m, HM0.out, HM1.out, rfl⟩, HB.out⟩
theorem small_n : ∀ (n : Nat) (x : Ex), SizeOf.sizeOf x ≤ n → fitE x = true → ∀ w, SmallOk w x := by
  intro n
  induction n with
  | zero => intro x h; cases x; simp at h
  | succ n ih =>
    intro x hs hf w w1 vs k _ hi hk1 hk2
    obtain ⟨xk, xn, xs, xo, xd, ks, xa, xb, xr, xe, xf⟩ := x
    obtain ⟨p, c, rfl, hp⟩ := hi.kids
    rw [fitE, Bool.and_eq_true] at hf
    exact small_step w1 ks p c xk xn xs xo xd xa xb xr xe xf k hk1 hk2 hp (of_decide_eq_true hf.1) (fun e he => ih e (by have := sizes_kid he xk xn xs xo xd xa xb xr xe xf; omega) (fitL_mem hf.2 he) w1)
theorem small_any (w : World) (x : Ex) {vs : List Value} {B : Nat} (n : Int) (hn : 0 < n) (hn2 : n ≤ 300) (hi : Is w B x vs) (hf : fitE x = true) :
    Calls Tryd.prog 17 #[.agg ⟨vs⟩, .int .i64 n] w fun en w' => (∃ m : Int, 0 ≤ m ∧ m ≤ n ∧ en = .returned (.int .i64 m)) ∧ Below w.heap.size w w' :=
  small_n _ x (Nat.le_refl _) hf w w vs n (Below.refl _ _) (Is.lower (Nat.zero_le _) _ hi) hn hn2
end Go.Proofs.YtldhgoblimfhbaaDoor
