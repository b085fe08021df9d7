/-
  What is read has no list that is too long.
  The answer's SameExpr and SameExprs: their contracts.
-/
import Derived.Test.YtnadaedibicaaaaDoorSe
import Derived.Test.YtnadaedibicaaaaDoorSn
import Derived.StillTailTactics
namespace Go.Proofs.YtnadaedibicaaaaDoor
namespace Sim
open Go.RowKit
open Px (RT tokAt isT)
open Pe (Ex)
open Qe (Q)

theorem fit_of {kind num : Int} {name ofn : List UInt8} {dims : Int} {kids : List Ex} {at_ : Int} (h : fitL kids = true) (hl : kids.length ≤ 9000000000) : fitE (Ex.of kind num name ofn dims kids at_) = true := by
  rw [Ex.of, fitE, h, Bool.and_true]
  exact decide_eq_true (by omega)
theorem fit_nil : fitL [] = true := by rw [fitL]
theorem fit_one {e : Ex} (h : fitE e = true) : fitL [e] = true := by rw [fitL, h, fit_nil]; rfl
theorem fit_two {e e2 : Ex} (h : fitE e = true) (h2 : fitE e2 = true) : fitL [e, e2] = true := by rw [fitL, h, fit_one h2]; rfl
theorem fit_snoc : ∀ {l : List Ex} {e : Ex}, fitL l = true → fitE e = true → fitL (l ++ [e]) = true
  | [], e, _, h => fit_one h
  | x :: l, e, hl, h => by
    rw [fitL, Bool.and_eq_true] at hl
    rw [List.cons_append, fitL, hl.1, fit_snoc hl.2 h]; rfl
theorem fit1 {kind num : Int} {name ofn : List UInt8} {dims at_ : Int} {e : Ex} (h : fitE e = true) : fitE (Ex.of kind num name ofn dims [e] at_) = true := fit_of (fit_one h) (by show 1 ≤ 9000000000; decide)
theorem fit2 {kind num : Int} {name ofn : List UInt8} {dims at_ : Int} {e e2 : Ex} (h : fitE e = true) (h2 : fitE e2 = true) : fitE (Ex.of kind num name ofn dims [e, e2] at_) = true := fit_of (fit_two h h2) (by show 2 ≤ 9000000000; decide)
theorem fit0 {kind num : Int} {name ofn : List UInt8} {dims at_ : Int} : fitE (Ex.of kind num name ofn dims [] at_) = true := fit_of fit_nil (Nat.zero_le _)
def RF (recQ : Nat → Q → Qe.Out) : Prop := ∀ n q x, recQ n q = some x → fitE x.1 = true

theorem fit_argLoop {ts : List RT} {recQ : Nat → Q → Qe.Out} (hr : RF recQ) : ∀ (g : Nat) {l : List Ex} {q : Q} {x : List Ex × Q}, fitL l = true → Qe.argLoop ts recQ g l q = some x → fitL x.1 = true ∧ x.1.length ≤ l.length + g
  | 0, _, _, _, _, h => by rw [Qe.argLoop] at h; cases h
  | g + 1, l, q, x, hl, h => by
    rw [Qe.argLoop] at h
    split at h
    · split at h
      · cases h
      · rename_i e s2 he
        obtain ⟨a, b⟩ := fit_argLoop hr g (fit_snoc hl (hr _ _ _ he)) h
        refine ⟨a, ?_⟩
        rw [List.length_append, List.length_singleton] at b
        omega
    · injection h with h
      subst h
      exact ⟨hl, Nat.le_add_right _ _⟩
theorem fit_args {ts : List RT} {recQ : Nat → Q → Qe.Out} (hr : RF recQ) {g : Nat} {q : Q} {x : List Ex × Q} (h : Qe.args ts recQ g q = some x) : fitL x.1 = true ∧ x.1.length ≤ 1 + g := by
  unfold Qe.args at h
  split at h
  · injection h with h
    subst h
    exact ⟨fit_nil, Nat.zero_le _⟩
  · split at h
    · cases h
    · rename_i e s2 he
      split at h
      · cases h
      · rename_i l s3 hl
        injection h with h
        subst h
        exact fit_argLoop hr g (x := (l, s3)) (fit_one (hr _ _ (e, s2) he)) hl
theorem fit_inner {ts : List RT} {recQ : Nat → Q → Qe.Out} (hr : RF recQ) {q : Q} {x : Ex × Q} (h : Qe.inner ts recQ q = some x) : fitE x.1 = true := by
  unfold Qe.inner at h
  split at h
  · cases h
  · rename_i e s2 he
    injection h with h
    subst h
    exact hr _ _ (e, s2) he
theorem fit_fresh {ts : List RT} {recQ : Nat → Q → Qe.Out} (hr : RF recQ) {q : Q} {a : Int} {x : Ex × Q} (h : Qe.fresh ts recQ q a = some x) : fitE x.1 = true := by
  unfold Qe.fresh at h
  split at h
  · dsimp only at h
    split at h
    · cases h
    · rename_i e s2 he
      injection h with h
      subst h
      exact fit1 (fit_inner hr (x := (e, s2)) he)
  · injection h with h
    subst h
    exact fit0
theorem fit_first {ts : List RT} {recQ : Nat → Q → Qe.Out} (hr : RF recQ) {g : Nat} (hg : g ≤ 8999999999) {q : Q} {x : Ex × Q} (h : Qe.first ts recQ g q = some x) : fitE x.1 = true := by
  dsimp only [Qe.first] at h
  repeat' split at h
  all_goals first
    | (cases h; done)
    | exact fit_fresh hr h
    | exact fit_inner hr h
    | (injection h with h; subst h; exact fit0)
    | (rename_i e s2 he; injection h with h; subst h; exact fit1 (fit_inner hr (x := (e, s2)) he))
    | (rename_i l s2 he; injection h with h; subst h; have ha := fit_args hr (x := (l, s2)) he; exact fit_of ha.1 (by have := ha.2; dsimp only at this; omega))
theorem fit_behind {ts : List RT} {recQ : Nat → Q → Qe.Out} (hr : RF recQ) : ∀ (g : Nat) {e : Ex} {q : Q} {x : Ex × Q}, fitE e = true → Qe.behind ts recQ g e q = some x → fitE x.1 = true
  | 0, _, _, _, _, h => by rw [Qe.behind] at h; cases h
  | g + 1, e, q, x, he, h => by
    rw [Qe.behind] at h
    split at h
    · exact fit_behind hr g (fit1 he) h
    · split at h
      · split at h
        · cases h
        · rename_i i s2 hi
          exact fit_behind hr g (fit2 he (hr _ _ (i, s2) hi)) h
      · injection h with h
        subst h
        exact he
theorem fit_pre {ts : List RT} {recQ : Nat → Q → Qe.Out} (hr : RF recQ) {q : Q} {t : List UInt8} {kind : Int} {x : Ex × Q} (h : Qe.prefixed ts recQ q t kind = some x) : fitE x.1 = true := by
  unfold Qe.prefixed at h
  split at h
  · cases h
  · rename_i e s2 he
    injection h with h
    subst h
    exact fit1 (hr _ _ (e, s2) he)
theorem fit_unary {ts : List RT} {recQ : Nat → Q → Qe.Out} (hr : RF recQ) {g : Nat} (hg : g ≤ 8999999999) {q : Q} {x : Ex × Q} (h : Qe.unary ts recQ g q = some x) : fitE x.1 = true := by
  unfold Qe.unary at h
  split at h
  · exact fit_pre hr h
  · split at h
    · exact fit_pre hr h
    · split at h
      · cases h
      · rename_i e s2 he
        exact fit_behind hr g (fit_first hr hg (x := (e, s2)) he) h
theorem fit_bin {ts : List RT} {recQ : Nat → Q → Qe.Out} (hr : RF recQ) (n : Nat) : ∀ (g : Nat) {e : Ex} {q : Q} {x : Ex × Q}, fitE e = true → Qe.binLoop ts recQ n g e q = some x → fitE x.1 = true
  | 0, _, _, _, _, h => by rw [Qe.binLoop] at h; cases h
  | g + 1, e, q, x, he, h => by
    rw [Qe.binLoop] at h
    split at h
    · injection h with h
      subst h
      exact he
    · split at h
      · cases h
      · rename_i r s2 hrr
        exact fit_bin hr n g (fit2 he (hr _ _ (r, s2) hrr)) h
theorem fit_run (ts : List RT) : ∀ (f : Nat), f ≤ 8999999999 → RF (Qe.run ts f)
  | 0, _ => fun n q x h => by cases h
  | f + 1, hf => fun n q x h => by
    have hr := fit_run ts f (by omega)
    rw [qrun] at h
    split at h
    · exact fit_unary hr (by omega) h
    · split at h
      · cases h
      · rename_i l s1 hl
        exact fit_bin hr n f (hr _ _ (l, s1) hl) h
theorem fit_expr {ts : List RT} (hl : ts.length ≤ 800000000) {k o : Int} {x : Ex × Int × Int × Int} (h : Qe.expr ts (enough ts) k o = some x) : fitE x.1 = true := by
  unfold Qe.expr at h
  split at h
  · cases h
  · rename_i e s he
    injection h with h
    subst h
    unfold Qe.exEnd
    split
    · exact fit_run ts _ (by unfold enough; omega) _ _ (e, s) he
    · exact fit0
end Sim
end Go.Proofs.YtnadaedibicaaaaDoor
namespace Go.Proofs.YtnadaedibicaaaaDoor
open Go.RowKit
open Px (RT tokAt)
open Pe

set_option maxRecDepth 8000 in
set_option maxHeartbeats 2000000 in
theorem rsame_step (w : World) (_B : Nat) (_x _y : Ex) (xk : Int) (xn : Int) (xs : List UInt8) (xo : List UInt8) (xd : Int) (xp : Option Addr) (xl : Nat) (xc : Nat) (xa : Int) (xb : Int) (xr : Int) (xe : Int) (xf : Int) (yk : Int) (yn : Int) (ys : List UInt8) (yo : List UInt8) (yd : Int) (yp : Option Addr) (yl : Nat) (yc : Nat) (ya : Int) (yb : Int) (yr : Int) (ye : Int) (yf : Int)
    (v : Bool) (hk : ∀ w1, Below w.heap.size w w1 → Calls Tryd.prog 27 #[.slice xp xl xc, .slice yp yl yc] w1 fun e w' => e = .returned (.bool v) ∧ Below w1.heap.size w1 w') :
    Calls Tryd.prog 15 #[.agg #[.int .i64 xk, .int .i64 xn, .string (cbs xs), .string (cbs xo), .int .i64 xd, .slice xp xl xc, .int .i64 xa, .int .i64 xb, .int .i64 xr, .int .i64 xe, .int .i64 xf], .agg #[.int .i64 yk, .int .i64 yn, .string (cbs ys), .string (cbs yo), .int .i64 yd, .slice yp yl yc, .int .i64 ya, .int .i64 yb, .int .i64 yr, .int .i64 ye, .int .i64 yf]] w fun e w' => e = .returned (.bool (xk == yk && xn == yn && xs == ys && (xo == yo && xd == yd) && (xb == yb && xr == yr && xe == ye) && xf == yf && v)) ∧ Below w.heap.size w w' := by
  have h1 := eq_of2 xo yo xd yd
  have h2 := eq_ty3 xb xr xe yb yr ye
  have hsx := beq_cbs xs ys
  have hbb : Below w.heap.size w ((w.alloc (.cells #[.int .i64 xk, .int .i64 xn, .string (cbs xs), .string (cbs xo), .int .i64 xd, .slice xp xl xc, .int .i64 xa, .int .i64 xb, .int .i64 xr, .int .i64 xe, .int .i64 xf] 39)).alloc (.cells #[.int .i64 yk, .int .i64 yn, .string (cbs ys), .string (cbs yo), .int .i64 yd, .slice yp yl yc, .int .i64 ya, .int .i64 yb, .int .i64 yr, .int .i64 ye, .int .i64 yf] 39)) := ((Below.refl _ _).alloc (Nat.le_refl _) _).alloc (by rw [size_alloc]; omega) _
  have HK := Lib.hid (hk _ hbb)
  have HBB := Lib.hid hbb
  clear hk hbb
  generalize (xo == yo && xd == yd) = g1 at h1 ⊢
  generalize (xb == yb && xr == yr && xe == ye) = g2 at h2 ⊢
  generalize (xs == ys) = g3 at hsx ⊢
  cases hc1 : (xk == yk) with
  | false =>
    go_enter Tryd.func15, Tryd.ntmps15
    go_wp2_with fail
    go_ret
    exact ⟨rfl, HBB.out⟩
  | true =>
    cases hc2 : (xn == yn) with
    | false =>
      go_enter Tryd.func15, Tryd.ntmps15
      go_wp2_with fail
      go_ret
      exact ⟨rfl, HBB.out⟩
    | true =>
      cases g3 with
      | false =>
        go_enter Tryd.func15, Tryd.ntmps15
        go_wp2_with fail
        go_ret
        exact ⟨rfl, HBB.out⟩
      | true =>
        cases g1 with
        | false =>
          go_enter Tryd.func15, Tryd.ntmps15
          go_wp2_with fail
          go_ret
          exact ⟨rfl, HBB.out⟩
        | true =>
          cases g2 with
          | false =>
            go_enter Tryd.func15, Tryd.ntmps15
            go_wp2_with fail
            go_ret
            exact ⟨rfl, HBB.out⟩
          | true =>
            cases hc6 : (xf == yf) with
            | false =>
              go_enter Tryd.func15, Tryd.ntmps15
              go_wp2_with fail
              go_ret
              exact ⟨rfl, HBB.out⟩
            | true =>
              go_enter Tryd.func15, Tryd.ntmps15
              go_wp2_with (go_at_call 27; refine (HK.out).mono ?_; rintro e w1 ⟨rfl, hb1⟩)
              go_ret
              exact ⟨rfl, below_seq HBB.out hb1 HBB.out.size⟩

set_option maxRecDepth 8000 in
set_option maxHeartbeats 4000000 in
theorem sameExprs_any (w : World) (ks ls : List Ex) (p q : Option Addr) (c d : Nat) (hp : KidsAt w 0 p ks) (hq : KidsAt w 0 q ls) (hl : ks.length ≤ 9223372036854775807) (hel : ∀ e ∈ ks, ∀ e2, SameOk 15 w e e2) :
    Calls Tryd.prog 27 #[.slice p ks.length c, .slice q ls.length d] w fun e w' => e = .returned (.bool (sameL ks ls)) ∧ Below w.heap.size w w' := by
  have HP := Lib.hid hp
  have HQ := Lib.hid hq
  have HEL := Lib.hid hel
  have HL := Lib.hid hl
  clear hp hq hel hl
  by_cases hlen : ks.length = ls.length
  · have hd0 : ((ks.length : Int) != (ls.length : Int)) = false := by rw [hlen]; exact bne_self_eq_false _
    have HLEN := Lib.hid hlen
    clear hlen
    go_enter Tryd.func27, Tryd.ntmps27
    go_wp2_with fail
    go_loopg [5] ks.length (fun n v wr => ∃ j : Nat, n + j = ks.length ∧ v = .int .i64 (j : Int) ∧ Below w.heap.size w wr ∧ sameL (ks.drop j) (ls.drop j) = sameL ks ls)
    case atStart => exact ⟨0, rfl, rfl, Below.refl _ _, rfl⟩
    case round =>
      obtain ⟨j, hj, rfl, hb, hs⟩ := hrel
      have HB := Lib.hid hb
      have HS := Lib.hid hs
      have HJ := Lib.hid hj
      clear hb hs hj
      cases gk with
      | zero =>
        obtain rfl : j = ks.length := by have := HJ.out; omega
        have hd1 : decide ((ks.length : Int) < (ks.length : Int)) = false := decide_eq_false (by omega)
        go_wp2_with fail
        go_ret
        refine ⟨cret_bool ?_, HB.out⟩
        rw [← HS.out, List.drop_of_length_le (Nat.le_refl _), List.drop_of_length_le (by rw [HLEN.out]; exact Nat.le_refl _), sameL]
      | succ m =>
        have hjl : j < ks.length := by have := HJ.out; omega
        have hjl2 : j < ls.length := by have := HLEN.out; omega
        have hd1 : decide ((j : Int) < (ks.length : Int)) = true := decide_eq_true (by omega)
        have hi1 : (j : Int) < (ks.length : Int) := by omega
        have hi2 : (j : Int) < (ls.length : Int) := by omega
        have hd2 : decide (ks.length ≤ j) = false := decide_eq_false (by omega)
        have hd3 : decide (ls.length ≤ j) = false := decide_eq_false (by omega)
        have hdw : wrap64 ((j : Int) + 1) = ((j + 1 : Nat) : Int) := by have := HL.out; simp [wrap64]; omega
        have he1 := List.getElem?_eq_getElem hjl
        have he2 := List.getElem?_eq_getElem hjl2
        have hd4 : ks.drop j = ks[j] :: ks.drop (j + 1) := List.drop_eq_getElem_cons hjl
        have hd5 : ls.drop j = ls[j] :: ls.drop (j + 1) := List.drop_eq_getElem_cons hjl2
        have HE := Lib.hid (HEL.out _ (List.getElem_mem hjl) (ls[j]))
        generalize ks[j] = e1 at he1 hd4 HE
        generalize ls[j] = e2 at he2 hd5 HE
        have HD4 := Lib.hid hd4
        have HD5 := Lib.hid hd5
        obtain ⟨bl, off, vs, rfl, hbl, hi, hc⟩ := (HP.out.below HB.out).get he1
        obtain ⟨bl2, off2, vs2, rfl, hbl2, hi', hc2⟩ := (HQ.out.below HB.out).get he2
        obtain ⟨xk, xn, xs, xo, xd, xp, xl, xc, xa, xb, xr, xe, xf, rfl⟩ := hi.out
        obtain ⟨yk, yn, ys, yo, yd, yp, yl, yc, ya, yb, yr, ye, yf, rfl⟩ := hi'.out
        obtain ⟨x0, x1, x2, x3, x4, x5, x6, x7, x8, x9, xX⟩ := eleven_of hc
        obtain ⟨y0, y1, y2, y3, y4, y5, y6, y7, y8, y9, yX⟩ := eleven_of hc2
        have HI := Lib.hid hi
        have HI2 := Lib.hid hi'
        clear hc hc2 hi hi' he1 he2 hd4 hd5
        have hne1 : bl ≠ wr.heap.size := Nat.ne_of_lt hbl
        have hne2 : bl2 ≠ wr.heap.size := Nat.ne_of_lt hbl2
        have hi3 : (0 : Int) ≤ (j : Int) := by omega
        go_wp2_with fail
        refine wp_region_still_tail 8 (by kernel_rfl) (by kernel_rfl) ?_
        simp only [List.take_succ_cons, List.take_zero, List.drop_succ_cons, List.drop_zero]
        change wpStill _ _ wr.drew _ _ _
        repeat still_step
        refine wpStill_nil ?_
        change wpList _ _ _ _ _ wr.drew
        have HBD : Hid (Below w.heap.size w wr.drew) := HB.out.drew
        go_wp2_with fail
        refine (HE.out _ _ _ HBD.out (HI.out.below (Below.refl _ _).drew) (HI2.out.below (Below.refl _ _).drew)).mono ?_
        rintro e w2 ⟨rfl, hb3⟩
        have HB2 := Lib.hid (below_seq HBD.out hb3 HBD.out.size)
        clear hb3
        cases hse : sameE e1 e2 with
        | false =>
          have HSE := Lib.hid hse
          try rw [hse]
          clear hse
          go_wp2_with fail
          go_ret
          refine ⟨cret_bool ?_, HB2.out⟩
          rw [← HS.out, HD4.out, HD5.out, sameL, HSE.out, Bool.false_and]
        | true =>
          have HSE := Lib.hid hse
          try rw [hse]
          clear hse
          go_wp2_with fail
          go_roundg m
          case measure => omega
          case rel => exact ⟨j + 1, by have := HJ.out; omega, by first | rfl | simp [hdw], HB2.out, by rw [← HS.out, HD4.out, HD5.out, sameL, HSE.out, Bool.true_and]⟩
  · have hd0 : ((ks.length : Int) != (ls.length : Int)) = true := bne_iff_ne.2 (by omega)
    rw [sameL_len _ _ hlen]
    clear hlen
    go_enter Tryd.func27, Tryd.ntmps27
    go_wp2_with fail
    go_ret
    exact ⟨rfl, Below.refl _ _⟩

theorem rsame_n : ∀ (n : Nat) (x y : Ex), SizeOf.sizeOf x ≤ n → fitE x = true → ∀ w, SameOk 15 w x y := by
  intro n
  induction n with
  | zero => intro x y h; cases x; simp at h
  | succ n ih =>
    intro x y hs hf w w1 vs vs2 _ hi hi2
    obtain ⟨xk, xn, xs, xo, xd, ks, xa, xb, xr, xe, xf⟩ := x
    obtain ⟨yk, yn, ys, yo, yd, ls, ya, yb, yr, ye, yf⟩ := y
    obtain ⟨p, c, rfl, hp⟩ := hi.kids
    obtain ⟨q, d, rfl, hq⟩ := hi2.kids
    rw [fitE, Bool.and_eq_true] at hf
    have hk : ∀ w2, Below w1.heap.size w1 w2 → _ := fun w2 hb => sameExprs_any w2 ks ls p q c d (hp.below hb) (hq.below hb) (of_decide_eq_true hf.1) (fun e he e2 => ih e e2 (by have := sizes_kid he xk xn xs xo xd xa xb xr xe xf; omega) (fitL_mem hf.2 he) w2)
    have hst := rsame_step w1 0 (.mk xk xn xs xo xd ks xa xb xr xe xf) (.mk yk yn ys yo yd ls ya yb yr ye yf) xk xn xs xo xd p ks.length c xa xb xr xe xf yk yn ys yo yd q ls.length d ya yb yr ye yf (sameL ks ls) hk
    rw [sameE]
    exact hst
theorem rsame_any (w : World) (x y : Ex) {vs vs2 : List Value} {B B2 : Nat} (hi : Is w B x vs) (hi2 : Is w B2 y vs2) (hf : fitE x = true) :
    Calls Tryd.prog 15 #[.agg ⟨vs⟩, .agg ⟨vs2⟩] w fun e w' => e = .returned (.bool (sameE x y)) ∧ Below w.heap.size w w' :=
  rsame_n _ x y (Nat.le_refl _) hf w w vs vs2 (Below.refl _ _) (Is.lower (Nat.zero_le _) _ hi) (Is.lower (Nat.zero_le _) _ hi2)
end Go.Proofs.YtnadaedibicaaaaDoor
