/-
  Whether two expressions are alike, wherever they stand: plain; the contracts of Same and of SameExpr.
-/
import Derived.Test.YtnadaedibicaaaaDoorTree
import Derived.Deep.RegionHeld3
import Derived.Deep.LoopGhost
import Derived.Laws.StructEq
namespace Go.Proofs.YtnadaedibicaaaaDoor
open Go.RowKit
open Px (RT tokAt)
open Pe

mutual
def sameE : Ex → Ex → Bool
  | .mk k n s o d ks _ b r e f, .mk k2 n2 s2 o2 d2 ks2 _ b2 r2 e2 f2 => k == k2 && n == n2 && s == s2 && (o == o2 && d == d2) && (b == b2 && r == r2 && e == e2) && f == f2 && sameL ks ks2
def sameL : List Ex → List Ex → Bool
  | [], [] => true
  | e :: es, e2 :: es2 => sameE e e2 && sameL es es2
  | _, _ => false
end
theorem beq_cbs (a b : List UInt8) : ((cbs a).toList == (cbs b).toList) = (a == b) := by rw [cbs_list, cbs_list]
theorem stoodOf : Tryd.prog.stoodInHeld 32 = false := by kernel_rfl
theorem stoodTy : Tryd.prog.stoodInHeld 37 = false := by kernel_rfl
set_option maxHeartbeats 1000000 in
theorem eq_of2 (a b : List UInt8) (d d2 : Int) (w : World) : (binOp .eql 32 (.agg #[.string (cbs a), .int .i64 d]) (.agg #[.string (cbs b), .int .i64 d2])).run Tryd.prog w = .ok (.bool (a == b && d == d2)) w := by
  rw [run_eql_struct, run_equalIn_agg w 9999 _ _ _ (by kernel_rfl) stoodOf]
  simp [go_sem, cbs_list]
  split <;> (try split) <;> simp_all
set_option maxHeartbeats 1000000 in
theorem eq_ty3 (a b c a2 b2 c2 : Int) (w : World) : (binOp .eql 37 (.agg #[.int .i64 a, .int .i64 b, .int .i64 c]) (.agg #[.int .i64 a2, .int .i64 b2, .int .i64 c2])).run Tryd.prog w = .ok (.bool (a == a2 && b == b2 && c == c2)) w := by
  rw [run_eql_struct, run_equalIn_agg w 9999 _ _ _ (by kernel_rfl) stoodTy]
  simp [go_sem]
  split <;> (try split) <;> (try split) <;> simp_all

set_option maxRecDepth 8000 in
set_option maxHeartbeats 2000000 in
theorem same_step (w : World) (_B : Nat) (_x _y : Ex) (xk : Int) (xn : Int) (xs : List UInt8) (xo : List UInt8) (xd : Int) (xp : Option Addr) (xl : Nat) (xc : Nat) (xa : Int) (xb : Int) (xr : Int) (xe : Int) (xf : Int) (yk : Int) (yn : Int) (ys : List UInt8) (yo : List UInt8) (yd : Int) (yp : Option Addr) (yl : Nat) (yc : Nat) (ya : Int) (yb : Int) (yr : Int) (ye : Int) (yf : Int)
    (v : Bool) (hk : ∀ w1, Below w.heap.size w w1 → Calls Tryd.prog 26 #[.slice xp xl xc, .slice yp yl yc, .func (.func 14) #[] #[]] w1 fun e w' => e = .returned (.bool v) ∧ Below w1.heap.size w1 w') :
    Calls Tryd.prog 14 #[.agg #[.int .i64 xk, .int .i64 xn, .string (cbs xs), .string (cbs xo), .int .i64 xd, .slice xp xl xc, .int .i64 xa, .int .i64 xb, .int .i64 xr, .int .i64 xe, .int .i64 xf], .agg #[.int .i64 yk, .int .i64 yn, .string (cbs ys), .string (cbs yo), .int .i64 yd, .slice yp yl yc, .int .i64 ya, .int .i64 yb, .int .i64 yr, .int .i64 ye, .int .i64 yf]] w fun e w' => e = .returned (.bool (xk == yk && xn == yn && xs == ys && (xo == yo && xd == yd) && (xb == yb && xr == yr && xe == ye) && xf == yf && v)) ∧ Below w.heap.size w w' := by
  have h1 := eq_of2 xo yo xd yd
  have h2 := eq_ty3 xb xr xe yb yr ye
  have hsx := beq_cbs xs ys
  have hbb : Below w.heap.size w ((w.alloc (.cells #[.int .i64 xk, .int .i64 xn, .string (cbs xs), .string (cbs xo), .int .i64 xd, .slice xp xl xc, .int .i64 xa, .int .i64 xb, .int .i64 xr, .int .i64 xe, .int .i64 xf] 39)).alloc (.cells #[.int .i64 yk, .int .i64 yn, .string (cbs ys), .string (cbs yo), .int .i64 yd, .slice yp yl yc, .int .i64 ya, .int .i64 yb, .int .i64 yr, .int .i64 ye, .int .i64 yf] 39)) := ((Below.refl _ _).alloc (Nat.le_refl _) _).alloc (by rw [size_alloc]; omega) _
  have HK := Lib.hid (hk _ hbb)
  have HBB := Lib.hid hbb
  clear hk hbb
  generalize (xo == yo && xd == yd) = g1 at h1 ⊢
  generalize (xb == yb && xr == yr && xe == ye) = g2 at h2 ⊢
  generalize (xs == ys) = g3 at hsx ⊢
  cases hc1 : (xk == yk) with
  | false =>
    go_enter Tryd.func14, Tryd.ntmps14
    go_wp2_with fail
    go_ret
    exact ⟨rfl, HBB.out⟩
  | true =>
    cases hc2 : (xn == yn) with
    | false =>
      go_enter Tryd.func14, Tryd.ntmps14
      go_wp2_with fail
      go_ret
      exact ⟨rfl, HBB.out⟩
    | true =>
      cases g3 with
      | false =>
        go_enter Tryd.func14, Tryd.ntmps14
        go_wp2_with fail
        go_ret
        exact ⟨rfl, HBB.out⟩
      | true =>
        cases g1 with
        | false =>
          go_enter Tryd.func14, Tryd.ntmps14
          go_wp2_with fail
          go_ret
          exact ⟨rfl, HBB.out⟩
        | true =>
          cases g2 with
          | false =>
            go_enter Tryd.func14, Tryd.ntmps14
            go_wp2_with fail
            go_ret
            exact ⟨rfl, HBB.out⟩
          | true =>
            cases hc6 : (xf == yf) with
            | false =>
              go_enter Tryd.func14, Tryd.ntmps14
              go_wp2_with fail
              go_ret
              exact ⟨rfl, HBB.out⟩
            | true =>
              go_enter Tryd.func14, Tryd.ntmps14
              go_wp2_with (go_at_call 26; refine (HK.out).mono ?_; rintro e w1 ⟨rfl, hb1⟩)
              go_ret
              exact ⟨rfl, below_seq HBB.out hb1 HBB.out.size⟩

end Go.Proofs.YtnadaedibicaaaaDoor
