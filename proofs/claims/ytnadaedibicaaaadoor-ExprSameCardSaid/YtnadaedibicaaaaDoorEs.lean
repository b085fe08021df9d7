/-
  ExprSame: two expressions are alike for the program as for the answer, whatever each says of where it stands.
-/
import Derived.Test.YtnadaedibicaaaaDoorTx
import Derived.Test.YtnadaedibicaaaaDoorSs
import Derived.Test.YtnadaedibicaaaaDoorKn
import Derived.Test.YtnadaedibicaaaaDoorLaidE
namespace Go.Proofs.YtnadaedibicaaaaDoor
open Go.RowKit
open Px (RT tokAt)
open Pe

theorem Is.put {w : World} {B : Nat} {x : Ex} {k n : Int} {s o : List UInt8} {d : Int} {v : Value} {a b r e f : Int} (h : Is w B x (exCells k n s o d v a b r e f)) (a2 : Int) : Is w B (put x a2) (exCells k n s o d v a2 b r e f) := by
  obtain ⟨k2, n2, s2, o2, d2, ks, a3, b2, r2, e2, f2⟩ := x
  rw [Is] at h
  rw [Go.Proofs.YtnadaedibicaaaaDoor.put, Is]
  obtain ⟨p, c, hv, hk⟩ := h
  obtain ⟨rfl, rfl, rfl, rfl, rfl, rfl, rfl, rfl, rfl, rfl, rfl⟩ := exCells_inj hv
  exact ⟨p, c, rfl, hk⟩
theorem es_go {w w' : World} {A B C : Nat} {xk xn : Int} {xs xo : List UInt8} {xd : Int} {xp : Option Addr} {xl xc : Nat} {xa xb xr xe xf : Int} {yk yn : Int} {ys yo : List UInt8} {yd : Int} {yp : Option Addr} {yl yc : Nat} {ya yb yr ye yf : Int} {at_ : Int} (h : w.cell? ⟨A, 0, none⟩ = some (.int .i64 xk) ∧ w.cell? ⟨A, 1, none⟩ = some (.int .i64 xn) ∧ w.cell? ⟨A, 2, none⟩ = some (.string (cbs xs)) ∧ w.cell? ⟨A, 3, none⟩ = some (.string (cbs xo)) ∧ w.cell? ⟨A, 4, none⟩ = some (.int .i64 xd) ∧ w.cell? ⟨A, 5, none⟩ = some (.slice xp xl xc) ∧ w.cell? ⟨A, 6, none⟩ = some (.int .i64 xa) ∧ w.cell? ⟨A, 7, none⟩ = some (.int .i64 xb) ∧ w.cell? ⟨A, 8, none⟩ = some (.int .i64 xr) ∧ w.cell? ⟨A, 9, none⟩ = some (.int .i64 xe) ∧ w.cell? ⟨A, 10, none⟩ = some (.int .i64 xf) ∧ w.cell? ⟨B, 0, none⟩ = some (.int .i64 yk) ∧ w.cell? ⟨B, 1, none⟩ = some (.int .i64 yn) ∧ w.cell? ⟨B, 2, none⟩ = some (.string (cbs ys)) ∧ w.cell? ⟨B, 3, none⟩ = some (.string (cbs yo)) ∧ w.cell? ⟨B, 4, none⟩ = some (.int .i64 yd) ∧ w.cell? ⟨B, 5, none⟩ = some (.slice yp yl yc) ∧ w.cell? ⟨B, 6, none⟩ = some (.int .i64 ya) ∧ w.cell? ⟨B, 7, none⟩ = some (.int .i64 yb) ∧ w.cell? ⟨B, 8, none⟩ = some (.int .i64 yr) ∧ w.cell? ⟨B, 9, none⟩ = some (.int .i64 ye) ∧ w.cell? ⟨B, 10, none⟩ = some (.int .i64 yf) ∧ w.cell? ⟨C, 0, none⟩ = some (.int .i64 xk) ∧ w.cell? ⟨C, 1, none⟩ = some (.int .i64 xn) ∧ w.cell? ⟨C, 2, none⟩ = some (.string (cbs xs)) ∧ w.cell? ⟨C, 3, none⟩ = some (.string (cbs xo)) ∧ w.cell? ⟨C, 4, none⟩ = some (.int .i64 xd) ∧ w.cell? ⟨C, 5, none⟩ = some (.slice xp xl xc) ∧ w.cell? ⟨C, 6, none⟩ = some (.int .i64 at_) ∧ w.cell? ⟨C, 7, none⟩ = some (.int .i64 xb) ∧ w.cell? ⟨C, 8, none⟩ = some (.int .i64 xr) ∧ w.cell? ⟨C, 9, none⟩ = some (.int .i64 xe) ∧ w.cell? ⟨C, 10, none⟩ = some (.int .i64 xf)) (hb : Below w.heap.size w w') (h1 : A < w.heap.size) (h2 : B < w.heap.size) (h3 : C < w.heap.size) : w'.cell? ⟨A, 0, none⟩ = some (.int .i64 xk) ∧ w'.cell? ⟨A, 1, none⟩ = some (.int .i64 xn) ∧ w'.cell? ⟨A, 2, none⟩ = some (.string (cbs xs)) ∧ w'.cell? ⟨A, 3, none⟩ = some (.string (cbs xo)) ∧ w'.cell? ⟨A, 4, none⟩ = some (.int .i64 xd) ∧ w'.cell? ⟨A, 5, none⟩ = some (.slice xp xl xc) ∧ w'.cell? ⟨A, 6, none⟩ = some (.int .i64 xa) ∧ w'.cell? ⟨A, 7, none⟩ = some (.int .i64 xb) ∧ w'.cell? ⟨A, 8, none⟩ = some (.int .i64 xr) ∧ w'.cell? ⟨A, 9, none⟩ = some (.int .i64 xe) ∧ w'.cell? ⟨A, 10, none⟩ = some (.int .i64 xf) ∧ w'.cell? ⟨B, 0, none⟩ = some (.int .i64 yk) ∧ w'.cell? ⟨B, 1, none⟩ = some (.int .i64 yn) ∧ w'.cell? ⟨B, 2, none⟩ = some (.string (cbs ys)) ∧ w'.cell? ⟨B, 3, none⟩ = some (.string (cbs yo)) ∧ w'.cell? ⟨B, 4, none⟩ = some (.int .i64 yd) ∧ w'.cell? ⟨B, 5, none⟩ = some (.slice yp yl yc) ∧ w'.cell? ⟨B, 6, none⟩ = some (.int .i64 ya) ∧ w'.cell? ⟨B, 7, none⟩ = some (.int .i64 yb) ∧ w'.cell? ⟨B, 8, none⟩ = some (.int .i64 yr) ∧ w'.cell? ⟨B, 9, none⟩ = some (.int .i64 ye) ∧ w'.cell? ⟨B, 10, none⟩ = some (.int .i64 yf) ∧ w'.cell? ⟨C, 0, none⟩ = some (.int .i64 xk) ∧ w'.cell? ⟨C, 1, none⟩ = some (.int .i64 xn) ∧ w'.cell? ⟨C, 2, none⟩ = some (.string (cbs xs)) ∧ w'.cell? ⟨C, 3, none⟩ = some (.string (cbs xo)) ∧ w'.cell? ⟨C, 4, none⟩ = some (.int .i64 xd) ∧ w'.cell? ⟨C, 5, none⟩ = some (.slice xp xl xc) ∧ w'.cell? ⟨C, 6, none⟩ = some (.int .i64 at_) ∧ w'.cell? ⟨C, 7, none⟩ = some (.int .i64 xb) ∧ w'.cell? ⟨C, 8, none⟩ = some (.int .i64 xr) ∧ w'.cell? ⟨C, 9, none⟩ = some (.int .i64 xe) ∧ w'.cell? ⟨C, 10, none⟩ = some (.int .i64 xf) := by
  obtain ⟨k0, k1, k2, k3, k4, k5, k6, k7, k8, k9, k10, k11, k12, k13, k14, k15, k16, k17, k18, k19, k20, k21, k22, k23, k24, k25, k26, k27, k28, k29, k30, k31, k32⟩ := h
  exact ⟨(hb.cell (p := ⟨A, 0, none⟩) h1).trans k0, (hb.cell (p := ⟨A, 1, none⟩) h1).trans k1, (hb.cell (p := ⟨A, 2, none⟩) h1).trans k2, (hb.cell (p := ⟨A, 3, none⟩) h1).trans k3, (hb.cell (p := ⟨A, 4, none⟩) h1).trans k4, (hb.cell (p := ⟨A, 5, none⟩) h1).trans k5, (hb.cell (p := ⟨A, 6, none⟩) h1).trans k6, (hb.cell (p := ⟨A, 7, none⟩) h1).trans k7, (hb.cell (p := ⟨A, 8, none⟩) h1).trans k8, (hb.cell (p := ⟨A, 9, none⟩) h1).trans k9, (hb.cell (p := ⟨A, 10, none⟩) h1).trans k10, (hb.cell (p := ⟨B, 0, none⟩) h2).trans k11, (hb.cell (p := ⟨B, 1, none⟩) h2).trans k12, (hb.cell (p := ⟨B, 2, none⟩) h2).trans k13, (hb.cell (p := ⟨B, 3, none⟩) h2).trans k14, (hb.cell (p := ⟨B, 4, none⟩) h2).trans k15, (hb.cell (p := ⟨B, 5, none⟩) h2).trans k16, (hb.cell (p := ⟨B, 6, none⟩) h2).trans k17, (hb.cell (p := ⟨B, 7, none⟩) h2).trans k18, (hb.cell (p := ⟨B, 8, none⟩) h2).trans k19, (hb.cell (p := ⟨B, 9, none⟩) h2).trans k20, (hb.cell (p := ⟨B, 10, none⟩) h2).trans k21, (hb.cell (p := ⟨C, 0, none⟩) h3).trans k22, (hb.cell (p := ⟨C, 1, none⟩) h3).trans k23, (hb.cell (p := ⟨C, 2, none⟩) h3).trans k24, (hb.cell (p := ⟨C, 3, none⟩) h3).trans k25, (hb.cell (p := ⟨C, 4, none⟩) h3).trans k26, (hb.cell (p := ⟨C, 5, none⟩) h3).trans k27, (hb.cell (p := ⟨C, 6, none⟩) h3).trans k28, (hb.cell (p := ⟨C, 7, none⟩) h3).trans k29, (hb.cell (p := ⟨C, 8, none⟩) h3).trans k30, (hb.cell (p := ⟨C, 9, none⟩) h3).trans k31, (hb.cell (p := ⟨C, 10, none⟩) h3).trans k32⟩

set_option maxRecDepth 8000 in
set_option maxHeartbeats 8000000 in
theorem exprSame_cells (w : World) (hops : OpsIn w) (x y : Ex) (xk xn : Int) (xs xo : List UInt8) (xd : Int) (xp : Option Addr) (xl xc : Nat) (xa xb xr xe xf : Int) (yk yn : Int) (ys yo : List UInt8) (yd : Int) (yp : Option Addr) (yl yc : Nat) (ya yb yr ye yf : Int) (hi : Is w 0 x (exCells xk xn xs xo xd (.slice xp xl xc) xa xb xr xe xf)) (hi2 : Is w 0 y (exCells yk yn ys yo yd (.slice yp yl yc) ya yb yr ye yf)) (hf : fitE x = true) (hf2 : fitE y = true) (at_ : Int) :
    Calls Tryd.prog 5 #[.agg #[.int .i64 xk, .int .i64 xn, .string (cbs xs), .string (cbs xo), .int .i64 xd, .slice xp xl xc, .int .i64 xa, .int .i64 xb, .int .i64 xr, .int .i64 xe, .int .i64 xf], .agg #[.int .i64 yk, .int .i64 yn, .string (cbs ys), .string (cbs yo), .int .i64 yd, .slice yp yl yc, .int .i64 ya, .int .i64 yb, .int .i64 yr, .int .i64 ye, .int .i64 yf], .int .i64 at_] w fun e w' => e = .returned (.bool true) ∧ Below w.heap.size w w' := by
  have HOP := Lib.hid hops
  have HI := Lib.hid hi
  have HI2 := Lib.hid hi2
  clear hops hi hi2
  obtain ⟨w0, hw0⟩ : ∃ w0, w0 = (w.alloc (.cells #[.int .i64 xk, .int .i64 xn, .string (cbs xs), .string (cbs xo), .int .i64 xd, .slice xp xl xc, .int .i64 xa, .int .i64 xb, .int .i64 xr, .int .i64 xe, .int .i64 xf] 39)).alloc (.cells #[.int .i64 yk, .int .i64 yn, .string (cbs ys), .string (cbs yo), .int .i64 yd, .slice yp yl yc, .int .i64 ya, .int .i64 yb, .int .i64 yr, .int .i64 ye, .int .i64 yf] 39) := ⟨_, rfl⟩
  have hb0 : Below w.heap.size w w0 := by rw [hw0]; exact ((Below.refl _ _).alloc (Nat.le_refl _) _).alloc (by rw [size_alloc]; omega) _
  have hA0 : w0.heap[w.heap.size]? = some (.cells #[.int .i64 xk, .int .i64 xn, .string (cbs xs), .string (cbs xo), .int .i64 xd, .slice xp xl xc, .int .i64 xa, .int .i64 xb, .int .i64 xr, .int .i64 xe, .int .i64 xf] 39 (0, 0)) := by rw [hw0]; exact alloc_box _ (heap_alloc_new w _)
  have hB0 : w0.heap[w.heap.size + 1]? = some (.cells #[.int .i64 yk, .int .i64 yn, .string (cbs ys), .string (cbs yo), .int .i64 yd, .slice yp yl yc, .int .i64 ya, .int .i64 yb, .int .i64 yr, .int .i64 ye, .int .i64 yf] 39 (0, 0)) := by rw [hw0]; have := heap_alloc_new (w.alloc (.cells #[.int .i64 xk, .int .i64 xn, .string (cbs xs), .string (cbs xo), .int .i64 xd, .slice xp xl xc, .int .i64 xa, .int .i64 xb, .int .i64 xr, .int .i64 xe, .int .i64 xf] 39)) (.cells #[.int .i64 yk, .int .i64 yn, .string (cbs ys), .string (cbs yo), .int .i64 yd, .slice yp yl yc, .int .i64 ya, .int .i64 yb, .int .i64 yr, .int .i64 ye, .int .i64 yf] 39); rw [size_alloc] at this; exact this
  have HB0 := Lib.hid hb0
  have HA := Lib.hid hA0
  have HB := Lib.hid hB0
  clear hb0 hA0 hB0
  go_enter Tryd.func5, Tryd.ntmps5
  go_wp2_with fail
  rw [← hw0]
  clear hw0
  refine (small_any w0 x 300 (by decide) (by decide) (HI.out.below HB0.out) hf).mono ?_
  rintro e w1 ⟨⟨m1, hm1, hm2, rfl⟩, hb1⟩
  have HB1 := Lib.hid (below_seq HB0.out hb1 HB0.out.size)
  have HA1 := Lib.hid ((hb1.block _ (heap_lt' HA.out)).trans HA.out)
  have HBB1 := Lib.hid ((hb1.block _ (heap_lt' HB.out)).trans HB.out)
  clear hb1 HA HB HB0
  obtain ⟨⟨a0, a1, a2, a3, a4, a5, a6, a7, a8, a9, aX⟩, -⟩ := hen HA1.out
  obtain ⟨⟨b0, b1, b2, b3, b4, b5, b6, b7, b8, b9, bX⟩, -⟩ := hen HBB1.out
  by_cases hz1 : m1 ≤ 0
  · have hd1 : decide (m1 ≤ 0) = true := decide_eq_true hz1
    clear hz1 hm1 hm2
    go_wp2_with fail
    go_ret
    exact ⟨rfl, HB1.out⟩
  · have hd1 : decide (m1 ≤ 0) = false := decide_eq_false hz1
    clear hz1 hm1 hm2
    go_wp2_with fail
    refine (small_any w1 y 300 (by decide) (by decide) (HI2.out.below HB1.out) hf2).mono ?_
    rintro e w2 ⟨⟨m2, hn1, hn2, rfl⟩, hb2⟩
    have HB2 := Lib.hid (below_seq HB1.out hb2 HB1.out.size)
    have HA2 := Lib.hid ((hb2.block _ (heap_lt' HA1.out)).trans HA1.out)
    have HBB2 := Lib.hid ((hb2.block _ (heap_lt' HBB1.out)).trans HBB1.out)
    clear hb2 HA1 HBB1 HB1 a0 a1 a2 a3 a4 a5 a6 a7 a8 a9 aX b0 b1 b2 b3 b4 b5 b6 b7 b8 b9 bX
    obtain ⟨⟨a0, a1, a2, a3, a4, a5, a6, a7, a8, a9, aX⟩, -⟩ := hen HA2.out
    obtain ⟨⟨b0, b1, b2, b3, b4, b5, b6, b7, b8, b9, bX⟩, -⟩ := hen HBB2.out
    by_cases hz2 : m2 ≤ 0
    · have hd2 : decide (m2 ≤ 0) = true := decide_eq_true hz2
      clear hz2 hn1 hn2
      go_wp2_with fail
      go_ret
      exact ⟨rfl, HB2.out⟩
    · have hd2 : decide (m2 ≤ 0) = false := decide_eq_false hz2
      clear hz2 hn1 hn2
      go_wp2_with fail
      obtain ⟨wc, hwc⟩ : ∃ wc, wc = w2.alloc (.cells #[.int .i64 xk, .int .i64 xn, .string (cbs xs), .string (cbs xo), .int .i64 xd, .slice xp xl xc, .int .i64 at_, .int .i64 xb, .int .i64 xr, .int .i64 xe, .int .i64 xf] 39) := ⟨_, rfl⟩
      have hb3 : Below w2.heap.size w2 wc := by rw [hwc]; exact (Below.refl _ _).alloc (Nat.le_refl _) _
      have hC : wc.heap[w2.heap.size]? = some (.cells #[.int .i64 xk, .int .i64 xn, .string (cbs xs), .string (cbs xo), .int .i64 xd, .slice xp xl xc, .int .i64 at_, .int .i64 xb, .int .i64 xr, .int .i64 xe, .int .i64 xf] 39 (0, 0)) := by rw [hwc]; exact heap_alloc_new w2 _
      try rw [← hwc]
      clear hwc a0 a1 a2 a3 a4 a5 a6 a7 a8 a9 aX b0 b1 b2 b3 b4 b5 b6 b7 b8 b9 bX
      have hA := (hb3.block _ (heap_lt' HA2.out)).trans HA2.out
      have hB := (hb3.block _ (heap_lt' HBB2.out)).trans HBB2.out
      have HW : Hid (Below w.heap.size w wc) := below_seq HB2.out hb3 HB2.out.size
      have HX := Lib.hid (HI.out.below HW.out)
      have HY := Lib.hid (HI2.out.below HW.out)
      have HC := Lib.hid (HX.out.put at_)
      have HLA := Lib.hid (heap_lt' hA)
      have HLB := Lib.hid (heap_lt' hB)
      have HLC := Lib.hid (heap_lt' hC)
      obtain ⟨⟨a0, a1, a2, a3, a4, a5, a6, a7, a8, a9, aX⟩, -⟩ := hen hA
      obtain ⟨⟨b0, b1, b2, b3, b4, b5, b6, b7, b8, b9, bX⟩, -⟩ := hen hB
      obtain ⟨⟨c0, c1, c2, c3, c4, c5, c6, c7, c8, c9, cX⟩, -⟩ := hen hC
      have HS0 : Hid (wc.cell? ⟨w.heap.size, 0, none⟩ = some (.int .i64 xk) ∧ wc.cell? ⟨w.heap.size, 1, none⟩ = some (.int .i64 xn) ∧ wc.cell? ⟨w.heap.size, 2, none⟩ = some (.string (cbs xs)) ∧ wc.cell? ⟨w.heap.size, 3, none⟩ = some (.string (cbs xo)) ∧ wc.cell? ⟨w.heap.size, 4, none⟩ = some (.int .i64 xd) ∧ wc.cell? ⟨w.heap.size, 5, none⟩ = some (.slice xp xl xc) ∧ wc.cell? ⟨w.heap.size, 6, none⟩ = some (.int .i64 xa) ∧ wc.cell? ⟨w.heap.size, 7, none⟩ = some (.int .i64 xb) ∧ wc.cell? ⟨w.heap.size, 8, none⟩ = some (.int .i64 xr) ∧ wc.cell? ⟨w.heap.size, 9, none⟩ = some (.int .i64 xe) ∧ wc.cell? ⟨w.heap.size, 10, none⟩ = some (.int .i64 xf) ∧ wc.cell? ⟨(w.heap.size + 1), 0, none⟩ = some (.int .i64 yk) ∧ wc.cell? ⟨(w.heap.size + 1), 1, none⟩ = some (.int .i64 yn) ∧ wc.cell? ⟨(w.heap.size + 1), 2, none⟩ = some (.string (cbs ys)) ∧ wc.cell? ⟨(w.heap.size + 1), 3, none⟩ = some (.string (cbs yo)) ∧ wc.cell? ⟨(w.heap.size + 1), 4, none⟩ = some (.int .i64 yd) ∧ wc.cell? ⟨(w.heap.size + 1), 5, none⟩ = some (.slice yp yl yc) ∧ wc.cell? ⟨(w.heap.size + 1), 6, none⟩ = some (.int .i64 ya) ∧ wc.cell? ⟨(w.heap.size + 1), 7, none⟩ = some (.int .i64 yb) ∧ wc.cell? ⟨(w.heap.size + 1), 8, none⟩ = some (.int .i64 yr) ∧ wc.cell? ⟨(w.heap.size + 1), 9, none⟩ = some (.int .i64 ye) ∧ wc.cell? ⟨(w.heap.size + 1), 10, none⟩ = some (.int .i64 yf) ∧ wc.cell? ⟨w2.heap.size, 0, none⟩ = some (.int .i64 xk) ∧ wc.cell? ⟨w2.heap.size, 1, none⟩ = some (.int .i64 xn) ∧ wc.cell? ⟨w2.heap.size, 2, none⟩ = some (.string (cbs xs)) ∧ wc.cell? ⟨w2.heap.size, 3, none⟩ = some (.string (cbs xo)) ∧ wc.cell? ⟨w2.heap.size, 4, none⟩ = some (.int .i64 xd) ∧ wc.cell? ⟨w2.heap.size, 5, none⟩ = some (.slice xp xl xc) ∧ wc.cell? ⟨w2.heap.size, 6, none⟩ = some (.int .i64 at_) ∧ wc.cell? ⟨w2.heap.size, 7, none⟩ = some (.int .i64 xb) ∧ wc.cell? ⟨w2.heap.size, 8, none⟩ = some (.int .i64 xr) ∧ wc.cell? ⟨w2.heap.size, 9, none⟩ = some (.int .i64 xe) ∧ wc.cell? ⟨w2.heap.size, 10, none⟩ = some (.int .i64 xf)) := ⟨a0, a1, a2, a3, a4, a5, a6, a7, a8, a9, aX, b0, b1, b2, b3, b4, b5, b6, b7, b8, b9, bX, c0, c1, c2, c3, c4, c5, c6, c7, c8, c9, cX⟩
      clear hA hB hC hb3 HA2 HBB2
      have HKN := Lib.hid (fun w3 (hb : Below wc.heap.size wc w3) => known_any w3 (by obtain ⟨gt, gfr, hg⟩ := HOP.out; exact ⟨gt, gfr, (hb.block _ (Nat.lt_of_lt_of_le (heap_lt' hg) HW.out.size)).trans ((HW.out.block _ (heap_lt' hg)).trans hg)⟩))
      obtain ⟨v, hv⟩ : ∃ v, sameE x y = v := ⟨_, rfl⟩
      have H1 := Lib.hid (show ∀ w3, Below wc.heap.size wc w3 → Calls Tryd.prog 14 #[.agg #[.int .i64 xk, .int .i64 xn, .string (cbs xs), .string (cbs xo), .int .i64 xd, .slice xp xl xc, .int .i64 xa, .int .i64 xb, .int .i64 xr, .int .i64 xe, .int .i64 xf], .agg #[.int .i64 yk, .int .i64 yn, .string (cbs ys), .string (cbs yo), .int .i64 yd, .slice yp yl yc, .int .i64 ya, .int .i64 yb, .int .i64 yr, .int .i64 ye, .int .i64 yf]] w3 (fun e w' => e = .returned (.bool v) ∧ Below w3.heap.size w3 w') from fun w3 hb => by have h := same_any w3 x y (HX.out.below hb) (HY.out.below hb) hf; rw [hv] at h; exact h)
      have H2 := Lib.hid (show ∀ w3, Below wc.heap.size wc w3 → Calls Tryd.prog 15 #[.agg #[.int .i64 xk, .int .i64 xn, .string (cbs xs), .string (cbs xo), .int .i64 xd, .slice xp xl xc, .int .i64 xa, .int .i64 xb, .int .i64 xr, .int .i64 xe, .int .i64 xf], .agg #[.int .i64 yk, .int .i64 yn, .string (cbs ys), .string (cbs yo), .int .i64 yd, .slice yp yl yc, .int .i64 ya, .int .i64 yb, .int .i64 yr, .int .i64 ye, .int .i64 yf]] w3 (fun e w' => e = .returned (.bool v) ∧ Below w3.heap.size w3 w') from fun w3 hb => by have h := rsame_any w3 x y (HX.out.below hb) (HY.out.below hb) hf; rw [hv] at h; exact h)
      have H3 := Lib.hid (show ∀ w3, Below wc.heap.size wc w3 → Calls Tryd.prog 14 #[.agg #[.int .i64 xk, .int .i64 xn, .string (cbs xs), .string (cbs xo), .int .i64 xd, .slice xp xl xc, .int .i64 xa, .int .i64 xb, .int .i64 xr, .int .i64 xe, .int .i64 xf], .agg #[.int .i64 xk, .int .i64 xn, .string (cbs xs), .string (cbs xo), .int .i64 xd, .slice xp xl xc, .int .i64 at_, .int .i64 xb, .int .i64 xr, .int .i64 xe, .int .i64 xf]] w3 (fun e w' => e = .returned (.bool true) ∧ Below w3.heap.size w3 w') from fun w3 hb => by have h := same_any w3 x (put x at_) (HX.out.below hb) (HC.out.below hb) hf; rw [sameE_put] at h; exact h)
      have H4 := Lib.hid (show ∀ w3, Below wc.heap.size wc w3 → Calls Tryd.prog 14 #[.agg #[.int .i64 yk, .int .i64 yn, .string (cbs ys), .string (cbs yo), .int .i64 yd, .slice yp yl yc, .int .i64 ya, .int .i64 yb, .int .i64 yr, .int .i64 ye, .int .i64 yf], .agg #[.int .i64 xk, .int .i64 xn, .string (cbs xs), .string (cbs xo), .int .i64 xd, .slice xp xl xc, .int .i64 xa, .int .i64 xb, .int .i64 xr, .int .i64 xe, .int .i64 xf]] w3 (fun e w' => e = .returned (.bool v) ∧ Below w3.heap.size w3 w') from fun w3 hb => by have h := same_any w3 y x (HY.out.below hb) (HX.out.below hb) hf2; rw [sameE_symm, hv] at h; exact h)
      have HD1 : Hid (Below wc.heap.size wc wc.drew) := (Below.refl _ _).drew
      clear HOP HI HI2 HX HY HC hv
      cases v
      all_goals
        go_region_held3 (fun w' => w'.cell? ⟨w.heap.size, 0, none⟩ = some (.int .i64 xk) ∧ w'.cell? ⟨w.heap.size, 1, none⟩ = some (.int .i64 xn) ∧ w'.cell? ⟨w.heap.size, 2, none⟩ = some (.string (cbs xs)) ∧ w'.cell? ⟨w.heap.size, 3, none⟩ = some (.string (cbs xo)) ∧ w'.cell? ⟨w.heap.size, 4, none⟩ = some (.int .i64 xd) ∧ w'.cell? ⟨w.heap.size, 5, none⟩ = some (.slice xp xl xc) ∧ w'.cell? ⟨w.heap.size, 6, none⟩ = some (.int .i64 xa) ∧ w'.cell? ⟨w.heap.size, 7, none⟩ = some (.int .i64 xb) ∧ w'.cell? ⟨w.heap.size, 8, none⟩ = some (.int .i64 xr) ∧ w'.cell? ⟨w.heap.size, 9, none⟩ = some (.int .i64 xe) ∧ w'.cell? ⟨w.heap.size, 10, none⟩ = some (.int .i64 xf) ∧ w'.cell? ⟨(w.heap.size + 1), 0, none⟩ = some (.int .i64 yk) ∧ w'.cell? ⟨(w.heap.size + 1), 1, none⟩ = some (.int .i64 yn) ∧ w'.cell? ⟨(w.heap.size + 1), 2, none⟩ = some (.string (cbs ys)) ∧ w'.cell? ⟨(w.heap.size + 1), 3, none⟩ = some (.string (cbs yo)) ∧ w'.cell? ⟨(w.heap.size + 1), 4, none⟩ = some (.int .i64 yd) ∧ w'.cell? ⟨(w.heap.size + 1), 5, none⟩ = some (.slice yp yl yc) ∧ w'.cell? ⟨(w.heap.size + 1), 6, none⟩ = some (.int .i64 ya) ∧ w'.cell? ⟨(w.heap.size + 1), 7, none⟩ = some (.int .i64 yb) ∧ w'.cell? ⟨(w.heap.size + 1), 8, none⟩ = some (.int .i64 yr) ∧ w'.cell? ⟨(w.heap.size + 1), 9, none⟩ = some (.int .i64 ye) ∧ w'.cell? ⟨(w.heap.size + 1), 10, none⟩ = some (.int .i64 yf) ∧ w'.cell? ⟨w2.heap.size, 0, none⟩ = some (.int .i64 xk) ∧ w'.cell? ⟨w2.heap.size, 1, none⟩ = some (.int .i64 xn) ∧ w'.cell? ⟨w2.heap.size, 2, none⟩ = some (.string (cbs xs)) ∧ w'.cell? ⟨w2.heap.size, 3, none⟩ = some (.string (cbs xo)) ∧ w'.cell? ⟨w2.heap.size, 4, none⟩ = some (.int .i64 xd) ∧ w'.cell? ⟨w2.heap.size, 5, none⟩ = some (.slice xp xl xc) ∧ w'.cell? ⟨w2.heap.size, 6, none⟩ = some (.int .i64 at_) ∧ w'.cell? ⟨w2.heap.size, 7, none⟩ = some (.int .i64 xb) ∧ w'.cell? ⟨w2.heap.size, 8, none⟩ = some (.int .i64 xr) ∧ w'.cell? ⟨w2.heap.size, 9, none⟩ = some (.int .i64 xe) ∧ w'.cell? ⟨w2.heap.size, 10, none⟩ = some (.int .i64 xf)) (first | exact HS0.out | exact HS4.out | exact HS5.out | exact HS6.out | exact HS7.out | exact HS8.out | exact HS9.out) (first
          | (go_at_call 10; (with_reducible refine Calls.mono (HKN.out _ ?_) ?_); (focus (exact HB8.out)); rintro e w9 ⟨rfl, hb9⟩; have HB9 := Lib.hid (below_seq HB8.out hb9 HB8.out.size); have HS9 := Lib.hid (es_go HS0.out HB9.out HLA.out HLB.out HLC.out); clear hb9)
          | (go_at_call 14; (with_reducible refine Calls.mono (H1.out _ ?_) ?_); (focus (exact HB7.out)); rintro e w8 ⟨rfl, hb8⟩; have HB8 := Lib.hid (below_seq HB7.out hb8 HB7.out.size); have HS8 := Lib.hid (es_go HS0.out HB8.out HLA.out HLB.out HLC.out); clear hb8)
          | (go_at_call 14; (with_reducible refine Calls.mono (H4.out _ ?_) ?_); (focus (exact HB6.out)); rintro e w7 ⟨rfl, hb7⟩; have HB7 := Lib.hid (below_seq HB6.out hb7 HB6.out.size); have HS7 := Lib.hid (es_go HS0.out HB7.out HLA.out HLB.out HLC.out); clear hb7)
          | (go_at_call 14; (with_reducible refine Calls.mono (H3.out _ ?_) ?_); (focus (exact HB5.out)); rintro e w6 ⟨rfl, hb6⟩; have HB6 := Lib.hid (below_seq HB5.out hb6 HB5.out.size); have HS6 := Lib.hid (es_go HS0.out HB6.out HLA.out HLB.out HLC.out); clear hb6)
          | (go_at_call 15; (with_reducible refine Calls.mono (H2.out _ ?_) ?_); (focus (exact HB4.out)); rintro e w5 ⟨rfl, hb5⟩; have HB5 := Lib.hid (below_seq HB4.out hb5 HB4.out.size); have HS5 := Lib.hid (es_go HS0.out HB5.out HLA.out HLB.out HLC.out); clear hb5)
          | (go_at_call 14; (with_reducible refine Calls.mono (H1.out _ ?_) ?_); (focus (exact HD1.out)); rintro e w4 ⟨rfl, hb4⟩; have HB4 := Lib.hid (below_seq HD1.out hb4 HD1.out.size); have HS4 := Lib.hid (es_go HS0.out HB4.out HLA.out HLB.out HLC.out); clear hb4))
        go_wp2_with fail
        go_ret
        exact ⟨rfl, below_seq HW.out HB9.out HW.out.size⟩
theorem exprSame_walk (x y : Ex) {vs vs2 : List Value} (at_ : Int) (_ : -9223372036854775808 ≤ at_ ∧ at_ ≤ 9223372036854775807) (w : World) (hi : Is w 0 x vs) (hi2 : Is w 0 y vs2) (hf : fitE x = true) (hf2 : fitE y = true) (hops : OpsIn w) :
    Calls Tryd.prog 5 #[.agg ⟨vs⟩, .agg ⟨vs2⟩, .int .i64 at_] w fun e w' => e = .returned (.bool true) ∧ Below w.heap.size w w' := by
  obtain ⟨xk, xn, xs, xo, xd, xp, xl, xc, xa, xb, xr, xe, xf, rfl⟩ := hi.out
  obtain ⟨yk, yn, ys, yo, yd, yp, yl, yc, ya, yb, yr, ye, yf, rfl⟩ := hi2.out
  exact exprSame_cells w hops x y xk xn xs xo xd xp xl xc xa xb xr xe xf yk yn ys yo yd yp yl yc ya yb yr ye yf hi hi2 hf hf2 at_
end Go.Proofs.YtnadaedibicaaaaDoor
