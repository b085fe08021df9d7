/-
  What is read from a place of some tokens: the project's reading and the answer's are the same.
-/
import Derived.Test.YtldhgoblimfhbaaDoorAl
import Derived.Test.YtldhgoblimfhbaaDoorQq
import Derived.Test.YtldhgoblimfhbaaDoorRp
namespace Go.Proofs.YtldhgoblimfhbaaDoor
open Go.RowKit
open Px (RT tokAt)
open Pe

theorem OpsIn.below {w w' : World} (h : OpsIn w) (hb : Below w.heap.size w w') : OpsIn w' := by obtain ⟨gt, gfr, hg⟩ := h; exact ⟨gt, gfr, (hb.block _ (heap_lt' hg)).trans hg⟩
theorem eqGuardFault : Tryd.prog.eqGuardType Tryd.prog.depth 25 = false := by kernel_rfl

set_option maxRecDepth 8000 in
set_option maxHeartbeats 4000000 in
theorem held_any (w : World) (R0 : Nat) (S : Value) (ts : List RT) (k o : Int) (h : Toks w R0 S ts) (hops : OpsIn w) (hl : ts.length ≤ 90000000) :
    Calls Tryd.prog 10 #[S, .int .i64 k, .int .i64 o] w fun e w' => e = .returned (.bool true) ∧ Below w.heap.size w w' := by
  obtain ⟨⟨ex, to, E, F⟩, hp, hq⟩ := Sim.parse_same (ts := ts) (by omega) k o
  have hfit := Sim.fit_expr (by omega) hq
  have hen : Sim.enough ts ≤ 1000000000 := by unfold Sim.enough; omega
  have HP := Lib.hid (parse_any w R0 S ts k o h hops _ hen _ hp)
  have HQ := Lib.hid (fun w1 (hb : Below w.heap.size w w1) => qParse_any w1 R0 S ts k o (h.below hb) _ hen _ hq)
  have HF := Lib.hid hfit
  have hG := eqGuardFault
  clear h hops hl hp hq hfit hen
  dsimp only at HP HQ HF
  go_enter Tryd.func10, Tryd.ntmps10
  go_wp2_with fail
  refine HP.out.mono ?_
  rintro en w1 ⟨xk, xn, xs, xo, xd, xp, xl, xc, xa, xb, xr, xe, xf, rfl, hi, hb⟩
  have hb2 : Below w.heap.size w ((w1.alloc (.cells #[.int .i64 xk, .int .i64 xn, .string (cbs xs), .string (cbs xo), .int .i64 xd, .slice xp xl xc, .int .i64 xa, .int .i64 xb, .int .i64 xr, .int .i64 xe, .int .i64 xf] 39)).alloc (.cells #[.int .i64 E, .int .i64 F] 25)) := bl_alloc (bl_alloc hb)
  have HB := Lib.hid hb2
  have HI := Lib.hid ((hi.alloc (.cells #[.int .i64 xk, .int .i64 xn, .string (cbs xs), .string (cbs xo), .int .i64 xd, .slice xp xl xc, .int .i64 xa, .int .i64 xb, .int .i64 xr, .int .i64 xe, .int .i64 xf] 39)).alloc (.cells #[.int .i64 E, .int .i64 F] 25))
  have hka : ((w1.alloc (.cells #[.int .i64 xk, .int .i64 xn, .string (cbs xs), .string (cbs xo), .int .i64 xd, .slice xp xl xc, .int .i64 xa, .int .i64 xb, .int .i64 xr, .int .i64 xe, .int .i64 xf] 39)).alloc (.cells #[.int .i64 E, .int .i64 F] 25)).heap[w1.heap.size]? = some (.cells #[.int .i64 xk, .int .i64 xn, .string (cbs xs), .string (cbs xo), .int .i64 xd, .slice xp xl xc, .int .i64 xa, .int .i64 xb, .int .i64 xr, .int .i64 xe, .int .i64 xf] 39 (0, 0)) := alloc_box _ (heap_alloc_new w1 _)
  have hkb : ((w1.alloc (.cells #[.int .i64 xk, .int .i64 xn, .string (cbs xs), .string (cbs xo), .int .i64 xd, .slice xp xl xc, .int .i64 xa, .int .i64 xb, .int .i64 xr, .int .i64 xe, .int .i64 xf] 39)).alloc (.cells #[.int .i64 E, .int .i64 F] 25)).heap[w1.heap.size + 1]? = some (.cells #[.int .i64 E, .int .i64 F] 25 (0, 0)) := by have := heap_alloc_new (w1.alloc (.cells #[.int .i64 xk, .int .i64 xn, .string (cbs xs), .string (cbs xo), .int .i64 xd, .slice xp xl xc, .int .i64 xa, .int .i64 xb, .int .i64 xr, .int .i64 xe, .int .i64 xf] 39)) (.cells #[.int .i64 E, .int .i64 F] 25); rw [size_alloc] at this; exact this
  have HKA := Lib.hid hka
  have HKB := Lib.hid hkb
  clear hi hb hb2 hka hkb
  go_wp2_with fail
  refine (HQ.out _ HB.out).mono ?_
  rintro en w2 ⟨yk, yn, ys, yo, yd, yp, yl, yc, ya, yb, yr, ye, yf, rfl, hi2, hb2⟩
  have hka := (hb2.block _ (heap_lt' HKA.out)).trans HKA.out
  have hkb := (hb2.block _ (heap_lt' HKB.out)).trans HKB.out
  obtain ⟨⟨d0, d1, d2, d3, d4, d5, d6, d7, d8, d9, dX⟩, g0, g1, g2, g3, g4, g5, g6, g7, g8, g9, gX⟩ := hen hka
  obtain ⟨⟨b0, b1⟩, ⟨h0, h1⟩, hlb⟩ := duo hkb
  have hla := heap_lt' hka
  have HI1 := Lib.hid (HI.out.below hb2)
  have HI2 := Lib.hid hi2
  have HB2 := Lib.hid (below_seq HB.out hb2 HB.out.size)
  have HKB2 := Lib.hid hkb
  clear hi2 hb2 hka hkb g0 g1 g2 g3 g4 g5 g6 g7 g8 g9 gX h0 h1
  go_wp2_with fail
  have hb3 : Below w2.heap.size w2 ((w2.alloc (.cells #[.int .i64 yk, .int .i64 yn, .string (cbs ys), .string (cbs yo), .int .i64 yd, .slice yp yl yc, .int .i64 ya, .int .i64 yb, .int .i64 yr, .int .i64 ye, .int .i64 yf] 39)).alloc (.cells #[.int .i64 E, .int .i64 F] 25)) := bl_alloc (bl_alloc (Below.refl _ _))
  have hkc : ((w2.alloc (.cells #[.int .i64 yk, .int .i64 yn, .string (cbs ys), .string (cbs yo), .int .i64 yd, .slice yp yl yc, .int .i64 ya, .int .i64 yb, .int .i64 yr, .int .i64 ye, .int .i64 yf] 39)).alloc (.cells #[.int .i64 E, .int .i64 F] 25)).heap[w2.heap.size + 1]? = some (.cells #[.int .i64 E, .int .i64 F] 25 (0, 0)) := by have := heap_alloc_new (w2.alloc (.cells #[.int .i64 yk, .int .i64 yn, .string (cbs ys), .string (cbs yo), .int .i64 yd, .slice yp yl yc, .int .i64 ya, .int .i64 yb, .int .i64 yr, .int .i64 ye, .int .i64 yf] 39)) (.cells #[.int .i64 E, .int .i64 F] 25); rw [size_alloc] at this; exact this
  have hkd := (hb3.block _ (heap_lt' HKB2.out)).trans HKB2.out
  refine (alike_any _ ex (HI1.out.below hb3) (HI2.out.below hb3) HF.out).mono ?_
  rintro en w3 ⟨rfl, hb4⟩
  have hkc2 := (hb4.block _ (heap_lt' hkc)).trans hkc
  have hkd2 := (hb4.block _ (heap_lt' hkd)).trans hkd
  have HB4 := Lib.hid (below_seq (below_seq HB2.out hb3 HB2.out.size) hb4 (below_seq HB2.out hb3 HB2.out.size).size)
  obtain ⟨⟨e0, e1⟩, -, hle⟩ := duo hkc2
  obtain ⟨⟨f0, f1⟩, -, hlf⟩ := duo hkd2
  clear hb3 hb4 hkc hkd hkc2 hkd2
  go_wp2_with fail
  go_ret
  exact ⟨rfl, HB4.out⟩
end Go.Proofs.YtldhgoblimfhbaaDoor
