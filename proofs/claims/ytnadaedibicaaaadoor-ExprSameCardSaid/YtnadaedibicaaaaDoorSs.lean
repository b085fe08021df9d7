/-
  Law 3's own small.
-/
import Derived.Test.YtnadaedibicaaaaDoorSr
namespace Go.Proofs.YtnadaedibicaaaaDoor
open Go.RowKit
open Px (RT tokAt)
open Pe
/-- What small owes: a number between nought and what it was handed. -/
def SmallOk (w : World) (e : Ex) : Prop := ∀ (w1 : World) (vs : List Value) (n : Int), Below w.heap.size w w1 → Is w1 0 e vs → 0 < n → n ≤ 300 → Calls Tryd.prog 13 #[.agg ⟨vs⟩, .int .i64 n] w1 fun en w' => (∃ m : Int, 0 ≤ m ∧ m ≤ n ∧ en = .returned (.int .i64 m)) ∧ Below w1.heap.size w1 w'

set_option maxRecDepth 8000 in
set_option maxHeartbeats 4000000 in
theorem small_step (w : World) (ks : List Ex) (p : Option Addr) (c : Nat) (xk : Int) (xn : Int) (xs : List UInt8) (xo : List UInt8) (xd : Int) (xa : Int) (xb : Int) (xr : Int) (xe : Int) (xf : Int) (n : Int) (hn : 0 < n) (hn2 : n ≤ 300) (hp : KidsAt w 0 p ks) (hl : ks.length ≤ 9223372036854775807) (hel : ∀ e ∈ ks, SmallOk w e) :
    Calls Tryd.prog 13 #[.agg #[.int .i64 xk, .int .i64 xn, .string (cbs xs), .string (cbs xo), .int .i64 xd, .slice p ks.length c, .int .i64 xa, .int .i64 xb, .int .i64 xr, .int .i64 xe, .int .i64 xf], .int .i64 n] w fun en w' => (∃ m : Int, 0 ≤ m ∧ m ≤ n ∧ en = .returned (.int .i64 m)) ∧ Below w.heap.size w w' := by
  have hdn : wrap64 (n - 1) = n - 1 := by simp [wrap64]; omega
  have HP := Lib.hid hp
  have HEL := Lib.hid hel
  have HL := Lib.hid hl
  have HN := Lib.hid hn
  have HN2 := Lib.hid hn2
  clear hp hel hl
  obtain ⟨ob, hob⟩ : ∃ ob : Obj, ob = .cells #[.int .i64 xk, .int .i64 xn, .string (cbs xs), .string (cbs xo), .int .i64 xd, .slice p ks.length c, .int .i64 xa, .int .i64 xb, .int .i64 xr, .int .i64 xe, .int .i64 xf] 39 := ⟨_, rfl⟩
  have HB0 := Lib.hid ((Below.refl w.heap.size w).alloc (Nat.le_refl _) ob)
  have HK0 := Lib.hid (heap_alloc_new w ob)
  rw [hob] at HB0 HK0
  go_enter Tryd.func13, Tryd.ntmps13
  go_wp2_with fail
  go_loopg [1, 5] ks.length (fun r nv iv wr => ∃ (j : Nat) (m : Int), r + j = ks.length ∧ iv = .int .i64 (j : Int) ∧ nv = .int .i64 m ∧ 0 ≤ m ∧ m ≤ n ∧ Below w.heap.size w wr ∧ wr.heap[w.heap.size]? = some (.cells #[.int .i64 xk, .int .i64 xn, .string (cbs xs), .string (cbs xo), .int .i64 xd, .slice p ks.length c, .int .i64 xa, .int .i64 xb, .int .i64 xr, .int .i64 xe, .int .i64 xf] 39 (0, 0)))
  case atStart => exact ⟨0, n - 1, rfl, rfl, by first | rfl | rw [hdn], by have := HN.out; omega, by omega, HB0.out, HK0.out⟩
  case round =>
    obtain ⟨j, m, hj, rfl, rfl, hm0, hm1, hb, hk⟩ := hrel
    have HB := Lib.hid hb
    have HK := Lib.hid hk
    have HJ := Lib.hid hj
    have HM0 := Lib.hid hm0
    have HM1 := Lib.hid hm1
    obtain ⟨⟨z0, z1, z2, z3, z4, z5, z6, z7, z8, z9, zX⟩, -⟩ := hen hk
    clear hb hk hj hm0 hm1 z0 z1 z2 z3 z4 z6 z7 z8 z9 zX
    cases gk with
    | zero =>
      obtain rfl : j = ks.length := by have := HJ.out; omega
      have hd1 : decide ((ks.length : Int) < (ks.length : Int)) = false := decide_eq_false (by omega)
      go_wp2_with fail
      go_ret
      exact ⟨⟨m, HM0.out, HM1.out, rfl⟩, HB.out⟩
    | succ rr =>
      have hjl : j < ks.length := by have := HJ.out; omega
      have hd1 : decide ((j : Int) < (ks.length : Int)) = true := decide_eq_true (by omega)
      by_cases hm : 0 < m
      · have hd2 : decide ((0 : Int) < m) = true := decide_eq_true hm
        have hi1 : (j : Int) < (ks.length : Int) := by omega
        have hd3 : decide (ks.length ≤ j) = false := decide_eq_false (by omega)
        have hdw : wrap64 ((j : Int) + 1) = ((j + 1 : Nat) : Int) := by have := HL.out; simp [wrap64]; omega
        have he1 := List.getElem?_eq_getElem hjl
        have HE := Lib.hid (HEL.out _ (List.getElem_mem hjl))
        generalize ks[j] = e1 at he1 HE
        obtain ⟨bl, off, vs, rfl, hbl, hi, hc⟩ := (HP.out.below HB.out).get he1
        obtain ⟨yk, yn, ys, yo, yd, yp, yl, yc, ya, yb, yr, ye, yf, rfl⟩ := hi.out
        obtain ⟨y0, y1, y2, y3, y4, y5, y6, y7, y8, y9, yX⟩ := eleven_of hc
        have HI := Lib.hid hi
        have HM := Lib.hid hm
        clear hc hi he1 hm
        go_wp2_with fail
        refine (HE.out _ _ m HB.out HI.out HM.out (by have := HM1.out; have := HN2.out; omega)).mono ?_
        rintro e w2 ⟨⟨m2, hm2, hm3, rfl⟩, hb2⟩
        have HB2 := Lib.hid (below_seq HB.out hb2 HB.out.size)
        have HK2 := Lib.hid ((hb2.block _ (heap_lt' HK.out)).trans HK.out)
        have H2 := Lib.hid hm2
        have H3 := Lib.hid hm3
        clear hb2 hm2 hm3
        go_wp2_with fail
        go_roundg rr
        case measure => omega
        case rel => exact ⟨j + 1, m2, by have := HJ.out; omega, by first | rfl | simp [hdw], rfl, H2.out, by have := H3.out; have := HM1.out; omega, HB2.out, HK2.out⟩
      · have hd2 : decide ((0 : Int) < m) = false := decide_eq_false hm
        clear hm
        go_wp2_with fail
        go_ret
        exact ⟨⟨m, HM0.out, HM1.out, rfl⟩, HB.out⟩
theorem small_n : ∀ (n : Nat) (x : Ex), SizeOf.sizeOf x ≤ n → fitE x = true → ∀ w, SmallOk w x := by
  intro n
  induction n with
  | zero => intro x h; cases x; simp at h
  | succ n ih =>
    intro x hs hf w w1 vs k _ hi hk1 hk2
    obtain ⟨xk, xn, xs, xo, xd, ks, xa, xb, xr, xe, xf⟩ := x
    obtain ⟨p, c, rfl, hp⟩ := hi.kids
    rw [fitE, Bool.and_eq_true] at hf
    exact small_step w1 ks p c xk xn xs xo xd xa xb xr xe xf k hk1 hk2 hp (of_decide_eq_true hf.1) (fun e he => ih e (by have := sizes_kid he xk xn xs xo xd xa xb xr xe xf; omega) (fitL_mem hf.2 he) w1)
theorem small_any (w : World) (x : Ex) {vs : List Value} {B : Nat} (n : Int) (hn : 0 < n) (hn2 : n ≤ 300) (hi : Is w B x vs) (hf : fitE x = true) :
    Calls Tryd.prog 13 #[.agg ⟨vs⟩, .int .i64 n] w fun en w' => (∃ m : Int, 0 ≤ m ∧ m ≤ n ∧ en = .returned (.int .i64 m)) ∧ Below w.heap.size w w' :=
  small_n _ x (Nat.le_refl _) hf w w vs n (Below.refl _ _) (Is.lower (Nat.zero_le _) _ hi) hn hn2
end Go.Proofs.YtnadaedibicaaaaDoor
