/-
  Law 3's own small.
  The law's own comparison of two trees: of two that are the same it is true.
  What is read from a place of some tokens: the project's reading and the answer's are the same.
  Law 3's own known text.
  The walk of ExprReads.
-/
import Derived.Test.YtnadaedibicaaaaDoorSr
import Derived.Test.YtnadaedibicaaaaDoorTx
import Derived.StillTailTactics
import Derived.Test.YtnadaedibicaaaaDoorQq
import Derived.Test.YtnadaedibicaaaaDoorRp
import Derived.Test.YtnadaedibicaaaaDoorKo
import Derived.Deep.RegionHeld3
import Derived.Test.YtnadaedibicaaaaDoorLaidE
namespace Go.Proofs.YtnadaedibicaaaaDoor
open Go.RowKit
open Px (RT tokAt)
open Pe
/-- What small owes: a number between nought and what it was handed. -/
def SmallOk (w : World) (e : Ex) : Prop := ∀ (w1 : World) (vs : List Value) (n : Int), Below w.heap.size w w1 → Is w1 0 e vs → 0 < n → n ≤ 300 → Calls Tryd.prog 13 #[.agg ⟨vs⟩, .int .i64 n] w1 fun en w' => (∃ m : Int, 0 ≤ m ∧ m ≤ n ∧ en = .returned (.int .i64 m)) ∧ Below w1.heap.size w1 w'

set_option maxRecDepth 8000 in
set_option maxHeartbeats 4000000 in
theorem small_step (w : World) (ks : List Ex) (p : Option Addr) (c : Nat) (xk : Int) (xn : Int) (xs : List UInt8) (xo : List UInt8) (xd : Int) (xa : Int) (xb : Int) (xr : Int) (xe : Int) (xf : Int) (n : Int) (hn : 0 < n) (hn2 : n ≤ 300) (hp : KidsAt w 0 p ks) (hl : ks.length ≤ 9223372036854775807) (hel : ∀ e ∈ ks, SmallOk w e) :
    Calls Tryd.prog 13 #[.agg #[.int .i64 xk, .int .i64 xn, .string (cbs xs), .string (cbs xo), .int .i64 xd, .slice p ks.length c, .int .i64 xa, .int .i64 xb, .int .i64 xr, .int .i64 xe, .int .i64 xf], .int .i64 n] w fun en w' => (∃ m : Int, 0 ≤ m ∧ m ≤ n ∧ en = .returned (.int .i64 m)) ∧ Below w.heap.size w w' := by
  have hdn : wrap64 (n - 1) = n - 1 := by simp [wrap64]; omega
  have HP := Lib.hid hp
  have HEL := Lib.hid hel
  have HL := Lib.hid hl
  have HN := Lib.hid hn
  have HN2 := Lib.hid hn2
  clear hp hel hl
  obtain ⟨ob, hob⟩ : ∃ ob : Obj, ob = .cells #[.int .i64 xk, .int .i64 xn, .string (cbs xs), .string (cbs xo), .int .i64 xd, .slice p ks.length c, .int .i64 xa, .int .i64 xb, .int .i64 xr, .int .i64 xe, .int .i64 xf] 39 := ⟨_, rfl⟩
  have HB0 := Lib.hid ((Below.refl w.heap.size w).alloc (Nat.le_refl _) ob)
  have HK0 := Lib.hid (heap_alloc_new w ob)
  rw [hob] at HB0 HK0
  go_enter Tryd.func13, Tryd.ntmps13
  go_wp2_with fail
  go_loopg [1, 5] ks.length (fun r nv iv wr => ∃ (j : Nat) (m : Int), r + j = ks.length ∧ iv = .int .i64 (j : Int) ∧ nv = .int .i64 m ∧ 0 ≤ m ∧ m ≤ n ∧ Below w.heap.size w wr ∧ wr.heap[w.heap.size]? = some (.cells #[.int .i64 xk, .int .i64 xn, .string (cbs xs), .string (cbs xo), .int .i64 xd, .slice p ks.length c, .int .i64 xa, .int .i64 xb, .int .i64 xr, .int .i64 xe, .int .i64 xf] 39 (0, 0)))
  case atStart => exact ⟨0, n - 1, rfl, rfl, by first | rfl | rw [hdn], by have := HN.out; omega, by omega, HB0.out, HK0.out⟩
  case round =>
    obtain ⟨j, m, hj, rfl, rfl, hm0, hm1, hb, hk⟩ := hrel
    have HB := Lib.hid hb
    have HK := Lib.hid hk
    have HJ := Lib.hid hj
    have HM0 := Lib.hid hm0
    have HM1 := Lib.hid hm1
    obtain ⟨⟨z0, z1, z2, z3, z4, z5, z6, z7, z8, z9, zX⟩, -⟩ := hen hk
    clear hb hk hj hm0 hm1 z0 z1 z2 z3 z4 z6 z7 z8 z9 zX
    cases gk with
    | zero =>
      obtain rfl : j = ks.length := by have := HJ.out; omega
      have hd1 : decide ((ks.length : Int) < (ks.length : Int)) = false := decide_eq_false (by omega)
      go_wp2_with fail
      go_ret
      exact ⟨⟨m, HM0.out, HM1.out, rfl⟩, HB.out⟩
    | succ rr =>
      have hjl : j < ks.length := by have := HJ.out; omega
      have hd1 : decide ((j : Int) < (ks.length : Int)) = true := decide_eq_true (by omega)
      by_cases hm : 0 < m
      · have hd2 : decide ((0 : Int) < m) = true := decide_eq_true hm
        have hi1 : (j : Int) < (ks.length : Int) := by omega
        have hd3 : decide (ks.length ≤ j) = false := decide_eq_false (by omega)
        have hdw : wrap64 ((j : Int) + 1) = ((j + 1 : Nat) : Int) := by have := HL.out; simp [wrap64]; omega
        have he1 := List.getElem?_eq_getElem hjl
        have HE := Lib.hid (HEL.out _ (List.getElem_mem hjl))
        generalize ks[j] = e1 at he1 HE
        obtain ⟨bl, off, vs, rfl, hbl, hi, hc⟩ := (HP.out.below HB.out).get he1
        obtain ⟨yk, yn, ys, yo, yd, yp, yl, yc, ya, yb, yr, ye, yf, rfl⟩ := hi.out
        obtain ⟨y0, y1, y2, y3, y4, y5, y6, y7, y8, y9, yX⟩ := eleven_of hc
        have HI := Lib.hid hi
        have HM := Lib.hid hm
        clear hc hi he1 hm
        go_wp2_with fail
        refine (HE.out _ _ m HB.out HI.out HM.out (by have := HM1.out; have := HN2.out; omega)).mono ?_
        rintro e w2 ⟨⟨m2, hm2, hm3, rfl⟩, hb2⟩
        have HB2 := Lib.hid (below_seq HB.out hb2 HB.out.size)
        have HK2 := Lib.hid ((hb2.block _ (heap_lt' HK.out)).trans HK.out)
        have H2 := Lib.hid hm2
        have H3 := Lib.hid hm3
        clear hb2 hm2 hm3
        go_wp2_with fail
        go_roundg rr
        case measure => omega
        case rel => exact ⟨j + 1, m2, by have := HJ.out; omega, by first | rfl | simp [hdw], rfl, H2.out, by have := H3.out; have := HM1.out; omega, HB2.out, HK2.out⟩
      · have hd2 : decide ((0 : Int) < m) = false := decide_eq_false hm
        clear hm
        go_wp2_with fail
        go_ret
        exact ⟨⟨m, HM0.out, HM1.out, rfl⟩, HB.out⟩
theorem small_n : ∀ (n : Nat) (x : Ex), SizeOf.sizeOf x ≤ n → fitE x = true → ∀ w, SmallOk w x := by
  intro n
  induction n with
  | zero => intro x h; cases x; simp at h
  | succ n ih =>
    intro x hs hf w w1 vs k _ hi hk1 hk2
    obtain ⟨xk, xn, xs, xo, xd, ks, xa, xb, xr, xe, xf⟩ := x
    obtain ⟨p, c, rfl, hp⟩ := hi.kids
    rw [fitE, Bool.and_eq_true] at hf
    exact small_step w1 ks p c xk xn xs xo xd xa xb xr xe xf k hk1 hk2 hp (of_decide_eq_true hf.1) (fun e he => ih e (by have := sizes_kid he xk xn xs xo xd xa xb xr xe xf; omega) (fitL_mem hf.2 he) w1)
theorem small_any (w : World) (x : Ex) {vs : List Value} {B : Nat} (n : Int) (hn : 0 < n) (hn2 : n ≤ 300) (hi : Is w B x vs) (hf : fitE x = true) :
    Calls Tryd.prog 13 #[.agg ⟨vs⟩, .int .i64 n] w fun en w' => (∃ m : Int, 0 ≤ m ∧ m ≤ n ∧ en = .returned (.int .i64 m)) ∧ Below w.heap.size w w' :=
  small_n _ x (Nat.le_refl _) hf w w vs n (Below.refl _ _) (Is.lower (Nat.zero_le _) _ hi) hn hn2
end Go.Proofs.YtnadaedibicaaaaDoor
namespace Go.Proofs.YtnadaedibicaaaaDoor
open Go.RowKit
open Px (RT tokAt)
open Pe

def AlikeOk (w : World) (e : Ex) : Prop := ∀ w1 vs vs2, Below w.heap.size w w1 → Is w1 0 e vs → Is w1 0 e vs2 → Calls Tryd.prog 20 #[.agg ⟨vs⟩, .agg ⟨vs2⟩] w1 fun en w' => en = .returned (.bool true) ∧ Below w1.heap.size w1 w'

set_option maxRecDepth 8000 in
set_option maxHeartbeats 4000000 in
theorem alike_step (w : World) (k n : Int) (s o : List UInt8) (dm : Int) (ks : List Ex) (a b r e f : Int) {vs vs2 : List Value} (hi : Is w 0 (.mk k n s o dm ks a b r e f) vs) (hi2 : Is w 0 (.mk k n s o dm ks a b r e f) vs2) (hf : fitE (.mk k n s o dm ks a b r e f) = true) (hel : ∀ e ∈ ks, AlikeOk w e) :
    Calls Tryd.prog 20 #[.agg ⟨vs⟩, .agg ⟨vs2⟩] w fun en w' => en = .returned (.bool true) ∧ Below w.heap.size w w' := by
  have hl : ks.length ≤ 9223372036854775807 := by
    rw [fitE, Bool.and_eq_true] at hf
    exact of_decide_eq_true hf.1
  have hsm := fun w1 (hb : Below w.heap.size w w1) => rsame_any w1 _ _ (hi.below hb) (hi2.below hb) hf
  rw [sameE_self] at hsm
  obtain ⟨p, c, rfl, hp⟩ := hi.kids
  obtain ⟨q, d, rfl, hq⟩ := hi2.kids
  have HP := Lib.hid hp
  have HQ := Lib.hid hq
  have HEL := Lib.hid hel
  have HL := Lib.hid hl
  have HSM := Lib.hid hsm
  clear hp hq hel hl hsm hi hi2 hf
  unfold exCells at HSM ⊢
  have hba : (a != a) = false := bne_self_eq_false _
  have hbl : ((ks.length : Int) != (ks.length : Int)) = false := bne_self_eq_false _
  go_enter Tryd.func20, Tryd.ntmps20
  go_wp2_with fail
  have hbb : Below w.heap.size w ((w.alloc (.cells #[.int .i64 k, .int .i64 n, .string (cbs s), .string (cbs o), .int .i64 dm, .slice p ks.length c, .int .i64 a, .int .i64 b, .int .i64 r, .int .i64 e, .int .i64 f] 39)).alloc (.cells #[.int .i64 k, .int .i64 n, .string (cbs s), .string (cbs o), .int .i64 dm, .slice q ks.length d, .int .i64 a, .int .i64 b, .int .i64 r, .int .i64 e, .int .i64 f] 39)) := bl_alloc (bl_alloc (Below.refl _ _))
  have hka : ((w.alloc (.cells #[.int .i64 k, .int .i64 n, .string (cbs s), .string (cbs o), .int .i64 dm, .slice p ks.length c, .int .i64 a, .int .i64 b, .int .i64 r, .int .i64 e, .int .i64 f] 39)).alloc (.cells #[.int .i64 k, .int .i64 n, .string (cbs s), .string (cbs o), .int .i64 dm, .slice q ks.length d, .int .i64 a, .int .i64 b, .int .i64 r, .int .i64 e, .int .i64 f] 39)).heap[w.heap.size]? = some (.cells #[.int .i64 k, .int .i64 n, .string (cbs s), .string (cbs o), .int .i64 dm, .slice p ks.length c, .int .i64 a, .int .i64 b, .int .i64 r, .int .i64 e, .int .i64 f] 39 (0, 0)) := alloc_box _ (heap_alloc_new w _)
  have hkb : ((w.alloc (.cells #[.int .i64 k, .int .i64 n, .string (cbs s), .string (cbs o), .int .i64 dm, .slice p ks.length c, .int .i64 a, .int .i64 b, .int .i64 r, .int .i64 e, .int .i64 f] 39)).alloc (.cells #[.int .i64 k, .int .i64 n, .string (cbs s), .string (cbs o), .int .i64 dm, .slice q ks.length d, .int .i64 a, .int .i64 b, .int .i64 r, .int .i64 e, .int .i64 f] 39)).heap[w.heap.size + 1]? = some (.cells #[.int .i64 k, .int .i64 n, .string (cbs s), .string (cbs o), .int .i64 dm, .slice q ks.length d, .int .i64 a, .int .i64 b, .int .i64 r, .int .i64 e, .int .i64 f] 39 (0, 0)) := by have := heap_alloc_new (w.alloc (.cells #[.int .i64 k, .int .i64 n, .string (cbs s), .string (cbs o), .int .i64 dm, .slice p ks.length c, .int .i64 a, .int .i64 b, .int .i64 r, .int .i64 e, .int .i64 f] 39)) (.cells #[.int .i64 k, .int .i64 n, .string (cbs s), .string (cbs o), .int .i64 dm, .slice q ks.length d, .int .i64 a, .int .i64 b, .int .i64 r, .int .i64 e, .int .i64 f] 39); rw [size_alloc] at this; exact this
  refine (HSM.out _ hbb).mono ?_
  rintro en w1 ⟨rfl, hb1⟩
  have HA := Lib.hid ((hb1.block _ (heap_lt' hka)).trans hka)
  have HB := Lib.hid ((hb1.block _ (heap_lt' hkb)).trans hkb)
  have HW := Lib.hid (below_seq hbb hb1 hbb.size)
  clear hbb hka hkb hb1 HSM
  go_wp2_with fail
  go_loopg [5] ks.length (fun m v wr => ∃ j : Nat, m + j = ks.length ∧ v = .int .i64 (j : Int) ∧ Below w.heap.size w wr ∧ wr.heap[w.heap.size]? = some (.cells #[.int .i64 k, .int .i64 n, .string (cbs s), .string (cbs o), .int .i64 dm, .slice p ks.length c, .int .i64 a, .int .i64 b, .int .i64 r, .int .i64 e, .int .i64 f] 39 (0, 0)) ∧ wr.heap[w.heap.size + 1]? = some (.cells #[.int .i64 k, .int .i64 n, .string (cbs s), .string (cbs o), .int .i64 dm, .slice q ks.length d, .int .i64 a, .int .i64 b, .int .i64 r, .int .i64 e, .int .i64 f] 39 (0, 0)))
  case atStart => exact ⟨0, rfl, rfl, HW.out, HA.out, HB.out⟩
  case round =>
    obtain ⟨j, hj, rfl, hb, ha, hbk⟩ := hrel
    have HBE := Lib.hid hb
    have HA1 := Lib.hid ha
    have HB1 := Lib.hid hbk
    have HJ := Lib.hid hj
    clear hb ha hbk hj HA HB HW
    obtain ⟨⟨d0, d1, d2, d3, d4, d5, d6, d7, d8, d9, dX⟩, g0, g1, g2, g3, g4, g5, g6, g7, g8, g9, gX⟩ := hen HA1.out
    obtain ⟨⟨m0, m1, m2, m3, m4, m5, m6, m7, m8, m9, mX⟩, h0, h1, h2, h3, h4, h5, h6, h7, h8, h9, hX⟩ := hen HB1.out
    have hla := heap_lt' HA1.out
    have hlb := heap_lt' HB1.out
    clear d0 d1 d2 d3 d4 d6 d7 d8 d9 dX g0 g1 g2 g3 g4 g5 g6 g7 g8 g9 gX m0 m1 m2 m3 m4 m6 m7 m8 m9 mX h0 h1 h2 h3 h4 h5 h6 h7 h8 h9 hX
    cases gk with
    | zero =>
      obtain rfl : j = ks.length := by have := HJ.out; omega
      have hd1 : decide ((ks.length : Int) < (ks.length : Int)) = false := decide_eq_false (by omega)
      go_wp2_with fail
      go_ret
      exact ⟨rfl, HBE.out⟩
    | succ m =>
      have hjl : j < ks.length := by have := HJ.out; omega
      have hd1 : decide ((j : Int) < (ks.length : Int)) = true := decide_eq_true (by omega)
      have hi1 : (j : Int) < (ks.length : Int) := by omega
      have hd2 : decide (ks.length ≤ j) = false := decide_eq_false (by omega)
      have hdw : wrap64 ((j : Int) + 1) = ((j + 1 : Nat) : Int) := by have := HL.out; simp [wrap64]; omega
      have he1 := List.getElem?_eq_getElem hjl
      have HE := Lib.hid (HEL.out _ (List.getElem_mem hjl))
      generalize ks[j] = e1 at he1 HE
      obtain ⟨bl, off, vs, rfl, hbl, hi, hc⟩ := (HP.out.below HBE.out).get he1
      obtain ⟨bl2, off2, vs2, rfl, hbl2, hi', hc2⟩ := (HQ.out.below HBE.out).get he1
      obtain ⟨xk, xn, xs, xo, xd, xp, xl, xc, xa, xb, xr, xe, xf, rfl⟩ := hi.out
      obtain ⟨yk, yn, ys, yo, yd, yp, yl, yc, ya, yb, yr, ye, yf, rfl⟩ := hi'.out
      obtain ⟨x0, x1, x2, x3, x4, x5, x6, x7, x8, x9, xX⟩ := eleven_of hc
      obtain ⟨y0, y1, y2, y3, y4, y5, y6, y7, y8, y9, yX⟩ := eleven_of hc2
      have HI := Lib.hid hi
      have HI2 := Lib.hid hi'
      clear hc hc2 hi hi' he1
      have hi3 : (0 : Int) ≤ (j : Int) := by omega
      go_wp2_with fail
      refine wp_region_still_tail 10 (by kernel_rfl) (by kernel_rfl) ?_
      simp only [List.take_succ_cons, List.take_zero, List.drop_succ_cons, List.drop_zero]
      change wpStill _ _ wr.drew _ _ _
      repeat still_step
      refine wpStill_nil ?_
      change wpList _ _ _ _ _ wr.drew
      have HBD : Hid (Below w.heap.size w wr.drew) := HBE.out.drew
      go_wp2_with fail
      refine (HE.out _ _ _ HBD.out (HI.out.below (Below.refl _ _).drew) (HI2.out.below (Below.refl _ _).drew)).mono ?_
      rintro en w2 ⟨rfl, hb3⟩
      have HB2 := Lib.hid (below_seq HBD.out hb3 HBD.out.size)
      have HA2 := Lib.hid ((hb3.block _ (heap_lt' HA1.out)).trans HA1.out)
      have HB3 := Lib.hid ((hb3.block _ (heap_lt' HB1.out)).trans HB1.out)
      clear hb3
      go_wp2_with fail
      go_roundg m
      case measure => omega
      case rel => exact ⟨j + 1, by have := HJ.out; omega, by first | rfl | simp [hdw], HB2.out, HA2.out, HB3.out⟩

theorem alike_n : ∀ (n : Nat) (x : Ex), SizeOf.sizeOf x ≤ n → fitE x = true → ∀ w, AlikeOk w x := by
  intro n
  induction n with
  | zero => intro x h; cases x; simp at h
  | succ n ih =>
    intro x hs hf w w1 vs vs2 _ hi hi2
    obtain ⟨xk, xn, xs, xo, xd, ks, xa, xb, xr, xe, xf⟩ := x
    have hf2 := hf
    rw [fitE, Bool.and_eq_true] at hf2
    exact alike_step w1 xk xn xs xo xd ks xa xb xr xe xf hi hi2 hf (fun e he => ih e (by have := sizes_kid he xk xn xs xo xd xa xb xr xe xf; omega) (fitL_mem hf2.2 he) w1)
/-- Two of one tree. -/
theorem alike_any (w : World) (x : Ex) {vs vs2 : List Value} {B B2 : Nat} (hi : Is w B x vs) (hi2 : Is w B2 x vs2) (hf : fitE x = true) :
    Calls Tryd.prog 20 #[.agg ⟨vs⟩, .agg ⟨vs2⟩] w fun e w' => e = .returned (.bool true) ∧ Below w.heap.size w w' :=
  alike_n _ x (Nat.le_refl _) hf w w vs vs2 (Below.refl _ _) (Is.lower (Nat.zero_le _) _ hi) (Is.lower (Nat.zero_le _) _ hi2)

end Go.Proofs.YtnadaedibicaaaaDoor
namespace Go.Proofs.YtnadaedibicaaaaDoor
open Go.RowKit
open Px (RT tokAt)
open Pe

theorem OpsIn.below {w w' : World} (h : OpsIn w) (hb : Below w.heap.size w w') : OpsIn w' := by obtain ⟨gt, gfr, hg⟩ := h; exact ⟨gt, gfr, (hb.block _ (heap_lt' hg)).trans hg⟩
theorem eqGuardFault : Tryd.prog.eqGuardType Tryd.prog.depth 25 = false := by kernel_rfl

set_option maxRecDepth 8000 in
set_option maxHeartbeats 4000000 in
theorem held_any (w : World) (R0 : Nat) (S : Value) (ts : List RT) (k o : Int) (h : Toks w R0 S ts) (hops : OpsIn w) (hl : ts.length ≤ 90000000) :
    Calls Tryd.prog 9 #[S, .int .i64 k, .int .i64 o] w fun e w' => e = .returned (.bool true) ∧ Below w.heap.size w w' := by
  obtain ⟨⟨ex, to, E, F⟩, hp, hq⟩ := Sim.parse_same (ts := ts) (by omega) k o
  have hfit := Sim.fit_expr (by omega) hq
  have hen : Sim.enough ts ≤ 1000000000 := by unfold Sim.enough; omega
  have HP := Lib.hid (parse_any w R0 S ts k o h hops _ hen _ hp)
  have HQ := Lib.hid (fun w1 (hb : Below w.heap.size w w1) => qParse_any w1 R0 S ts k o (h.below hb) _ hen _ hq)
  have HF := Lib.hid hfit
  have hG := eqGuardFault
  clear h hops hl hp hq hfit hen
  dsimp only at HP HQ HF
  go_enter Tryd.func9, Tryd.ntmps9
  go_wp2_with fail
  refine HP.out.mono ?_
  rintro en w1 ⟨xk, xn, xs, xo, xd, xp, xl, xc, xa, xb, xr, xe, xf, rfl, hi, hb⟩
  have hb2 : Below w.heap.size w ((w1.alloc (.cells #[.int .i64 xk, .int .i64 xn, .string (cbs xs), .string (cbs xo), .int .i64 xd, .slice xp xl xc, .int .i64 xa, .int .i64 xb, .int .i64 xr, .int .i64 xe, .int .i64 xf] 39)).alloc (.cells #[.int .i64 E, .int .i64 F] 25)) := bl_alloc (bl_alloc hb)
  have HB := Lib.hid hb2
  have HI := Lib.hid ((hi.alloc (.cells #[.int .i64 xk, .int .i64 xn, .string (cbs xs), .string (cbs xo), .int .i64 xd, .slice xp xl xc, .int .i64 xa, .int .i64 xb, .int .i64 xr, .int .i64 xe, .int .i64 xf] 39)).alloc (.cells #[.int .i64 E, .int .i64 F] 25))
  have hka : ((w1.alloc (.cells #[.int .i64 xk, .int .i64 xn, .string (cbs xs), .string (cbs xo), .int .i64 xd, .slice xp xl xc, .int .i64 xa, .int .i64 xb, .int .i64 xr, .int .i64 xe, .int .i64 xf] 39)).alloc (.cells #[.int .i64 E, .int .i64 F] 25)).heap[w1.heap.size]? = some (.cells #[.int .i64 xk, .int .i64 xn, .string (cbs xs), .string (cbs xo), .int .i64 xd, .slice xp xl xc, .int .i64 xa, .int .i64 xb, .int .i64 xr, .int .i64 xe, .int .i64 xf] 39 (0, 0)) := alloc_box _ (heap_alloc_new w1 _)
  have hkb : ((w1.alloc (.cells #[.int .i64 xk, .int .i64 xn, .string (cbs xs), .string (cbs xo), .int .i64 xd, .slice xp xl xc, .int .i64 xa, .int .i64 xb, .int .i64 xr, .int .i64 xe, .int .i64 xf] 39)).alloc (.cells #[.int .i64 E, .int .i64 F] 25)).heap[w1.heap.size + 1]? = some (.cells #[.int .i64 E, .int .i64 F] 25 (0, 0)) := by have := heap_alloc_new (w1.alloc (.cells #[.int .i64 xk, .int .i64 xn, .string (cbs xs), .string (cbs xo), .int .i64 xd, .slice xp xl xc, .int .i64 xa, .int .i64 xb, .int .i64 xr, .int .i64 xe, .int .i64 xf] 39)) (.cells #[.int .i64 E, .int .i64 F] 25); rw [size_alloc] at this; exact this
  have HKA := Lib.hid hka
  have HKB := Lib.hid hkb
  clear hi hb hb2 hka hkb
  go_wp2_with fail
  refine (HQ.out _ HB.out).mono ?_
  rintro en w2 ⟨yk, yn, ys, yo, yd, yp, yl, yc, ya, yb, yr, ye, yf, rfl, hi2, hb2⟩
  have hka := (hb2.block _ (heap_lt' HKA.out)).trans HKA.out
  have hkb := (hb2.block _ (heap_lt' HKB.out)).trans HKB.out
  obtain ⟨⟨d0, d1, d2, d3, d4, d5, d6, d7, d8, d9, dX⟩, g0, g1, g2, g3, g4, g5, g6, g7, g8, g9, gX⟩ := hen hka
  obtain ⟨⟨b0, b1⟩, ⟨h0, h1⟩, hlb⟩ := duo hkb
  have hla := heap_lt' hka
  have HI1 := Lib.hid (HI.out.below hb2)
  have HI2 := Lib.hid hi2
  have HB2 := Lib.hid (below_seq HB.out hb2 HB.out.size)
  have HKB2 := Lib.hid hkb
  clear hi2 hb2 hka hkb g0 g1 g2 g3 g4 g5 g6 g7 g8 g9 gX h0 h1
  go_wp2_with fail
  have hb3 : Below w2.heap.size w2 ((w2.alloc (.cells #[.int .i64 yk, .int .i64 yn, .string (cbs ys), .string (cbs yo), .int .i64 yd, .slice yp yl yc, .int .i64 ya, .int .i64 yb, .int .i64 yr, .int .i64 ye, .int .i64 yf] 39)).alloc (.cells #[.int .i64 E, .int .i64 F] 25)) := bl_alloc (bl_alloc (Below.refl _ _))
  have hkc : ((w2.alloc (.cells #[.int .i64 yk, .int .i64 yn, .string (cbs ys), .string (cbs yo), .int .i64 yd, .slice yp yl yc, .int .i64 ya, .int .i64 yb, .int .i64 yr, .int .i64 ye, .int .i64 yf] 39)).alloc (.cells #[.int .i64 E, .int .i64 F] 25)).heap[w2.heap.size + 1]? = some (.cells #[.int .i64 E, .int .i64 F] 25 (0, 0)) := by have := heap_alloc_new (w2.alloc (.cells #[.int .i64 yk, .int .i64 yn, .string (cbs ys), .string (cbs yo), .int .i64 yd, .slice yp yl yc, .int .i64 ya, .int .i64 yb, .int .i64 yr, .int .i64 ye, .int .i64 yf] 39)) (.cells #[.int .i64 E, .int .i64 F] 25); rw [size_alloc] at this; exact this
  have hkd := (hb3.block _ (heap_lt' HKB2.out)).trans HKB2.out
  refine (alike_any _ ex (HI1.out.below hb3) (HI2.out.below hb3) HF.out).mono ?_
  rintro en w3 ⟨rfl, hb4⟩
  have hkc2 := (hb4.block _ (heap_lt' hkc)).trans hkc
  have hkd2 := (hb4.block _ (heap_lt' hkd)).trans hkd
  have HB4 := Lib.hid (below_seq (below_seq HB2.out hb3 HB2.out.size) hb4 (below_seq HB2.out hb3 HB2.out.size).size)
  obtain ⟨⟨e0, e1⟩, -, hle⟩ := duo hkc2
  obtain ⟨⟨f0, f1⟩, -, hlf⟩ := duo hkd2
  clear hb3 hb4 hkc hkd hkc2 hkd2
  go_wp2_with fail
  go_ret
  exact ⟨rfl, HB4.out⟩
end Go.Proofs.YtnadaedibicaaaaDoor
namespace Go.Proofs.YtnadaedibicaaaaDoor
open Go.RowKit
open Px (RT tokAt)
open Pe

set_option maxRecDepth 8000 in
set_option maxHeartbeats 8000000 in
theorem known_any (w : World) (hops : OpsIn w) :
    Calls Tryd.prog 10 #[] w fun e w' => e = .returned (.bool true) ∧ Below w.heap.size w w' := by
  obtain ⟨gt, gfr, hg⟩ := hops
  have HG := Lib.hid hg
  have hlt := heap_lt' hg
  clear hg
  go_enter Tryd.func10, Tryd.ntmps10
  go_wp2_with fail
  refine (tokens_are ⟨#[97, 32, 43, 32, 98, 32, 42, 32, 99]⟩ (by decide) knUs 0 0 kn_toks w).mono ?_
  rintro e w1 ⟨A, cA, rfl, hl1, hb1⟩
  have HT := Lib.hid ((toks_of (c := cA) hl1 kn_short).below ((Below.refl _ _).alloc (Nat.le_refl _) (.cells #[.int .i64 0, .int .i64 0] 25)))
  have HB1 := Lib.hid (below_seq hb1 ((Below.refl _ _).alloc (Nat.le_refl _) (.cells #[.int .i64 0, .int .i64 0] 25)) hb1.size)
  clear hl1 hb1
  go_wp2_with fail
  refine (parse_any _ _ _ (knUs.map toRT) 0 0 HT.out ⟨gt, gfr, (HB1.out.block _ hlt).trans HG.out⟩ 40 (by decide) _ kn_parse).mono ?_
  rintro e w2 ⟨xk, xn, xs, xo, xd, xp, xl, xc, xa, xb, xr, xe, xf, rfl, hi, hb2⟩
  have HI := Lib.hid hi
  obtain ⟨bl, off, c, q, qc, hv, hbl, hc0, hi0, hc1⟩ := hi.kn
  obtain ⟨rfl, rfl, rfl, rfl, rfl, hsl, rfl, rfl, rfl, rfl, rfl⟩ := exCells_inj hv
  have hs2 : xp = some ⟨bl, off, none⟩ ∧ xl = 2 ∧ xc = c := by simpa using hsl
  obtain ⟨rfl, rfl, rfl⟩ : some ⟨bl, off, none⟩ = xp ∧ 2 = xl ∧ c = xc := ⟨hs2.1.symm, hs2.2.1.symm, hs2.2.2.symm⟩
  clear hs2
  have HC0 := Lib.hid hc0
  have HI0 := Lib.hid hi0
  have HC1 := Lib.hid hc1
  have HBL := Lib.hid hbl
  have HB2 := Lib.hid hb2
  clear hi hv hbl hc0 hi0 hc1 hsl hb2
  have hb3 : Below w2.heap.size w2 ((w2.alloc (.cells #[.int .i64 14, .int .i64 0, .string (cbs []), .string (cbs []), .int .i64 0, .slice (some ⟨bl, off, none⟩) 2 c, .int .i64 2, .int .i64 0, .int .i64 0, .int .i64 0, .int .i64 0] 39)).alloc (.cells #[.int .i64 0, .int .i64 0] 25)) := ((Below.refl _ _).alloc (Nat.le_refl _) _).alloc (by rw [size_alloc]; omega) _
  have HB3 := Lib.hid hb3
  have hof := of_any ((w2.alloc (.cells #[.int .i64 14, .int .i64 0, .string (cbs []), .string (cbs []), .int .i64 0, .slice (some ⟨bl, off, none⟩) 2 c, .int .i64 2, .int .i64 0, .int .i64 0, .int .i64 0, .int .i64 0] 39)).alloc (.cells #[.int .i64 0, .int .i64 0] 25)) _ _ (knUs.map toRT) 0 ((HT.out.below HB2.out).below hb3)
  rw [kn_of] at hof
  have HOF := Lib.hid hof
  clear hof hb3
  dsimp only
  go_wp2_with fail
  refine (HOF.out).mono ?_
  rintro e w3 ⟨rfl, hb4⟩
  have HB4 := Lib.hid hb4
  have hE3 : w3.heap[w2.heap.size]? = some (.cells #[.int .i64 14, .int .i64 0, .string (cbs []), .string (cbs []), .int .i64 0, .slice (some ⟨bl, off, none⟩) 2 c, .int .i64 2, .int .i64 0, .int .i64 0, .int .i64 0, .int .i64 0] 39 (0, 0)) := (hb4.block _ (by simp only [size_alloc]; omega)).trans (alloc_box _ (heap_alloc_new w2 _))
  have hF3 : w3.heap[w2.heap.size + 1]? = some (.cells #[.int .i64 0, .int .i64 0] 25 (0, 0)) := (hb4.block _ (by simp only [size_alloc]; omega)).trans (by have := heap_alloc_new (w2.alloc (.cells #[.int .i64 14, .int .i64 0, .string (cbs []), .string (cbs []), .int .i64 0, .slice (some ⟨bl, off, none⟩) 2 c, .int .i64 2, .int .i64 0, .int .i64 0, .int .i64 0, .int .i64 0] 39)) (.cells #[.int .i64 0, .int .i64 0] 25); rw [size_alloc] at this; exact this)
  have HE3 := Lib.hid hE3
  have HF3 := Lib.hid hF3
  clear hb4 hE3 hF3 HOF
  dsimp only
  go_wp2_with fail
  obtain ⟨wc, hwc⟩ : ∃ wc, wc = (w3.alloc (.cells #[.string (cbs [97]), .int .i64 0] 32)).alloc (.cells #[.int .i64 0, .int .i64 0] 25) := ⟨_, rfl⟩
  have hb5 : Below w3.heap.size w3 wc := by rw [hwc]; exact ((Below.refl _ _).alloc (Nat.le_refl _) _).alloc (by rw [size_alloc]; omega) _
  have hO : wc.heap[w3.heap.size]? = some (.cells #[.string (cbs [97]), .int .i64 0] 32 (0, 0)) := by rw [hwc]; exact alloc_box _ (heap_alloc_new w3 _)
  have hG : wc.heap[w3.heap.size + 1]? = some (.cells #[.int .i64 0, .int .i64 0] 25 (0, 0)) := by rw [hwc]; have := heap_alloc_new (w3.alloc (.cells #[.string (cbs [97]), .int .i64 0] 32)) (.cells #[.int .i64 0, .int .i64 0] 25); rw [size_alloc] at this; exact this
  try rw [← hwc]
  clear hwc
  have hE := (hb5.block _ (heap_lt' HE3.out)).trans HE3.out
  have hF := (hb5.block _ (heap_lt' HF3.out)).trans HF3.out
  have h25 : Below w2.heap.size w2 wc := below_seq (below_seq HB3.out HB4.out HB3.out.size) hb5 (below_seq HB3.out HB4.out HB3.out.size).size
  have hK := kn_cells (fun i v hh => (h25.cell (p := ⟨bl, _, none⟩) HBL.out).trans (HC0.out i v hh))
  have hK1 := (h25.cell (p := ⟨bl, off + 11, none⟩) HBL.out).trans HC1.out
  have hlb : bl < wc.heap.size := Nat.lt_of_lt_of_le HBL.out h25.size
  have HIE := Lib.hid (HI.out.below h25)
  have HIA := Lib.hid (HI0.out.below h25)
  have HS0 := Lib.hid (kn_hold hE hF hO hG hK hK1)
  have HLT := Lib.hid (show w2.heap.size < wc.heap.size ∧ w2.heap.size + 1 < wc.heap.size ∧ w3.heap.size < wc.heap.size ∧ w3.heap.size + 1 < wc.heap.size ∧ bl < wc.heap.size from ⟨heap_lt' hE, heap_lt' hF, heap_lt' hO, heap_lt' hG, hlb⟩)
  have HW : Hid (Below w.heap.size w wc) := below_seq (below_seq HB1.out HB2.out HB1.out.size) (below_seq (below_seq HB3.out HB4.out HB3.out.size) hb5 (below_seq HB3.out HB4.out HB3.out.size).size) (below_seq HB1.out HB2.out HB1.out.size).size
  have HSA := Lib.hid (fun w1 (hb : Below wc.heap.size wc w1) => same_any w1 knE knE (HIE.out.below hb) (HIE.out.below hb) kn_fit)
  have HSB := Lib.hid (fun w1 (hb : Below wc.heap.size wc w1) => same_any w1 knE knA (HIE.out.below hb) (HIA.out.below hb) kn_fit)
  clear hE hF hO hG hK hK1 hlb hb5 h25 HT HG hlt HE3 HF3 HB1 HB2 HB3 HB4 HC0 HC1 HI0 HBL HI
  obtain ⟨e0, e1, e2, e3, e4, e5, e6, e7, e8, e9, eX, f0, g0, o0, k0, k1, k2, k3, k4, k5, k6, k7, k8, k9, kX, m0⟩ := HS0.out
  have hcmp : ((cbs [97]).toList == [97]) = true := by rw [cbs_list]; rfl
  have HD1 : Hid (Below wc.heap.size wc wc.drew) := (Below.refl _ _).drew
  go_region_held3 (fun w' => w'.cell? ⟨w2.heap.size, 0, none⟩ = some (.int .i64 14) ∧ w'.cell? ⟨w2.heap.size, 1, none⟩ = some (.int .i64 0) ∧ w'.cell? ⟨w2.heap.size, 2, none⟩ = some (.string (cbs [])) ∧ w'.cell? ⟨w2.heap.size, 3, none⟩ = some (.string (cbs [])) ∧ w'.cell? ⟨w2.heap.size, 4, none⟩ = some (.int .i64 0) ∧ w'.cell? ⟨w2.heap.size, 5, none⟩ = some (.slice (some ⟨bl, off, none⟩) 2 c) ∧ w'.cell? ⟨w2.heap.size, 6, none⟩ = some (.int .i64 2) ∧ w'.cell? ⟨w2.heap.size, 7, none⟩ = some (.int .i64 0) ∧ w'.cell? ⟨w2.heap.size, 8, none⟩ = some (.int .i64 0) ∧ w'.cell? ⟨w2.heap.size, 9, none⟩ = some (.int .i64 0) ∧ w'.cell? ⟨w2.heap.size, 10, none⟩ = some (.int .i64 0) ∧ w'.cell? ⟨w2.heap.size + 1, 0, none⟩ = some (.int .i64 0) ∧ w'.cell? ⟨w3.heap.size + 1, 0, none⟩ = some (.int .i64 0) ∧ w'.cell? ⟨w3.heap.size, 0, none⟩ = some (.string (cbs [97])) ∧ w'.cell? ⟨bl, off, none⟩ = some (.int .i64 4) ∧ w'.cell? ⟨bl, off + 1, none⟩ = some (.int .i64 0) ∧ w'.cell? ⟨bl, off + 2, none⟩ = some (.string (cbs [97])) ∧ w'.cell? ⟨bl, off + 3, none⟩ = some (.string (cbs [])) ∧ w'.cell? ⟨bl, off + 4, none⟩ = some (.int .i64 0) ∧ w'.cell? ⟨bl, off + 5, none⟩ = some (.slice q 0 qc) ∧ w'.cell? ⟨bl, off + 6, none⟩ = some (.int .i64 0) ∧ w'.cell? ⟨bl, off + 7, none⟩ = some (.int .i64 0) ∧ w'.cell? ⟨bl, off + 8, none⟩ = some (.int .i64 0) ∧ w'.cell? ⟨bl, off + 9, none⟩ = some (.int .i64 0) ∧ w'.cell? ⟨bl, off + 10, none⟩ = some (.int .i64 0) ∧ w'.cell? ⟨bl, off + 11, none⟩ = some (.int .i64 16)) (first | exact HS0.out | exact HS4.out | exact HS5.out) (first
    | (go_at_call 14; (refine Calls.mono (HSA.out _ HD1.out) ?_); rintro e w4 ⟨rfl, hb4⟩; have HB4 := Lib.hid (below_seq HD1.out hb4 HD1.out.size); have HS4 := Lib.hid (kn_go HS0.out HB4.out HLT.out.1 HLT.out.2.1 HLT.out.2.2.1 HLT.out.2.2.2.1 HLT.out.2.2.2.2); rw [kn_same1]; clear hb4 HSA HS0)
    | (go_at_call 14; (refine Calls.mono (HSB.out _ HB4.out) ?_); rintro e w5 ⟨rfl, hb5⟩; have HB5 := Lib.hid (below_seq HB4.out hb5 HB4.out.size); have HS5 := Lib.hid (kn_go HS4.out (below_seq (Below.refl _ _) hb5 (Nat.le_refl _)) (Nat.lt_of_lt_of_le HLT.out.1 HB4.out.size) (Nat.lt_of_lt_of_le HLT.out.2.1 HB4.out.size) (Nat.lt_of_lt_of_le HLT.out.2.2.1 HB4.out.size) (Nat.lt_of_lt_of_le HLT.out.2.2.2.1 HB4.out.size) (Nat.lt_of_lt_of_le HLT.out.2.2.2.2 HB4.out.size)); rw [kn_same2]; clear hb5 HSB HS4))
  go_wp2_with fail
  go_ret
  exact ⟨rfl, below_seq HW.out HB5.out HW.out.size⟩
end Go.Proofs.YtnadaedibicaaaaDoor
namespace Go.Proofs.YtnadaedibicaaaaDoor
open Go.RowKit
open Px (RT tokAt)
open Pe

set_option maxRecDepth 8000 in
set_option maxHeartbeats 4000000 in
theorem exprReads_walk (s : ByteArray) (k o : Int) (hs : s.size ≤ maxLen) (_ : -9223372036854775808 ≤ k ∧ k ≤ 9223372036854775807) (_ : -9223372036854775808 ≤ o ∧ o ≤ 9223372036854775807) (w : World) (hops : OpsIn w) :
    Calls Tryd.prog 3 #[.string s, .int .i64 k, .int .i64 o] w fun e w' => e = .returned (.bool true) ∧ Below w.heap.size w w' := by
  obtain ⟨us, E, K, htk⟩ : ∃ us E K, Ln.Lx.toks s.data.toList = (us, E, K) := ⟨_, _, _, rfl⟩
  have hlen : us.length ≤ 6001 := by have := Ln.Lx.toks_len s.data.toList; rw [htk] at this; exact this
  have hsh : ∀ t ∈ us, t.text.length ≤ 281474976710656 := by have := toks_text s.data.toList; rw [htk] at this; exact this
  have HTK := Lib.hid (tokens_are s hs us E K htk w)
  have HOP := Lib.hid hops
  have HLEN := Lib.hid hlen
  have HSH := Lib.hid hsh
  clear htk hlen hsh hops
  by_cases h1 : 2000 < s.size
  · go_enter Tryd.func3, Tryd.ntmps3
    go_wp2_with fail
    refine HTK.out.mono ?_
    rintro e w1 ⟨A, c, rfl, hl1, hb1⟩
    clear hl1
    go_wp2_with fail
    go_ret
    exact ⟨rfl, bl_alloc hb1⟩
  · have h1' : s.size ≤ 2000 := by omega
    clear h1
    by_cases hE : E = 0
    · subst hE
      go_enter Tryd.func3, Tryd.ntmps3
      go_wp2_with fail
      refine HTK.out.mono ?_
      rintro e w1 ⟨A, c, rfl, hl1, hb1⟩
      have HT := Lib.hid (((toks_of (c := c) hl1 HSH.out).below ((Below.refl w1.heap.size w1).alloc (Nat.le_refl _) (.cells #[.int .i64 ((0 : Nat) : Int), .int .i64 (K : Int)] 25))).re (Nat.le_refl _))
      have HB := Lib.hid (bl_alloc (o := .cells #[.int .i64 ((0 : Nat) : Int), .int .i64 (K : Int)] 25) hb1)
      clear hl1 hb1
      go_wp2_with fail
      refine (held_any _ _ _ _ k o HT.out (HOP.out.below HB.out) (by rw [List.length_map]; have := HLEN.out; omega)).mono ?_
      rintro e w2 ⟨rfl, hb2⟩
      have HB2 := Lib.hid (below_seq HB.out hb2 HB.out.size)
      clear hb2
      go_wp2_with fail
      refine (known_any _ (HOP.out.below HB2.out)).mono ?_
      rintro e w3 ⟨rfl, hb3⟩
      go_wp2_with fail
      go_ret
      exact ⟨rfl, below_seq HB2.out hb3 HB2.out.size⟩
    · have hE2 : ((E : Int) != 0) = true := by rw [bne_iff_ne]; omega
      have hE3 : (E != 0) = true := by rw [bne_iff_ne]; exact hE
      go_enter Tryd.func3, Tryd.ntmps3
      go_wp2_with fail
      refine HTK.out.mono ?_
      rintro e w1 ⟨A, c, rfl, hl1, hb1⟩
      clear hl1
      go_wp2_with fail
      go_ret
      exact ⟨rfl, bl_alloc hb1⟩
end Go.Proofs.YtnadaedibicaaaaDoor
