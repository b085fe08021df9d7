/-
  The law's own comparison of two trees: of two that are the same it is true.
-/
import Derived.Test.YtldhgoblimfhbaaDoorSr
import Derived.Test.YtldhgoblimfhbaaDoorSf
import Derived.Test.YtldhgoblimfhbaaDoorTr
import Derived.StillTailTactics
namespace Go.Proofs.YtldhgoblimfhbaaDoor
open Go.RowKit
open Px (RT tokAt)
open Pe

def AlikeOk (w : World) (e : Ex) : Prop := ∀ w1 vs vs2, Below w.heap.size w w1 → Is w1 0 e vs → Is w1 0 e vs2 → Calls Tryd.prog 21 #[.agg ⟨vs⟩, .agg ⟨vs2⟩] w1 fun en w' => en = .returned (.bool true) ∧ Below w1.heap.size w1 w'

set_option maxRecDepth 8000 in
set_option maxHeartbeats 4000000 in
theorem alike_step (w : World) (k n : Int) (s o : List UInt8) (dm : Int) (ks : List Ex) (a b r e f : Int) {vs vs2 : List Value} (hi : Is w 0 (.mk k n s o dm ks a b r e f) vs) (hi2 : Is w 0 (.mk k n s o dm ks a b r e f) vs2) (hf : fitE (.mk k n s o dm ks a b r e f) = true) (hel : ∀ e ∈ ks, AlikeOk w e) :
    Calls Tryd.prog 21 #[.agg ⟨vs⟩, .agg ⟨vs2⟩] w fun en w' => en = .returned (.bool true) ∧ Below w.heap.size w w' := by
  have hl : ks.length ≤ 9223372036854775807 := by
    rw [fitE, Bool.and_eq_true] at hf
    exact of_decide_eq_true hf.1
  have hsm := fun w1 (hb : Below w.heap.size w w1) => rsame_any w1 _ _ (hi.below hb) (hi2.below hb) hf
  rw [sameE_self] at hsm
  obtain ⟨p, c, rfl, hp⟩ := hi.kids
  obtain ⟨q, d, rfl, hq⟩ := hi2.kids
  have HP := Lib.hid hp
  have HQ := Lib.hid hq
  have HEL := Lib.hid hel
  have HL := Lib.hid hl
  have HSM := Lib.hid hsm
  clear hp hq hel hl hsm hi hi2 hf
  unfold exCells at HSM ⊢
  have hba : (a != a) = false := bne_self_eq_false _
  have hbl : ((ks.length : Int) != (ks.length : Int)) = false := bne_self_eq_false _
  go_enter Tryd.func21, Tryd.ntmps21
  go_wp2_with fail
  have hbb : Below w.heap.size w ((w.alloc (.cells #[.int .i64 k, .int .i64 n, .string (cbs s), .string (cbs o), .int .i64 dm, .slice p ks.length c, .int .i64 a, .int .i64 b, .int .i64 r, .int .i64 e, .int .i64 f] 39)).alloc (.cells #[.int .i64 k, .int .i64 n, .string (cbs s), .string (cbs o), .int .i64 dm, .slice q ks.length d, .int .i64 a, .int .i64 b, .int .i64 r, .int .i64 e, .int .i64 f] 39)) := bl_alloc (bl_alloc (Below.refl _ _))
  have hka : ((w.alloc (.cells #[.int .i64 k, .int .i64 n, .string (cbs s), .string (cbs o), .int .i64 dm, .slice p ks.length c, .int .i64 a, .int .i64 b, .int .i64 r, .int .i64 e, .int .i64 f] 39)).alloc (.cells #[.int .i64 k, .int .i64 n, .string (cbs s), .string (cbs o), .int .i64 dm, .slice q ks.length d, .int .i64 a, .int .i64 b, .int .i64 r, .int .i64 e, .int .i64 f] 39)).heap[w.heap.size]? = some (.cells #[.int .i64 k, .int .i64 n, .string (cbs s), .string (cbs o), .int .i64 dm, .slice p ks.length c, .int .i64 a, .int .i64 b, .int .i64 r, .int .i64 e, .int .i64 f] 39 (0, 0)) := alloc_box _ (heap_alloc_new w _)
  have hkb : ((w.alloc (.cells #[.int .i64 k, .int .i64 n, .string (cbs s), .string (cbs o), .int .i64 dm, .slice p ks.length c, .int .i64 a, .int .i64 b, .int .i64 r, .int .i64 e, .int .i64 f] 39)).alloc (.cells #[.int .i64 k, .int .i64 n, .string (cbs s), .string (cbs o), .int .i64 dm, .slice q ks.length d, .int .i64 a, .int .i64 b, .int .i64 r, .int .i64 e, .int .i64 f] 39)).heap[w.heap.size + 1]? = some (.cells #[.int .i64 k, .int .i64 n, .string (cbs s), .string (cbs o), .int .i64 dm, .slice q ks.length d, .int .i64 a, .int .i64 b, .int .i64 r, .int .i64 e, .int .i64 f] 39 (0, 0)) := by have := heap_alloc_new (w.alloc (.cells #[.int .i64 k, .int .i64 n, .string (cbs s), .string (cbs o), .int .i64 dm, .slice p ks.length c, .int .i64 a, .int .i64 b, .int .i64 r, .int .i64 e, .int .i64 f] 39)) (.cells #[.int .i64 k, .int .i64 n, .string (cbs s), .string (cbs o), .int .i64 dm, .slice q ks.length d, .int .i64 a, .int .i64 b, .int .i64 r, .int .i64 e, .int .i64 f] 39); rw [size_alloc] at this; exact this
  refine (HSM.out _ hbb).mono ?_
  rintro en w1 ⟨rfl, hb1⟩
  have HA := Lib.hid ((hb1.block _ (heap_lt' hka)).trans hka)
  have HB := Lib.hid ((hb1.block _ (heap_lt' hkb)).trans hkb)
  have HW := Lib.hid (below_seq hbb hb1 hbb.size)
  clear hbb hka hkb hb1 HSM
  go_wp2_with fail
  go_loopg [5] ks.length (fun m v wr => ∃ j : Nat, m + j = ks.length ∧ v = .int .i64 (j : Int) ∧ Below w.heap.size w wr ∧ wr.heap[w.heap.size]? = some (.cells #[.int .i64 k, .int .i64 n, .string (cbs s), .string (cbs o), .int .i64 dm, .slice p ks.length c, .int .i64 a, .int .i64 b, .int .i64 r, .int .i64 e, .int .i64 f] 39 (0, 0)) ∧ wr.heap[w.heap.size + 1]? = some (.cells #[.int .i64 k, .int .i64 n, .string (cbs s), .string (cbs o), .int .i64 dm, .slice q ks.length d, .int .i64 a, .int .i64 b, .int .i64 r, .int .i64 e, .int .i64 f] 39 (0, 0)))
  case atStart => exact ⟨0, rfl, rfl, HW.out, HA.out, HB.out⟩
  case round =>
    obtain ⟨j, hj, rfl, hb, ha, hbk⟩ := hrel
    have HBE := Lib.hid hb
    have HA1 := Lib.hid ha
    have HB1 := Lib.hid hbk
    have HJ := Lib.hid hj
    clear hb ha hbk hj HA HB HW
    obtain ⟨⟨d0, d1, d2, d3, d4, d5, d6, d7, d8, d9, dX⟩, g0, g1, g2, g3, g4, g5, g6, g7, g8, g9, gX⟩ := hen HA1.out
    obtain ⟨⟨m0, m1, m2, m3, m4, m5, m6, m7, m8, m9, mX⟩, h0, h1, h2, h3, h4, h5, h6, h7, h8, h9, hX⟩ := hen HB1.out
    have hla := heap_lt' HA1.out
    have hlb := heap_lt' HB1.out
    clear d0 d1 d2 d3 d4 d6 d7 d8 d9 dX g0 g1 g2 g3 g4 g5 g6 g7 g8 g9 gX m0 m1 m2 m3 m4 m6 m7 m8 m9 mX h0 h1 h2 h3 h4 h5 h6 h7 h8 h9 hX
    cases gk with
    | zero =>
      obtain rfl : j = ks.length := by have := HJ.out; omega
      have hd1 : decide ((ks.length : Int) < (ks.length : Int)) = false := decide_eq_false (by omega)
      go_wp2_with fail
      go_ret
      exact ⟨rfl, HBE.out⟩
    | succ m =>
      have hjl : j < ks.length := by have := HJ.out; omega
      have hd1 : decide ((j : Int) < (ks.length : Int)) = true := decide_eq_true (by omega)
      have hi1 : (j : Int) < (ks.length : Int) := by omega
      have hd2 : decide (ks.length ≤ j) = false := decide_eq_false (by omega)
      have hdw : wrap64 ((j : Int) + 1) = ((j + 1 : Nat) : Int) := by have := HL.out; simp [wrap64]; omega
      have he1 := List.getElem?_eq_getElem hjl
      have HE := Lib.hid (HEL.out _ (List.getElem_mem hjl))
      generalize ks[j] = e1 at he1 HE
      obtain ⟨bl, off, vs, rfl, hbl, hi, hc⟩ := (HP.out.below HBE.out).get he1
      obtain ⟨bl2, off2, vs2, rfl, hbl2, hi', hc2⟩ := (HQ.out.below HBE.out).get he1
      obtain ⟨xk, xn, xs, xo, xd, xp, xl, xc, xa, xb, xr, xe, xf, rfl⟩ := hi.out
      obtain ⟨yk, yn, ys, yo, yd, yp, yl, yc, ya, yb, yr, ye, yf, rfl⟩ := hi'.out
      obtain ⟨x0, x1, x2, x3, x4, x5, x6, x7, x8, x9, xX⟩ := eleven_of hc
      obtain ⟨y0, y1, y2, y3, y4, y5, y6, y7, y8, y9, yX⟩ := eleven_of hc2
      have HI := Lib.hid hi
      have HI2 := Lib.hid hi'
      clear hc hc2 hi hi' he1
      have hi3 : (0 : Int) ≤ (j : Int) := by omega
      go_wp2_with fail
      refine wp_region_still_tail 10 (by kernel_rfl) (by kernel_rfl) ?_
      simp only [List.take_succ_cons, List.take_zero, List.drop_succ_cons, List.drop_zero]
      change wpStill _ _ wr.drew _ _ _
      repeat still_step
      refine wpStill_nil ?_
      change wpList _ _ _ _ _ wr.drew
      have HBD : Hid (Below w.heap.size w wr.drew) := HBE.out.drew
      go_wp2_with fail
      refine (HE.out _ _ _ HBD.out (HI.out.below (Below.refl _ _).drew) (HI2.out.below (Below.refl _ _).drew)).mono ?_
      rintro en w2 ⟨rfl, hb3⟩
      have HB2 := Lib.hid (below_seq HBD.out hb3 HBD.out.size)
      have HA2 := Lib.hid ((hb3.block _ (heap_lt' HA1.out)).trans HA1.out)
      have HB3 := Lib.hid ((hb3.block _ (heap_lt' HB1.out)).trans HB1.out)
      clear hb3
      go_wp2_with fail
      go_roundg m
      case measure => omega
      case rel => exact ⟨j + 1, by have := HJ.out; omega, by first | rfl | simp [hdw], HB2.out, HA2.out, HB3.out⟩

theorem alike_n : ∀ (n : Nat) (x : Ex), SizeOf.sizeOf x ≤ n → fitE x = true → ∀ w, AlikeOk w x := by
  intro n
  induction n with
  | zero => intro x h; cases x; simp at h
  | succ n ih =>
    intro x hs hf w w1 vs vs2 _ hi hi2
    obtain ⟨xk, xn, xs, xo, xd, ks, xa, xb, xr, xe, xf⟩ := x
    have hf2 := hf
    rw [fitE, Bool.and_eq_true] at hf2
    exact alike_step w1 xk xn xs xo xd ks xa xb xr xe xf hi hi2 hf (fun e he => ih e (by have := sizes_kid he xk xn xs xo xd xa xb xr xe xf; omega) (fitL_mem hf2.2 he) w1)
/-- Two of one tree. -/
theorem alike_any (w : World) (x : Ex) {vs vs2 : List Value} {B B2 : Nat} (hi : Is w B x vs) (hi2 : Is w B2 x vs2) (hf : fitE x = true) :
    Calls Tryd.prog 21 #[.agg ⟨vs⟩, .agg ⟨vs2⟩] w fun e w' => e = .returned (.bool true) ∧ Below w.heap.size w w' :=
  alike_n _ x (Nat.le_refl _) hf w w vs vs2 (Below.refl _ _) (Is.lower (Nat.zero_le _) _ hi) (Is.lower (Nat.zero_le _) _ hi2)

end Go.Proofs.YtldhgoblimfhbaaDoor
