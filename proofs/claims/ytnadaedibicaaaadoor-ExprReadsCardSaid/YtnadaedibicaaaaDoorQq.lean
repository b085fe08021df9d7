/-
  The contracts of the answer (runrigref3): an expression from a place of some tokens.
-/
import Derived.Test.YtnadaedibicaaaaDoorQp
import Derived.Test.YtnadaedibicaaaaDoorRp
import Derived.RegionTactic
namespace Go.Proofs.YtnadaedibicaaaaDoor
open Go.RowKit
open Px (RT tokAt isT)
open Pe (inc dec Ex)
open Qe (Q)

set_option maxRecDepth 8000 in
set_option maxHeartbeats 4000000 in
theorem qParse_any (w : World) (R0 : Nat) (S : Value) (ts : List RT) (k o : Int) (h : Toks w R0 S ts) (f : Nat) (hf : f ≤ 1000000000) (x : Ex × Int × Int × Int) (hx : Qe.expr ts f k o = some x) :
    Calls Tryd.prog 19 #[S, .int .i64 k, .int .i64 o] w fun e w' => ∃ (kind num : Int) (name ofn : List UInt8) (dims : Int) (p : Option Addr) (n c : Nat) (at_ b r d ref : Int),
      e = .returned (.tuple #[.agg #[.int .i64 kind, .int .i64 num, .string (cbs name), .string (cbs ofn), .int .i64 dims, .slice p n c, .int .i64 at_, .int .i64 b, .int .i64 r, .int .i64 d, .int .i64 ref], .int .i64 x.2.1, .agg #[.int .i64 x.2.2.1, .int .i64 x.2.2.2]]) ∧
      Is w' w.heap.size x.1 (exCells kind num name ofn dims (.slice p n c) at_ b r d ref) ∧ Below w.heap.size w w' := by
  obtain ⟨p, n, c, rfl⟩ := h.slice
  obtain ⟨e0, s1, he, rfl⟩ : ∃ e0 s1, Qe.run ts f 0 ⟨k, max o 0, 0, 0⟩ = some (e0, s1) ∧ x = Qe.exEnd e0 s1 := by
    unfold Qe.expr at hx
    split at hx
    · cases hx
    · rename_i e0 s1 he
      exact ⟨e0, s1, he, by simpa using hx.symm⟩
  obtain ⟨w0, hw0⟩ : ∃ w0, w0 = ((w.alloc (.cells #[.int .i64 0, .int .i64 0, .string ⟨#[]⟩, .string ⟨#[]⟩, .int .i64 0, .slice none 0 0, .int .i64 0, .int .i64 0, .int .i64 0, .int .i64 0, .int .i64 0] 39)).alloc (.cells #[.int .i64 0, .int .i64 0] 25)).alloc (.cells #[.slice p n c, .int .i64 k, .int .i64 (max o 0), .int .i64 0, .int .i64 0] 62) := ⟨_, rfl⟩
  have hb0 : Below w.heap.size w w0 := by rw [hw0]; exact bl_alloc (bl_alloc (bl_alloc (Below.refl _ _)))
  have hk1 : w0.heap[w.heap.size]? = some (.cells #[.int .i64 0, .int .i64 0, .string ⟨#[]⟩, .string ⟨#[]⟩, .int .i64 0, .slice none 0 0, .int .i64 0, .int .i64 0, .int .i64 0, .int .i64 0, .int .i64 0] 39 (0, 0)) := by rw [hw0]; exact alloc_box _ (alloc_box _ (heap_alloc_new w _))
  have hk2 : w0.heap[w.heap.size + 1]? = some (.cells #[.int .i64 0, .int .i64 0] 25 (0, 0)) := by rw [hw0]; have := alloc_box (.cells #[.slice p n c, .int .i64 k, .int .i64 (max o 0), .int .i64 0, .int .i64 0] 62) (heap_alloc_new (w.alloc (.cells #[.int .i64 0, .int .i64 0, .string ⟨#[]⟩, .string ⟨#[]⟩, .int .i64 0, .slice none 0 0, .int .i64 0, .int .i64 0, .int .i64 0, .int .i64 0, .int .i64 0] 39)) (.cells #[.int .i64 0, .int .i64 0] 25)); rw [size_alloc] at this; exact this
  have hk3 : w0.heap[w.heap.size + 1 + 1]? = some (.cells #[.slice p n c, .int .i64 k, .int .i64 (max o 0), .int .i64 0, .int .i64 0] 62 (0, 0)) := by rw [hw0]; have := heap_alloc_new ((w.alloc (.cells #[.int .i64 0, .int .i64 0, .string ⟨#[]⟩, .string ⟨#[]⟩, .int .i64 0, .slice none 0 0, .int .i64 0, .int .i64 0, .int .i64 0, .int .i64 0, .int .i64 0] 39)).alloc (.cells #[.int .i64 0, .int .i64 0] 25)) (.cells #[.slice p n c, .int .i64 k, .int .i64 (max o 0), .int .i64 0, .int .i64 0] 62); simp only [size_alloc] at this; exact this
  have hq : Qr w0 (w.heap.size + 1 + 1) (.slice p n c) ts ⟨k, max o 0, 0, 0⟩ := ⟨hk3, (h.re (by omega)).below hb0⟩
  have HRUN := Lib.hid (qrun_ok ts f hf)
  have HE := Lib.hid he
  have HQ := Lib.hid hq
  have HB0 := Lib.hid hb0
  have HK1 := Lib.hid hk1
  have HK2 := Lib.hid hk2
  clear h he hx hb0 hk1 hk2 hk3 hq
  go_enter Tryd.func19, Tryd.ntmps19
  go_wp2_with fail
  rw [← hw0]
  refine (HRUN.out 0 _ _ (by decide) HE.out w0 _ _ HQ.out).mono ?_
  rintro e w1 ⟨qk, qn, qs, qo, qd, qp, ql, qc, qa, qb, qr, qe, qf, rfl, hi, hr, hg⟩
  have HR1 := Lib.hid (hr.go ((Below.refl _ _).alloc (Nat.le_refl _) (.cells #[.int .i64 qk, .int .i64 qn, .string (cbs qs), .string (cbs qo), .int .i64 qd, .slice qp ql qc, .int .i64 qa, .int .i64 qb, .int .i64 qr, .int .i64 qe, .int .i64 qf] 39)))
  have HI := Lib.hid (hi.alloc (.cells #[.int .i64 qk, .int .i64 qn, .string (cbs qs), .string (cbs qo), .int .i64 qd, .slice qp ql qc, .int .i64 qa, .int .i64 qb, .int .i64 qr, .int .i64 qe, .int .i64 qf] 39))
  have hg2 := hg.alloc (.cells #[.int .i64 qk, .int .i64 qn, .string (cbs qs), .string (cbs qo), .int .i64 qd, .slice qp ql qc, .int .i64 qa, .int .i64 qb, .int .i64 qr, .int .i64 qe, .int .i64 qf] 39)
  have HX := Lib.hid (heap_alloc_new w1 (.cells #[.int .i64 qk, .int .i64 qn, .string (cbs qs), .string (cbs qo), .int .i64 qd, .slice qp ql qc, .int .i64 qa, .int .i64 qb, .int .i64 qr, .int .i64 qe, .int .i64 qf] 39))
  have HA1 := Lib.hid (hg2.box HK1.out (by omega))
  have HA2 := Lib.hid (hg2.box HK2.out (by omega))
  have HSZ : Hid (w.heap.size + 1 + 1 < w1.heap.size) := hr.lt
  have HSZ0 : Hid (w.heap.size + 1 + 1 < w0.heap.size) := HQ.out.lt
  have HB1 : Hid (Below w.heap.size w (w1.alloc (.cells #[.int .i64 qk, .int .i64 qn, .string (cbs qs), .string (cbs qo), .int .i64 qd, .slice qp ql qc, .int .i64 qa, .int .i64 qb, .int .i64 qr, .int .i64 qe, .int .i64 qf] 39))) := below_gr HB0.out hg2 (by omega) HB0.out.size
  clear hi hr hg hg2 HE HRUN HQ HB0 HK1 HK2 hw0
  obtain ⟨⟨k2, o2, E2, F2⟩, hs1⟩ : ∃ q, q = s1 := ⟨_, rfl⟩
  subst hs1
  go_wp2_with fail
  refine (qOk_any _ _ _ ts _ HR1.out).mono ?_
  rintro e w2 ⟨rfl, hw2⟩
  rw [hw2] at HR1 HI HX HA1 HA2 HB1
  clear hw2
  obtain ⟨⟨c0, c1, c2, c3, c4⟩, fr, hRl⟩ := HR1.out.cells
  obtain ⟨⟨x0, x1, x2, x3, x4, x5, x6, x7, x8, x9, xX⟩, y0, y1, y2, y3, y4, y5, y6, y7, y8, y9, yX⟩ := hen HX.out
  have hlx := heap_lt' HX.out
  obtain ⟨⟨d0, d1, d2, d3, d4, d5, d6, d7, d8, d9, dX⟩, g0, g1, g2, g3, g4, g5, g6, g7, g8, g9, gX⟩ := hen HA1.out
  have hld := heap_lt' HA1.out
  obtain ⟨⟨b0, b1⟩, ⟨h0, h1⟩, hlb⟩ := duo HA2.out
  have hd1 : w.heap.size ≠ w1.heap.size := by have := HSZ.out; omega
  have hd2 : w.heap.size + 1 ≠ w1.heap.size := by have := HSZ.out; omega
  have hd3 := Ne.symm hd1
  have hd4 := Ne.symm hd2
  have hd5 : w.heap.size + 1 + 1 ≠ w1.heap.size := by have := HSZ.out; omega
  have hd6 := Ne.symm hd5
  dsimp only at c1 c2 c3 c4
  have hN1 : w.heap.size < w0.heap.size := by have := HSZ0.out; omega
  have hN2 : w.heap.size + 1 < w0.heap.size := by have := HSZ0.out; omega
  by_cases hE : E2 = 0
  · subst hE
    go_wp2_with fail
    go_region
    all_goals go_wp2_with fail
    have hx : Qe.exEnd e0 ⟨k2, o2, 0, F2⟩ = (e0, k2, 0, 0) := if_pos rfl
    exact bodyPost_ret (v := .tuple #[.agg #[.int .i64 qk, .int .i64 qn, .string (cbs qs), .string (cbs qo), .int .i64 qd, .slice qp ql qc, .int .i64 qa, .int .i64 qb, .int .i64 qr, .int .i64 qe, .int .i64 qf], .int .i64 k2, .agg #[.int .i64 0, .int .i64 0]]) (by simp [results, Tryd.results19, go_sem, d0, d1, d2, d3, d4, d5, d6, d7, d8, d9, dX, b0, b1]) rfl ⟨_, _, _, _, _, _, _, _, _, _, _, _, _, by rw [hx], by rw [hx]; exact Is.lower (Nat.le_of_lt hN1) _ ((((HI.out.put11 (N := w.heap.size) hN1).set (p := ⟨w.heap.size + 1, 0, none⟩) hN2 _).set (p := ⟨w.heap.size + 1, 1, none⟩) hN2 _).drew 1), bl_drew (bl_put (bl_put (bl_put11 HB1.out (Nat.le_refl _)) (Nat.le_succ _)) (Nat.le_succ _))⟩
  · have hd : (E2 == 0) = false := by simpa using hE
    have HE2 := Lib.hid hE
    clear hE
    dsimp only
    rw [hd]
    go_wp2_with fail
    go_region
    all_goals go_wp2_with fail
    have hx : Qe.exEnd e0 ⟨k2, o2, E2, F2⟩ = (Ex.zero, 0, E2, F2) := if_neg HE2.out
    exact bodyPost_ret (v := .tuple #[.agg #[.int .i64 0, .int .i64 0, .string ⟨#[]⟩, .string ⟨#[]⟩, .int .i64 0, .slice none 0 0, .int .i64 0, .int .i64 0, .int .i64 0, .int .i64 0, .int .i64 0], .int .i64 0, .agg #[.int .i64 E2, .int .i64 F2]]) (by simp [results, Tryd.results19, go_sem, d0, d1, d2, d3, d4, d5, d6, d7, d8, d9, dX, b0, b1]) rfl ⟨0, 0, [], [], 0, none, 0, 0, 0, 0, 0, 0, 0, by rw [hx]; rfl, by rw [hx]; exact Is.zero, bl_drew (bl_put (bl_put (bl_put11 HB1.out (Nat.le_refl _)) (Nat.le_succ _)) (Nat.le_succ _))⟩
end Go.Proofs.YtnadaedibicaaaaDoor
