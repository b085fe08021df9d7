/-
  The contracts of the project's reader: a new one; an expression read from a place.
-/
import Derived.Test.YtldhgoblimfhbaaDoorRn
namespace Go.Proofs.YtldhgoblimfhbaaDoor
open Go.RowKit
open Px (RT tokAt)
open Pe

set_option maxRecDepth 8000 in
set_option maxHeartbeats 2000000 in
theorem newReader_any (w : World) (R0 : Nat) (S : Value) (ts : List RT) (k o : Int) (h : Toks w R0 S ts) (hops : OpsIn w) :
    Calls Tryd.prog 28 #[S, .int .i64 k, .int .i64 o] w fun e w' => ∃ R M1 M2 M3, e = .returned (.pointer (some ⟨R, 0, none⟩)) ∧ w.heap.size ≤ R ∧ Rs w' R M1 M2 M3 S ts ⟨⟨k, 0, 0⟩, clamp o⟩ ∧ Below w.heap.size w w' := by
  obtain ⟨p, n, c, rfl⟩ := h.slice
  have HT := Lib.hid (h.re (Nat.le_refl _))
  obtain ⟨gt, gfr, hg⟩ := hops
  have HO := Lib.hid hg
  clear h hg
  go_enter Tryd.func28, Tryd.ntmps28
  go_wp2_with fail
  refine (new_any _ p n c k).mono ?_
  rintro e w1 ⟨rfl, hb1⟩
  have HB1 := Lib.hid hb1
  clear hb1
  go_wp2_with fail
  refine (stepsByKind_any _ w1.heap.size).mono ?_
  rintro e w2 ⟨rfl, rfl⟩
  go_wp2_with fail
  refine (stepsByWord_any _).mono ?_
  rintro e w2 ⟨rfl, rfl⟩
  go_wp2_with fail
  refine (stepsBySuffix_any _).mono ?_
  rintro e w2 ⟨rfl, rfl⟩
  go_wp2_with fail
  obtain ⟨o1, ho1⟩ : ∃ o1 : Obj, o1 = .cells #[.slice p n c, .int .i64 k, .int .i64 0, .int .i64 0, .int .i64 (min (max o 0) 50), .map (some (w1.heap.size + 1)), .map (some (w1.heap.size + 1 + 1)), .map (some (w1.heap.size + 1 + 1 + 1))] 74 := ⟨_, rfl⟩
  rw [← ho1]
  have hR : ∀ (a b d : Obj), (((w1.alloc a).alloc b).alloc d).heap.size = w1.heap.size + 1 + 1 + 1 := fun a b d => by simp only [size_alloc]
  have hb4 : Below w1.heap.size w1 ((((w1.alloc o1).alloc (.map (mapKind w1.heap.size) 4)).alloc (.map mapWord 6)).alloc (.map mapSuffix 2)) :=
    ((((Below.refl _ _).alloc (Nat.le_refl _) _).alloc (by rw [size_alloc]; omega) _).alloc (by simp only [size_alloc]; omega) _).alloc (by simp only [size_alloc]; omega) _
  have hw := heap_lt' HO.out
  have hs1 := HB1.out.size
  refine bodyPost_ret (v := .pointer (some ⟨w1.heap.size, 0, none⟩)) (by simp [results, Tryd.results28, go_sem]) rfl ⟨w1.heap.size, w1.heap.size + 1, w1.heap.size + 1 + 1, w1.heap.size + 1 + 1 + 1, rfl, hs1, ?_, below_seq HB1.out hb4 hs1⟩
  have k1 := heap_alloc_new (w1.alloc o1) (.map (mapKind w1.heap.size) 4)
  have k2 := heap_alloc_new ((w1.alloc o1).alloc (.map (mapKind w1.heap.size) 4)) (.map mapWord 6)
  have k3 := heap_alloc_new (((w1.alloc o1).alloc (.map (mapKind w1.heap.size) 4)).alloc (.map mapWord 6)) (.map mapSuffix 2)
  simp only [size_alloc] at k1 k2 k3
  refine ⟨⟨?_, ((HT.out.below HB1.out).re (Nat.le_refl _)).below hb4⟩, alloc_box _ (alloc_box _ k1), alloc_box _ k2, k3, by omega, by omega, by omega, ⟨gt, gfr, (hb4.block _ (by omega)).trans ((HB1.out.block _ hw).trans HO.out)⟩, by omega⟩
  have k0 := alloc_box (.map mapSuffix 2) (alloc_box (.map mapWord 6) (alloc_box (.map (mapKind w1.heap.size) 4) (heap_alloc_new w1 o1)))
  rw [k0, ho1]
  rfl

theorem below_gr {B R : Nat} {w w1 w2 : World} (h : Below B w w1) (hg : Gr R w1 w2) (hR : B ≤ R) (hB : B ≤ w1.heap.size) : Below B w w2 :=
  ⟨hg.os.trans h.os, hg.tape.trans h.tape, hg.output.trans h.output, Nat.le_trans h.size hg.size, fun i hi => (hg.block i (by omega) (by omega)).trans (h.block i hi)⟩
theorem bl_put11 {w w1 : World} (h : Below w.heap.size w w1) {N : Nat} (hN : w.heap.size ≤ N) {c0 c1 c2 c3 c4 c5 c6 c7 c8 c9 c10 : Value} : Below w.heap.size w (((((((((((w1.setCell ⟨N, 0, none⟩ c0).setCell ⟨N, 1, none⟩ c1).setCell ⟨N, 2, none⟩ c2).setCell ⟨N, 3, none⟩ c3).setCell ⟨N, 4, none⟩ c4).setCell ⟨N, 5, none⟩ c5).setCell ⟨N, 6, none⟩ c6).setCell ⟨N, 7, none⟩ c7).setCell ⟨N, 8, none⟩ c8).setCell ⟨N, 9, none⟩ c9).setCell ⟨N, 10, none⟩ c10) := (bl_put (bl_put (bl_put (bl_put (bl_put (bl_put (bl_put (bl_put (bl_put (bl_put (bl_put h hN) hN) hN) hN) hN) hN) hN) hN) hN) hN) hN)

set_option maxRecDepth 8000 in
set_option maxHeartbeats 4000000 in
theorem parse_any (w : World) (R0 : Nat) (S : Value) (ts : List RT) (k o : Int) (h : Toks w R0 S ts) (hops : OpsIn w) (f : Nat) (hf : f ≤ 1000000000) (x : Ex × Int × Int × Int) (hx : parse ts f k o = some x) :
    Calls Tryd.prog 15 #[S, .int .i64 k, .int .i64 o] w fun e w' => ∃ (kind num : Int) (name ofn : List UInt8) (dims : Int) (p : Option Addr) (n c : Nat) (at_ b r d ref : Int),
      e = .returned (.tuple #[.agg #[.int .i64 kind, .int .i64 num, .string (cbs name), .string (cbs ofn), .int .i64 dims, .slice p n c, .int .i64 at_, .int .i64 b, .int .i64 r, .int .i64 d, .int .i64 ref], .int .i64 x.2.1, .agg #[.int .i64 x.2.2.1, .int .i64 x.2.2.2]]) ∧
      Is w' w.heap.size x.1 (exCells kind num name ofn dims (.slice p n c) at_ b r d ref) ∧ Below w.heap.size w w' := by
  obtain ⟨p, n, c, rfl⟩ := h.slice
  obtain ⟨e0, s1, he, rfl⟩ : ∃ e0 s1, (run ts f).1 1 ⟨⟨k, 0, 0⟩, clamp o⟩ = some (e0, s1) ∧ x = exEnd e0 s1.c := by
    unfold parse at hx
    split at hx
    · cases hx
    · rename_i e0 s1 he
      exact ⟨e0, s1, he, by simpa using hx.symm⟩
  obtain ⟨w0, hw0⟩ : ∃ w0, w0 = (w.alloc (.cells #[.int .i64 0, .int .i64 0, .string ⟨#[]⟩, .string ⟨#[]⟩, .int .i64 0, .slice none 0 0, .int .i64 0, .int .i64 0, .int .i64 0, .int .i64 0, .int .i64 0] 39)).alloc (.cells #[.int .i64 0, .int .i64 0] 25) := ⟨_, rfl⟩
  have hb0 : Below w.heap.size w w0 := by rw [hw0]; exact ((Below.refl _ _).alloc (Nat.le_refl _) _).alloc (by rw [size_alloc]; omega) _
  have hk1 : w0.heap[w.heap.size]? = some (.cells #[.int .i64 0, .int .i64 0, .string ⟨#[]⟩, .string ⟨#[]⟩, .int .i64 0, .slice none 0 0, .int .i64 0, .int .i64 0, .int .i64 0, .int .i64 0, .int .i64 0] 39 (0, 0)) := by rw [hw0]; exact alloc_box _ (heap_alloc_new w _)
  have hk2 : w0.heap[w.heap.size + 1]? = some (.cells #[.int .i64 0, .int .i64 0] 25 (0, 0)) := by rw [hw0]; have := heap_alloc_new (w.alloc (.cells #[.int .i64 0, .int .i64 0, .string ⟨#[]⟩, .string ⟨#[]⟩, .int .i64 0, .slice none 0 0, .int .i64 0, .int .i64 0, .int .i64 0, .int .i64 0, .int .i64 0] 39)) (.cells #[.int .i64 0, .int .i64 0] 25); rw [size_alloc] at this; exact this
  have hs0 : w0.heap.size = w.heap.size + 2 := by rw [hw0]; simp only [size_alloc]
  have HRUN := Lib.hid ((run_ok ts f hf).1)
  have HE := Lib.hid he
  have HT := Lib.hid ((h.below hb0))
  have HOP : Hid (OpsIn w0) := by obtain ⟨gt, gfr, hg⟩ := hops; exact ⟨gt, gfr, (hb0.block _ (heap_lt' hg)).trans hg⟩
  have HB0 := Lib.hid hb0
  have HK1 := Lib.hid hk1
  have HK2 := Lib.hid hk2
  have HS0 := Lib.hid hs0
  clear h hops he hx hb0 hk1 hk2 hs0
  go_enter Tryd.func15, Tryd.ntmps15
  go_wp2_with fail
  rw [← hw0]
  refine (newReader_any _ R0 _ ts k o HT.out HOP.out).mono ?_
  rintro e w1 ⟨R, M1, M2, M3, rfl, hR, hr, hb⟩
  have HR := Lib.hid hr
  have HB1 := Lib.hid hb
  have HRR := Lib.hid hR
  clear hr hb hR hw0
  go_wp2_with fail
  refine (expression_any _ R M1 M2 M3 _ ts _ HR.out (run ts f).1 HRUN.out _ HE.out).mono ?_
  rintro e w2 ⟨qk, qn, qs, qo, qd, qp, ql, qc, qa, qb, qr, qe, qf, rfl, hi, hr, hg⟩
  have HR2 := Lib.hid (hr.go ((Below.refl w2.heap.size w2).alloc (Nat.le_refl _) (.cells #[.int .i64 qk, .int .i64 qn, .string (cbs qs), .string (cbs qo), .int .i64 qd, .slice qp ql qc, .int .i64 qa, .int .i64 qb, .int .i64 qr, .int .i64 qe, .int .i64 qf] 39)))
  have HB2 := Lib.hid (below_gr HB1.out hg HRR.out HB1.out.size)
  have HI := Lib.hid hi
  have HZ : Hid (w1.heap.size ≤ w2.heap.size) := hg.size
  have HS1 : Hid (w0.heap.size ≤ w1.heap.size) := HB1.out.size
  clear hr hg hi HR
  go_wp2_with fail
  refine (result_any _ R _ _ _ ts s1.c HR2.out.cu).mono ?_
  obtain ⟨⟨k2, E2, F2⟩, o2⟩ := s1
  by_cases hE : E2 = 0
  · subst hE
    rw [show ends ⟨k2, 0, F2⟩ = (k2, 0, 0) from rfl]
    dsimp only
    rintro e w3 ⟨rfl, hb3⟩
    have hg3 := (Gr.alloc (Gr.refl w2.heap.size w2) (.cells #[.int .i64 qk, .int .i64 qn, .string (cbs qs), .string (cbs qo), .int .i64 qd, .slice qp ql qc, .int .i64 qa, .int .i64 qb, .int .i64 qr, .int .i64 qe, .int .i64 qf] 39)).trans (Gr.of hb3)
    have hb23 : Below w2.heap.size w2 w3 := hg3.fresh (Nat.le_refl _)
    have HB3 := Lib.hid (below_seq HB2.out hb23 (Nat.le_trans HS1.out (by have := HI.out; exact HZ.out)))
    have HI3 := Lib.hid (HI.out.below hb23)
    have hkx := mineB hb3
    obtain ⟨⟨x0, x1, x2, x3, x4, x5, x6, x7, x8, x9, xX⟩, y0, y1, y2, y3, y4, y5, y6, y7, y8, y9, yX⟩ := hen hkx
    have hlx := heap_lt' hkx
    have hkd := (HB3.out.block _ (heap_lt' HK1.out)).trans HK1.out
    obtain ⟨⟨d0, d1, d2, d3, d4, d5, d6, d7, d8, d9, dX⟩, g0, g1, g2, g3, g4, g5, g6, g7, g8, g9, gX⟩ := hen hkd
    have hld := heap_lt' hkd
    obtain ⟨⟨b0, b1⟩, ⟨h0, h1⟩, hlb⟩ := duo ((HB3.out.block _ (heap_lt' HK2.out)).trans HK2.out)
    have hl02 : w0.heap.size ≤ w2.heap.size := Nat.le_trans HS1.out HZ.out
    have hd1 : w.heap.size ≠ w2.heap.size := by have := HS0.out; omega
    have hd2 : w.heap.size + 1 ≠ w2.heap.size := by have := HS0.out; omega
    have hd3 := Ne.symm hd1
    have hd4 := Ne.symm hd2
    clear hkx hkd hg3 hb3 hb23
    go_wp2_with fail
    have hx : exEnd e0 ⟨k2, 0, F2⟩ = (e0, k2, 0, 0) := if_pos rfl
    have hbw : Below w.heap.size w w3 := below_seq HB0.out HB3.out (by have := HS0.out; omega)
    have hN1 : w.heap.size < w1.heap.size := by have := HS0.out; have := HS1.out; omega
    have hN2 : w.heap.size + 1 < w1.heap.size := by have := HS0.out; have := HS1.out; omega
    exact bodyPost_ret (v := .tuple #[.agg #[.int .i64 qk, .int .i64 qn, .string (cbs qs), .string (cbs qo), .int .i64 qd, .slice qp ql qc, .int .i64 qa, .int .i64 qb, .int .i64 qr, .int .i64 qe, .int .i64 qf], .int .i64 k2, .agg #[.int .i64 0, .int .i64 0]]) (by simp [results, Tryd.results15, go_sem, hld, hlb, d0, d1, d2, d3, d4, d5, d6, d7, d8, d9, dX, b0, b1]) rfl ⟨_, _, _, _, _, _, _, _, _, _, _, _, _, by rw [hx], by rw [hx]; exact Is.lower (Nat.le_of_lt hN1) _ ((((HI3.out.put11 (N := w.heap.size) hN1).set (p := ⟨w.heap.size + 1, 0, none⟩) hN2 _).set (p := ⟨w.heap.size + 1, 1, none⟩) hN2 _).alloc _), bl_alloc (bl_put (bl_put (bl_put11 hbw (Nat.le_refl _)) (Nat.le_succ _)) (Nat.le_succ _))⟩
  · have hEs : ends ⟨k2, E2, F2⟩ = (0, E2, F2) := if_neg hE
    rw [hEs]
    dsimp only
    have hd : (E2 != 0) = true := by simpa using hE
    have HE2 := Lib.hid hE
    clear hEs hE
    rintro e w3 ⟨rfl, hb3⟩
    have hg3 := (Gr.alloc (Gr.refl w2.heap.size w2) (.cells #[.int .i64 qk, .int .i64 qn, .string (cbs qs), .string (cbs qo), .int .i64 qd, .slice qp ql qc, .int .i64 qa, .int .i64 qb, .int .i64 qr, .int .i64 qe, .int .i64 qf] 39)).trans (Gr.of hb3)
    have hb23 : Below w2.heap.size w2 w3 := hg3.fresh (Nat.le_refl _)
    have HB3 := Lib.hid (below_seq HB2.out hb23 (Nat.le_trans HS1.out (by have := HI.out; exact HZ.out)))
    have HI3 := Lib.hid (HI.out.below hb23)
    have hkx := mineB hb3
    obtain ⟨⟨x0, x1, x2, x3, x4, x5, x6, x7, x8, x9, xX⟩, y0, y1, y2, y3, y4, y5, y6, y7, y8, y9, yX⟩ := hen hkx
    have hlx := heap_lt' hkx
    have hkd := (HB3.out.block _ (heap_lt' HK1.out)).trans HK1.out
    obtain ⟨⟨d0, d1, d2, d3, d4, d5, d6, d7, d8, d9, dX⟩, g0, g1, g2, g3, g4, g5, g6, g7, g8, g9, gX⟩ := hen hkd
    have hld := heap_lt' hkd
    obtain ⟨⟨b0, b1⟩, ⟨h0, h1⟩, hlb⟩ := duo ((HB3.out.block _ (heap_lt' HK2.out)).trans HK2.out)
    have hl02 : w0.heap.size ≤ w2.heap.size := Nat.le_trans HS1.out HZ.out
    have hd1 : w.heap.size ≠ w2.heap.size := by have := HS0.out; omega
    have hd2 : w.heap.size + 1 ≠ w2.heap.size := by have := HS0.out; omega
    have hd3 := Ne.symm hd1
    have hd4 := Ne.symm hd2
    clear hkx hkd hg3 hb3 hb23
    go_wp2_with fail
    go_region
    go_wp2_with fail
    have hx : exEnd e0 ⟨k2, E2, F2⟩ = (Ex.zero, 0, E2, F2) := if_neg HE2.out
    have hbw : Below w.heap.size w w3 := below_seq HB0.out HB3.out (by have := HS0.out; omega)
    have hN1 : w.heap.size < w1.heap.size := by have := HS0.out; have := HS1.out; omega
    have hN2 : w.heap.size + 1 < w1.heap.size := by have := HS0.out; have := HS1.out; omega
    exact bodyPost_ret (v := .tuple #[.agg #[.int .i64 0, .int .i64 0, .string ⟨#[]⟩, .string ⟨#[]⟩, .int .i64 0, .slice none 0 0, .int .i64 0, .int .i64 0, .int .i64 0, .int .i64 0, .int .i64 0], .int .i64 0, .agg #[.int .i64 E2, .int .i64 F2]]) (by simp [results, Tryd.results15, go_sem, hld, hlb, d0, d1, d2, d3, d4, d5, d6, d7, d8, d9, dX, b0, b1]) rfl ⟨0, 0, [], [], 0, none, 0, 0, 0, 0, 0, 0, 0, by rw [hx]; rfl, by rw [hx]; exact Is.zero, bl_drew (bl_alloc (bl_put (bl_put (bl_put11 hbw (Nat.le_refl _)) (Nat.le_succ _)) (Nat.le_succ _)))⟩
end Go.Proofs.YtldhgoblimfhbaaDoor
