/-
  A type read through the cursor of a reader of statements.
-/
import Derived.Test.YtnadaedibicaaaaGreatDoorK25
namespace Go.Proofs.YtnadaedibicaaaaGreatDoor
open Go.RowKit
open Px (RT tokAt)
open Pe
open Ps (Sm PX)

theorem rdOf_dead {ts : List RT} {s : St} (h : ¬ s.c.E = 0) : Ps.rdOf ts s = ([], 0, s) := if_neg h
theorem rdOf_ok {ts : List RT} {k F o : Int} (h : (ofAns ts k).2.2.2.1 = 0) : Ps.rdOf ts ⟨⟨k, 0, F⟩, o⟩ = ((ofAns ts k).1, (ofAns ts k).2.1, ⟨⟨(ofAns ts k).2.2.1, 0, F⟩, o⟩) := by simp only [Ps.rdOf, h, if_true]
theorem rdOf_bad {ts : List RT} {k F o : Int} (h : ¬ (ofAns ts k).2.2.2.1 = 0) : Ps.rdOf ts ⟨⟨k, 0, F⟩, o⟩ = ([], 0, ⟨⟨k, (ofAns ts k).2.2.2.1, (ofAns ts k).2.2.2.2⟩, o⟩) := by simp only [Ps.rdOf, h, if_true, if_false]
def OfPost (w : World) (R M1 M2 : Nat) (S : Value) (ts : List RT) (x : List UInt8 × Nat × St) (e : Ending) (w' : World) : Prop :=
  e = .returned (.agg #[.string (cbs x.1), .int .i64 x.2.1]) ∧ Rq w' R M1 M2 S ts x.2.2 ∧ Gr R w w'
theorem Mr.of {w w3 W : World} {R M1 M2 B : Nat} {S : Value} {ts : List RT} {s0 s : St} {x : List UInt8 × Nat × St} {nm : List UInt8} {d : Nat} {sm : St} (_h0 : Mr w R M1 M2 S ts B w3 sm w3) (h : Mr w R M1 M2 S ts B w3 s W) (hx : Ps.rdOf ts s0 = x) (he : x = (nm, d, s)) : OfPost w R M1 M2 S ts (Ps.rdOf ts s0) (.returned (.agg #[.string (cbs nm), .int .i64 d])) W := by
  rw [hx, he]
  exact ⟨rfl, h.rd, h.gr⟩

set_option maxRecDepth 8000 in
set_option maxHeartbeats 20000000 in
theorem readOf_any (w : World) (R M1 M2 : Nat) (S : Value) (ts : List RT) (s : St) (h : Rq w R M1 M2 S ts s) :
    Calls Tryz.prog 76 #[.pointer (some ⟨R, 0, none⟩), .func (.func 77) #[] #[]] w (OfPost w R M1 M2 S ts (Ps.rdOf ts s)) := by
  obtain ⟨p, n, c, rfl⟩ := h.cu.toks.slice
  obtain ⟨⟨k, E, F⟩, o⟩ := s
  obtain ⟨⟨c0, c1, c2, c3⟩, fr, hR⟩ := h.cu.cells
  dsimp only at c1 c2 c3
  obtain ⟨wb, hwb⟩ : ∃ wb, wb = (w.alloc (.cells #[.string ⟨#[]⟩, .int .i64 0] 43)).alloc (.cells #[.string ⟨#[]⟩, .int .i64 0] 43) := ⟨_, rfl⟩
  have hb : Below w.heap.size w wb := by rw [hwb]; exact ((Below.refl _ _).alloc (Nat.le_refl _) _).alloc (by rw [size_alloc]; omega) _
  have e2 := cell_of c2 hR hb
  rw [hwb] at e2
  by_cases hE : E = 0
  · subst hE
    have e0 := cell_of c0 hR hb
    have e1 := cell_of c1 hR hb
    have HR := Lib.hid (h.go hb)
    have HT := Lib.hid (h.go hb).cu.toks
    have hsb : wb.heap.size = w.heap.size + 2 := by rw [hwb]; simp only [size_alloc]
    have HK1 : Hid (wb.heap[w.heap.size]? = some (.cells #[.string ⟨#[]⟩, .int .i64 0] 43 (0, 0))) := Lib.hid (by rw [hwb]; exact alloc_box _ (heap_alloc_new w _))
    have HK2 : Hid (wb.heap[w.heap.size + 1]? = some (.cells #[.string ⟨#[]⟩, .int .i64 0] 43 (0, 0))) := Lib.hid (by rw [hwb]; have := heap_alloc_new (w.alloc (.cells #[.string ⟨#[]⟩, .int .i64 0] 43)) (.cells #[.string ⟨#[]⟩, .int .i64 0] 43); rw [size_alloc] at this; exact this)
    have hq1 : w.heap.size ≠ wb.heap.size := by omega
    have hq2 : w.heap.size + 1 ≠ wb.heap.size := by omega
    have hq3 : w.heap.size ≠ wb.heap.size + 1 := by omega
    have hq4 : w.heap.size + 1 ≠ wb.heap.size + 1 := by omega
    have hq5 := Ne.symm hq1
    have hq6 := Ne.symm hq2
    have hq7 := Ne.symm hq3
    have hq8 := Ne.symm hq4
    have ha1 : R ≠ w.heap.size := by omega
    have ha2 : R ≠ w.heap.size + 1 := by omega
    have ha3 : R ≠ wb.heap.size := by omega
    have ha4 : R ≠ wb.heap.size + 1 := by omega
    have ha5 := Ne.symm ha1
    have ha6 := Ne.symm ha2
    have ha7 := Ne.symm ha3
    have ha8 := Ne.symm ha4
    have HSB := Lib.hid hsb
    clear hsb
    have hwb2 : w.heap.size ≤ wb.heap.size := hb.size
    have hRb : R < wb.heap.size := Nat.lt_of_lt_of_le hR hwb2
    have mstart : ∀ {wc w3 : World}, Below wb.heap.size wb wc → Below wc.heap.size wc w3 → Mr w R M1 M2 (.slice p n c) ts wc.heap.size w3 ⟨⟨k, 0, F⟩, o⟩ w3 := by
      intro wc w3 hX h3
      have h3' := below_seq hb (below_seq hX h3 hX.size) hb.size
      exact ⟨h.go h3', Gr.of h3', Ag.refl _ _, h.lt, Nat.le_trans hwb2 hX.size, _, h⟩
    clear c0 c1 c2 c3 fr h
    go_enter Tryz.func76, Tryz.ntmps76
    go_wp2_with fail
    rw [← hwb]
    clear hwb e2
    have HS := Lib.hid (show Sk R (.slice p n c) (.int .i64 k) wb from ⟨⟨e0, e1⟩, hRb⟩)
    clear e0 e1
    go_region_held3 (fun w' => w'.cell? ⟨R, 0, none⟩ = some (.slice p n c) ∧ w'.cell? ⟨R, 1, none⟩ = some (.int .i64 k) ∧ R < w'.heap.size) (((with_reducible first | refine Sk.all ?_ | refine Sk.a (y := .int .i64 k) ?_ | refine Sk.b (x := .slice p n c) ?_ | refine Sk.c (x := .slice p n c) (y := .int .i64 k) ?_); (with_reducible repeat (first | exact HS.out | exact HS3.out | refine Sk.put ?_ (by omega) | refine Sk.alloc ?_ | refine Sk.drew ?_)))) (first
      | (go_at_call 77; (with_reducible refine Calls.mono (of_any (wb.drew) R (.slice p n c) ts k (HT.out.below (bwA wb))) ?_); rintro e w3 ⟨rfl, hb3⟩; have HS3 := Lib.hid (HS.out.below (below_seq (bwA wb) hb3 (bwA wb).size)); have hm3 := mstart (bwA wb) hb3; have hz := hb3.size; rw [szA] at hm3 hz; have HM := Lib.hid hm3; have hb03 := below_seq (bwA wb) hb3 (bwA wb).size; obtain ⟨⟨d0, d1⟩, ⟨p0, p1⟩, hld⟩ := duo ((hb03.block _ (heap_lt' HK1.out)).trans HK1.out); obtain ⟨⟨u0, u1⟩, ⟨v0, v1⟩, hlu⟩ := duo ((hb03.block _ (heap_lt' HK2.out)).trans HK2.out); obtain ⟨⟨r0, r1, r2, r3⟩, fr, hR3⟩ := hm3.rd.cu.cells; have fr1 := fr 1; have fr2 := fr 2; have fr3 := fr 3; clear fr hm3 hb03; clear hb3)
      | (go_at_call 77; (with_reducible refine Calls.mono (of_any ((wb.alloc (.cells #[.string ⟨#[]⟩, .int .i64 0] 43)).drew) R (.slice p n c) ts k (HT.out.below (bwB wb (.cells #[.string ⟨#[]⟩, .int .i64 0] 43)))) ?_); rintro e w3 ⟨rfl, hb3⟩; have HS3 := Lib.hid (HS.out.below (below_seq (bwB wb (.cells #[.string ⟨#[]⟩, .int .i64 0] 43)) hb3 (bwB wb (.cells #[.string ⟨#[]⟩, .int .i64 0] 43)).size)); have hm3 := mstart (bwB wb (.cells #[.string ⟨#[]⟩, .int .i64 0] 43)) hb3; have hz := hb3.size; rw [szB] at hm3 hz; have HM := Lib.hid hm3; have hb03 := below_seq (bwB wb (.cells #[.string ⟨#[]⟩, .int .i64 0] 43)) hb3 (bwB wb (.cells #[.string ⟨#[]⟩, .int .i64 0] 43)).size; obtain ⟨⟨d0, d1⟩, ⟨p0, p1⟩, hld⟩ := duo ((hb03.block _ (heap_lt' HK1.out)).trans HK1.out); obtain ⟨⟨u0, u1⟩, ⟨v0, v1⟩, hlu⟩ := duo ((hb03.block _ (heap_lt' HK2.out)).trans HK2.out); obtain ⟨⟨r0, r1, r2, r3⟩, fr, hR3⟩ := hm3.rd.cu.cells; have fr1 := fr 1; have fr2 := fr 2; have fr3 := fr 3; clear fr hm3 hb03; obtain ⟨⟨x0, x1⟩, ⟨y0, y1⟩, hlx⟩ := duo (mineD hb3); clear hb3)
      | (go_at_call 77; (with_reducible refine Calls.mono (of_any ((wb.alloc (.cells #[.int .i64 0, .int .i64 0] 29)).drew) R (.slice p n c) ts k (HT.out.below (bwB wb (.cells #[.int .i64 0, .int .i64 0] 29)))) ?_); rintro e w3 ⟨rfl, hb3⟩; have HS3 := Lib.hid (HS.out.below (below_seq (bwB wb (.cells #[.int .i64 0, .int .i64 0] 29)) hb3 (bwB wb (.cells #[.int .i64 0, .int .i64 0] 29)).size)); have hm3 := mstart (bwB wb (.cells #[.int .i64 0, .int .i64 0] 29)) hb3; have hz := hb3.size; rw [szB] at hm3 hz; have HM := Lib.hid hm3; have hb03 := below_seq (bwB wb (.cells #[.int .i64 0, .int .i64 0] 29)) hb3 (bwB wb (.cells #[.int .i64 0, .int .i64 0] 29)).size; obtain ⟨⟨d0, d1⟩, ⟨p0, p1⟩, hld⟩ := duo ((hb03.block _ (heap_lt' HK1.out)).trans HK1.out); obtain ⟨⟨u0, u1⟩, ⟨v0, v1⟩, hlu⟩ := duo ((hb03.block _ (heap_lt' HK2.out)).trans HK2.out); obtain ⟨⟨r0, r1, r2, r3⟩, fr, hR3⟩ := hm3.rd.cu.cells; have fr1 := fr 1; have fr2 := fr 2; have fr3 := fr 3; clear fr hm3 hb03; obtain ⟨⟨f0, f1⟩, ⟨g0, g1⟩, hlf⟩ := duo (mineD hb3); clear hb3)
      | (go_at_call 77; (with_reducible refine Calls.mono (of_any (((wb.alloc (.cells #[.string ⟨#[]⟩, .int .i64 0] 43)).alloc (.cells #[.int .i64 0, .int .i64 0] 29)).drew) R (.slice p n c) ts k (HT.out.below (bwC wb (.cells #[.string ⟨#[]⟩, .int .i64 0] 43) (.cells #[.int .i64 0, .int .i64 0] 29)))) ?_); rintro e w3 ⟨rfl, hb3⟩; have HS3 := Lib.hid (HS.out.below (below_seq (bwC wb (.cells #[.string ⟨#[]⟩, .int .i64 0] 43) (.cells #[.int .i64 0, .int .i64 0] 29)) hb3 (bwC wb (.cells #[.string ⟨#[]⟩, .int .i64 0] 43) (.cells #[.int .i64 0, .int .i64 0] 29)).size)); have hm3 := mstart (bwC wb (.cells #[.string ⟨#[]⟩, .int .i64 0] 43) (.cells #[.int .i64 0, .int .i64 0] 29)) hb3; have hz := hb3.size; rw [szC] at hm3 hz; have HM := Lib.hid hm3; have hb03 := below_seq (bwC wb (.cells #[.string ⟨#[]⟩, .int .i64 0] 43) (.cells #[.int .i64 0, .int .i64 0] 29)) hb3 (bwC wb (.cells #[.string ⟨#[]⟩, .int .i64 0] 43) (.cells #[.int .i64 0, .int .i64 0] 29)).size; obtain ⟨⟨d0, d1⟩, ⟨p0, p1⟩, hld⟩ := duo ((hb03.block _ (heap_lt' HK1.out)).trans HK1.out); obtain ⟨⟨u0, u1⟩, ⟨v0, v1⟩, hlu⟩ := duo ((hb03.block _ (heap_lt' HK2.out)).trans HK2.out); obtain ⟨⟨r0, r1, r2, r3⟩, fr, hR3⟩ := hm3.rd.cu.cells; have fr1 := fr 1; have fr2 := fr 2; have fr3 := fr 3; clear fr hm3 hb03; obtain ⟨⟨x0, x1⟩, ⟨y0, y1⟩, hlx⟩ := duo (mineD1 hb3); obtain ⟨⟨f0, f1⟩, ⟨g0, g1⟩, hlf⟩ := duo (mineD2 hb3); have hne1 : wb.heap.size ≠ wb.heap.size + 1 := (by omega); have hne2 := Ne.symm hne1; clear hb3)
      | (go_at_call 77; (with_reducible refine Calls.mono (of_any (((wb.alloc (.cells #[.int .i64 0, .int .i64 0] 29)).alloc (.cells #[.string ⟨#[]⟩, .int .i64 0] 43)).drew) R (.slice p n c) ts k (HT.out.below (bwC wb (.cells #[.int .i64 0, .int .i64 0] 29) (.cells #[.string ⟨#[]⟩, .int .i64 0] 43)))) ?_); rintro e w3 ⟨rfl, hb3⟩; have HS3 := Lib.hid (HS.out.below (below_seq (bwC wb (.cells #[.int .i64 0, .int .i64 0] 29) (.cells #[.string ⟨#[]⟩, .int .i64 0] 43)) hb3 (bwC wb (.cells #[.int .i64 0, .int .i64 0] 29) (.cells #[.string ⟨#[]⟩, .int .i64 0] 43)).size)); have hm3 := mstart (bwC wb (.cells #[.int .i64 0, .int .i64 0] 29) (.cells #[.string ⟨#[]⟩, .int .i64 0] 43)) hb3; have hz := hb3.size; rw [szC] at hm3 hz; have HM := Lib.hid hm3; have hb03 := below_seq (bwC wb (.cells #[.int .i64 0, .int .i64 0] 29) (.cells #[.string ⟨#[]⟩, .int .i64 0] 43)) hb3 (bwC wb (.cells #[.int .i64 0, .int .i64 0] 29) (.cells #[.string ⟨#[]⟩, .int .i64 0] 43)).size; obtain ⟨⟨d0, d1⟩, ⟨p0, p1⟩, hld⟩ := duo ((hb03.block _ (heap_lt' HK1.out)).trans HK1.out); obtain ⟨⟨u0, u1⟩, ⟨v0, v1⟩, hlu⟩ := duo ((hb03.block _ (heap_lt' HK2.out)).trans HK2.out); obtain ⟨⟨r0, r1, r2, r3⟩, fr, hR3⟩ := hm3.rd.cu.cells; have fr1 := fr 1; have fr2 := fr 2; have fr3 := fr 3; clear fr hm3 hb03; obtain ⟨⟨f0, f1⟩, ⟨g0, g1⟩, hlf⟩ := duo (mineD1 hb3); obtain ⟨⟨x0, x1⟩, ⟨y0, y1⟩, hlx⟩ := duo (mineD2 hb3); have hne1 : wb.heap.size ≠ wb.heap.size + 1 := (by omega); have hne2 := Ne.symm hne1; clear hb3))
    all_goals
      by_cases hB : (ofAns ts k).2.2.2.1 = 0
      · have hBd : ((ofAns ts k).2.2.2.1 != 0) = false := by simpa using hB
        go_wp2_with fail
        refine bodyPost_ret (v := .agg #[.string (cbs (ofAns ts k).1), .int .i64 (ofAns ts k).2.1]) (by simp [results, Tryz.results76, go_sem, hld, d0, d1]) rfl (Mr.of HM.out ?_ (rdOf_ok hB) rfl)
        have hsb := HSB.out
        with_reducible repeat (first | exact HM.out | refine Mr.set_k (s := ⟨⟨k, 0, F⟩, o⟩) ?_ | refine Mr.put ?_ (by omega) (by omega) | refine Mr.alloc ?_ | refine Mr.drew ?_)
      · have hBd : ((ofAns ts k).2.2.2.1 != 0) = true := by simpa using hB
        go_wp2_with fail
        refine bodyPost_ret (v := .agg #[.string ⟨#[]⟩, .int .i64 0]) (by simp [results, Tryz.results76, go_sem, hld, d0, d1]) rfl (Mr.of (nm := []) (d := 0) HM.out ?_ (rdOf_bad hB) rfl)
        have hsb := HSB.out
        with_reducible repeat (first | exact HM.out | refine Mr.set_f (s := ⟨⟨k, 0, F⟩, o⟩) ?_ | refine Mr.put ?_ (by omega) (by omega) | refine Mr.alloc ?_ | refine Mr.drew ?_)
  · have hx := rdOf_dead (ts := ts) (s := ⟨⟨k, E, F⟩, o⟩) hE
    have hd : (E != 0) = true := by simpa using hE
    rw [hwb] at hb
    have HH := Lib.hid h
    have HX := Lib.hid hx
    have HB := Lib.hid hb
    clear h hx hb hE hwb c0 c1 c2 c3 fr
    go_enter Tryz.func76, Tryz.ntmps76
    go_wp2_with fail
    refine bodyPost_ret (v := .agg #[.string ⟨#[]⟩, .int .i64 0]) (by simp [results, Tryz.results76, go_sem]) rfl ?_
    rw [HX.out]
    exact ⟨rfl, HH.out.go HB.out, Gr.of HB.out⟩
end Go.Proofs.YtnadaedibicaaaaGreatDoor
