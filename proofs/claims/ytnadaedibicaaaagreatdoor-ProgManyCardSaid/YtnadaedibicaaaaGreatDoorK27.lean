/-
  A type and a block read through any cursor (the readers of programs and of statements).
-/
import Derived.Test.YtnadaedibicaaaaGreatDoorK25
import Derived.Test.YtnadaedibicaaaaGreatDoorK26
import Derived.Deep.RegionHeld3
namespace Go.Proofs.YtnadaedibicaaaaGreatDoor
open Go.RowKit
open Px (RT tokAt)
open Pe
open Ps (Sm PX)
open Pg (BX)

/-- Where a step on a cursor stands behind what another reader has read: the world comes from that one's by own writes. -/
structure Mc (w : World) (R : Nat) (T : TypeId) (X : List Value) (S : Value) (ts : List RT) (B : Nat) (w3 : World) (s : Cs) (W : World) : Prop where
  rd : Cu W R T S X ts s
  gr : Gr R w W
  ag : Ag B w3 W
  lt : R < w.heap.size
  hB : w.heap.size ≤ B
  h0 : ∃ s0, Cu w R T S X ts s0
section
variable {w w3 W : World} {R B : Nat} {T : TypeId} {X : List Value} {S : Value} {ts : List RT} {s : Cs}
theorem Mc.nw (h : Mc w R T X S ts B w3 s W) {W2 : World} (n : Nw R w W W2) (g : Ag B W W2) : Mc w R T X S ts B w3 s W2 := by
  obtain ⟨s0, h0⟩ := h.h0
  exact ⟨h0.fin h.rd n, n.gr, h.ag.trans g, h.lt, h.hB, s0, h0⟩
theorem Mc.go (h : Mc w R T X S ts B w3 s W) {W2 : World} (hb : Below W.heap.size W W2) : Mc w R T X S ts B w3 s W2 := h.nw ⟨hb.mono h.gr.size, h.gr.below hb⟩ (Ag.below hb)
theorem Mc.alloc (h : Mc w R T X S ts B w3 s W) {o : Obj} : Mc w R T X S ts B w3 s (W.alloc o) := h.go ((Below.refl _ _).alloc (Nat.le_refl _) _)
theorem Mc.drew (h : Mc w R T X S ts B w3 s W) : Mc w R T X S ts B w3 s W.drew := h.go (Below.refl _ _).drew
theorem Mc.put (h : Mc w R T X S ts B w3 s W) {b i : Nat} {u : Value} (hp : w.heap.size ≤ b) (hq : b < B ∨ w3.heap.size ≤ b) : Mc w R T X S ts B w3 s (W.setCell ⟨b, i, none⟩ u) := by
  obtain ⟨s0, h0⟩ := h.h0
  have n := (Nw.start h.gr).set (p := ⟨b, i, none⟩) hp u
  exact ⟨h0.fin h.rd n, n.gr, h.ag.set hq u, h.lt, h.hB, s0, h0⟩
theorem Mc.set_k (h : Mc w R T X S ts B w3 s W) {q : Int} : Mc w R T X S ts B w3 ⟨q, s.E, s.F⟩ (W.setCell ⟨R, 1, none⟩ (.int .i64 q)) :=
  ⟨h.rd.set_k q, h.gr.set 1 _, h.ag.set (.inl (Nat.lt_of_lt_of_le h.lt h.hB)) _, h.lt, h.hB, h.h0⟩
theorem Mc.set_f (h : Mc w R T X S ts B w3 s W) {e a : Int} : Mc w R T X S ts B w3 ⟨s.k, e, a⟩ ((W.setCell ⟨R, 2, none⟩ (.int .i64 e)).setCell ⟨R, 3, none⟩ (.int .i64 a)) :=
  ⟨h.rd.set_f e a, (h.gr.set 2 _).set 3 _, (h.ag.set (.inl (Nat.lt_of_lt_of_le h.lt h.hB)) _).set (.inl (Nat.lt_of_lt_of_le h.lt h.hB)) _, h.lt, h.hB, h.h0⟩
end
theorem rdOfC_dead {ts : List RT} {s : Cs} (h : ¬ s.E = 0) : Pg.rdOf ts s = ([], 0, s) := if_neg h
theorem rdOfC_ok {ts : List RT} {k F : Int} (h : (ofAns ts k).2.2.2.1 = 0) : Pg.rdOf ts ⟨k, 0, F⟩ = ((ofAns ts k).1, (ofAns ts k).2.1, ⟨(ofAns ts k).2.2.1, 0, F⟩) := by simp only [Pg.rdOf, h, if_true]
theorem rdOfC_bad {ts : List RT} {k F : Int} (h : ¬ (ofAns ts k).2.2.2.1 = 0) : Pg.rdOf ts ⟨k, 0, F⟩ = ([], 0, ⟨k, (ofAns ts k).2.2.2.1, (ofAns ts k).2.2.2.2⟩) := by simp only [Pg.rdOf, h, if_true, if_false]
def OfPostC (w : World) (R : Nat) (T : TypeId) (X : List Value) (S : Value) (ts : List RT) (x : List UInt8 × Nat × Cs) (e : Ending) (w' : World) : Prop :=
  e = .returned (.agg #[.string (cbs x.1), .int .i64 x.2.1]) ∧ Cu w' R T S X ts x.2.2 ∧ Gr R w w'
theorem Mc.of {w w3 W : World} {R B : Nat} {T : TypeId} {X : List Value} {S : Value} {ts : List RT} {s0 s : Cs} {x : List UInt8 × Nat × Cs} {nm : List UInt8} {d : Nat} {sm : Cs} (_h0 : Mc w R T X S ts B w3 sm w3) (h : Mc w R T X S ts B w3 s W) (hx : Pg.rdOf ts s0 = x) (he : x = (nm, d, s)) : OfPostC w R T X S ts (Pg.rdOf ts s0) (.returned (.agg #[.string (cbs nm), .int .i64 d])) W := by
  rw [hx, he]
  exact ⟨rfl, h.rd, h.gr⟩

set_option maxRecDepth 8000 in
set_option maxHeartbeats 20000000 in
theorem readOfC_any (w : World) (R : Nat) (T : TypeId) (X : List Value) (S : Value) (ts : List RT) (s : Cs) (h : Cu w R T S X ts s) :
    Calls Tryz.prog 76 #[.pointer (some ⟨R, 0, none⟩), .func (.func 77) #[] #[]] w (OfPostC w R T X S ts (Pg.rdOf ts s)) := by
  obtain ⟨p, n, c, rfl⟩ := h.toks.slice
  obtain ⟨k, E, F⟩ := s
  obtain ⟨⟨c0, c1, c2, c3⟩, fr, hR⟩ := h.cells
  dsimp only at c1 c2 c3
  obtain ⟨wb, hwb⟩ : ∃ wb, wb = (w.alloc (.cells #[.string ⟨#[]⟩, .int .i64 0] 43)).alloc (.cells #[.string ⟨#[]⟩, .int .i64 0] 43) := ⟨_, rfl⟩
  have hb : Below w.heap.size w wb := by rw [hwb]; exact ((Below.refl _ _).alloc (Nat.le_refl _) _).alloc (by rw [size_alloc]; omega) _
  have e2 := cell_of c2 hR hb
  rw [hwb] at e2
  by_cases hE : E = 0
  · subst hE
    have e0 := cell_of c0 hR hb
    have e1 := cell_of c1 hR hb
    have HR := Lib.hid (h.go hb)
    have HT := Lib.hid (h.go hb).toks
    have hsb : wb.heap.size = w.heap.size + 2 := by rw [hwb]; simp only [size_alloc]
    have HK1 : Hid (wb.heap[w.heap.size]? = some (.cells #[.string ⟨#[]⟩, .int .i64 0] 43 (0, 0))) := Lib.hid (by rw [hwb]; exact alloc_box _ (heap_alloc_new w _))
    have HK2 : Hid (wb.heap[w.heap.size + 1]? = some (.cells #[.string ⟨#[]⟩, .int .i64 0] 43 (0, 0))) := Lib.hid (by rw [hwb]; have := heap_alloc_new (w.alloc (.cells #[.string ⟨#[]⟩, .int .i64 0] 43)) (.cells #[.string ⟨#[]⟩, .int .i64 0] 43); rw [size_alloc] at this; exact this)
    have hq1 : w.heap.size ≠ wb.heap.size := by omega
    have hq2 : w.heap.size + 1 ≠ wb.heap.size := by omega
    have hq3 : w.heap.size ≠ wb.heap.size + 1 := by omega
    have hq4 : w.heap.size + 1 ≠ wb.heap.size + 1 := by omega
    have hq5 := Ne.symm hq1
    have hq6 := Ne.symm hq2
    have hq7 := Ne.symm hq3
    have hq8 := Ne.symm hq4
    have ha1 : R ≠ w.heap.size := by omega
    have ha2 : R ≠ w.heap.size + 1 := by omega
    have ha3 : R ≠ wb.heap.size := by omega
    have ha4 : R ≠ wb.heap.size + 1 := by omega
    have ha5 := Ne.symm ha1
    have ha6 := Ne.symm ha2
    have ha7 := Ne.symm ha3
    have ha8 := Ne.symm ha4
    have HSB := Lib.hid hsb
    clear hsb
    have hwb2 : w.heap.size ≤ wb.heap.size := hb.size
    have hRb : R < wb.heap.size := Nat.lt_of_lt_of_le hR hwb2
    have mstart : ∀ {wc w3 : World}, Below wb.heap.size wb wc → Below wc.heap.size wc w3 → Mc w R T X (.slice p n c) ts wc.heap.size w3 ⟨k, 0, F⟩ w3 := by
      intro wc w3 hX h3
      have h3' := below_seq hb (below_seq hX h3 hX.size) hb.size
      exact ⟨h.go h3', Gr.of h3', Ag.refl _ _, h.lt, Nat.le_trans hwb2 hX.size, _, h⟩
    clear c0 c1 c2 c3 fr h
    go_enter Tryz.func76, Tryz.ntmps76
    go_wp2_with fail
    rw [← hwb]
    clear hwb e2
    have HS := Lib.hid (show Sk R (.slice p n c) (.int .i64 k) wb from ⟨⟨e0, e1⟩, hRb⟩)
    clear e0 e1
    go_region_held3 (fun w' => w'.cell? ⟨R, 0, none⟩ = some (.slice p n c) ∧ w'.cell? ⟨R, 1, none⟩ = some (.int .i64 k) ∧ R < w'.heap.size) (((with_reducible first | refine Sk.all ?_ | refine Sk.a (y := .int .i64 k) ?_ | refine Sk.b (x := .slice p n c) ?_ | refine Sk.c (x := .slice p n c) (y := .int .i64 k) ?_); (with_reducible repeat (first | exact HS.out | exact HS3.out | refine Sk.put ?_ (by omega) | refine Sk.alloc ?_ | refine Sk.drew ?_)))) (first
      | (go_at_call 77; (with_reducible refine Calls.mono (of_any (wb.drew) R (.slice p n c) ts k (HT.out.below (bwA wb))) ?_); rintro e w3 ⟨rfl, hb3⟩; have HS3 := Lib.hid (HS.out.below (below_seq (bwA wb) hb3 (bwA wb).size)); have hm3 := mstart (bwA wb) hb3; have hz := hb3.size; rw [szA] at hm3 hz; have HM := Lib.hid hm3; have hb03 := below_seq (bwA wb) hb3 (bwA wb).size; obtain ⟨⟨d0, d1⟩, ⟨p0, p1⟩, hld⟩ := duo ((hb03.block _ (heap_lt' HK1.out)).trans HK1.out); obtain ⟨⟨u0, u1⟩, ⟨v0, v1⟩, hlu⟩ := duo ((hb03.block _ (heap_lt' HK2.out)).trans HK2.out); obtain ⟨⟨r0, r1, r2, r3⟩, fr, hR3⟩ := hm3.rd.cells; have fr1 := fr 1; have fr2 := fr 2; have fr3 := fr 3; clear fr hm3 hb03; clear hb3)
      | (go_at_call 77; (with_reducible refine Calls.mono (of_any ((wb.alloc (.cells #[.string ⟨#[]⟩, .int .i64 0] 43)).drew) R (.slice p n c) ts k (HT.out.below (bwB wb (.cells #[.string ⟨#[]⟩, .int .i64 0] 43)))) ?_); rintro e w3 ⟨rfl, hb3⟩; have HS3 := Lib.hid (HS.out.below (below_seq (bwB wb (.cells #[.string ⟨#[]⟩, .int .i64 0] 43)) hb3 (bwB wb (.cells #[.string ⟨#[]⟩, .int .i64 0] 43)).size)); have hm3 := mstart (bwB wb (.cells #[.string ⟨#[]⟩, .int .i64 0] 43)) hb3; have hz := hb3.size; rw [szB] at hm3 hz; have HM := Lib.hid hm3; have hb03 := below_seq (bwB wb (.cells #[.string ⟨#[]⟩, .int .i64 0] 43)) hb3 (bwB wb (.cells #[.string ⟨#[]⟩, .int .i64 0] 43)).size; obtain ⟨⟨d0, d1⟩, ⟨p0, p1⟩, hld⟩ := duo ((hb03.block _ (heap_lt' HK1.out)).trans HK1.out); obtain ⟨⟨u0, u1⟩, ⟨v0, v1⟩, hlu⟩ := duo ((hb03.block _ (heap_lt' HK2.out)).trans HK2.out); obtain ⟨⟨r0, r1, r2, r3⟩, fr, hR3⟩ := hm3.rd.cells; have fr1 := fr 1; have fr2 := fr 2; have fr3 := fr 3; clear fr hm3 hb03; obtain ⟨⟨x0, x1⟩, ⟨y0, y1⟩, hlx⟩ := duo (mineD hb3); clear hb3)
      | (go_at_call 77; (with_reducible refine Calls.mono (of_any ((wb.alloc (.cells #[.int .i64 0, .int .i64 0] 29)).drew) R (.slice p n c) ts k (HT.out.below (bwB wb (.cells #[.int .i64 0, .int .i64 0] 29)))) ?_); rintro e w3 ⟨rfl, hb3⟩; have HS3 := Lib.hid (HS.out.below (below_seq (bwB wb (.cells #[.int .i64 0, .int .i64 0] 29)) hb3 (bwB wb (.cells #[.int .i64 0, .int .i64 0] 29)).size)); have hm3 := mstart (bwB wb (.cells #[.int .i64 0, .int .i64 0] 29)) hb3; have hz := hb3.size; rw [szB] at hm3 hz; have HM := Lib.hid hm3; have hb03 := below_seq (bwB wb (.cells #[.int .i64 0, .int .i64 0] 29)) hb3 (bwB wb (.cells #[.int .i64 0, .int .i64 0] 29)).size; obtain ⟨⟨d0, d1⟩, ⟨p0, p1⟩, hld⟩ := duo ((hb03.block _ (heap_lt' HK1.out)).trans HK1.out); obtain ⟨⟨u0, u1⟩, ⟨v0, v1⟩, hlu⟩ := duo ((hb03.block _ (heap_lt' HK2.out)).trans HK2.out); obtain ⟨⟨r0, r1, r2, r3⟩, fr, hR3⟩ := hm3.rd.cells; have fr1 := fr 1; have fr2 := fr 2; have fr3 := fr 3; clear fr hm3 hb03; obtain ⟨⟨f0, f1⟩, ⟨g0, g1⟩, hlf⟩ := duo (mineD hb3); clear hb3)
      | (go_at_call 77; (with_reducible refine Calls.mono (of_any (((wb.alloc (.cells #[.string ⟨#[]⟩, .int .i64 0] 43)).alloc (.cells #[.int .i64 0, .int .i64 0] 29)).drew) R (.slice p n c) ts k (HT.out.below (bwC wb (.cells #[.string ⟨#[]⟩, .int .i64 0] 43) (.cells #[.int .i64 0, .int .i64 0] 29)))) ?_); rintro e w3 ⟨rfl, hb3⟩; have HS3 := Lib.hid (HS.out.below (below_seq (bwC wb (.cells #[.string ⟨#[]⟩, .int .i64 0] 43) (.cells #[.int .i64 0, .int .i64 0] 29)) hb3 (bwC wb (.cells #[.string ⟨#[]⟩, .int .i64 0] 43) (.cells #[.int .i64 0, .int .i64 0] 29)).size)); have hm3 := mstart (bwC wb (.cells #[.string ⟨#[]⟩, .int .i64 0] 43) (.cells #[.int .i64 0, .int .i64 0] 29)) hb3; have hz := hb3.size; rw [szC] at hm3 hz; have HM := Lib.hid hm3; have hb03 := below_seq (bwC wb (.cells #[.string ⟨#[]⟩, .int .i64 0] 43) (.cells #[.int .i64 0, .int .i64 0] 29)) hb3 (bwC wb (.cells #[.string ⟨#[]⟩, .int .i64 0] 43) (.cells #[.int .i64 0, .int .i64 0] 29)).size; obtain ⟨⟨d0, d1⟩, ⟨p0, p1⟩, hld⟩ := duo ((hb03.block _ (heap_lt' HK1.out)).trans HK1.out); obtain ⟨⟨u0, u1⟩, ⟨v0, v1⟩, hlu⟩ := duo ((hb03.block _ (heap_lt' HK2.out)).trans HK2.out); obtain ⟨⟨r0, r1, r2, r3⟩, fr, hR3⟩ := hm3.rd.cells; have fr1 := fr 1; have fr2 := fr 2; have fr3 := fr 3; clear fr hm3 hb03; obtain ⟨⟨x0, x1⟩, ⟨y0, y1⟩, hlx⟩ := duo (mineD1 hb3); obtain ⟨⟨f0, f1⟩, ⟨g0, g1⟩, hlf⟩ := duo (mineD2 hb3); have hne1 : wb.heap.size ≠ wb.heap.size + 1 := (by omega); have hne2 := Ne.symm hne1; clear hb3)
      | (go_at_call 77; (with_reducible refine Calls.mono (of_any (((wb.alloc (.cells #[.int .i64 0, .int .i64 0] 29)).alloc (.cells #[.string ⟨#[]⟩, .int .i64 0] 43)).drew) R (.slice p n c) ts k (HT.out.below (bwC wb (.cells #[.int .i64 0, .int .i64 0] 29) (.cells #[.string ⟨#[]⟩, .int .i64 0] 43)))) ?_); rintro e w3 ⟨rfl, hb3⟩; have HS3 := Lib.hid (HS.out.below (below_seq (bwC wb (.cells #[.int .i64 0, .int .i64 0] 29) (.cells #[.string ⟨#[]⟩, .int .i64 0] 43)) hb3 (bwC wb (.cells #[.int .i64 0, .int .i64 0] 29) (.cells #[.string ⟨#[]⟩, .int .i64 0] 43)).size)); have hm3 := mstart (bwC wb (.cells #[.int .i64 0, .int .i64 0] 29) (.cells #[.string ⟨#[]⟩, .int .i64 0] 43)) hb3; have hz := hb3.size; rw [szC] at hm3 hz; have HM := Lib.hid hm3; have hb03 := below_seq (bwC wb (.cells #[.int .i64 0, .int .i64 0] 29) (.cells #[.string ⟨#[]⟩, .int .i64 0] 43)) hb3 (bwC wb (.cells #[.int .i64 0, .int .i64 0] 29) (.cells #[.string ⟨#[]⟩, .int .i64 0] 43)).size; obtain ⟨⟨d0, d1⟩, ⟨p0, p1⟩, hld⟩ := duo ((hb03.block _ (heap_lt' HK1.out)).trans HK1.out); obtain ⟨⟨u0, u1⟩, ⟨v0, v1⟩, hlu⟩ := duo ((hb03.block _ (heap_lt' HK2.out)).trans HK2.out); obtain ⟨⟨r0, r1, r2, r3⟩, fr, hR3⟩ := hm3.rd.cells; have fr1 := fr 1; have fr2 := fr 2; have fr3 := fr 3; clear fr hm3 hb03; obtain ⟨⟨f0, f1⟩, ⟨g0, g1⟩, hlf⟩ := duo (mineD1 hb3); obtain ⟨⟨x0, x1⟩, ⟨y0, y1⟩, hlx⟩ := duo (mineD2 hb3); have hne1 : wb.heap.size ≠ wb.heap.size + 1 := (by omega); have hne2 := Ne.symm hne1; clear hb3))
    all_goals
      by_cases hB : (ofAns ts k).2.2.2.1 = 0
      · have hBd : ((ofAns ts k).2.2.2.1 != 0) = false := by simpa using hB
        go_wp2_with fail
        refine bodyPost_ret (v := .agg #[.string (cbs (ofAns ts k).1), .int .i64 (ofAns ts k).2.1]) (by simp [results, Tryz.results76, go_sem, hld, d0, d1]) rfl (Mc.of HM.out ?_ (rdOfC_ok hB) rfl)
        have hsb := HSB.out
        with_reducible repeat (first | exact HM.out | refine Mc.set_k (s := ⟨k, 0, F⟩) ?_ | refine Mc.put ?_ (by omega) (by omega) | refine Mc.alloc ?_ | refine Mc.drew ?_)
      · have hBd : ((ofAns ts k).2.2.2.1 != 0) = true := by simpa using hB
        go_wp2_with fail
        refine bodyPost_ret (v := .agg #[.string ⟨#[]⟩, .int .i64 0]) (by simp [results, Tryz.results76, go_sem, hld, d0, d1]) rfl (Mc.of (nm := []) (d := 0) HM.out ?_ (rdOfC_bad hB) rfl)
        have hsb := HSB.out
        with_reducible repeat (first | exact HM.out | refine Mc.set_f (s := ⟨k, 0, F⟩) ?_ | refine Mc.put ?_ (by omega) (by omega) | refine Mc.alloc ?_ | refine Mc.drew ?_)
  · have hx := rdOfC_dead (ts := ts) (s := ⟨k, E, F⟩) hE
    have hd : (E != 0) = true := by simpa using hE
    rw [hwb] at hb
    have HH := Lib.hid h
    have HX := Lib.hid hx
    have HB := Lib.hid hb
    clear h hx hb hE hwb c0 c1 c2 c3 fr
    go_enter Tryz.func76, Tryz.ntmps76
    go_wp2_with fail
    refine bodyPost_ret (v := .agg #[.string ⟨#[]⟩, .int .i64 0]) (by simp [results, Tryz.results76, go_sem]) rfl ?_
    rw [HX.out]
    exact ⟨rfl, HH.out.go HB.out, Gr.of HB.out⟩

theorem ops_go {w w' : World} (h : OpsIn w) (hb : Below w.heap.size w w') : OpsIn w' := by
  obtain ⟨t, fr, ho⟩ := h
  exact ⟨t, fr, (hb.block _ (heap_lt' ho)).trans ho⟩
/-- What the reader of blocks answers. -/
def BPost (w : World) (x : List Sm × Int × Int × Int) (e : Ending) (w' : World) : Prop :=
  ∃ (p : Option Addr) (c : Nat), e = .returned (.tuple #[.slice p x.1.length c, .int .i64 x.2.1, .agg #[.int .i64 x.2.2.1, .int .i64 x.2.2.2]]) ∧ SsAt w' w.heap.size p x.1 ∧ Below w.heap.size w w'
def BOk (ts : List RT) (B : BX) : Prop := ∀ (w : World) (R0 : Nat) (S : Value) (k : Int), Toks w R0 S ts → OpsIn w →
  Calls Tryz.prog 79 #[S, .int .i64 k] w (BPost w (B k))

/-- What a step ends in that reads a block. -/
def BlPostC (w : World) (R : Nat) (T : TypeId) (X : List Value) (S : Value) (ts : List RT) (x : List Sm × Cs) (e : Ending) (w' : World) : Prop :=
  ∃ (p : Option Addr) (c : Nat), e = .returned (.slice p x.1.length c) ∧ SsAt w' w.heap.size p x.1 ∧ Cu w' R T S X ts x.2 ∧ Gr R w w'
theorem rdB_dead {B : BX} {s : Cs} (h : ¬ s.E = 0) : Pg.rdB B s = ([], s) := if_neg h
theorem rdB_ok {B : BX} {k F : Int} (h : (B k).2.2.1 = 0) : Pg.rdB B ⟨k, 0, F⟩ = ((B k).1, ⟨(B k).2.1, 0, F⟩) := by simp only [Pg.rdB, h, if_true]
theorem rdB_bad {B : BX} {k F : Int} (h : ¬ (B k).2.2.1 = 0) : Pg.rdB B ⟨k, 0, F⟩ = ([], ⟨k, (B k).2.2.1, (B k).2.2.2⟩) := by simp only [Pg.rdB, h, if_true, if_false]
theorem Mc.bl {w w3 W : World} {R B0 : Nat} {T : TypeId} {X : List Value} {S : Value} {ts : List RT} {s : Cs} {p : Option Addr} {c : Nat} {l : List Sm} (h : Mc w R T X S ts B0 w3 s W) (ha : SsAt w3 B0 p l) : BlPostC w R T X S ts (l, s) (.returned (.slice p l.length c)) W :=
  ⟨p, c, rfl, (ha.ag h.ag).lower h.hB, h.rd, h.gr⟩
theorem Mc.bl0 {w w3 W : World} {R B0 : Nat} {T : TypeId} {X : List Value} {S : Value} {ts : List RT} {s sm : Cs} (_h0 : Mc w R T X S ts B0 w3 sm w3) (h : Mc w R T X S ts B0 w3 s W) : BlPostC w R T X S ts ([], s) (.returned (.slice none 0 0)) W :=
  ⟨none, 0, rfl, SsAt.nil, h.rd, h.gr⟩

set_option maxRecDepth 8000 in
set_option maxHeartbeats 20000000 in
theorem readB_any (w : World) (R : Nat) (T : TypeId) (X : List Value) (S : Value) (ts : List RT) (s : Cs) (h : Cu w R T S X ts s) (hops : OpsIn w) (B : BX) (hB : BOk ts B) :
    Calls Tryz.prog 78 #[.pointer (some ⟨R, 0, none⟩), .func (.func 79) #[] #[]] w (BlPostC w R T X S ts (Pg.rdB B s)) := by
  obtain ⟨p, n, c, rfl⟩ := h.toks.slice
  obtain ⟨k, E, F⟩ := s
  obtain ⟨⟨e0, e1, e2, c3⟩, fr, hR⟩ := h.cells
  dsimp only at e1 e2 c3
  have HB := Lib.hid (show ∀ (w : World) (R0 : Nat) (S : Value) (k : Int), Toks w R0 S ts → OpsIn w → Calls Tryz.prog 79 #[S, .int .i64 k] w (BPost w (B k)) from hB)
  have HOP := Lib.hid hops
  by_cases hE : E = 0
  · subst hE
    have HT := Lib.hid h.toks
    have ha1 : R ≠ w.heap.size := Nat.ne_of_lt hR
    have ha2 := Ne.symm ha1
    have mstart : ∀ {wc w3 : World}, Below w.heap.size w wc → Below wc.heap.size wc w3 → Mc w R T X (.slice p n c) ts wc.heap.size w3 ⟨k, 0, F⟩ w3 := by
      intro wc w3 hX h3
      have h3' := below_seq hX h3 hX.size
      exact ⟨h.go h3', Gr.of h3', Ag.refl _ _, h.lt, hX.size, _, h⟩
    have HS := Lib.hid (show Sk R (.slice p n c) (.int .i64 k) w from ⟨⟨e0, e1⟩, hR⟩)
    clear c3 fr h hB hops
    go_enter Tryz.func78, Tryz.ntmps78
    go_wp2_with fail
    clear e0 e1 e2
    go_region_held3 (fun w' => w'.cell? ⟨R, 0, none⟩ = some (.slice p n c) ∧ w'.cell? ⟨R, 1, none⟩ = some (.int .i64 k) ∧ R < w'.heap.size) (((with_reducible first | refine Sk.all ?_ | refine Sk.a (y := .int .i64 k) ?_ | refine Sk.b (x := .slice p n c) ?_ | refine Sk.c (x := .slice p n c) (y := .int .i64 k) ?_); (with_reducible repeat (first | exact HS.out | exact HS3.out | refine Sk.put ?_ (by omega) | refine Sk.alloc ?_ | refine Sk.drew ?_)))) (first
      | (go_at_call 79; (with_reducible refine Calls.mono (HB.out (w.drew) R (.slice p n c) k (HT.out.below (bwA w)) (ops_go HOP.out (bwA w))) ?_); rintro e w3 ⟨bp, bc, rfl, hat, hb3⟩; have HS3 := Lib.hid (HS.out.below (below_seq (bwA w) hb3 (bwA w).size)); have hm3 := mstart (bwA w) hb3; have hz := hb3.size; rw [szA] at hm3 hz hat; have HM := Lib.hid hm3; have HA := Lib.hid hat; obtain ⟨⟨r0, r1, r2, r3⟩, fr, hR3⟩ := hm3.rd.cells; have fr1 := fr 1; have fr2 := fr 2; have fr3 := fr 3; clear fr hm3 hat; clear hb3)
      | (go_at_call 79; (with_reducible refine Calls.mono (HB.out ((w.alloc (.cells #[.int .i64 0, .int .i64 0] 29)).drew) R (.slice p n c) k (HT.out.below (bwB w (.cells #[.int .i64 0, .int .i64 0] 29))) (ops_go HOP.out (bwB w (.cells #[.int .i64 0, .int .i64 0] 29)))) ?_); rintro e w3 ⟨bp, bc, rfl, hat, hb3⟩; have HS3 := Lib.hid (HS.out.below (below_seq (bwB w (.cells #[.int .i64 0, .int .i64 0] 29)) hb3 (bwB w (.cells #[.int .i64 0, .int .i64 0] 29)).size)); have hm3 := mstart (bwB w (.cells #[.int .i64 0, .int .i64 0] 29)) hb3; have hz := hb3.size; rw [szB] at hm3 hz hat; have HM := Lib.hid hm3; have HA := Lib.hid hat; obtain ⟨⟨r0, r1, r2, r3⟩, fr, hR3⟩ := hm3.rd.cells; have fr1 := fr 1; have fr2 := fr 2; have fr3 := fr 3; clear fr hm3 hat; obtain ⟨⟨f0, f1⟩, ⟨g0, g1⟩, hlf⟩ := duo (mineD hb3); clear hb3))
    all_goals
      by_cases hBz : (B k).2.2.1 = 0
      · have hBd : ((B k).2.2.1 != 0) = false := by simpa using hBz
        go_wp2_with fail
        refine bodyPost_ret (v := .slice bp (B k).1.length bc) (by simp [results, Tryz.results78, go_sem]) rfl ?_
        rw [rdB_ok hBz]
        refine Mc.bl ?_ HA.out
        with_reducible repeat (first | exact HM.out | refine Mc.set_k (s := ⟨k, 0, F⟩) ?_ | refine Mc.put ?_ (by omega) (by omega) | refine Mc.alloc ?_ | refine Mc.drew ?_)
      · have hBd : ((B k).2.2.1 != 0) = true := by simpa using hBz
        go_wp2_with fail
        refine bodyPost_ret (v := .slice none 0 0) (by simp [results, Tryz.results78, go_sem]) rfl ?_
        rw [rdB_bad hBz]
        refine Mc.bl0 HM.out ?_
        with_reducible repeat (first | exact HM.out | refine Mc.set_f (s := ⟨k, 0, F⟩) ?_ | refine Mc.put ?_ (by omega) (by omega) | refine Mc.alloc ?_ | refine Mc.drew ?_)
  · have hx := rdB_dead (B := B) (s := ⟨k, E, F⟩) hE
    have hd : (E != 0) = true := by simpa using hE
    have HH := Lib.hid h
    have HX := Lib.hid hx
    clear h hx hE c3 fr e0 e1 hB hops
    go_enter Tryz.func78, Tryz.ntmps78
    go_wp2_with fail
    refine bodyPost_ret (v := .slice none 0 0) (by simp [results, Tryz.results78, go_sem]) rfl ?_
    rw [HX.out]
    exact ⟨none, 0, rfl, SsAt.nil, HH.out, Gr.refl _ _⟩
end Go.Proofs.YtnadaedibicaaaaGreatDoor
