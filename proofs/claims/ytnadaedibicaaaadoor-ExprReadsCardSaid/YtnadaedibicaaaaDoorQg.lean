/-
  The contracts of the answer's reader (runrigref3) over the plain machine: an expression in brackets, what stands behind new.
-/
import Derived.Test.YtnadaedibicaaaaDoorQf
import Derived.Deep.RegionHeld3
namespace Go.Proofs.YtnadaedibicaaaaDoor
open Go.RowKit
open Px (RT tokAt isT)
open Pe (inc dec Ex)
open Qe (Q)

set_option maxRecDepth 8000 in
set_option maxHeartbeats 4000000 in
theorem qInner_any (w : World) (R : Nat) (S : Value) (ts : List RT) (s : Q) (h : Qr w R S ts s) (rec : Nat → Q → Qe.Out) (hrec : QRecOk ts rec) (x : Ex × Q) (hx : Qe.inner ts rec s = some x) :
    Calls Tryd.prog 87 #[.pointer (some ⟨R, 0, none⟩)] w (QPost w.heap.size w R S ts x) := by
  obtain ⟨e0, s2, he, rfl⟩ := qinner_some hx
  have HE := Lib.hid (fun w1 hh => hrec 0 _ (e0, s2) (by decide) he w1 R S hh)
  clear hrec hx he
  have hlt := h.lt
  have HH := Lib.hid h
  have F := Lib.hid ((Fq.start h).alloc (.cells #[.int .i64 0, .int .i64 0, .string ⟨#[]⟩, .string ⟨#[]⟩, .int .i64 0, .slice none 0 0, .int .i64 0, .int .i64 0, .int .i64 0, .int .i64 0, .int .i64 0] 39))
  clear h 
  go_enter Tryd.func87, Tryd.ntmps87
  go_wp2_with fail
  refine (qOpens_any _ R S ts _ F.out.qr ⟨#[40]⟩ (noLetter _ (by decide))).mono ?_
  rintro e u1 ⟨rfl, hr, hg⟩
  have F2 := Lib.hid (F.out.step hr hg)
  clear F
  have F := F2
  clear F2
  clear hr hg
  go_wp2_with fail
  have hRB := F.out.qr.lt
  have hNB := heap_lt' (F.out.keep _ (List.Mem.head _)).1
  refine (HE.out _ F.out.qr).mono ?_
  rintro e u2 ⟨qk, qn, qs, qo, qd, qp, ql, qc, qa, qb, qr, qe, qf, rfl, hi, hr, hg⟩
  have F2 := Lib.hid ((F.out.step hr hg).tree hi hNB hRB)
  clear F
  have F := F2
  clear F2
  clear hi hr hg hRB hNB
  go_wp2_with fail
  have F2 := Lib.hid (F.out.alloc (.cells #[.int .i64 qk, .int .i64 qn, .string (cbs qs), .string (cbs qo), .int .i64 qd, .slice qp ql qc, .int .i64 qa, .int .i64 qb, .int .i64 qr, .int .i64 qe, .int .i64 qf] 39))
  clear F
  have F := F2
  clear F2
  refine (qCloses_any _ R S ts _ F.out.qr ⟨#[41]⟩ (noLetter _ (by decide))).mono ?_
  rintro e u3 ⟨rfl, hr, hg⟩
  have F2 := Lib.hid (F.out.step hr hg)
  clear F
  have F := F2
  clear F2
  clear hr hg
  have hk := (F.out.keep _ (List.Mem.head _))
  obtain ⟨⟨x0, x1, x2, x3, x4, x5, x6, x7, x8, x9, xX⟩, y0, y1, y2, y3, y4, y5, y6, y7, y8, y9, yX⟩ := hen hk.1
  have hlx := heap_lt' hk.1
  have hnx := hk.2
  clear hk
  have hk := (F.out.keep _ (List.Mem.tail _ (List.Mem.head _)))
  obtain ⟨⟨d0, d1, d2, d3, d4, d5, d6, d7, d8, d9, dX⟩, g0, g1, g2, g3, g4, g5, g6, g7, g8, g9, gX⟩ := hen hk.1
  have hld := heap_lt' hk.1
  have hnd := hk.2
  clear hk
  go_wp2_with fail
  have hn := (Nw.start F.out.gr).put11 (B := w.heap.size) (Nat.le_refl _) (c0 := .int .i64 qk) (c1 := .int .i64 qn) (c2 := .string (cbs qs)) (c3 := .string (cbs qo)) (c4 := .int .i64 qd) (c5 := .slice qp ql qc) (c6 := .int .i64 qa) (c7 := .int .i64 qb) (c8 := .int .i64 qr) (c9 := .int .i64 qe) (c10 := .int .i64 qf)
  exact bodyPost_ret (v := .agg #[.int .i64 qk, .int .i64 qn, .string (cbs qs), .string (cbs qo), .int .i64 qd, .slice qp ql qc, .int .i64 qa, .int .i64 qb, .int .i64 qr, .int .i64 qe, .int .i64 qf]) (by simp [results, Tryd.results87, go_sem, d0, d1, d2, d3, d4, d5, d6, d7, d8, d9, dX]) rfl ⟨_, _, _, _, _, _, _, _, _, _, _, _, _, rfl, Is.lower (Nat.le_of_lt (F.out.trees _ (List.Mem.head _)).2.1) _ ((F.out.trees _ (List.Mem.head _)).1.put11 (F.out.trees _ (List.Mem.head _)).2.1), HH.out.fin F.out.qr hn, hn.gr⟩

theorem qfresh_no {ts : List RT} {rec : Nat → Q → Qe.Out} {s : Q} {a : Int} {x : Ex × Q} (h : Qe.fresh ts rec s a = some x) (hv : Qe.is ts s false [91] = false) : x = (Ex.of 8 0 [] (Qe.name ts s).1 0 [] a, (Qe.name ts s).2) := by
  simp only [Qe.fresh, hv, Bool.false_eq_true, if_false, Option.some.injEq] at h
  exact h.symm
theorem qfresh_yes {ts : List RT} {rec : Nat → Q → Qe.Out} {s : Q} {a : Int} {x : Ex × Q} (h : Qe.fresh ts rec s a = some x) (hv : Qe.is ts s false [91] = true) : ∃ e s2, Qe.inner ts rec (Qe.take ts (Qe.of ts (Qe.next s)).2.2 false [93]) = some (e, s2) ∧ x = (Ex.of 9 0 [] (Qe.of ts (Qe.next s)).1 (Qe.of ts (Qe.next s)).2.1 [e] a, s2) := by
  simp only [Qe.fresh, hv, if_true] at h
  split at h
  · cases h
  · rename_i e s2 he
    exact ⟨e, s2, he, by simpa using h.symm⟩

set_option maxRecDepth 8000 in
set_option maxHeartbeats 4000000 in
theorem qFresh_no (w : World) (R : Nat) (S : Value) (ts : List RT) (s : Q) (h : Qr w R S ts s) (a : Int) (hv : Qe.is ts s false [91] = false) :
    Calls Tryd.prog 86 #[.pointer (some ⟨R, 0, none⟩), .int .i64 a] w (QPost w.heap.size w R S ts (Ex.of 8 0 [] (Qe.name ts s).1 0 [] a, (Qe.name ts s).2)) := by
  have hq := fun w1 hh => qName_any w1 R S ts s hh
  generalize Qe.name ts s = y at hq ⊢
  obtain ⟨nm, s2⟩ := y
  dsimp only at hq ⊢
  have HQ := Lib.hid hq
  have HV := Lib.hid hv
  clear hq hv
  have hlt := h.lt
  have HH := Lib.hid h
  have F := Lib.hid ((Fq.start h).alloc (.cells #[.int .i64 0, .int .i64 0, .string ⟨#[]⟩, .string ⟨#[]⟩, .int .i64 0, .slice none 0 0, .int .i64 0, .int .i64 0, .int .i64 0, .int .i64 0, .int .i64 0] 39))
  clear h 
  go_enter Tryd.func86, Tryd.ntmps86
  go_wp2_with fail
  refine (qIs_any _ R S ts _ F.out.qr ⟨#[91]⟩ (by decide) false (by decide)).mono ?_
  rintro e u1 ⟨rfl, hb⟩
  have F2 := Lib.hid (F.out.go hb)
  clear F
  have F := F2
  clear F2
  clear hb
  rw [HV.out]
  go_wp2_with fail
  refine (HQ.out _ F.out.qr).mono ?_
  rintro e u2 ⟨rfl, hr, hg⟩
  have F2 := Lib.hid (F.out.step hr hg)
  clear F
  have F := F2
  clear F2
  clear hr hg
  have hk := (F.out.keep _ (List.Mem.head _))
  obtain ⟨⟨d0, d1, d2, d3, d4, d5, d6, d7, d8, d9, dX⟩, g0, g1, g2, g3, g4, g5, g6, g7, g8, g9, gX⟩ := hen hk.1
  have hld := heap_lt' hk.1
  have hnd := hk.2
  clear hk
  go_wp2_with fail
  have hn := (Nw.start F.out.gr).put11 (B := w.heap.size) (Nat.le_refl _) (c0 := .int .i64 8) (c1 := .int .i64 0) (c2 := .string ⟨#[]⟩) (c3 := .string (cbs nm)) (c4 := .int .i64 0) (c5 := .slice none 0 0) (c6 := .int .i64 a) (c7 := .int .i64 0) (c8 := .int .i64 0) (c9 := .int .i64 0) (c10 := .int .i64 0)
  exact bodyPost_ret (v := .agg #[.int .i64 8, .int .i64 0, .string ⟨#[]⟩, .string (cbs nm), .int .i64 0, .slice none 0 0, .int .i64 a, .int .i64 0, .int .i64 0, .int .i64 0, .int .i64 0]) (by simp [results, Tryd.results86, go_sem, d0, d1, d2, d3, d4, d5, d6, d7, d8, d9, dX]) rfl ⟨_, _, _, _, _, _, _, _, _, _, _, _, _, rfl, Is.leaf 8 0 [] nm 0 a, HH.out.fin F.out.qr hn, hn.gr⟩

set_option maxRecDepth 8000 in
set_option maxHeartbeats 4000000 in
theorem qFresh_yes (w : World) (R : Nat) (S : Value) (ts : List RT) (s : Q) (h : Qr w R S ts s) (rec : Nat → Q → Qe.Out) (hrec : QRecOk ts rec) (a : Int) (hv : Qe.is ts s false [91] = true) (e0 : Ex) (s2 : Q) (he : Qe.inner ts rec (Qe.take ts (Qe.of ts (Qe.next s)).2.2 false [93]) = some (e0, s2)) :
    Calls Tryd.prog 86 #[.pointer (some ⟨R, 0, none⟩), .int .i64 a] w (QPost w.heap.size w R S ts (Ex.of 9 0 [] (Qe.of ts (Qe.next s)).1 (Qe.of ts (Qe.next s)).2.1 [e0] a, s2)) := by
  have hq := fun w1 hh => qOf_any w1 R S ts (Qe.next s) hh
  generalize Qe.of ts (Qe.next s) = y at hq he ⊢
  obtain ⟨nm, dm, s1⟩ := y
  dsimp only at hq he ⊢
  have HQ := Lib.hid hq
  have HV := Lib.hid hv
  have HE := Lib.hid (fun w1 hh => qInner_any w1 R S ts _ hh rec hrec (e0, s2) he)
  clear hq hv hrec he
  have hlt := h.lt
  have HH := Lib.hid h
  have F := Lib.hid ((Fq.start h).alloc (.cells #[.int .i64 0, .int .i64 0, .string ⟨#[]⟩, .string ⟨#[]⟩, .int .i64 0, .slice none 0 0, .int .i64 0, .int .i64 0, .int .i64 0, .int .i64 0, .int .i64 0] 39))
  clear h 
  go_enter Tryd.func86, Tryd.ntmps86
  go_wp2_with fail
  refine (qIs_any _ R S ts _ F.out.qr ⟨#[91]⟩ (by decide) false (by decide)).mono ?_
  rintro e u1 ⟨rfl, hb⟩
  have F2 := Lib.hid (F.out.go hb)
  clear F
  have F := F2
  clear F2
  clear hb
  rw [HV.out]
  obtain ⟨⟨c0, c1, c2, c3, c4⟩, fr, hRl⟩ := F.out.qr.cells
  have fr1 := fr 1
  have fr2 := fr 2
  clear fr
  go_wp2_with fail
  clear c0 c1 c2 c3 c4 fr1 fr2 hRl
  have F2 := Lib.hid (F.out.set_k (inc s.k))
  clear F
  have F := F2
  clear F2
  refine (HQ.out _ F.out.qr).mono ?_
  rintro e u2 ⟨rfl, hr, hg⟩
  have F2 := Lib.hid (F.out.step hr hg)
  clear F
  have F := F2
  clear F2
  clear hr hg
  go_wp2_with fail
  have hNB0 := heap_lt' (F.out.keep _ (List.Mem.head _)).1
  have F2 := Lib.hid (F.out.alloc (.cells #[.string (cbs nm), .int .i64 dm] 32))
  clear F
  have F := F2
  clear F2
  refine (qTake_any _ R S ts _ F.out.qr ⟨#[93]⟩ (by decide) false (by decide)).mono ?_
  rintro e u3 ⟨rfl, hr, hg⟩
  have F2 := Lib.hid (F.out.step hr hg)
  clear F
  have F := F2
  clear F2
  clear hr hg
  have hk := (F.out.keep _ (List.Mem.head _))
  obtain ⟨⟨x0, x1⟩, ⟨y0, y1⟩, hlx⟩ := duo hk.1
  clear hk y0 y1
  have hk := (F.out.keep _ (List.Mem.tail _ (List.Mem.head _)))
  obtain ⟨⟨d0, d1, d2, d3, d4, d5, d6, d7, d8, d9, dX⟩, g0, g1, g2, g3, g4, g5, g6, g7, g8, g9, gX⟩ := hen hk.1
  have hld := heap_lt' hk.1
  have hnd := hk.2
  clear hk
  go_wp2_with fail
  have F2 := Lib.hid (F.out.go (Below.refl _ _).drew)
  clear F
  have F := F2
  clear F2
  have hRB := F.out.qr.lt
  have hNB := heap_lt' (F.out.keep _ (List.Mem.tail _ (List.Mem.head _))).1
  have hne := Nat.ne_of_gt hNB0
  have HK1 := Lib.hid (F.out.keep _ (List.Mem.head _)).1
  go_region_held3 (fun w' => w'.cell? ⟨u2.heap.size, 0, none⟩ = some (.string (cbs nm)) ∧ w'.cell? ⟨u2.heap.size, 1, none⟩ = some (.int .i64 dm)) (with_reducible first | exact (duo HK1.out).1 | exact (duo HK2.out).1 | exact (duo (alloc_box _ HK2.out)).1 | exact (duo (put11_other HK2.out hne)).1 | exact (duo (alloc_box _ (put11_other HK2.out hne))).1) (first
    | (go_at_call 87; (with_reducible refine Calls.mono (HE.out _ F.out.qr) ?_); rintro e u4 ⟨qk, qn, qs, qo, qd, qp, ql, qc, qa, qb, qr, qe, qf, rfl, hi, hr, hg⟩; have F4 := Lib.hid ((F.out.step hr hg).tree hi hNB hRB); have HK2 := Lib.hid (F4.out.keep _ (List.Mem.head _)).1; clear d0 d1 d2 d3 d4 d5 d6 d7 d8 d9 dX g0 g1 g2 g3 g4 g5 g6 g7 g8 g9 gX hld hnd hr hi hg; have hk := (F4.out.keep _ (List.Mem.tail _ (List.Mem.head _))); obtain ⟨⟨v0, v1, v2, v3, v4, v5, v6, v7, v8, v9, vX⟩, p0, p1, p2, p3, p4, p5, p6, p7, p8, p9, pX⟩ := hen hk.1; have hlv := heap_lt' hk.1; have hnv := hk.2; clear hk))
  clear F HK1 HK2 hRB hNB hne
  have F := F4
  clear F4
  go_wp2_with fail
  have hn := ((Nw.start F.out.gr).put11 (B := w.heap.size) (Nat.le_refl _) (c0 := .int .i64 9) (c1 := .int .i64 0) (c2 := .string ⟨#[]⟩) (c3 := .string (cbs nm)) (c4 := .int .i64 dm) (c5 := .slice (some ⟨u4.heap.size, 0, none⟩) 1 1) (c6 := .int .i64 a) (c7 := .int .i64 0) (c8 := .int .i64 0) (c9 := .int .i64 0) (c10 := .int .i64 0)).alloc (.cells #[.int .i64 qk, .int .i64 qn, .string (cbs qs), .string (cbs qo), .int .i64 qd, .slice qp ql qc, .int .i64 qa, .int .i64 qb, .int .i64 qr, .int .i64 qe, .int .i64 qf] 39)
  have hbx := box_put11 (w := u4) (N := w.heap.size) (o := .cells #[.int .i64 qk, .int .i64 qn, .string (cbs qs), .string (cbs qo), .int .i64 qd, .slice qp ql qc, .int .i64 qa, .int .i64 qb, .int .i64 qr, .int .i64 qe, .int .i64 qf] 39) (c0 := .int .i64 9) (c1 := .int .i64 0) (c2 := .string ⟨#[]⟩) (c3 := .string (cbs nm)) (c4 := .int .i64 dm) (c5 := .slice (some ⟨u4.heap.size, 0, none⟩) 1 1) (c6 := .int .i64 a) (c7 := .int .i64 0) (c8 := .int .i64 0) (c9 := .int .i64 0) (c10 := .int .i64 0)
  have hle : w.heap.size ≤ u4.heap.size := Nat.le_of_lt (heap_lt' (F.out.keep _ (List.Mem.tail _ (List.Mem.head _))).1)
  exact bodyPost_ret (v := .agg #[.int .i64 9, .int .i64 0, .string ⟨#[]⟩, .string (cbs nm), .int .i64 dm, .slice (some ⟨u4.heap.size, 0, none⟩) 1 1, .int .i64 a, .int .i64 0, .int .i64 0, .int .i64 0, .int .i64 0]) (by simp [results, Tryd.results86, go_sem, hlv, v0, v1, v2, v3, v4, v5, v6, v7, v8, v9, vX]) rfl ⟨_, _, _, _, _, _, _, _, _, _, _, _, _, rfl, Is.node1 hbx hle (Is.lower (Nat.le_of_lt (F.out.trees _ (List.Mem.head _)).2.1) _ (((F.out.trees _ (List.Mem.head _)).1.put11 (F.out.trees _ (List.Mem.head _)).2.1).alloc _)) rfl 9 0 [] nm dm a 1, HH.out.fin F.out.qr hn, hn.gr⟩

theorem qFresh_any (w : World) (R : Nat) (S : Value) (ts : List RT) (s : Q) (h : Qr w R S ts s) (rec : Nat → Q → Qe.Out) (hrec : QRecOk ts rec) (a : Int) (x : Ex × Q) (hx : Qe.fresh ts rec s a = some x) :
    Calls Tryd.prog 86 #[.pointer (some ⟨R, 0, none⟩), .int .i64 a] w (QPost w.heap.size w R S ts x) := by
  cases hv : Qe.is ts s false [91] with
  | true =>
    obtain ⟨e0, s2, he, rfl⟩ := qfresh_yes hx hv
    exact qFresh_yes w R S ts s h rec hrec a hv e0 s2 he
  | false =>
    rw [qfresh_no hx hv]
    exact qFresh_no w R S ts s h a hv
end Go.Proofs.YtnadaedibicaaaaDoor
