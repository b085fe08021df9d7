/-
  The contracts of the answer's reader (runrigref3) over the plain machine: one with a sign in front.
-/
import Derived.Test.YtnadaedibicaaaaDoorQf
import Derived.Deep.RegionHeld3
namespace Go.Proofs.YtnadaedibicaaaaDoor
open Go.RowKit
open Px (RT tokAt isT)
open Pe (inc dec Ex)
open Qe (Q)

set_option maxRecDepth 8000 in
set_option maxHeartbeats 4000000 in
theorem qUnary_45 (w : World) (R : Nat) (S : Value) (ts : List RT) (s : Q) (h : Qr w R S ts s) (rec : Nat → Q → Qe.Out) (hrec : QRecOk ts rec) (hv1 : Qe.is ts s false [45] = true) (e0 : Ex) (s2 : Q) (he : rec 5 (Qe.opens ts s [45]) = some (e0, s2)) :
    Calls Tryd.prog 57 #[.pointer (some ⟨R, 0, none⟩)] w (QPost w.heap.size w R S ts (Ex.of 12 0 [] [] 0 [e0] (tokAt ts s.k).at_, ⟨s2.k, dec s2.o, s2.E, s2.F⟩)) := by
  have HE := Lib.hid (fun w1 hh => hrec 5 _ (e0, s2) (by decide) he w1 R S hh)
  have HV1 := Lib.hid hv1
  have htx := (is_text hv1).2.2
  have htk := fun w1 hh => qTok_any w1 R S ts s hh
  generalize tokAt ts s.k = t at htk htx ⊢
  obtain ⟨tk, tx, tn, ta⟩ := t
  dsimp only at htx ⊢
  subst htx
  unfold tokW at htk
  dsimp only at htk
  have HTK := Lib.hid htk
  clear htk hrec he hv1 
  have hlt := h.lt
  have HH := Lib.hid h
  have F := Lib.hid ((Fq.start h).alloc (.cells #[.int .i64 0, .int .i64 0, .string ⟨#[]⟩, .string ⟨#[]⟩, .int .i64 0, .slice none 0 0, .int .i64 0, .int .i64 0, .int .i64 0, .int .i64 0, .int .i64 0] 39))
  clear h 
  go_enter Tryd.func57, Tryd.ntmps57
  go_wp2_with fail
  refine (HTK.out _ F.out.qr).mono ?_
  rintro e u1 ⟨rfl, hb⟩
  have F2 := Lib.hid (F.out.go hb)
  clear F
  have F := F2
  clear F2
  clear hb
  have hNB0 := heap_lt' (F.out.keep _ (List.Mem.head _)).1
  go_wp2_with fail
  have F2 := Lib.hid (F.out.alloc (.cells #[.int .i64 tk, .string (cbs [45]), .int .i64 tn, .int .i64 ta] 51))
  clear F
  have F := F2
  clear F2
  refine (qIs_any _ R S ts _ F.out.qr ⟨#[45]⟩ (by decide) false (by decide)).mono ?_
  rintro e u2 ⟨rfl, hb⟩
  have F2 := Lib.hid (F.out.go hb)
  clear F
  have F := F2
  clear F2
  clear hb
  try rw [HV1.out]
  have hk := (F.out.keep _ (List.Mem.head _))
  obtain ⟨⟨t0, t1, t2, t3⟩, q0, q1, q2, q3⟩ := quad hk.1
  have hlt := heap_lt' hk.1
  have hnt := hk.2
  have hmt := Ne.symm hnt
  clear hk q0 q1 q2 q3
  go_wp2_with fail
  clear t0 t1 t2 t3 hlt hnt hmt
  refine (qOpens_any _ R S ts _ F.out.qr ⟨#[45]⟩ (noLetter _ (by decide))).mono ?_
  rintro e u3 ⟨rfl, hr, hg⟩
  have F2 := Lib.hid (F.out.step hr hg)
  clear F
  have F := F2
  clear F2
  clear hr hg
  go_wp2_with fail
  have hRB := F.out.qr.lt
  have hNB := heap_lt' (F.out.keep _ (List.Mem.tail _ (List.Mem.head _))).1
  refine (HE.out _ F.out.qr).mono ?_
  rintro e u4 ⟨qk, qn, qs, qo, qd, qp, ql, qc, qa, qb, qr, qe, qf, rfl, hi, hr, hg⟩
  have F2 := Lib.hid ((F.out.step hr hg).tree hi hNB hRB)
  clear F
  have F := F2
  clear F2
  clear hi hr hg hRB hNB
  obtain ⟨⟨c0, c1, c2, c3, c4⟩, fr, hRl⟩ := F.out.qr.cells
  have fr1 := fr 1
  have fr2 := fr 2
  clear fr
  have hk := (F.out.keep _ (List.Mem.head _))
  obtain ⟨⟨t0, t1, t2, t3⟩, q0, q1, q2, q3⟩ := quad hk.1
  have hlt := heap_lt' hk.1
  have hnt := hk.2
  have hmt := Ne.symm hnt
  clear hk q0 q1 q2 q3
  have hk := (F.out.keep _ (List.Mem.tail _ (List.Mem.head _)))
  obtain ⟨⟨d0, d1, d2, d3, d4, d5, d6, d7, d8, d9, dX⟩, g0, g1, g2, g3, g4, g5, g6, g7, g8, g9, gX⟩ := hen hk.1
  have hld := heap_lt' hk.1
  have hnd := hk.2
  clear hk
  go_wp2_with fail
  have F2 := Lib.hid (F.out.set_o (dec s2.o))
  clear F
  have F := F2
  clear F2
  have hn := (((Nw.start F.out.gr).put11 (B := w.heap.size) (Nat.le_refl _) (c0 := .int .i64 12) (c1 := .int .i64 0) (c2 := .string ⟨#[]⟩) (c3 := .string ⟨#[]⟩) (c4 := .int .i64 0) (c5 := .slice (some ⟨u4.heap.size + 1, 0, none⟩) 1 1) (c6 := .int .i64 ta) (c7 := .int .i64 0) (c8 := .int .i64 0) (c9 := .int .i64 0) (c10 := .int .i64 0)).alloc (.cells #[.int .i64 qk, .int .i64 qn, .string (cbs qs), .string (cbs qo), .int .i64 qd, .slice qp ql qc, .int .i64 qa, .int .i64 qb, .int .i64 qr, .int .i64 qe, .int .i64 qf] 39)).alloc (.cells #[.int .i64 qk, .int .i64 qn, .string (cbs qs), .string (cbs qo), .int .i64 qd, .slice qp ql qc, .int .i64 qa, .int .i64 qb, .int .i64 qr, .int .i64 qe, .int .i64 qf] 39)
  have hbx := box2_put11 (w := u4.setCell ⟨R, 2, none⟩ (.int .i64 (dec s2.o))) (N := w.heap.size) (o := .cells #[.int .i64 qk, .int .i64 qn, .string (cbs qs), .string (cbs qo), .int .i64 qd, .slice qp ql qc, .int .i64 qa, .int .i64 qb, .int .i64 qr, .int .i64 qe, .int .i64 qf] 39) (o2 := .cells #[.int .i64 qk, .int .i64 qn, .string (cbs qs), .string (cbs qo), .int .i64 qd, .slice qp ql qc, .int .i64 qa, .int .i64 qb, .int .i64 qr, .int .i64 qe, .int .i64 qf] 39) (c0 := .int .i64 12) (c1 := .int .i64 0) (c2 := .string ⟨#[]⟩) (c3 := .string ⟨#[]⟩) (c4 := .int .i64 0) (c5 := .slice (some ⟨u4.heap.size + 1, 0, none⟩) 1 1) (c6 := .int .i64 ta) (c7 := .int .i64 0) (c8 := .int .i64 0) (c9 := .int .i64 0) (c10 := .int .i64 0)
  rw [size_set] at hbx
  have hle : w.heap.size ≤ u4.heap.size + 1 := by omega
  exact bodyPost_ret (v := .agg #[.int .i64 12, .int .i64 0, .string ⟨#[]⟩, .string ⟨#[]⟩, .int .i64 0, .slice (some ⟨u4.heap.size + 1, 0, none⟩) 1 1, .int .i64 ta, .int .i64 0, .int .i64 0, .int .i64 0, .int .i64 0]) (by simp [results, Tryd.results57, go_sem, hld, d0, d1, d2, d3, d4, d5, d6, d7, d8, d9, dX]) rfl ⟨_, _, _, _, _, _, _, _, _, _, _, _, _, rfl, Is.node1 hbx hle (Is.lower (Nat.le_of_lt (F.out.trees _ (List.Mem.head _)).2.1) _ ((((F.out.trees _ (List.Mem.head _)).1.put11 (F.out.trees _ (List.Mem.head _)).2.1).alloc _).alloc _)) rfl 12 0 [] [] 0 ta 1, HH.out.fin F.out.qr hn, hn.gr⟩

set_option maxRecDepth 8000 in
set_option maxHeartbeats 4000000 in
theorem qUnary_33 (w : World) (R : Nat) (S : Value) (ts : List RT) (s : Q) (h : Qr w R S ts s) (rec : Nat → Q → Qe.Out) (hrec : QRecOk ts rec) (hv0 : Qe.is ts s false [45] = false) (hv1 : Qe.is ts s false [33] = true) (e0 : Ex) (s2 : Q) (he : rec 5 (Qe.opens ts s [33]) = some (e0, s2)) :
    Calls Tryd.prog 57 #[.pointer (some ⟨R, 0, none⟩)] w (QPost w.heap.size w R S ts (Ex.of 13 0 [] [] 0 [e0] (tokAt ts s.k).at_, ⟨s2.k, dec s2.o, s2.E, s2.F⟩)) := by
  have HE := Lib.hid (fun w1 hh => hrec 5 _ (e0, s2) (by decide) he w1 R S hh)
  have HV1 := Lib.hid hv1
  have HV0 := Lib.hid hv0
  have htx := (is_text hv1).2.2
  have htk := fun w1 hh => qTok_any w1 R S ts s hh
  generalize tokAt ts s.k = t at htk htx ⊢
  obtain ⟨tk, tx, tn, ta⟩ := t
  dsimp only at htx ⊢
  subst htx
  unfold tokW at htk
  dsimp only at htk
  have HTK := Lib.hid htk
  clear htk hrec he hv1 hv0
  have hlt := h.lt
  have HH := Lib.hid h
  have F := Lib.hid ((Fq.start h).alloc (.cells #[.int .i64 0, .int .i64 0, .string ⟨#[]⟩, .string ⟨#[]⟩, .int .i64 0, .slice none 0 0, .int .i64 0, .int .i64 0, .int .i64 0, .int .i64 0, .int .i64 0] 39))
  clear h 
  go_enter Tryd.func57, Tryd.ntmps57
  go_wp2_with fail
  refine (HTK.out _ F.out.qr).mono ?_
  rintro e u1 ⟨rfl, hb⟩
  have F2 := Lib.hid (F.out.go hb)
  clear F
  have F := F2
  clear F2
  clear hb
  have hNB0 := heap_lt' (F.out.keep _ (List.Mem.head _)).1
  go_wp2_with fail
  have F2 := Lib.hid (F.out.alloc (.cells #[.int .i64 tk, .string (cbs [33]), .int .i64 tn, .int .i64 ta] 51))
  clear F
  have F := F2
  clear F2
  refine (qIs_any _ R S ts _ F.out.qr ⟨#[45]⟩ (by decide) false (by decide)).mono ?_
  rintro e u2 ⟨rfl, hb⟩
  have F2 := Lib.hid (F.out.go hb)
  clear F
  have F := F2
  clear F2
  clear hb
  try rw [HV0.out]
  go_wp2_with fail
  refine (qIs_any _ R S ts _ F.out.qr ⟨#[33]⟩ (by decide) false (by decide)).mono ?_
  rintro e u3 ⟨rfl, hb⟩
  have F2 := Lib.hid (F.out.go hb)
  clear F
  have F := F2
  clear F2
  clear hb
  try rw [HV1.out]
  have hk := (F.out.keep _ (List.Mem.head _))
  obtain ⟨⟨t0, t1, t2, t3⟩, q0, q1, q2, q3⟩ := quad hk.1
  have hlt := heap_lt' hk.1
  have hnt := hk.2
  have hmt := Ne.symm hnt
  clear hk q0 q1 q2 q3
  go_wp2_with fail
  clear t0 t1 t2 t3 hlt hnt hmt
  refine (qOpens_any _ R S ts _ F.out.qr ⟨#[33]⟩ (noLetter _ (by decide))).mono ?_
  rintro e u4 ⟨rfl, hr, hg⟩
  have F2 := Lib.hid (F.out.step hr hg)
  clear F
  have F := F2
  clear F2
  clear hr hg
  go_wp2_with fail
  have hRB := F.out.qr.lt
  have hNB := heap_lt' (F.out.keep _ (List.Mem.tail _ (List.Mem.head _))).1
  refine (HE.out _ F.out.qr).mono ?_
  rintro e u5 ⟨qk, qn, qs, qo, qd, qp, ql, qc, qa, qb, qr, qe, qf, rfl, hi, hr, hg⟩
  have F2 := Lib.hid ((F.out.step hr hg).tree hi hNB hRB)
  clear F
  have F := F2
  clear F2
  clear hi hr hg hRB hNB
  obtain ⟨⟨c0, c1, c2, c3, c4⟩, fr, hRl⟩ := F.out.qr.cells
  have fr1 := fr 1
  have fr2 := fr 2
  clear fr
  have hk := (F.out.keep _ (List.Mem.head _))
  obtain ⟨⟨t0, t1, t2, t3⟩, q0, q1, q2, q3⟩ := quad hk.1
  have hlt := heap_lt' hk.1
  have hnt := hk.2
  have hmt := Ne.symm hnt
  clear hk q0 q1 q2 q3
  have hk := (F.out.keep _ (List.Mem.tail _ (List.Mem.head _)))
  obtain ⟨⟨d0, d1, d2, d3, d4, d5, d6, d7, d8, d9, dX⟩, g0, g1, g2, g3, g4, g5, g6, g7, g8, g9, gX⟩ := hen hk.1
  have hld := heap_lt' hk.1
  have hnd := hk.2
  clear hk
  go_wp2_with fail
  have F2 := Lib.hid (F.out.set_o (dec s2.o))
  clear F
  have F := F2
  clear F2
  have hn := (((Nw.start F.out.gr).put11 (B := w.heap.size) (Nat.le_refl _) (c0 := .int .i64 13) (c1 := .int .i64 0) (c2 := .string ⟨#[]⟩) (c3 := .string ⟨#[]⟩) (c4 := .int .i64 0) (c5 := .slice (some ⟨u5.heap.size + 1, 0, none⟩) 1 1) (c6 := .int .i64 ta) (c7 := .int .i64 0) (c8 := .int .i64 0) (c9 := .int .i64 0) (c10 := .int .i64 0)).alloc (.cells #[.int .i64 qk, .int .i64 qn, .string (cbs qs), .string (cbs qo), .int .i64 qd, .slice qp ql qc, .int .i64 qa, .int .i64 qb, .int .i64 qr, .int .i64 qe, .int .i64 qf] 39)).alloc (.cells #[.int .i64 qk, .int .i64 qn, .string (cbs qs), .string (cbs qo), .int .i64 qd, .slice qp ql qc, .int .i64 qa, .int .i64 qb, .int .i64 qr, .int .i64 qe, .int .i64 qf] 39)
  have hbx := box2_put11 (w := u5.setCell ⟨R, 2, none⟩ (.int .i64 (dec s2.o))) (N := w.heap.size) (o := .cells #[.int .i64 qk, .int .i64 qn, .string (cbs qs), .string (cbs qo), .int .i64 qd, .slice qp ql qc, .int .i64 qa, .int .i64 qb, .int .i64 qr, .int .i64 qe, .int .i64 qf] 39) (o2 := .cells #[.int .i64 qk, .int .i64 qn, .string (cbs qs), .string (cbs qo), .int .i64 qd, .slice qp ql qc, .int .i64 qa, .int .i64 qb, .int .i64 qr, .int .i64 qe, .int .i64 qf] 39) (c0 := .int .i64 13) (c1 := .int .i64 0) (c2 := .string ⟨#[]⟩) (c3 := .string ⟨#[]⟩) (c4 := .int .i64 0) (c5 := .slice (some ⟨u5.heap.size + 1, 0, none⟩) 1 1) (c6 := .int .i64 ta) (c7 := .int .i64 0) (c8 := .int .i64 0) (c9 := .int .i64 0) (c10 := .int .i64 0)
  rw [size_set] at hbx
  have hle : w.heap.size ≤ u5.heap.size + 1 := by omega
  exact bodyPost_ret (v := .agg #[.int .i64 13, .int .i64 0, .string ⟨#[]⟩, .string ⟨#[]⟩, .int .i64 0, .slice (some ⟨u5.heap.size + 1, 0, none⟩) 1 1, .int .i64 ta, .int .i64 0, .int .i64 0, .int .i64 0, .int .i64 0]) (by simp [results, Tryd.results57, go_sem, hld, d0, d1, d2, d3, d4, d5, d6, d7, d8, d9, dX]) rfl ⟨_, _, _, _, _, _, _, _, _, _, _, _, _, rfl, Is.node1 hbx hle (Is.lower (Nat.le_of_lt (F.out.trees _ (List.Mem.head _)).2.1) _ ((((F.out.trees _ (List.Mem.head _)).1.put11 (F.out.trees _ (List.Mem.head _)).2.1).alloc _).alloc _)) rfl 13 0 [] [] 0 ta 1, HH.out.fin F.out.qr hn, hn.gr⟩
end Go.Proofs.YtnadaedibicaaaaDoor
