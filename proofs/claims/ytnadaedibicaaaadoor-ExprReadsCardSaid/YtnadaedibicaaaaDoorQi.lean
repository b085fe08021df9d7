/-
  The contracts of the answer's reader (runrigref3) over the plain machine: a first one.
-/
import Derived.Test.YtnadaedibicaaaaDoorQh
import Derived.Test.YtnadaedibicaaaaDoorRi
import Derived.Deep.RegionHeld3
namespace Go.Proofs.YtnadaedibicaaaaDoor
open Go.RowKit
open Px (RT tokAt isT)
open Pe (inc dec Ex)
open Qe (Q)

set_option maxRecDepth 8000 in
set_option maxHeartbeats 4000000 in
theorem qFirst_int (w : World) (R : Nat) (S : Value) (ts : List RT) (s : Q) (h : Qr w R S ts s) (hok : (s.E == 0) = true) (hk2 : ((tokAt ts s.k).kind == 2) = true) :
    Calls Tryd.prog 75 #[.pointer (some ⟨R, 0, none⟩)] w (QPost w.heap.size w R S ts (Ex.of 1 (tokAt ts s.k).num [] [] 0 [] (tokAt ts s.k).at_, Qe.next s)) := by
  have hok2 := fun w1 hh => qOk_any w1 R S ts s hh
  rw [hok] at hok2
  have HOK := Lib.hid hok2
  have htk := fun w1 hh => qTok_any w1 R S ts s hh
  generalize tokAt ts s.k = t at htk hk2 ⊢
  unfold tokW at htk
  have HTK := Lib.hid htk
  clear hok hok2 htk
  have hlt := h.lt
  have HH := Lib.hid h
  have F := Lib.hid ((Fq.start h).alloc (.cells #[.int .i64 0, .int .i64 0, .string ⟨#[]⟩, .string ⟨#[]⟩, .int .i64 0, .slice none 0 0, .int .i64 0, .int .i64 0, .int .i64 0, .int .i64 0, .int .i64 0] 39))
  clear h 
  go_enter Tryd.func75, Tryd.ntmps75
  go_wp2_with fail
  refine (HTK.out _ F.out.qr).mono ?_
  rintro e u1 ⟨rfl, hb⟩
  have F2 := Lib.hid (F.out.go hb)
  clear F
  have F := F2
  clear F2
  clear hb
  go_wp2_with fail
  have F2 := Lib.hid (F.out.alloc (.cells #[.int .i64 t.kind, .string (cbs t.text), .int .i64 t.num, .int .i64 t.at_] 51))
  clear F
  have F := F2
  clear F2
  refine (HOK.out _ F.out.qr).mono ?_
  rintro e u2 ⟨rfl, rfl⟩
  have hk := (F.out.keep _ (List.Mem.head _))
  obtain ⟨⟨t0, t1, t2, t3⟩, q0, q1, q2, q3⟩ := quad hk.1
  have hlt := heap_lt' hk.1
  have hnt := hk.2
  have hmt := Ne.symm hnt
  clear hk q0 q1 q2 q3
  obtain ⟨⟨c0, c1, c2, c3, c4⟩, fr, hRl⟩ := F.out.qr.cells
  have fr1 := fr 1
  have fr2 := fr 2
  clear fr
  have hk := (F.out.keep _ (List.Mem.tail _ (List.Mem.head _)))
  obtain ⟨⟨d0, d1, d2, d3, d4, d5, d6, d7, d8, d9, dX⟩, g0, g1, g2, g3, g4, g5, g6, g7, g8, g9, gX⟩ := hen hk.1
  have hld := heap_lt' hk.1
  have hnd := hk.2
  clear hk
  have hmd := Ne.symm hnd
  go_wp2_with fail
  have F2 := Lib.hid (F.out.set_k (inc s.k))
  clear F
  have F := F2
  clear F2
  have hn := (Nw.start F.out.gr).put11 (B := w.heap.size) (Nat.le_refl _) (c0 := .int .i64 1) (c1 := .int .i64 t.num) (c2 := .string ⟨#[]⟩) (c3 := .string ⟨#[]⟩) (c4 := .int .i64 0) (c5 := .slice none 0 0) (c6 := .int .i64 t.at_) (c7 := .int .i64 0) (c8 := .int .i64 0) (c9 := .int .i64 0) (c10 := .int .i64 0)
  exact bodyPost_ret (v := .agg #[.int .i64 1, .int .i64 t.num, .string ⟨#[]⟩, .string ⟨#[]⟩, .int .i64 0, .slice none 0 0, .int .i64 t.at_, .int .i64 0, .int .i64 0, .int .i64 0, .int .i64 0]) (by simp [results, Tryd.results75, go_sem, d0, d1, d2, d3, d4, d5, d6, d7, d8, d9, dX]) rfl ⟨_, _, _, _, _, _, _, _, _, _, _, _, _, rfl, Is.leaf 1 t.num [] [] 0 t.at_, HH.out.fin F.out.qr hn, hn.gr⟩

set_option maxRecDepth 8000 in
set_option maxHeartbeats 4000000 in
theorem qFirst_true (w : World) (R : Nat) (S : Value) (ts : List RT) (s : Q) (h : Qr w R S ts s) (hok : (s.E == 0) = true) (hk2 : ((tokAt ts s.k).kind == 2) = false) (hv0 : Qe.is ts s true [116, 114, 117, 101] = true) :
    Calls Tryd.prog 75 #[.pointer (some ⟨R, 0, none⟩)] w (QPost w.heap.size w R S ts (Ex.of 2 1 [] [] 0 [] (tokAt ts s.k).at_, Qe.next s)) := by
  have HV0 := Lib.hid hv0
  clear hv0
  have hok2 := fun w1 hh => qOk_any w1 R S ts s hh
  rw [hok] at hok2
  have HOK := Lib.hid hok2
  have htk := fun w1 hh => qTok_any w1 R S ts s hh
  have htx : ((cbs (tokAt ts s.k).text).toList == [116, 114, 117, 101]) = true := by rw [cbs_list, (is_text HV0.out).2.2]; rfl
  generalize tokAt ts s.k = t at htk hk2 htx  ⊢
  unfold tokW at htk
  have HTK := Lib.hid htk
  clear hok hok2 htk
  have hlt := h.lt
  have HH := Lib.hid h
  have F := Lib.hid ((Fq.start h).alloc (.cells #[.int .i64 0, .int .i64 0, .string ⟨#[]⟩, .string ⟨#[]⟩, .int .i64 0, .slice none 0 0, .int .i64 0, .int .i64 0, .int .i64 0, .int .i64 0, .int .i64 0] 39))
  clear h 
  go_enter Tryd.func75, Tryd.ntmps75
  go_wp2_with fail
  refine (HTK.out _ F.out.qr).mono ?_
  rintro e u1 ⟨rfl, hb⟩
  have F2 := Lib.hid (F.out.go hb)
  clear F
  have F := F2
  clear F2
  clear hb
  have hNB0 := heap_lt' (F.out.keep _ (List.Mem.head _)).1
  go_wp2_with fail
  have F2 := Lib.hid (F.out.alloc (.cells #[.int .i64 t.kind, .string (cbs t.text), .int .i64 t.num, .int .i64 t.at_] 51))
  clear F
  have F := F2
  clear F2
  have hk := (F.out.keep _ (List.Mem.head _))
  obtain ⟨⟨t0, t1, t2, t3⟩, q0, q1, q2, q3⟩ := quad hk.1
  have hlt := heap_lt' hk.1
  have hnt := hk.2
  have hmt := Ne.symm hnt
  clear hk q0 q1 q2 q3
  refine (HOK.out _ F.out.qr).mono ?_
  rintro e u2 ⟨rfl, rfl⟩
  go_wp2_with fail
  clear t0 t1 t2 t3 hlt hnt hmt
  refine (qIs_any _ R S ts _ F.out.qr ⟨#[116, 114, 117, 101]⟩ (by decide) true (by decide)).mono ?_
  rintro e u3 ⟨rfl, hb⟩
  have F2 := Lib.hid (F.out.go hb)
  clear F
  have F := F2
  clear F2
  clear hb
  try rw [HV0.out]
  have hk := (F.out.keep _ (List.Mem.head _))
  obtain ⟨⟨t0, t1, t2, t3⟩, q0, q1, q2, q3⟩ := quad hk.1
  have hlt := heap_lt' hk.1
  have hnt := hk.2
  have hmt := Ne.symm hnt
  clear hk q0 q1 q2 q3
  obtain ⟨⟨c0, c1, c2, c3, c4⟩, fr, hRl⟩ := F.out.qr.cells
  have fr1 := fr 1
  have fr2 := fr 2
  clear fr
  have hk := (F.out.keep _ (List.Mem.tail _ (List.Mem.head _)))
  obtain ⟨⟨d0, d1, d2, d3, d4, d5, d6, d7, d8, d9, dX⟩, g0, g1, g2, g3, g4, g5, g6, g7, g8, g9, gX⟩ := hen hk.1
  have hld := heap_lt' hk.1
  have hnd := hk.2
  clear hk
  have hmd := Ne.symm hnd
  go_wp2_with fail
  have F2 := Lib.hid (F.out.set_k (inc s.k))
  clear F
  have F := F2
  clear F2
  have hn := (Nw.start F.out.gr).put11 (B := w.heap.size) (Nat.le_refl _) (c0 := .int .i64 2) (c1 := .int .i64 1) (c2 := .string ⟨#[]⟩) (c3 := .string ⟨#[]⟩) (c4 := .int .i64 0) (c5 := .slice none 0 0) (c6 := .int .i64 t.at_) (c7 := .int .i64 0) (c8 := .int .i64 0) (c9 := .int .i64 0) (c10 := .int .i64 0)
  exact bodyPost_ret (v := .agg #[.int .i64 2, .int .i64 1, .string ⟨#[]⟩, .string ⟨#[]⟩, .int .i64 0, .slice none 0 0, .int .i64 t.at_, .int .i64 0, .int .i64 0, .int .i64 0, .int .i64 0]) (by simp [results, Tryd.results75, go_sem, d0, d1, d2, d3, d4, d5, d6, d7, d8, d9, dX]) rfl ⟨_, _, _, _, _, _, _, _, _, _, _, _, _, rfl, Is.leaf 2 1 [] [] 0 t.at_, HH.out.fin F.out.qr hn, hn.gr⟩

set_option maxRecDepth 8000 in
set_option maxHeartbeats 4000000 in
theorem qFirst_false (w : World) (R : Nat) (S : Value) (ts : List RT) (s : Q) (h : Qr w R S ts s) (hok : (s.E == 0) = true) (hk2 : ((tokAt ts s.k).kind == 2) = false) (hv0 : Qe.is ts s true [116, 114, 117, 101] = false) (hv1 : Qe.is ts s true [102, 97, 108, 115, 101] = true) :
    Calls Tryd.prog 75 #[.pointer (some ⟨R, 0, none⟩)] w (QPost w.heap.size w R S ts (Ex.of 2 0 [] [] 0 [] (tokAt ts s.k).at_, Qe.next s)) := by
  have HV0 := Lib.hid hv0
  have HV1 := Lib.hid hv1
  clear hv0 hv1
  have hok2 := fun w1 hh => qOk_any w1 R S ts s hh
  rw [hok] at hok2
  have HOK := Lib.hid hok2
  have htk := fun w1 hh => qTok_any w1 R S ts s hh
  have htx : ((cbs (tokAt ts s.k).text).toList == [116, 114, 117, 101]) = false := by rw [cbs_list, (is_text HV1.out).2.2]; rfl
  generalize tokAt ts s.k = t at htk hk2 htx  ⊢
  unfold tokW at htk
  have HTK := Lib.hid htk
  clear hok hok2 htk
  have hlt := h.lt
  have HH := Lib.hid h
  have F := Lib.hid ((Fq.start h).alloc (.cells #[.int .i64 0, .int .i64 0, .string ⟨#[]⟩, .string ⟨#[]⟩, .int .i64 0, .slice none 0 0, .int .i64 0, .int .i64 0, .int .i64 0, .int .i64 0, .int .i64 0] 39))
  clear h 
  go_enter Tryd.func75, Tryd.ntmps75
  go_wp2_with fail
  refine (HTK.out _ F.out.qr).mono ?_
  rintro e u1 ⟨rfl, hb⟩
  have F2 := Lib.hid (F.out.go hb)
  clear F
  have F := F2
  clear F2
  clear hb
  have hNB0 := heap_lt' (F.out.keep _ (List.Mem.head _)).1
  go_wp2_with fail
  have F2 := Lib.hid (F.out.alloc (.cells #[.int .i64 t.kind, .string (cbs t.text), .int .i64 t.num, .int .i64 t.at_] 51))
  clear F
  have F := F2
  clear F2
  have hk := (F.out.keep _ (List.Mem.head _))
  obtain ⟨⟨t0, t1, t2, t3⟩, q0, q1, q2, q3⟩ := quad hk.1
  have hlt := heap_lt' hk.1
  have hnt := hk.2
  have hmt := Ne.symm hnt
  clear hk q0 q1 q2 q3
  refine (HOK.out _ F.out.qr).mono ?_
  rintro e u2 ⟨rfl, rfl⟩
  go_wp2_with fail
  clear t0 t1 t2 t3 hlt hnt hmt
  refine (qIs_any _ R S ts _ F.out.qr ⟨#[116, 114, 117, 101]⟩ (by decide) true (by decide)).mono ?_
  rintro e u3 ⟨rfl, hb⟩
  have F2 := Lib.hid (F.out.go hb)
  clear F
  have F := F2
  clear F2
  clear hb
  try rw [HV0.out]
  have hk := (F.out.keep _ (List.Mem.head _))
  obtain ⟨⟨t0, t1, t2, t3⟩, q0, q1, q2, q3⟩ := quad hk.1
  have hlt := heap_lt' hk.1
  have hnt := hk.2
  have hmt := Ne.symm hnt
  clear hk q0 q1 q2 q3
  go_wp2_with fail
  clear t0 t1 t2 t3 hlt hnt hmt
  refine (qIs_any _ R S ts _ F.out.qr ⟨#[102, 97, 108, 115, 101]⟩ (by decide) true (by decide)).mono ?_
  rintro e u4 ⟨rfl, hb⟩
  have F2 := Lib.hid (F.out.go hb)
  clear F
  have F := F2
  clear F2
  clear hb
  try rw [HV1.out]
  have hk := (F.out.keep _ (List.Mem.head _))
  obtain ⟨⟨t0, t1, t2, t3⟩, q0, q1, q2, q3⟩ := quad hk.1
  have hlt := heap_lt' hk.1
  have hnt := hk.2
  have hmt := Ne.symm hnt
  clear hk q0 q1 q2 q3
  obtain ⟨⟨c0, c1, c2, c3, c4⟩, fr, hRl⟩ := F.out.qr.cells
  have fr1 := fr 1
  have fr2 := fr 2
  clear fr
  have hk := (F.out.keep _ (List.Mem.tail _ (List.Mem.head _)))
  obtain ⟨⟨d0, d1, d2, d3, d4, d5, d6, d7, d8, d9, dX⟩, g0, g1, g2, g3, g4, g5, g6, g7, g8, g9, gX⟩ := hen hk.1
  have hld := heap_lt' hk.1
  have hnd := hk.2
  clear hk
  have hmd := Ne.symm hnd
  go_wp2_with fail
  have F2 := Lib.hid (F.out.set_k (inc s.k))
  clear F
  have F := F2
  clear F2
  have hn := (Nw.start F.out.gr).put11 (B := w.heap.size) (Nat.le_refl _) (c0 := .int .i64 2) (c1 := .int .i64 0) (c2 := .string ⟨#[]⟩) (c3 := .string ⟨#[]⟩) (c4 := .int .i64 0) (c5 := .slice none 0 0) (c6 := .int .i64 t.at_) (c7 := .int .i64 0) (c8 := .int .i64 0) (c9 := .int .i64 0) (c10 := .int .i64 0)
  exact bodyPost_ret (v := .agg #[.int .i64 2, .int .i64 0, .string ⟨#[]⟩, .string ⟨#[]⟩, .int .i64 0, .slice none 0 0, .int .i64 t.at_, .int .i64 0, .int .i64 0, .int .i64 0, .int .i64 0]) (by simp [results, Tryd.results75, go_sem, d0, d1, d2, d3, d4, d5, d6, d7, d8, d9, dX]) rfl ⟨_, _, _, _, _, _, _, _, _, _, _, _, _, rfl, Is.leaf 2 0 [] [] 0 t.at_, HH.out.fin F.out.qr hn, hn.gr⟩

set_option maxRecDepth 8000 in
set_option maxHeartbeats 4000000 in
theorem qFirst_null (w : World) (R : Nat) (S : Value) (ts : List RT) (s : Q) (h : Qr w R S ts s) (hok : (s.E == 0) = true) (hk2 : ((tokAt ts s.k).kind == 2) = false) (hv0 : Qe.is ts s true [116, 114, 117, 101] = false) (hv1 : Qe.is ts s true [102, 97, 108, 115, 101] = false) (hv2 : Qe.is ts s true [110, 117, 108, 108] = true) :
    Calls Tryd.prog 75 #[.pointer (some ⟨R, 0, none⟩)] w (QPost w.heap.size w R S ts (Ex.of 3 0 [] (Qe.of ts (Qe.next s)).1 (Qe.of ts (Qe.next s)).2.1 [] (tokAt ts s.k).at_, (Qe.of ts (Qe.next s)).2.2)) := by
  have HV0 := Lib.hid hv0
  have HV1 := Lib.hid hv1
  have HV2 := Lib.hid hv2
  clear hv0 hv1 hv2
  have hok2 := fun w1 hh => qOk_any w1 R S ts s hh
  rw [hok] at hok2
  have HOK := Lib.hid hok2
  have htk := fun w1 hh => qTok_any w1 R S ts s hh
  generalize tokAt ts s.k = t at htk hk2   ⊢
  unfold tokW at htk
  have HTK := Lib.hid htk
  clear hok hok2 htk
  have hq := fun w1 hh => qOf_any w1 R S ts (Qe.next s) hh
  generalize Qe.of ts (Qe.next s) = y at hq ⊢
  obtain ⟨nm, dm, s1⟩ := y
  dsimp only at hq ⊢
  have HQ := Lib.hid hq
  clear hq
  have hlt := h.lt
  have HH := Lib.hid h
  have F := Lib.hid ((Fq.start h).alloc (.cells #[.int .i64 0, .int .i64 0, .string ⟨#[]⟩, .string ⟨#[]⟩, .int .i64 0, .slice none 0 0, .int .i64 0, .int .i64 0, .int .i64 0, .int .i64 0, .int .i64 0] 39))
  clear h 
  go_enter Tryd.func75, Tryd.ntmps75
  go_wp2_with fail
  refine (HTK.out _ F.out.qr).mono ?_
  rintro e u1 ⟨rfl, hb⟩
  have F2 := Lib.hid (F.out.go hb)
  clear F
  have F := F2
  clear F2
  clear hb
  have hNB0 := heap_lt' (F.out.keep _ (List.Mem.head _)).1
  go_wp2_with fail
  have F2 := Lib.hid (F.out.alloc (.cells #[.int .i64 t.kind, .string (cbs t.text), .int .i64 t.num, .int .i64 t.at_] 51))
  clear F
  have F := F2
  clear F2
  have hk := (F.out.keep _ (List.Mem.head _))
  obtain ⟨⟨t0, t1, t2, t3⟩, q0, q1, q2, q3⟩ := quad hk.1
  have hlt := heap_lt' hk.1
  have hnt := hk.2
  have hmt := Ne.symm hnt
  clear hk q0 q1 q2 q3
  refine (HOK.out _ F.out.qr).mono ?_
  rintro e u2 ⟨rfl, rfl⟩
  go_wp2_with fail
  clear t0 t1 t2 t3 hlt hnt hmt
  refine (qIs_any _ R S ts _ F.out.qr ⟨#[116, 114, 117, 101]⟩ (by decide) true (by decide)).mono ?_
  rintro e u3 ⟨rfl, hb⟩
  have F2 := Lib.hid (F.out.go hb)
  clear F
  have F := F2
  clear F2
  clear hb
  try rw [HV0.out]
  have hk := (F.out.keep _ (List.Mem.head _))
  obtain ⟨⟨t0, t1, t2, t3⟩, q0, q1, q2, q3⟩ := quad hk.1
  have hlt := heap_lt' hk.1
  have hnt := hk.2
  have hmt := Ne.symm hnt
  clear hk q0 q1 q2 q3
  go_wp2_with fail
  clear t0 t1 t2 t3 hlt hnt hmt
  refine (qIs_any _ R S ts _ F.out.qr ⟨#[102, 97, 108, 115, 101]⟩ (by decide) true (by decide)).mono ?_
  rintro e u4 ⟨rfl, hb⟩
  have F2 := Lib.hid (F.out.go hb)
  clear F
  have F := F2
  clear F2
  clear hb
  try rw [HV1.out]
  have hk := (F.out.keep _ (List.Mem.head _))
  obtain ⟨⟨t0, t1, t2, t3⟩, q0, q1, q2, q3⟩ := quad hk.1
  have hlt := heap_lt' hk.1
  have hnt := hk.2
  have hmt := Ne.symm hnt
  clear hk q0 q1 q2 q3
  go_wp2_with fail
  clear t0 t1 t2 t3 hlt hnt hmt
  refine (qIs_any _ R S ts _ F.out.qr ⟨#[110, 117, 108, 108]⟩ (by decide) true (by decide)).mono ?_
  rintro e u5 ⟨rfl, hb⟩
  have F2 := Lib.hid (F.out.go hb)
  clear F
  have F := F2
  clear F2
  clear hb
  try rw [HV2.out]
  have hk := (F.out.keep _ (List.Mem.head _))
  obtain ⟨⟨t0, t1, t2, t3⟩, q0, q1, q2, q3⟩ := quad hk.1
  have hlt := heap_lt' hk.1
  have hnt := hk.2
  have hmt := Ne.symm hnt
  clear hk q0 q1 q2 q3
  obtain ⟨⟨c0, c1, c2, c3, c4⟩, fr, hRl⟩ := F.out.qr.cells
  have fr1 := fr 1
  have fr2 := fr 2
  clear fr
  have hk := (F.out.keep _ (List.Mem.tail _ (List.Mem.head _)))
  obtain ⟨⟨d0, d1, d2, d3, d4, d5, d6, d7, d8, d9, dX⟩, g0, g1, g2, g3, g4, g5, g6, g7, g8, g9, gX⟩ := hen hk.1
  have hld := heap_lt' hk.1
  have hnd := hk.2
  clear hk
  have hmd := Ne.symm hnd
  go_wp2_with fail
  clear c0 c1 c2 c3 c4 fr1 fr2 hRl
  clear t0 t1 t2 t3 hlt hnt hmt
  clear d0 d1 d2 d3 d4 d5 d6 d7 d8 d9 dX g0 g1 g2 g3 g4 g5 g6 g7 g8 g9 gX hld hnd
  clear hmd
  have F2 := Lib.hid (F.out.set_k (inc s.k))
  change Hid (Fq _ _ _ _ _ (Qe.next s) _ _) at F2
  clear F
  have F := F2
  clear F2
  obtain ⟨u0, hu0⟩ : ∃ u0, u0 = u5.setCell ⟨R, 1, none⟩ (.int .i64 (inc s.k)) := ⟨_, rfl⟩
  rw [← hu0] at F
  change Code.wp _ _ _ _ (u5.setCell ⟨R, 1, none⟩ (.int .i64 (inc s.k)))
  rw [← hu0]
  clear hu0
  have hk := (F.out.keep _ (List.Mem.head _))
  obtain ⟨⟨t0, t1, t2, t3⟩, q0, q1, q2, q3⟩ := quad hk.1
  have hlt := heap_lt' hk.1
  have hnt := hk.2
  have hmt := Ne.symm hnt
  clear hk q0 q1 q2 q3
  have hk := (F.out.keep _ (List.Mem.tail _ (List.Mem.head _)))
  obtain ⟨⟨d0, d1, d2, d3, d4, d5, d6, d7, d8, d9, dX⟩, g0, g1, g2, g3, g4, g5, g6, g7, g8, g9, gX⟩ := hen hk.1
  have hld := heap_lt' hk.1
  have hnd := hk.2
  clear hk
  have F2 := Lib.hid (F.out.go (Below.refl _ _).drew)
  clear F
  have F := F2
  clear F2
  have hRB := F.out.qr.lt
  have hNB := heap_lt' (F.out.keep _ (List.Mem.tail _ (List.Mem.head _))).1
  have hne := Nat.ne_of_gt hNB0
  have HK1 := Lib.hid (F.out.keep _ (List.Mem.head _)).1
  go_region_held3 (fun w' => w'.cell? ⟨u1.heap.size, 3, none⟩ = some (.int .i64 t.at_)) (with_reducible first | exact (quad HK1.out).1.2.2.2 | exact (quad HK2.out).1.2.2.2 | exact (quad (alloc_box _ HK2.out)).1.2.2.2 | exact (quad (put11_other HK2.out hne)).1.2.2.2 | exact (quad (alloc_box _ (put11_other HK2.out hne))).1.2.2.2) (first
    | (go_at_call 24; (with_reducible refine Calls.mono (HQ.out _ F.out.qr) ?_); rintro e u9 ⟨rfl, hr, hg⟩; have F4 := Lib.hid (F.out.step hr hg); have HK2 := Lib.hid (F4.out.keep _ (List.Mem.head _)).1; clear d0 d1 d2 d3 d4 d5 d6 d7 d8 d9 dX g0 g1 g2 g3 g4 g5 g6 g7 g8 g9 gX hld hnd hr hg t0 t1 t2 t3 hnt hmt; have hk := (F4.out.keep _ (List.Mem.tail _ (List.Mem.head _))); obtain ⟨⟨v0, v1, v2, v3, v4, v5, v6, v7, v8, v9, vX⟩, p0, p1, p2, p3, p4, p5, p6, p7, p8, p9, pX⟩ := hen hk.1; have hlv := heap_lt' hk.1; have hnv := hk.2; clear hk))
  clear F HK1 HK2 hRB hNB hne
  have F := F4
  clear F4
  go_wp2_with fail
  have hn := (Nw.start F.out.gr).put11 (B := w.heap.size) (Nat.le_refl _) (c0 := .int .i64 3) (c1 := .int .i64 0) (c2 := .string ⟨#[]⟩) (c3 := .string (cbs nm)) (c4 := .int .i64 dm) (c5 := .slice none 0 0) (c6 := .int .i64 t.at_) (c7 := .int .i64 0) (c8 := .int .i64 0) (c9 := .int .i64 0) (c10 := .int .i64 0)
  exact bodyPost_ret (v := .agg #[.int .i64 3, .int .i64 0, .string ⟨#[]⟩, .string (cbs nm), .int .i64 dm, .slice none 0 0, .int .i64 t.at_, .int .i64 0, .int .i64 0, .int .i64 0, .int .i64 0]) (by simp [results, Tryd.results75, go_sem, v0, v1, v2, v3, v4, v5, v6, v7, v8, v9, vX]) rfl ⟨_, _, _, _, _, _, _, _, _, _, _, _, _, rfl, Is.leaf 3 0 [] nm dm t.at_, HH.out.fin F.out.qr hn, hn.gr⟩

set_option maxRecDepth 8000 in
set_option maxHeartbeats 4000000 in
theorem qFirst_new (w : World) (R : Nat) (S : Value) (ts : List RT) (s : Q) (h : Qr w R S ts s) (rec : Nat → Q → Qe.Out) (hrec : QRecOk ts rec) (x : Ex × Q) (hx : Qe.fresh ts rec (Qe.next s) (tokAt ts s.k).at_ = some x) (hok : (s.E == 0) = true) (hk2 : ((tokAt ts s.k).kind == 2) = false) (hv0 : Qe.is ts s true [116, 114, 117, 101] = false) (hv1 : Qe.is ts s true [102, 97, 108, 115, 101] = false) (hv2 : Qe.is ts s true [110, 117, 108, 108] = false) (hv3 : Qe.is ts s true [110, 101, 119] = true) :
    Calls Tryd.prog 75 #[.pointer (some ⟨R, 0, none⟩)] w (QPost w.heap.size w R S ts x) := by
  have HV0 := Lib.hid hv0
  have HV1 := Lib.hid hv1
  have HV2 := Lib.hid hv2
  have HV3 := Lib.hid hv3
  clear hv0 hv1 hv2 hv3
  have hok2 := fun w1 hh => qOk_any w1 R S ts s hh
  rw [hok] at hok2
  have HOK := Lib.hid hok2
  have htk := fun w1 hh => qTok_any w1 R S ts s hh
  generalize tokAt ts s.k = t at htk hk2  hx ⊢
  unfold tokW at htk
  have HTK := Lib.hid htk
  clear hok hok2 htk
  have HE := Lib.hid (fun w1 hh => qFresh_any w1 R S ts _ hh rec hrec _ x hx)
  clear hx hrec
  have hlt := h.lt
  have HH := Lib.hid h
  have F := Lib.hid ((Fq.start h).alloc (.cells #[.int .i64 0, .int .i64 0, .string ⟨#[]⟩, .string ⟨#[]⟩, .int .i64 0, .slice none 0 0, .int .i64 0, .int .i64 0, .int .i64 0, .int .i64 0, .int .i64 0] 39))
  clear h 
  go_enter Tryd.func75, Tryd.ntmps75
  go_wp2_with fail
  refine (HTK.out _ F.out.qr).mono ?_
  rintro e u1 ⟨rfl, hb⟩
  have F2 := Lib.hid (F.out.go hb)
  clear F
  have F := F2
  clear F2
  clear hb
  have hNB0 := heap_lt' (F.out.keep _ (List.Mem.head _)).1
  go_wp2_with fail
  have F2 := Lib.hid (F.out.alloc (.cells #[.int .i64 t.kind, .string (cbs t.text), .int .i64 t.num, .int .i64 t.at_] 51))
  clear F
  have F := F2
  clear F2
  have hk := (F.out.keep _ (List.Mem.head _))
  obtain ⟨⟨t0, t1, t2, t3⟩, q0, q1, q2, q3⟩ := quad hk.1
  have hlt := heap_lt' hk.1
  have hnt := hk.2
  have hmt := Ne.symm hnt
  clear hk q0 q1 q2 q3
  refine (HOK.out _ F.out.qr).mono ?_
  rintro e u2 ⟨rfl, rfl⟩
  go_wp2_with fail
  clear t0 t1 t2 t3 hlt hnt hmt
  refine (qIs_any _ R S ts _ F.out.qr ⟨#[116, 114, 117, 101]⟩ (by decide) true (by decide)).mono ?_
  rintro e u3 ⟨rfl, hb⟩
  have F2 := Lib.hid (F.out.go hb)
  clear F
  have F := F2
  clear F2
  clear hb
  try rw [HV0.out]
  have hk := (F.out.keep _ (List.Mem.head _))
  obtain ⟨⟨t0, t1, t2, t3⟩, q0, q1, q2, q3⟩ := quad hk.1
  have hlt := heap_lt' hk.1
  have hnt := hk.2
  have hmt := Ne.symm hnt
  clear hk q0 q1 q2 q3
  go_wp2_with fail
  clear t0 t1 t2 t3 hlt hnt hmt
  refine (qIs_any _ R S ts _ F.out.qr ⟨#[102, 97, 108, 115, 101]⟩ (by decide) true (by decide)).mono ?_
  rintro e u4 ⟨rfl, hb⟩
  have F2 := Lib.hid (F.out.go hb)
  clear F
  have F := F2
  clear F2
  clear hb
  try rw [HV1.out]
  have hk := (F.out.keep _ (List.Mem.head _))
  obtain ⟨⟨t0, t1, t2, t3⟩, q0, q1, q2, q3⟩ := quad hk.1
  have hlt := heap_lt' hk.1
  have hnt := hk.2
  have hmt := Ne.symm hnt
  clear hk q0 q1 q2 q3
  go_wp2_with fail
  clear t0 t1 t2 t3 hlt hnt hmt
  refine (qIs_any _ R S ts _ F.out.qr ⟨#[110, 117, 108, 108]⟩ (by decide) true (by decide)).mono ?_
  rintro e u5 ⟨rfl, hb⟩
  have F2 := Lib.hid (F.out.go hb)
  clear F
  have F := F2
  clear F2
  clear hb
  try rw [HV2.out]
  have hk := (F.out.keep _ (List.Mem.head _))
  obtain ⟨⟨t0, t1, t2, t3⟩, q0, q1, q2, q3⟩ := quad hk.1
  have hlt := heap_lt' hk.1
  have hnt := hk.2
  have hmt := Ne.symm hnt
  clear hk q0 q1 q2 q3
  go_wp2_with fail
  clear t0 t1 t2 t3 hlt hnt hmt
  refine (qIs_any _ R S ts _ F.out.qr ⟨#[110, 101, 119]⟩ (by decide) true (by decide)).mono ?_
  rintro e u6 ⟨rfl, hb⟩
  have F2 := Lib.hid (F.out.go hb)
  clear F
  have F := F2
  clear F2
  clear hb
  try rw [HV3.out]
  have hk := (F.out.keep _ (List.Mem.head _))
  obtain ⟨⟨t0, t1, t2, t3⟩, q0, q1, q2, q3⟩ := quad hk.1
  have hlt := heap_lt' hk.1
  have hnt := hk.2
  have hmt := Ne.symm hnt
  clear hk q0 q1 q2 q3
  obtain ⟨⟨c0, c1, c2, c3, c4⟩, fr, hRl⟩ := F.out.qr.cells
  have fr1 := fr 1
  have fr2 := fr 2
  clear fr
  have hk := (F.out.keep _ (List.Mem.tail _ (List.Mem.head _)))
  obtain ⟨⟨d0, d1, d2, d3, d4, d5, d6, d7, d8, d9, dX⟩, g0, g1, g2, g3, g4, g5, g6, g7, g8, g9, gX⟩ := hen hk.1
  have hld := heap_lt' hk.1
  have hnd := hk.2
  clear hk
  have hmd := Ne.symm hnd
  go_wp2_with fail
  clear c0 c1 c2 c3 c4 fr1 fr2 hRl
  clear t0 t1 t2 t3 hlt hnt hmt
  clear d0 d1 d2 d3 d4 d5 d6 d7 d8 d9 dX g0 g1 g2 g3 g4 g5 g6 g7 g8 g9 gX hld hnd
  clear hmd
  have F2 := Lib.hid (F.out.set_k (inc s.k))
  change Hid (Fq _ _ _ _ _ (Qe.next s) _ _) at F2
  clear F
  have F := F2
  clear F2
  obtain ⟨u0, hu0⟩ : ∃ u0, u0 = u6.setCell ⟨R, 1, none⟩ (.int .i64 (inc s.k)) := ⟨_, rfl⟩
  rw [← hu0] at F
  change Calls _ _ _ (u6.setCell ⟨R, 1, none⟩ (.int .i64 (inc s.k))) _
  rw [← hu0]
  clear hu0
  have hk := (F.out.keep _ (List.Mem.head _))
  obtain ⟨⟨t0, t1, t2, t3⟩, q0, q1, q2, q3⟩ := quad hk.1
  have hlt := heap_lt' hk.1
  have hnt := hk.2
  have hmt := Ne.symm hnt
  clear hk q0 q1 q2 q3
  have hk := (F.out.keep _ (List.Mem.tail _ (List.Mem.head _)))
  obtain ⟨⟨d0, d1, d2, d3, d4, d5, d6, d7, d8, d9, dX⟩, g0, g1, g2, g3, g4, g5, g6, g7, g8, g9, gX⟩ := hen hk.1
  have hld := heap_lt' hk.1
  have hnd := hk.2
  clear hk
  clear d0 d1 d2 d3 d4 d5 d6 d7 d8 d9 dX g0 g1 g2 g3 g4 g5 g6 g7 g8 g9 gX hld hnd
  have hRB := F.out.qr.lt
  have hNB := heap_lt' (F.out.keep _ (List.Mem.tail _ (List.Mem.head _))).1
  refine (HE.out _ F.out.qr).mono ?_
  rintro e u7 ⟨qk, qn, qs, qo, qd, qp, ql, qc, qa, qb, qr, qe, qf, rfl, hi, hr, hg⟩
  have F2 := Lib.hid ((F.out.step hr hg).tree hi hNB hRB)
  clear F
  have F := F2
  clear F2
  clear hi hr hg hRB hNB
  have hk := (F.out.keep _ (List.Mem.tail _ (List.Mem.head _)))
  obtain ⟨⟨d0, d1, d2, d3, d4, d5, d6, d7, d8, d9, dX⟩, g0, g1, g2, g3, g4, g5, g6, g7, g8, g9, gX⟩ := hen hk.1
  have hld := heap_lt' hk.1
  have hnd := hk.2
  clear hk
  go_wp2_with fail
  have hn := (Nw.start F.out.gr).put11 (B := w.heap.size) (Nat.le_refl _) (c0 := .int .i64 qk) (c1 := .int .i64 qn) (c2 := .string (cbs qs)) (c3 := .string (cbs qo)) (c4 := .int .i64 qd) (c5 := .slice qp ql qc) (c6 := .int .i64 qa) (c7 := .int .i64 qb) (c8 := .int .i64 qr) (c9 := .int .i64 qe) (c10 := .int .i64 qf)
  exact bodyPost_ret (v := .agg #[.int .i64 qk, .int .i64 qn, .string (cbs qs), .string (cbs qo), .int .i64 qd, .slice qp ql qc, .int .i64 qa, .int .i64 qb, .int .i64 qr, .int .i64 qe, .int .i64 qf]) (by simp [results, Tryd.results75, go_sem, d0, d1, d2, d3, d4, d5, d6, d7, d8, d9, dX]) rfl ⟨_, _, _, _, _, _, _, _, _, _, _, _, _, rfl, Is.lower (Nat.le_of_lt (F.out.trees _ (List.Mem.head _)).2.1) _ ((F.out.trees _ (List.Mem.head _)).1.put11 (F.out.trees _ (List.Mem.head _)).2.1), HH.out.fin F.out.qr hn, hn.gr⟩

set_option maxRecDepth 8000 in
set_option maxHeartbeats 4000000 in
theorem qFirst_len (w : World) (R : Nat) (S : Value) (ts : List RT) (s : Q) (h : Qr w R S ts s) (rec : Nat → Q → Qe.Out) (hrec : QRecOk ts rec) (e0 : Ex) (s2 : Q) (he : Qe.inner ts rec (Qe.next s) = some (e0, s2)) (hok : (s.E == 0) = true) (hk2 : ((tokAt ts s.k).kind == 2) = false) (hv0 : Qe.is ts s true [116, 114, 117, 101] = false) (hv1 : Qe.is ts s true [102, 97, 108, 115, 101] = false) (hv2 : Qe.is ts s true [110, 117, 108, 108] = false) (hv3 : Qe.is ts s true [110, 101, 119] = false) (hv4 : Qe.is ts s true [108, 101, 110] = true) :
    Calls Tryd.prog 75 #[.pointer (some ⟨R, 0, none⟩)] w (QPost w.heap.size w R S ts (Ex.of 10 0 [] [] 0 [e0] (tokAt ts s.k).at_, s2)) := by
  have HV0 := Lib.hid hv0
  have HV1 := Lib.hid hv1
  have HV2 := Lib.hid hv2
  have HV3 := Lib.hid hv3
  have HV4 := Lib.hid hv4
  clear hv0 hv1 hv2 hv3 hv4
  have hok2 := fun w1 hh => qOk_any w1 R S ts s hh
  rw [hok] at hok2
  have HOK := Lib.hid hok2
  have htk := fun w1 hh => qTok_any w1 R S ts s hh
  generalize tokAt ts s.k = t at htk hk2   ⊢
  unfold tokW at htk
  have HTK := Lib.hid htk
  clear hok hok2 htk
  have HE := Lib.hid (fun w1 hh => qInner_any w1 R S ts _ hh rec hrec (e0, s2) he)
  clear he hrec
  have hlt := h.lt
  have HH := Lib.hid h
  have F := Lib.hid ((Fq.start h).alloc (.cells #[.int .i64 0, .int .i64 0, .string ⟨#[]⟩, .string ⟨#[]⟩, .int .i64 0, .slice none 0 0, .int .i64 0, .int .i64 0, .int .i64 0, .int .i64 0, .int .i64 0] 39))
  clear h 
  go_enter Tryd.func75, Tryd.ntmps75
  go_wp2_with fail
  refine (HTK.out _ F.out.qr).mono ?_
  rintro e u1 ⟨rfl, hb⟩
  have F2 := Lib.hid (F.out.go hb)
  clear F
  have F := F2
  clear F2
  clear hb
  have hNB0 := heap_lt' (F.out.keep _ (List.Mem.head _)).1
  go_wp2_with fail
  have F2 := Lib.hid (F.out.alloc (.cells #[.int .i64 t.kind, .string (cbs t.text), .int .i64 t.num, .int .i64 t.at_] 51))
  clear F
  have F := F2
  clear F2
  have hk := (F.out.keep _ (List.Mem.head _))
  obtain ⟨⟨t0, t1, t2, t3⟩, q0, q1, q2, q3⟩ := quad hk.1
  have hlt := heap_lt' hk.1
  have hnt := hk.2
  have hmt := Ne.symm hnt
  clear hk q0 q1 q2 q3
  refine (HOK.out _ F.out.qr).mono ?_
  rintro e u2 ⟨rfl, rfl⟩
  go_wp2_with fail
  clear t0 t1 t2 t3 hlt hnt hmt
  refine (qIs_any _ R S ts _ F.out.qr ⟨#[116, 114, 117, 101]⟩ (by decide) true (by decide)).mono ?_
  rintro e u3 ⟨rfl, hb⟩
  have F2 := Lib.hid (F.out.go hb)
  clear F
  have F := F2
  clear F2
  clear hb
  try rw [HV0.out]
  have hk := (F.out.keep _ (List.Mem.head _))
  obtain ⟨⟨t0, t1, t2, t3⟩, q0, q1, q2, q3⟩ := quad hk.1
  have hlt := heap_lt' hk.1
  have hnt := hk.2
  have hmt := Ne.symm hnt
  clear hk q0 q1 q2 q3
  go_wp2_with fail
  clear t0 t1 t2 t3 hlt hnt hmt
  refine (qIs_any _ R S ts _ F.out.qr ⟨#[102, 97, 108, 115, 101]⟩ (by decide) true (by decide)).mono ?_
  rintro e u4 ⟨rfl, hb⟩
  have F2 := Lib.hid (F.out.go hb)
  clear F
  have F := F2
  clear F2
  clear hb
  try rw [HV1.out]
  have hk := (F.out.keep _ (List.Mem.head _))
  obtain ⟨⟨t0, t1, t2, t3⟩, q0, q1, q2, q3⟩ := quad hk.1
  have hlt := heap_lt' hk.1
  have hnt := hk.2
  have hmt := Ne.symm hnt
  clear hk q0 q1 q2 q3
  go_wp2_with fail
  clear t0 t1 t2 t3 hlt hnt hmt
  refine (qIs_any _ R S ts _ F.out.qr ⟨#[110, 117, 108, 108]⟩ (by decide) true (by decide)).mono ?_
  rintro e u5 ⟨rfl, hb⟩
  have F2 := Lib.hid (F.out.go hb)
  clear F
  have F := F2
  clear F2
  clear hb
  try rw [HV2.out]
  have hk := (F.out.keep _ (List.Mem.head _))
  obtain ⟨⟨t0, t1, t2, t3⟩, q0, q1, q2, q3⟩ := quad hk.1
  have hlt := heap_lt' hk.1
  have hnt := hk.2
  have hmt := Ne.symm hnt
  clear hk q0 q1 q2 q3
  go_wp2_with fail
  clear t0 t1 t2 t3 hlt hnt hmt
  refine (qIs_any _ R S ts _ F.out.qr ⟨#[110, 101, 119]⟩ (by decide) true (by decide)).mono ?_
  rintro e u6 ⟨rfl, hb⟩
  have F2 := Lib.hid (F.out.go hb)
  clear F
  have F := F2
  clear F2
  clear hb
  try rw [HV3.out]
  have hk := (F.out.keep _ (List.Mem.head _))
  obtain ⟨⟨t0, t1, t2, t3⟩, q0, q1, q2, q3⟩ := quad hk.1
  have hlt := heap_lt' hk.1
  have hnt := hk.2
  have hmt := Ne.symm hnt
  clear hk q0 q1 q2 q3
  go_wp2_with fail
  clear t0 t1 t2 t3 hlt hnt hmt
  refine (qIs_any _ R S ts _ F.out.qr ⟨#[108, 101, 110]⟩ (by decide) true (by decide)).mono ?_
  rintro e u7 ⟨rfl, hb⟩
  have F2 := Lib.hid (F.out.go hb)
  clear F
  have F := F2
  clear F2
  clear hb
  try rw [HV4.out]
  have hk := (F.out.keep _ (List.Mem.head _))
  obtain ⟨⟨t0, t1, t2, t3⟩, q0, q1, q2, q3⟩ := quad hk.1
  have hlt := heap_lt' hk.1
  have hnt := hk.2
  have hmt := Ne.symm hnt
  clear hk q0 q1 q2 q3
  obtain ⟨⟨c0, c1, c2, c3, c4⟩, fr, hRl⟩ := F.out.qr.cells
  have fr1 := fr 1
  have fr2 := fr 2
  clear fr
  have hk := (F.out.keep _ (List.Mem.tail _ (List.Mem.head _)))
  obtain ⟨⟨d0, d1, d2, d3, d4, d5, d6, d7, d8, d9, dX⟩, g0, g1, g2, g3, g4, g5, g6, g7, g8, g9, gX⟩ := hen hk.1
  have hld := heap_lt' hk.1
  have hnd := hk.2
  clear hk
  have hmd := Ne.symm hnd
  go_wp2_with fail
  clear c0 c1 c2 c3 c4 fr1 fr2 hRl
  clear t0 t1 t2 t3 hlt hnt hmt
  clear d0 d1 d2 d3 d4 d5 d6 d7 d8 d9 dX g0 g1 g2 g3 g4 g5 g6 g7 g8 g9 gX hld hnd
  clear hmd
  have F2 := Lib.hid (F.out.set_k (inc s.k))
  change Hid (Fq _ _ _ _ _ (Qe.next s) _ _) at F2
  clear F
  have F := F2
  clear F2
  obtain ⟨u0, hu0⟩ : ∃ u0, u0 = u7.setCell ⟨R, 1, none⟩ (.int .i64 (inc s.k)) := ⟨_, rfl⟩
  rw [← hu0] at F
  change Code.wp _ _ _ _ (u7.setCell ⟨R, 1, none⟩ (.int .i64 (inc s.k)))
  rw [← hu0]
  clear hu0
  have hk := (F.out.keep _ (List.Mem.head _))
  obtain ⟨⟨t0, t1, t2, t3⟩, q0, q1, q2, q3⟩ := quad hk.1
  have hlt := heap_lt' hk.1
  have hnt := hk.2
  have hmt := Ne.symm hnt
  clear hk q0 q1 q2 q3
  have hk := (F.out.keep _ (List.Mem.tail _ (List.Mem.head _)))
  obtain ⟨⟨d0, d1, d2, d3, d4, d5, d6, d7, d8, d9, dX⟩, g0, g1, g2, g3, g4, g5, g6, g7, g8, g9, gX⟩ := hen hk.1
  have hld := heap_lt' hk.1
  have hnd := hk.2
  clear hk
  have F2 := Lib.hid (F.out.go (Below.refl _ _).drew)
  clear F
  have F := F2
  clear F2
  have hRB := F.out.qr.lt
  have hNB := heap_lt' (F.out.keep _ (List.Mem.tail _ (List.Mem.head _))).1
  have hne := Nat.ne_of_gt hNB0
  have HK1 := Lib.hid (F.out.keep _ (List.Mem.head _)).1
  go_region_held3 (fun w' => w'.cell? ⟨u1.heap.size, 3, none⟩ = some (.int .i64 t.at_)) (with_reducible first | exact (quad HK1.out).1.2.2.2 | exact (quad HK2.out).1.2.2.2 | exact (quad (alloc_box _ HK2.out)).1.2.2.2 | exact (quad (put11_other HK2.out hne)).1.2.2.2 | exact (quad (alloc_box _ (put11_other HK2.out hne))).1.2.2.2) (first
    | (go_at_call 87; (with_reducible refine Calls.mono (HE.out _ F.out.qr) ?_); rintro e u9 ⟨qk, qn, qs, qo, qd, qp, ql, qc, qa, qb, qr, qe, qf, rfl, hi, hr, hg⟩; have F4 := Lib.hid ((F.out.step hr hg).tree hi hNB hRB); have HK2 := Lib.hid (F4.out.keep _ (List.Mem.head _)).1; clear d0 d1 d2 d3 d4 d5 d6 d7 d8 d9 dX g0 g1 g2 g3 g4 g5 g6 g7 g8 g9 gX hld hnd hi hr hg t0 t1 t2 t3 hnt hmt; have hk := (F4.out.keep _ (List.Mem.tail _ (List.Mem.head _))); obtain ⟨⟨v0, v1, v2, v3, v4, v5, v6, v7, v8, v9, vX⟩, p0, p1, p2, p3, p4, p5, p6, p7, p8, p9, pX⟩ := hen hk.1; have hlv := heap_lt' hk.1; have hnv := hk.2; clear hk))
  clear F HK1 HK2 hRB hNB hne
  have F := F4
  clear F4
  go_wp2_with fail
  have hn := ((Nw.start F.out.gr).put11 (B := w.heap.size) (Nat.le_refl _) (c0 := .int .i64 10) (c1 := .int .i64 0) (c2 := .string ⟨#[]⟩) (c3 := .string ⟨#[]⟩) (c4 := .int .i64 0) (c5 := .slice (some ⟨u9.heap.size, 0, none⟩) 1 1) (c6 := .int .i64 t.at_) (c7 := .int .i64 0) (c8 := .int .i64 0) (c9 := .int .i64 0) (c10 := .int .i64 0)).alloc (.cells #[.int .i64 qk, .int .i64 qn, .string (cbs qs), .string (cbs qo), .int .i64 qd, .slice qp ql qc, .int .i64 qa, .int .i64 qb, .int .i64 qr, .int .i64 qe, .int .i64 qf] 39)
  have hbx := box_put11 (w := u9) (N := w.heap.size) (o := .cells #[.int .i64 qk, .int .i64 qn, .string (cbs qs), .string (cbs qo), .int .i64 qd, .slice qp ql qc, .int .i64 qa, .int .i64 qb, .int .i64 qr, .int .i64 qe, .int .i64 qf] 39) (c0 := .int .i64 10) (c1 := .int .i64 0) (c2 := .string ⟨#[]⟩) (c3 := .string ⟨#[]⟩) (c4 := .int .i64 0) (c5 := .slice (some ⟨u9.heap.size, 0, none⟩) 1 1) (c6 := .int .i64 t.at_) (c7 := .int .i64 0) (c8 := .int .i64 0) (c9 := .int .i64 0) (c10 := .int .i64 0)
  have hle : w.heap.size ≤ u9.heap.size := Nat.le_of_lt (heap_lt' (F.out.keep _ (List.Mem.tail _ (List.Mem.head _))).1)
  exact bodyPost_ret (v := .agg #[.int .i64 10, .int .i64 0, .string ⟨#[]⟩, .string ⟨#[]⟩, .int .i64 0, .slice (some ⟨u9.heap.size, 0, none⟩) 1 1, .int .i64 t.at_, .int .i64 0, .int .i64 0, .int .i64 0, .int .i64 0]) (by simp [results, Tryd.results75, go_sem, hlv, v0, v1, v2, v3, v4, v5, v6, v7, v8, v9, vX]) rfl ⟨_, _, _, _, _, _, _, _, _, _, _, _, _, rfl, Is.node1 hbx hle (Is.lower (Nat.le_of_lt (F.out.trees _ (List.Mem.head _)).2.1) _ (((F.out.trees _ (List.Mem.head _)).1.put11 (F.out.trees _ (List.Mem.head _)).2.1).alloc _)) rfl 10 0 [] [] 0 t.at_ 1, HH.out.fin F.out.qr hn, hn.gr⟩

set_option maxRecDepth 8000 in
set_option maxHeartbeats 4000000 in
theorem qFirst_read (w : World) (R : Nat) (S : Value) (ts : List RT) (s : Q) (h : Qr w R S ts s) (hok : (s.E == 0) = true) (hk2 : ((tokAt ts s.k).kind == 2) = false) (hv0 : Qe.is ts s true [116, 114, 117, 101] = false) (hv1 : Qe.is ts s true [102, 97, 108, 115, 101] = false) (hv2 : Qe.is ts s true [110, 117, 108, 108] = false) (hv3 : Qe.is ts s true [110, 101, 119] = false) (hv4 : Qe.is ts s true [108, 101, 110] = false) (hv5 : Qe.is ts s true [114, 101, 97, 100] = true) :
    Calls Tryd.prog 75 #[.pointer (some ⟨R, 0, none⟩)] w (QPost w.heap.size w R S ts (Ex.of 11 0 [] [] 0 [] (tokAt ts s.k).at_, Qe.closes ts (Qe.opens ts (Qe.next s) [40]) [41])) := by
  have HV0 := Lib.hid hv0
  have HV1 := Lib.hid hv1
  have HV2 := Lib.hid hv2
  have HV3 := Lib.hid hv3
  have HV4 := Lib.hid hv4
  have HV5 := Lib.hid hv5
  clear hv0 hv1 hv2 hv3 hv4 hv5
  have hok2 := fun w1 hh => qOk_any w1 R S ts s hh
  rw [hok] at hok2
  have HOK := Lib.hid hok2
  have htk := fun w1 hh => qTok_any w1 R S ts s hh
  generalize tokAt ts s.k = t at htk hk2   ⊢
  unfold tokW at htk
  have HTK := Lib.hid htk
  clear hok hok2 htk
  have hlt := h.lt
  have HH := Lib.hid h
  have F := Lib.hid ((Fq.start h).alloc (.cells #[.int .i64 0, .int .i64 0, .string ⟨#[]⟩, .string ⟨#[]⟩, .int .i64 0, .slice none 0 0, .int .i64 0, .int .i64 0, .int .i64 0, .int .i64 0, .int .i64 0] 39))
  clear h 
  go_enter Tryd.func75, Tryd.ntmps75
  go_wp2_with fail
  refine (HTK.out _ F.out.qr).mono ?_
  rintro e u1 ⟨rfl, hb⟩
  have F2 := Lib.hid (F.out.go hb)
  clear F
  have F := F2
  clear F2
  clear hb
  have hNB0 := heap_lt' (F.out.keep _ (List.Mem.head _)).1
  go_wp2_with fail
  have F2 := Lib.hid (F.out.alloc (.cells #[.int .i64 t.kind, .string (cbs t.text), .int .i64 t.num, .int .i64 t.at_] 51))
  clear F
  have F := F2
  clear F2
  have hk := (F.out.keep _ (List.Mem.head _))
  obtain ⟨⟨t0, t1, t2, t3⟩, q0, q1, q2, q3⟩ := quad hk.1
  have hlt := heap_lt' hk.1
  have hnt := hk.2
  have hmt := Ne.symm hnt
  clear hk q0 q1 q2 q3
  refine (HOK.out _ F.out.qr).mono ?_
  rintro e u2 ⟨rfl, rfl⟩
  go_wp2_with fail
  clear t0 t1 t2 t3 hlt hnt hmt
  refine (qIs_any _ R S ts _ F.out.qr ⟨#[116, 114, 117, 101]⟩ (by decide) true (by decide)).mono ?_
  rintro e u3 ⟨rfl, hb⟩
  have F2 := Lib.hid (F.out.go hb)
  clear F
  have F := F2
  clear F2
  clear hb
  try rw [HV0.out]
  have hk := (F.out.keep _ (List.Mem.head _))
  obtain ⟨⟨t0, t1, t2, t3⟩, q0, q1, q2, q3⟩ := quad hk.1
  have hlt := heap_lt' hk.1
  have hnt := hk.2
  have hmt := Ne.symm hnt
  clear hk q0 q1 q2 q3
  go_wp2_with fail
  clear t0 t1 t2 t3 hlt hnt hmt
  refine (qIs_any _ R S ts _ F.out.qr ⟨#[102, 97, 108, 115, 101]⟩ (by decide) true (by decide)).mono ?_
  rintro e u4 ⟨rfl, hb⟩
  have F2 := Lib.hid (F.out.go hb)
  clear F
  have F := F2
  clear F2
  clear hb
  try rw [HV1.out]
  have hk := (F.out.keep _ (List.Mem.head _))
  obtain ⟨⟨t0, t1, t2, t3⟩, q0, q1, q2, q3⟩ := quad hk.1
  have hlt := heap_lt' hk.1
  have hnt := hk.2
  have hmt := Ne.symm hnt
  clear hk q0 q1 q2 q3
  go_wp2_with fail
  clear t0 t1 t2 t3 hlt hnt hmt
  refine (qIs_any _ R S ts _ F.out.qr ⟨#[110, 117, 108, 108]⟩ (by decide) true (by decide)).mono ?_
  rintro e u5 ⟨rfl, hb⟩
  have F2 := Lib.hid (F.out.go hb)
  clear F
  have F := F2
  clear F2
  clear hb
  try rw [HV2.out]
  have hk := (F.out.keep _ (List.Mem.head _))
  obtain ⟨⟨t0, t1, t2, t3⟩, q0, q1, q2, q3⟩ := quad hk.1
  have hlt := heap_lt' hk.1
  have hnt := hk.2
  have hmt := Ne.symm hnt
  clear hk q0 q1 q2 q3
  go_wp2_with fail
  clear t0 t1 t2 t3 hlt hnt hmt
  refine (qIs_any _ R S ts _ F.out.qr ⟨#[110, 101, 119]⟩ (by decide) true (by decide)).mono ?_
  rintro e u6 ⟨rfl, hb⟩
  have F2 := Lib.hid (F.out.go hb)
  clear F
  have F := F2
  clear F2
  clear hb
  try rw [HV3.out]
  have hk := (F.out.keep _ (List.Mem.head _))
  obtain ⟨⟨t0, t1, t2, t3⟩, q0, q1, q2, q3⟩ := quad hk.1
  have hlt := heap_lt' hk.1
  have hnt := hk.2
  have hmt := Ne.symm hnt
  clear hk q0 q1 q2 q3
  go_wp2_with fail
  clear t0 t1 t2 t3 hlt hnt hmt
  refine (qIs_any _ R S ts _ F.out.qr ⟨#[108, 101, 110]⟩ (by decide) true (by decide)).mono ?_
  rintro e u7 ⟨rfl, hb⟩
  have F2 := Lib.hid (F.out.go hb)
  clear F
  have F := F2
  clear F2
  clear hb
  try rw [HV4.out]
  have hk := (F.out.keep _ (List.Mem.head _))
  obtain ⟨⟨t0, t1, t2, t3⟩, q0, q1, q2, q3⟩ := quad hk.1
  have hlt := heap_lt' hk.1
  have hnt := hk.2
  have hmt := Ne.symm hnt
  clear hk q0 q1 q2 q3
  go_wp2_with fail
  clear t0 t1 t2 t3 hlt hnt hmt
  refine (qIs_any _ R S ts _ F.out.qr ⟨#[114, 101, 97, 100]⟩ (by decide) true (by decide)).mono ?_
  rintro e u8 ⟨rfl, hb⟩
  have F2 := Lib.hid (F.out.go hb)
  clear F
  have F := F2
  clear F2
  clear hb
  try rw [HV5.out]
  have hk := (F.out.keep _ (List.Mem.head _))
  obtain ⟨⟨t0, t1, t2, t3⟩, q0, q1, q2, q3⟩ := quad hk.1
  have hlt := heap_lt' hk.1
  have hnt := hk.2
  have hmt := Ne.symm hnt
  clear hk q0 q1 q2 q3
  obtain ⟨⟨c0, c1, c2, c3, c4⟩, fr, hRl⟩ := F.out.qr.cells
  have fr1 := fr 1
  have fr2 := fr 2
  clear fr
  have hk := (F.out.keep _ (List.Mem.tail _ (List.Mem.head _)))
  obtain ⟨⟨d0, d1, d2, d3, d4, d5, d6, d7, d8, d9, dX⟩, g0, g1, g2, g3, g4, g5, g6, g7, g8, g9, gX⟩ := hen hk.1
  have hld := heap_lt' hk.1
  have hnd := hk.2
  clear hk
  have hmd := Ne.symm hnd
  go_wp2_with fail
  clear c0 c1 c2 c3 c4 fr1 fr2 hRl
  clear t0 t1 t2 t3 hlt hnt hmt
  clear d0 d1 d2 d3 d4 d5 d6 d7 d8 d9 dX g0 g1 g2 g3 g4 g5 g6 g7 g8 g9 gX hld hnd
  clear hmd
  have F2 := Lib.hid (F.out.set_k (inc s.k))
  change Hid (Fq _ _ _ _ _ (Qe.next s) _ _) at F2
  clear F
  have F := F2
  clear F2
  obtain ⟨u0, hu0⟩ : ∃ u0, u0 = u8.setCell ⟨R, 1, none⟩ (.int .i64 (inc s.k)) := ⟨_, rfl⟩
  rw [← hu0] at F
  change Calls _ _ _ (u8.setCell ⟨R, 1, none⟩ (.int .i64 (inc s.k))) _
  rw [← hu0]
  clear hu0
  have hk := (F.out.keep _ (List.Mem.head _))
  obtain ⟨⟨t0, t1, t2, t3⟩, q0, q1, q2, q3⟩ := quad hk.1
  have hlt := heap_lt' hk.1
  have hnt := hk.2
  have hmt := Ne.symm hnt
  clear hk q0 q1 q2 q3
  have hk := (F.out.keep _ (List.Mem.tail _ (List.Mem.head _)))
  obtain ⟨⟨d0, d1, d2, d3, d4, d5, d6, d7, d8, d9, dX⟩, g0, g1, g2, g3, g4, g5, g6, g7, g8, g9, gX⟩ := hen hk.1
  have hld := heap_lt' hk.1
  have hnd := hk.2
  clear hk
  clear d0 d1 d2 d3 d4 d5 d6 d7 d8 d9 dX g0 g1 g2 g3 g4 g5 g6 g7 g8 g9 gX hld hnd
  clear t0 t1 t2 t3 hlt hnt hmt
  refine (qOpens_any _ R S ts _ F.out.qr ⟨#[40]⟩ (noLetter _ (by decide))).mono ?_
  rintro e u9 ⟨rfl, hr, hg⟩
  have F2 := Lib.hid (F.out.step hr hg)
  clear F
  have F := F2
  clear F2
  clear hr hg
  go_wp2_with fail
  refine (qCloses_any _ R S ts _ F.out.qr ⟨#[41]⟩ (noLetter _ (by decide))).mono ?_
  rintro e u10 ⟨rfl, hr, hg⟩
  have F2 := Lib.hid (F.out.step hr hg)
  clear F
  have F := F2
  clear F2
  clear hr hg
  have hk := (F.out.keep _ (List.Mem.head _))
  obtain ⟨⟨t0, t1, t2, t3⟩, q0, q1, q2, q3⟩ := quad hk.1
  have hlt := heap_lt' hk.1
  have hnt := hk.2
  have hmt := Ne.symm hnt
  clear hk q0 q1 q2 q3
  have hk := (F.out.keep _ (List.Mem.tail _ (List.Mem.head _)))
  obtain ⟨⟨d0, d1, d2, d3, d4, d5, d6, d7, d8, d9, dX⟩, g0, g1, g2, g3, g4, g5, g6, g7, g8, g9, gX⟩ := hen hk.1
  have hld := heap_lt' hk.1
  have hnd := hk.2
  clear hk
  go_wp2_with fail
  have hn := (Nw.start F.out.gr).put11 (B := w.heap.size) (Nat.le_refl _) (c0 := .int .i64 11) (c1 := .int .i64 0) (c2 := .string ⟨#[]⟩) (c3 := .string ⟨#[]⟩) (c4 := .int .i64 0) (c5 := .slice none 0 0) (c6 := .int .i64 t.at_) (c7 := .int .i64 0) (c8 := .int .i64 0) (c9 := .int .i64 0) (c10 := .int .i64 0)
  exact bodyPost_ret (v := .agg #[.int .i64 11, .int .i64 0, .string ⟨#[]⟩, .string ⟨#[]⟩, .int .i64 0, .slice none 0 0, .int .i64 t.at_, .int .i64 0, .int .i64 0, .int .i64 0, .int .i64 0]) (by simp [results, Tryd.results75, go_sem, d0, d1, d2, d3, d4, d5, d6, d7, d8, d9, dX]) rfl ⟨_, _, _, _, _, _, _, _, _, _, _, _, _, rfl, Is.leaf 11 0 [] [] 0 t.at_, HH.out.fin F.out.qr hn, hn.gr⟩

set_option maxRecDepth 8000 in
set_option maxHeartbeats 4000000 in
theorem qFirst_paren (w : World) (R : Nat) (S : Value) (ts : List RT) (s : Q) (h : Qr w R S ts s) (rec : Nat → Q → Qe.Out) (hrec : QRecOk ts rec) (x : Ex × Q) (hx : Qe.inner ts rec s = some x) (hok : (s.E == 0) = true) (hk2 : ((tokAt ts s.k).kind == 2) = false) (hv0 : Qe.is ts s true [116, 114, 117, 101] = false) (hv1 : Qe.is ts s true [102, 97, 108, 115, 101] = false) (hv2 : Qe.is ts s true [110, 117, 108, 108] = false) (hv3 : Qe.is ts s true [110, 101, 119] = false) (hv4 : Qe.is ts s true [108, 101, 110] = false) (hv5 : Qe.is ts s true [114, 101, 97, 100] = false) (hv6 : Qe.is ts s false [40] = true) :
    Calls Tryd.prog 75 #[.pointer (some ⟨R, 0, none⟩)] w (QPost w.heap.size w R S ts x) := by
  have HV0 := Lib.hid hv0
  have HV1 := Lib.hid hv1
  have HV2 := Lib.hid hv2
  have HV3 := Lib.hid hv3
  have HV4 := Lib.hid hv4
  have HV5 := Lib.hid hv5
  have HV6 := Lib.hid hv6
  clear hv0 hv1 hv2 hv3 hv4 hv5 hv6
  have hok2 := fun w1 hh => qOk_any w1 R S ts s hh
  rw [hok] at hok2
  have HOK := Lib.hid hok2
  have htk := fun w1 hh => qTok_any w1 R S ts s hh
  generalize tokAt ts s.k = t at htk hk2   ⊢
  unfold tokW at htk
  have HTK := Lib.hid htk
  clear hok hok2 htk
  have HE := Lib.hid (fun w1 hh => qInner_any w1 R S ts _ hh rec hrec x hx)
  clear hx hrec
  have hlt := h.lt
  have HH := Lib.hid h
  have F := Lib.hid ((Fq.start h).alloc (.cells #[.int .i64 0, .int .i64 0, .string ⟨#[]⟩, .string ⟨#[]⟩, .int .i64 0, .slice none 0 0, .int .i64 0, .int .i64 0, .int .i64 0, .int .i64 0, .int .i64 0] 39))
  clear h 
  go_enter Tryd.func75, Tryd.ntmps75
  go_wp2_with fail
  refine (HTK.out _ F.out.qr).mono ?_
  rintro e u1 ⟨rfl, hb⟩
  have F2 := Lib.hid (F.out.go hb)
  clear F
  have F := F2
  clear F2
  clear hb
  have hNB0 := heap_lt' (F.out.keep _ (List.Mem.head _)).1
  go_wp2_with fail
  have F2 := Lib.hid (F.out.alloc (.cells #[.int .i64 t.kind, .string (cbs t.text), .int .i64 t.num, .int .i64 t.at_] 51))
  clear F
  have F := F2
  clear F2
  have hk := (F.out.keep _ (List.Mem.head _))
  obtain ⟨⟨t0, t1, t2, t3⟩, q0, q1, q2, q3⟩ := quad hk.1
  have hlt := heap_lt' hk.1
  have hnt := hk.2
  have hmt := Ne.symm hnt
  clear hk q0 q1 q2 q3
  refine (HOK.out _ F.out.qr).mono ?_
  rintro e u2 ⟨rfl, rfl⟩
  go_wp2_with fail
  clear t0 t1 t2 t3 hlt hnt hmt
  refine (qIs_any _ R S ts _ F.out.qr ⟨#[116, 114, 117, 101]⟩ (by decide) true (by decide)).mono ?_
  rintro e u3 ⟨rfl, hb⟩
  have F2 := Lib.hid (F.out.go hb)
  clear F
  have F := F2
  clear F2
  clear hb
  try rw [HV0.out]
  have hk := (F.out.keep _ (List.Mem.head _))
  obtain ⟨⟨t0, t1, t2, t3⟩, q0, q1, q2, q3⟩ := quad hk.1
  have hlt := heap_lt' hk.1
  have hnt := hk.2
  have hmt := Ne.symm hnt
  clear hk q0 q1 q2 q3
  go_wp2_with fail
  clear t0 t1 t2 t3 hlt hnt hmt
  refine (qIs_any _ R S ts _ F.out.qr ⟨#[102, 97, 108, 115, 101]⟩ (by decide) true (by decide)).mono ?_
  rintro e u4 ⟨rfl, hb⟩
  have F2 := Lib.hid (F.out.go hb)
  clear F
  have F := F2
  clear F2
  clear hb
  try rw [HV1.out]
  have hk := (F.out.keep _ (List.Mem.head _))
  obtain ⟨⟨t0, t1, t2, t3⟩, q0, q1, q2, q3⟩ := quad hk.1
  have hlt := heap_lt' hk.1
  have hnt := hk.2
  have hmt := Ne.symm hnt
  clear hk q0 q1 q2 q3
  go_wp2_with fail
  clear t0 t1 t2 t3 hlt hnt hmt
  refine (qIs_any _ R S ts _ F.out.qr ⟨#[110, 117, 108, 108]⟩ (by decide) true (by decide)).mono ?_
  rintro e u5 ⟨rfl, hb⟩
  have F2 := Lib.hid (F.out.go hb)
  clear F
  have F := F2
  clear F2
  clear hb
  try rw [HV2.out]
  have hk := (F.out.keep _ (List.Mem.head _))
  obtain ⟨⟨t0, t1, t2, t3⟩, q0, q1, q2, q3⟩ := quad hk.1
  have hlt := heap_lt' hk.1
  have hnt := hk.2
  have hmt := Ne.symm hnt
  clear hk q0 q1 q2 q3
  go_wp2_with fail
  clear t0 t1 t2 t3 hlt hnt hmt
  refine (qIs_any _ R S ts _ F.out.qr ⟨#[110, 101, 119]⟩ (by decide) true (by decide)).mono ?_
  rintro e u6 ⟨rfl, hb⟩
  have F2 := Lib.hid (F.out.go hb)
  clear F
  have F := F2
  clear F2
  clear hb
  try rw [HV3.out]
  have hk := (F.out.keep _ (List.Mem.head _))
  obtain ⟨⟨t0, t1, t2, t3⟩, q0, q1, q2, q3⟩ := quad hk.1
  have hlt := heap_lt' hk.1
  have hnt := hk.2
  have hmt := Ne.symm hnt
  clear hk q0 q1 q2 q3
  go_wp2_with fail
  clear t0 t1 t2 t3 hlt hnt hmt
  refine (qIs_any _ R S ts _ F.out.qr ⟨#[108, 101, 110]⟩ (by decide) true (by decide)).mono ?_
  rintro e u7 ⟨rfl, hb⟩
  have F2 := Lib.hid (F.out.go hb)
  clear F
  have F := F2
  clear F2
  clear hb
  try rw [HV4.out]
  have hk := (F.out.keep _ (List.Mem.head _))
  obtain ⟨⟨t0, t1, t2, t3⟩, q0, q1, q2, q3⟩ := quad hk.1
  have hlt := heap_lt' hk.1
  have hnt := hk.2
  have hmt := Ne.symm hnt
  clear hk q0 q1 q2 q3
  go_wp2_with fail
  clear t0 t1 t2 t3 hlt hnt hmt
  refine (qIs_any _ R S ts _ F.out.qr ⟨#[114, 101, 97, 100]⟩ (by decide) true (by decide)).mono ?_
  rintro e u8 ⟨rfl, hb⟩
  have F2 := Lib.hid (F.out.go hb)
  clear F
  have F := F2
  clear F2
  clear hb
  try rw [HV5.out]
  have hk := (F.out.keep _ (List.Mem.head _))
  obtain ⟨⟨t0, t1, t2, t3⟩, q0, q1, q2, q3⟩ := quad hk.1
  have hlt := heap_lt' hk.1
  have hnt := hk.2
  have hmt := Ne.symm hnt
  clear hk q0 q1 q2 q3
  go_wp2_with fail
  clear t0 t1 t2 t3 hlt hnt hmt
  refine (qIs_any _ R S ts _ F.out.qr ⟨#[40]⟩ (by decide) false (by decide)).mono ?_
  rintro e u9 ⟨rfl, hb⟩
  have F2 := Lib.hid (F.out.go hb)
  clear F
  have F := F2
  clear F2
  clear hb
  try rw [HV6.out]
  have hk := (F.out.keep _ (List.Mem.head _))
  obtain ⟨⟨t0, t1, t2, t3⟩, q0, q1, q2, q3⟩ := quad hk.1
  have hlt := heap_lt' hk.1
  have hnt := hk.2
  have hmt := Ne.symm hnt
  clear hk q0 q1 q2 q3
  go_wp2_with fail
  clear t0 t1 t2 t3 hlt hnt hmt
  have hRB := F.out.qr.lt
  have hNB := heap_lt' (F.out.keep _ (List.Mem.tail _ (List.Mem.head _))).1
  refine (HE.out _ F.out.qr).mono ?_
  rintro e u10 ⟨qk, qn, qs, qo, qd, qp, ql, qc, qa, qb, qr, qe, qf, rfl, hi, hr, hg⟩
  have F2 := Lib.hid ((F.out.step hr hg).tree hi hNB hRB)
  clear F
  have F := F2
  clear F2
  clear hi hr hg hRB hNB
  have hk := (F.out.keep _ (List.Mem.tail _ (List.Mem.head _)))
  obtain ⟨⟨d0, d1, d2, d3, d4, d5, d6, d7, d8, d9, dX⟩, g0, g1, g2, g3, g4, g5, g6, g7, g8, g9, gX⟩ := hen hk.1
  have hld := heap_lt' hk.1
  have hnd := hk.2
  clear hk
  go_wp2_with fail
  have hn := (Nw.start F.out.gr).put11 (B := w.heap.size) (Nat.le_refl _) (c0 := .int .i64 qk) (c1 := .int .i64 qn) (c2 := .string (cbs qs)) (c3 := .string (cbs qo)) (c4 := .int .i64 qd) (c5 := .slice qp ql qc) (c6 := .int .i64 qa) (c7 := .int .i64 qb) (c8 := .int .i64 qr) (c9 := .int .i64 qe) (c10 := .int .i64 qf)
  exact bodyPost_ret (v := .agg #[.int .i64 qk, .int .i64 qn, .string (cbs qs), .string (cbs qo), .int .i64 qd, .slice qp ql qc, .int .i64 qa, .int .i64 qb, .int .i64 qr, .int .i64 qe, .int .i64 qf]) (by simp [results, Tryd.results75, go_sem, d0, d1, d2, d3, d4, d5, d6, d7, d8, d9, dX]) rfl ⟨_, _, _, _, _, _, _, _, _, _, _, _, _, rfl, Is.lower (Nat.le_of_lt (F.out.trees _ (List.Mem.head _)).2.1) _ ((F.out.trees _ (List.Mem.head _)).1.put11 (F.out.trees _ (List.Mem.head _)).2.1), HH.out.fin F.out.qr hn, hn.gr⟩

set_option maxRecDepth 8000 in
set_option maxHeartbeats 4000000 in
theorem qFirst_var (w : World) (R : Nat) (S : Value) (ts : List RT) (s : Q) (h : Qr w R S ts s) (hv9 : Qe.is ts (Qe.name ts s).2 false [40] = false) (hok : (s.E == 0) = true) (hk2 : ((tokAt ts s.k).kind == 2) = false) (hv0 : Qe.is ts s true [116, 114, 117, 101] = false) (hv1 : Qe.is ts s true [102, 97, 108, 115, 101] = false) (hv2 : Qe.is ts s true [110, 117, 108, 108] = false) (hv3 : Qe.is ts s true [110, 101, 119] = false) (hv4 : Qe.is ts s true [108, 101, 110] = false) (hv5 : Qe.is ts s true [114, 101, 97, 100] = false) (hv6 : Qe.is ts s false [40] = false) :
    Calls Tryd.prog 75 #[.pointer (some ⟨R, 0, none⟩)] w (QPost w.heap.size w R S ts (Ex.of 4 0 (Qe.name ts s).1 [] 0 [] (tokAt ts s.k).at_, (Qe.name ts s).2)) := by
  have HV0 := Lib.hid hv0
  have HV1 := Lib.hid hv1
  have HV2 := Lib.hid hv2
  have HV3 := Lib.hid hv3
  have HV4 := Lib.hid hv4
  have HV5 := Lib.hid hv5
  have HV6 := Lib.hid hv6
  clear hv0 hv1 hv2 hv3 hv4 hv5 hv6
  have hok2 := fun w1 hh => qOk_any w1 R S ts s hh
  rw [hok] at hok2
  have HOK := Lib.hid hok2
  have htk := fun w1 hh => qTok_any w1 R S ts s hh
  generalize tokAt ts s.k = t at htk hk2   ⊢
  unfold tokW at htk
  have HTK := Lib.hid htk
  clear hok hok2 htk
  have hq := fun w1 hh => qName_any w1 R S ts s hh
  generalize Qe.name ts s = y at hq hv9 ⊢
  obtain ⟨nm, s1⟩ := y
  dsimp only at hq hv9 ⊢
  have HQ := Lib.hid hq
  have HV9 := Lib.hid hv9
  clear hq hv9
  have hlt := h.lt
  have HH := Lib.hid h
  have F := Lib.hid ((Fq.start h).alloc (.cells #[.int .i64 0, .int .i64 0, .string ⟨#[]⟩, .string ⟨#[]⟩, .int .i64 0, .slice none 0 0, .int .i64 0, .int .i64 0, .int .i64 0, .int .i64 0, .int .i64 0] 39))
  clear h 
  go_enter Tryd.func75, Tryd.ntmps75
  go_wp2_with fail
  refine (HTK.out _ F.out.qr).mono ?_
  rintro e u1 ⟨rfl, hb⟩
  have F2 := Lib.hid (F.out.go hb)
  clear F
  have F := F2
  clear F2
  clear hb
  have hNB0 := heap_lt' (F.out.keep _ (List.Mem.head _)).1
  go_wp2_with fail
  have F2 := Lib.hid (F.out.alloc (.cells #[.int .i64 t.kind, .string (cbs t.text), .int .i64 t.num, .int .i64 t.at_] 51))
  clear F
  have F := F2
  clear F2
  have hk := (F.out.keep _ (List.Mem.head _))
  obtain ⟨⟨t0, t1, t2, t3⟩, q0, q1, q2, q3⟩ := quad hk.1
  have hlt := heap_lt' hk.1
  have hnt := hk.2
  have hmt := Ne.symm hnt
  clear hk q0 q1 q2 q3
  refine (HOK.out _ F.out.qr).mono ?_
  rintro e u2 ⟨rfl, rfl⟩
  go_wp2_with fail
  clear t0 t1 t2 t3 hlt hnt hmt
  refine (qIs_any _ R S ts _ F.out.qr ⟨#[116, 114, 117, 101]⟩ (by decide) true (by decide)).mono ?_
  rintro e u3 ⟨rfl, hb⟩
  have F2 := Lib.hid (F.out.go hb)
  clear F
  have F := F2
  clear F2
  clear hb
  try rw [HV0.out]
  have hk := (F.out.keep _ (List.Mem.head _))
  obtain ⟨⟨t0, t1, t2, t3⟩, q0, q1, q2, q3⟩ := quad hk.1
  have hlt := heap_lt' hk.1
  have hnt := hk.2
  have hmt := Ne.symm hnt
  clear hk q0 q1 q2 q3
  go_wp2_with fail
  clear t0 t1 t2 t3 hlt hnt hmt
  refine (qIs_any _ R S ts _ F.out.qr ⟨#[102, 97, 108, 115, 101]⟩ (by decide) true (by decide)).mono ?_
  rintro e u4 ⟨rfl, hb⟩
  have F2 := Lib.hid (F.out.go hb)
  clear F
  have F := F2
  clear F2
  clear hb
  try rw [HV1.out]
  have hk := (F.out.keep _ (List.Mem.head _))
  obtain ⟨⟨t0, t1, t2, t3⟩, q0, q1, q2, q3⟩ := quad hk.1
  have hlt := heap_lt' hk.1
  have hnt := hk.2
  have hmt := Ne.symm hnt
  clear hk q0 q1 q2 q3
  go_wp2_with fail
  clear t0 t1 t2 t3 hlt hnt hmt
  refine (qIs_any _ R S ts _ F.out.qr ⟨#[110, 117, 108, 108]⟩ (by decide) true (by decide)).mono ?_
  rintro e u5 ⟨rfl, hb⟩
  have F2 := Lib.hid (F.out.go hb)
  clear F
  have F := F2
  clear F2
  clear hb
  try rw [HV2.out]
  have hk := (F.out.keep _ (List.Mem.head _))
  obtain ⟨⟨t0, t1, t2, t3⟩, q0, q1, q2, q3⟩ := quad hk.1
  have hlt := heap_lt' hk.1
  have hnt := hk.2
  have hmt := Ne.symm hnt
  clear hk q0 q1 q2 q3
  go_wp2_with fail
  clear t0 t1 t2 t3 hlt hnt hmt
  refine (qIs_any _ R S ts _ F.out.qr ⟨#[110, 101, 119]⟩ (by decide) true (by decide)).mono ?_
  rintro e u6 ⟨rfl, hb⟩
  have F2 := Lib.hid (F.out.go hb)
  clear F
  have F := F2
  clear F2
  clear hb
  try rw [HV3.out]
  have hk := (F.out.keep _ (List.Mem.head _))
  obtain ⟨⟨t0, t1, t2, t3⟩, q0, q1, q2, q3⟩ := quad hk.1
  have hlt := heap_lt' hk.1
  have hnt := hk.2
  have hmt := Ne.symm hnt
  clear hk q0 q1 q2 q3
  go_wp2_with fail
  clear t0 t1 t2 t3 hlt hnt hmt
  refine (qIs_any _ R S ts _ F.out.qr ⟨#[108, 101, 110]⟩ (by decide) true (by decide)).mono ?_
  rintro e u7 ⟨rfl, hb⟩
  have F2 := Lib.hid (F.out.go hb)
  clear F
  have F := F2
  clear F2
  clear hb
  try rw [HV4.out]
  have hk := (F.out.keep _ (List.Mem.head _))
  obtain ⟨⟨t0, t1, t2, t3⟩, q0, q1, q2, q3⟩ := quad hk.1
  have hlt := heap_lt' hk.1
  have hnt := hk.2
  have hmt := Ne.symm hnt
  clear hk q0 q1 q2 q3
  go_wp2_with fail
  clear t0 t1 t2 t3 hlt hnt hmt
  refine (qIs_any _ R S ts _ F.out.qr ⟨#[114, 101, 97, 100]⟩ (by decide) true (by decide)).mono ?_
  rintro e u8 ⟨rfl, hb⟩
  have F2 := Lib.hid (F.out.go hb)
  clear F
  have F := F2
  clear F2
  clear hb
  try rw [HV5.out]
  have hk := (F.out.keep _ (List.Mem.head _))
  obtain ⟨⟨t0, t1, t2, t3⟩, q0, q1, q2, q3⟩ := quad hk.1
  have hlt := heap_lt' hk.1
  have hnt := hk.2
  have hmt := Ne.symm hnt
  clear hk q0 q1 q2 q3
  go_wp2_with fail
  clear t0 t1 t2 t3 hlt hnt hmt
  refine (qIs_any _ R S ts _ F.out.qr ⟨#[40]⟩ (by decide) false (by decide)).mono ?_
  rintro e u9 ⟨rfl, hb⟩
  have F2 := Lib.hid (F.out.go hb)
  clear F
  have F := F2
  clear F2
  clear hb
  try rw [HV6.out]
  have hk := (F.out.keep _ (List.Mem.head _))
  obtain ⟨⟨t0, t1, t2, t3⟩, q0, q1, q2, q3⟩ := quad hk.1
  have hlt := heap_lt' hk.1
  have hnt := hk.2
  have hmt := Ne.symm hnt
  clear hk q0 q1 q2 q3
  go_wp2_with fail
  clear t0 t1 t2 t3 hlt hnt hmt
  refine (HQ.out _ F.out.qr).mono ?_
  rintro e u10 ⟨rfl, hr, hg⟩
  have F2 := Lib.hid (F.out.step hr hg)
  clear F
  have F := F2
  clear F2
  clear hr hg
  go_wp2_with fail
  refine (qIs_any _ R S ts _ F.out.qr ⟨#[40]⟩ (by decide) false (by decide)).mono ?_
  rintro e u11 ⟨rfl, hb⟩
  have F2 := Lib.hid (F.out.go hb)
  clear F
  have F := F2
  clear F2
  clear hb
  try rw [HV9.out]
  have hk := (F.out.keep _ (List.Mem.head _))
  obtain ⟨⟨t0, t1, t2, t3⟩, q0, q1, q2, q3⟩ := quad hk.1
  have hlt := heap_lt' hk.1
  have hnt := hk.2
  have hmt := Ne.symm hnt
  clear hk q0 q1 q2 q3
  have hk := (F.out.keep _ (List.Mem.tail _ (List.Mem.head _)))
  obtain ⟨⟨d0, d1, d2, d3, d4, d5, d6, d7, d8, d9, dX⟩, g0, g1, g2, g3, g4, g5, g6, g7, g8, g9, gX⟩ := hen hk.1
  have hld := heap_lt' hk.1
  have hnd := hk.2
  clear hk
  go_wp2_with fail
  have hn := (Nw.start F.out.gr).put11 (B := w.heap.size) (Nat.le_refl _) (c0 := .int .i64 4) (c1 := .int .i64 0) (c2 := .string (cbs nm)) (c3 := .string ⟨#[]⟩) (c4 := .int .i64 0) (c5 := .slice none 0 0) (c6 := .int .i64 t.at_) (c7 := .int .i64 0) (c8 := .int .i64 0) (c9 := .int .i64 0) (c10 := .int .i64 0)
  exact bodyPost_ret (v := .agg #[.int .i64 4, .int .i64 0, .string (cbs nm), .string ⟨#[]⟩, .int .i64 0, .slice none 0 0, .int .i64 t.at_, .int .i64 0, .int .i64 0, .int .i64 0, .int .i64 0]) (by simp [results, Tryd.results75, go_sem, d0, d1, d2, d3, d4, d5, d6, d7, d8, d9, dX]) rfl ⟨_, _, _, _, _, _, _, _, _, _, _, _, _, rfl, Is.leaf 4 0 nm [] 0 t.at_, HH.out.fin F.out.qr hn, hn.gr⟩

set_option maxRecDepth 8000 in
set_option maxHeartbeats 4000000 in
theorem qFirst_vdead (w : World) (R : Nat) (S : Value) (ts : List RT) (s : Q) (h : Qr w R S ts s) (hv9 : Qe.is ts (Qe.name ts s).2 false [40] = false) (hok : (s.E == 0) = false) (hv0 : Qe.is ts s true [116, 114, 117, 101] = false) (hv1 : Qe.is ts s true [102, 97, 108, 115, 101] = false) (hv2 : Qe.is ts s true [110, 117, 108, 108] = false) (hv3 : Qe.is ts s true [110, 101, 119] = false) (hv4 : Qe.is ts s true [108, 101, 110] = false) (hv5 : Qe.is ts s true [114, 101, 97, 100] = false) (hv6 : Qe.is ts s false [40] = false) :
    Calls Tryd.prog 75 #[.pointer (some ⟨R, 0, none⟩)] w (QPost w.heap.size w R S ts (Ex.of 4 0 (Qe.name ts s).1 [] 0 [] (tokAt ts s.k).at_, (Qe.name ts s).2)) := by
  have HV0 := Lib.hid hv0
  have HV1 := Lib.hid hv1
  have HV2 := Lib.hid hv2
  have HV3 := Lib.hid hv3
  have HV4 := Lib.hid hv4
  have HV5 := Lib.hid hv5
  have HV6 := Lib.hid hv6
  clear hv0 hv1 hv2 hv3 hv4 hv5 hv6
  have hok2 := fun w1 hh => qOk_any w1 R S ts s hh
  rw [hok] at hok2
  have HOK := Lib.hid hok2
  have htk := fun w1 hh => qTok_any w1 R S ts s hh
  generalize tokAt ts s.k = t at htk    ⊢
  unfold tokW at htk
  have HTK := Lib.hid htk
  clear hok hok2 htk
  have hq := fun w1 hh => qName_any w1 R S ts s hh
  generalize Qe.name ts s = y at hq hv9 ⊢
  obtain ⟨nm, s1⟩ := y
  dsimp only at hq hv9 ⊢
  have HQ := Lib.hid hq
  have HV9 := Lib.hid hv9
  clear hq hv9
  have hlt := h.lt
  have HH := Lib.hid h
  have F := Lib.hid ((Fq.start h).alloc (.cells #[.int .i64 0, .int .i64 0, .string ⟨#[]⟩, .string ⟨#[]⟩, .int .i64 0, .slice none 0 0, .int .i64 0, .int .i64 0, .int .i64 0, .int .i64 0, .int .i64 0] 39))
  clear h 
  go_enter Tryd.func75, Tryd.ntmps75
  go_wp2_with fail
  refine (HTK.out _ F.out.qr).mono ?_
  rintro e u1 ⟨rfl, hb⟩
  have F2 := Lib.hid (F.out.go hb)
  clear F
  have F := F2
  clear F2
  clear hb
  have hNB0 := heap_lt' (F.out.keep _ (List.Mem.head _)).1
  go_wp2_with fail
  have F2 := Lib.hid (F.out.alloc (.cells #[.int .i64 t.kind, .string (cbs t.text), .int .i64 t.num, .int .i64 t.at_] 51))
  clear F
  have F := F2
  clear F2
  have hk := (F.out.keep _ (List.Mem.head _))
  obtain ⟨⟨t0, t1, t2, t3⟩, q0, q1, q2, q3⟩ := quad hk.1
  have hlt := heap_lt' hk.1
  have hnt := hk.2
  have hmt := Ne.symm hnt
  clear hk q0 q1 q2 q3
  refine (HOK.out _ F.out.qr).mono ?_
  rintro e u2 ⟨rfl, rfl⟩
  go_wp2_with fail
  clear t0 t1 t2 t3 hlt hnt hmt
  refine (qIs_any _ R S ts _ F.out.qr ⟨#[116, 114, 117, 101]⟩ (by decide) true (by decide)).mono ?_
  rintro e u3 ⟨rfl, hb⟩
  have F2 := Lib.hid (F.out.go hb)
  clear F
  have F := F2
  clear F2
  clear hb
  try rw [HV0.out]
  have hk := (F.out.keep _ (List.Mem.head _))
  obtain ⟨⟨t0, t1, t2, t3⟩, q0, q1, q2, q3⟩ := quad hk.1
  have hlt := heap_lt' hk.1
  have hnt := hk.2
  have hmt := Ne.symm hnt
  clear hk q0 q1 q2 q3
  go_wp2_with fail
  clear t0 t1 t2 t3 hlt hnt hmt
  refine (qIs_any _ R S ts _ F.out.qr ⟨#[102, 97, 108, 115, 101]⟩ (by decide) true (by decide)).mono ?_
  rintro e u4 ⟨rfl, hb⟩
  have F2 := Lib.hid (F.out.go hb)
  clear F
  have F := F2
  clear F2
  clear hb
  try rw [HV1.out]
  have hk := (F.out.keep _ (List.Mem.head _))
  obtain ⟨⟨t0, t1, t2, t3⟩, q0, q1, q2, q3⟩ := quad hk.1
  have hlt := heap_lt' hk.1
  have hnt := hk.2
  have hmt := Ne.symm hnt
  clear hk q0 q1 q2 q3
  go_wp2_with fail
  clear t0 t1 t2 t3 hlt hnt hmt
  refine (qIs_any _ R S ts _ F.out.qr ⟨#[110, 117, 108, 108]⟩ (by decide) true (by decide)).mono ?_
  rintro e u5 ⟨rfl, hb⟩
  have F2 := Lib.hid (F.out.go hb)
  clear F
  have F := F2
  clear F2
  clear hb
  try rw [HV2.out]
  have hk := (F.out.keep _ (List.Mem.head _))
  obtain ⟨⟨t0, t1, t2, t3⟩, q0, q1, q2, q3⟩ := quad hk.1
  have hlt := heap_lt' hk.1
  have hnt := hk.2
  have hmt := Ne.symm hnt
  clear hk q0 q1 q2 q3
  go_wp2_with fail
  clear t0 t1 t2 t3 hlt hnt hmt
  refine (qIs_any _ R S ts _ F.out.qr ⟨#[110, 101, 119]⟩ (by decide) true (by decide)).mono ?_
  rintro e u6 ⟨rfl, hb⟩
  have F2 := Lib.hid (F.out.go hb)
  clear F
  have F := F2
  clear F2
  clear hb
  try rw [HV3.out]
  have hk := (F.out.keep _ (List.Mem.head _))
  obtain ⟨⟨t0, t1, t2, t3⟩, q0, q1, q2, q3⟩ := quad hk.1
  have hlt := heap_lt' hk.1
  have hnt := hk.2
  have hmt := Ne.symm hnt
  clear hk q0 q1 q2 q3
  go_wp2_with fail
  clear t0 t1 t2 t3 hlt hnt hmt
  refine (qIs_any _ R S ts _ F.out.qr ⟨#[108, 101, 110]⟩ (by decide) true (by decide)).mono ?_
  rintro e u7 ⟨rfl, hb⟩
  have F2 := Lib.hid (F.out.go hb)
  clear F
  have F := F2
  clear F2
  clear hb
  try rw [HV4.out]
  have hk := (F.out.keep _ (List.Mem.head _))
  obtain ⟨⟨t0, t1, t2, t3⟩, q0, q1, q2, q3⟩ := quad hk.1
  have hlt := heap_lt' hk.1
  have hnt := hk.2
  have hmt := Ne.symm hnt
  clear hk q0 q1 q2 q3
  go_wp2_with fail
  clear t0 t1 t2 t3 hlt hnt hmt
  refine (qIs_any _ R S ts _ F.out.qr ⟨#[114, 101, 97, 100]⟩ (by decide) true (by decide)).mono ?_
  rintro e u8 ⟨rfl, hb⟩
  have F2 := Lib.hid (F.out.go hb)
  clear F
  have F := F2
  clear F2
  clear hb
  try rw [HV5.out]
  have hk := (F.out.keep _ (List.Mem.head _))
  obtain ⟨⟨t0, t1, t2, t3⟩, q0, q1, q2, q3⟩ := quad hk.1
  have hlt := heap_lt' hk.1
  have hnt := hk.2
  have hmt := Ne.symm hnt
  clear hk q0 q1 q2 q3
  go_wp2_with fail
  clear t0 t1 t2 t3 hlt hnt hmt
  refine (qIs_any _ R S ts _ F.out.qr ⟨#[40]⟩ (by decide) false (by decide)).mono ?_
  rintro e u9 ⟨rfl, hb⟩
  have F2 := Lib.hid (F.out.go hb)
  clear F
  have F := F2
  clear F2
  clear hb
  try rw [HV6.out]
  have hk := (F.out.keep _ (List.Mem.head _))
  obtain ⟨⟨t0, t1, t2, t3⟩, q0, q1, q2, q3⟩ := quad hk.1
  have hlt := heap_lt' hk.1
  have hnt := hk.2
  have hmt := Ne.symm hnt
  clear hk q0 q1 q2 q3
  go_wp2_with fail
  clear t0 t1 t2 t3 hlt hnt hmt
  refine (HQ.out _ F.out.qr).mono ?_
  rintro e u10 ⟨rfl, hr, hg⟩
  have F2 := Lib.hid (F.out.step hr hg)
  clear F
  have F := F2
  clear F2
  clear hr hg
  go_wp2_with fail
  refine (qIs_any _ R S ts _ F.out.qr ⟨#[40]⟩ (by decide) false (by decide)).mono ?_
  rintro e u11 ⟨rfl, hb⟩
  have F2 := Lib.hid (F.out.go hb)
  clear F
  have F := F2
  clear F2
  clear hb
  try rw [HV9.out]
  have hk := (F.out.keep _ (List.Mem.head _))
  obtain ⟨⟨t0, t1, t2, t3⟩, q0, q1, q2, q3⟩ := quad hk.1
  have hlt := heap_lt' hk.1
  have hnt := hk.2
  have hmt := Ne.symm hnt
  clear hk q0 q1 q2 q3
  have hk := (F.out.keep _ (List.Mem.tail _ (List.Mem.head _)))
  obtain ⟨⟨d0, d1, d2, d3, d4, d5, d6, d7, d8, d9, dX⟩, g0, g1, g2, g3, g4, g5, g6, g7, g8, g9, gX⟩ := hen hk.1
  have hld := heap_lt' hk.1
  have hnd := hk.2
  clear hk
  go_wp2_with fail
  have hn := (Nw.start F.out.gr).put11 (B := w.heap.size) (Nat.le_refl _) (c0 := .int .i64 4) (c1 := .int .i64 0) (c2 := .string (cbs nm)) (c3 := .string ⟨#[]⟩) (c4 := .int .i64 0) (c5 := .slice none 0 0) (c6 := .int .i64 t.at_) (c7 := .int .i64 0) (c8 := .int .i64 0) (c9 := .int .i64 0) (c10 := .int .i64 0)
  exact bodyPost_ret (v := .agg #[.int .i64 4, .int .i64 0, .string (cbs nm), .string ⟨#[]⟩, .int .i64 0, .slice none 0 0, .int .i64 t.at_, .int .i64 0, .int .i64 0, .int .i64 0, .int .i64 0]) (by simp [results, Tryd.results75, go_sem, d0, d1, d2, d3, d4, d5, d6, d7, d8, d9, dX]) rfl ⟨_, _, _, _, _, _, _, _, _, _, _, _, _, rfl, Is.leaf 4 0 nm [] 0 t.at_, HH.out.fin F.out.qr hn, hn.gr⟩

set_option maxRecDepth 8000 in
set_option maxHeartbeats 4000000 in
theorem qFirst_call (w : World) (R : Nat) (S : Value) (ts : List RT) (s : Q) (h : Qr w R S ts s) (rec : Nat → Q → Qe.Out) (hrec : QRecOk ts rec) (hv9 : Qe.is ts (Qe.name ts s).2 false [40] = true) (gg : Nat) (hgg : gg ≤ 1000000000) (l : List Ex) (s2 : Q) (ha : Qe.args ts rec gg (Qe.name ts s).2 = some (l, s2)) (hok : (s.E == 0) = true) (hk2 : ((tokAt ts s.k).kind == 2) = false) (hv0 : Qe.is ts s true [116, 114, 117, 101] = false) (hv1 : Qe.is ts s true [102, 97, 108, 115, 101] = false) (hv2 : Qe.is ts s true [110, 117, 108, 108] = false) (hv3 : Qe.is ts s true [110, 101, 119] = false) (hv4 : Qe.is ts s true [108, 101, 110] = false) (hv5 : Qe.is ts s true [114, 101, 97, 100] = false) (hv6 : Qe.is ts s false [40] = false) :
    Calls Tryd.prog 75 #[.pointer (some ⟨R, 0, none⟩)] w (QPost w.heap.size w R S ts (Ex.of 7 0 (Qe.name ts s).1 [] 0 l (tokAt ts s.k).at_, s2)) := by
  have HV0 := Lib.hid hv0
  have HV1 := Lib.hid hv1
  have HV2 := Lib.hid hv2
  have HV3 := Lib.hid hv3
  have HV4 := Lib.hid hv4
  have HV5 := Lib.hid hv5
  have HV6 := Lib.hid hv6
  clear hv0 hv1 hv2 hv3 hv4 hv5 hv6
  have hok2 := fun w1 hh => qOk_any w1 R S ts s hh
  rw [hok] at hok2
  have HOK := Lib.hid hok2
  have htk := fun w1 hh => qTok_any w1 R S ts s hh
  generalize tokAt ts s.k = t at htk hk2   ⊢
  unfold tokW at htk
  have HTK := Lib.hid htk
  clear hok hok2 htk
  have hq := fun w1 hh => qName_any w1 R S ts s hh
  generalize Qe.name ts s = y at hq hv9 ha ⊢
  obtain ⟨nm, s1⟩ := y
  dsimp only at hq hv9 ha ⊢
  have HA := Lib.hid (fun w1 hh => qArgs_any w1 R S ts s1 hh rec hrec gg hgg (l, s2) ha)
  have HQ := Lib.hid hq
  have HV9 := Lib.hid hv9
  clear hq hv9 hrec ha hgg
  have hlt := h.lt
  have HH := Lib.hid h
  have F := Lib.hid ((Fq.start h).alloc (.cells #[.int .i64 0, .int .i64 0, .string ⟨#[]⟩, .string ⟨#[]⟩, .int .i64 0, .slice none 0 0, .int .i64 0, .int .i64 0, .int .i64 0, .int .i64 0, .int .i64 0] 39))
  clear h 
  go_enter Tryd.func75, Tryd.ntmps75
  go_wp2_with fail
  refine (HTK.out _ F.out.qr).mono ?_
  rintro e u1 ⟨rfl, hb⟩
  have F2 := Lib.hid (F.out.go hb)
  clear F
  have F := F2
  clear F2
  clear hb
  have hNB0 := heap_lt' (F.out.keep _ (List.Mem.head _)).1
  go_wp2_with fail
  have F2 := Lib.hid (F.out.alloc (.cells #[.int .i64 t.kind, .string (cbs t.text), .int .i64 t.num, .int .i64 t.at_] 51))
  clear F
  have F := F2
  clear F2
  have hk := (F.out.keep _ (List.Mem.head _))
  obtain ⟨⟨t0, t1, t2, t3⟩, q0, q1, q2, q3⟩ := quad hk.1
  have hlt := heap_lt' hk.1
  have hnt := hk.2
  have hmt := Ne.symm hnt
  clear hk q0 q1 q2 q3
  refine (HOK.out _ F.out.qr).mono ?_
  rintro e u2 ⟨rfl, rfl⟩
  go_wp2_with fail
  clear t0 t1 t2 t3 hlt hnt hmt
  refine (qIs_any _ R S ts _ F.out.qr ⟨#[116, 114, 117, 101]⟩ (by decide) true (by decide)).mono ?_
  rintro e u3 ⟨rfl, hb⟩
  have F2 := Lib.hid (F.out.go hb)
  clear F
  have F := F2
  clear F2
  clear hb
  try rw [HV0.out]
  have hk := (F.out.keep _ (List.Mem.head _))
  obtain ⟨⟨t0, t1, t2, t3⟩, q0, q1, q2, q3⟩ := quad hk.1
  have hlt := heap_lt' hk.1
  have hnt := hk.2
  have hmt := Ne.symm hnt
  clear hk q0 q1 q2 q3
  go_wp2_with fail
  clear t0 t1 t2 t3 hlt hnt hmt
  refine (qIs_any _ R S ts _ F.out.qr ⟨#[102, 97, 108, 115, 101]⟩ (by decide) true (by decide)).mono ?_
  rintro e u4 ⟨rfl, hb⟩
  have F2 := Lib.hid (F.out.go hb)
  clear F
  have F := F2
  clear F2
  clear hb
  try rw [HV1.out]
  have hk := (F.out.keep _ (List.Mem.head _))
  obtain ⟨⟨t0, t1, t2, t3⟩, q0, q1, q2, q3⟩ := quad hk.1
  have hlt := heap_lt' hk.1
  have hnt := hk.2
  have hmt := Ne.symm hnt
  clear hk q0 q1 q2 q3
  go_wp2_with fail
  clear t0 t1 t2 t3 hlt hnt hmt
  refine (qIs_any _ R S ts _ F.out.qr ⟨#[110, 117, 108, 108]⟩ (by decide) true (by decide)).mono ?_
  rintro e u5 ⟨rfl, hb⟩
  have F2 := Lib.hid (F.out.go hb)
  clear F
  have F := F2
  clear F2
  clear hb
  try rw [HV2.out]
  have hk := (F.out.keep _ (List.Mem.head _))
  obtain ⟨⟨t0, t1, t2, t3⟩, q0, q1, q2, q3⟩ := quad hk.1
  have hlt := heap_lt' hk.1
  have hnt := hk.2
  have hmt := Ne.symm hnt
  clear hk q0 q1 q2 q3
  go_wp2_with fail
  clear t0 t1 t2 t3 hlt hnt hmt
  refine (qIs_any _ R S ts _ F.out.qr ⟨#[110, 101, 119]⟩ (by decide) true (by decide)).mono ?_
  rintro e u6 ⟨rfl, hb⟩
  have F2 := Lib.hid (F.out.go hb)
  clear F
  have F := F2
  clear F2
  clear hb
  try rw [HV3.out]
  have hk := (F.out.keep _ (List.Mem.head _))
  obtain ⟨⟨t0, t1, t2, t3⟩, q0, q1, q2, q3⟩ := quad hk.1
  have hlt := heap_lt' hk.1
  have hnt := hk.2
  have hmt := Ne.symm hnt
  clear hk q0 q1 q2 q3
  go_wp2_with fail
  clear t0 t1 t2 t3 hlt hnt hmt
  refine (qIs_any _ R S ts _ F.out.qr ⟨#[108, 101, 110]⟩ (by decide) true (by decide)).mono ?_
  rintro e u7 ⟨rfl, hb⟩
  have F2 := Lib.hid (F.out.go hb)
  clear F
  have F := F2
  clear F2
  clear hb
  try rw [HV4.out]
  have hk := (F.out.keep _ (List.Mem.head _))
  obtain ⟨⟨t0, t1, t2, t3⟩, q0, q1, q2, q3⟩ := quad hk.1
  have hlt := heap_lt' hk.1
  have hnt := hk.2
  have hmt := Ne.symm hnt
  clear hk q0 q1 q2 q3
  go_wp2_with fail
  clear t0 t1 t2 t3 hlt hnt hmt
  refine (qIs_any _ R S ts _ F.out.qr ⟨#[114, 101, 97, 100]⟩ (by decide) true (by decide)).mono ?_
  rintro e u8 ⟨rfl, hb⟩
  have F2 := Lib.hid (F.out.go hb)
  clear F
  have F := F2
  clear F2
  clear hb
  try rw [HV5.out]
  have hk := (F.out.keep _ (List.Mem.head _))
  obtain ⟨⟨t0, t1, t2, t3⟩, q0, q1, q2, q3⟩ := quad hk.1
  have hlt := heap_lt' hk.1
  have hnt := hk.2
  have hmt := Ne.symm hnt
  clear hk q0 q1 q2 q3
  go_wp2_with fail
  clear t0 t1 t2 t3 hlt hnt hmt
  refine (qIs_any _ R S ts _ F.out.qr ⟨#[40]⟩ (by decide) false (by decide)).mono ?_
  rintro e u9 ⟨rfl, hb⟩
  have F2 := Lib.hid (F.out.go hb)
  clear F
  have F := F2
  clear F2
  clear hb
  try rw [HV6.out]
  have hk := (F.out.keep _ (List.Mem.head _))
  obtain ⟨⟨t0, t1, t2, t3⟩, q0, q1, q2, q3⟩ := quad hk.1
  have hlt := heap_lt' hk.1
  have hnt := hk.2
  have hmt := Ne.symm hnt
  clear hk q0 q1 q2 q3
  go_wp2_with fail
  clear t0 t1 t2 t3 hlt hnt hmt
  refine (HQ.out _ F.out.qr).mono ?_
  rintro e u10 ⟨rfl, hr, hg⟩
  have F2 := Lib.hid (F.out.step hr hg)
  clear F
  have F := F2
  clear F2
  clear hr hg
  go_wp2_with fail
  refine (qIs_any _ R S ts _ F.out.qr ⟨#[40]⟩ (by decide) false (by decide)).mono ?_
  rintro e u11 ⟨rfl, hb⟩
  have F2 := Lib.hid (F.out.go hb)
  clear F
  have F := F2
  clear F2
  clear hb
  try rw [HV9.out]
  have hk := (F.out.keep _ (List.Mem.head _))
  obtain ⟨⟨t0, t1, t2, t3⟩, q0, q1, q2, q3⟩ := quad hk.1
  have hlt := heap_lt' hk.1
  have hnt := hk.2
  have hmt := Ne.symm hnt
  clear hk q0 q1 q2 q3
  have hk := (F.out.keep _ (List.Mem.tail _ (List.Mem.head _)))
  obtain ⟨⟨d0, d1, d2, d3, d4, d5, d6, d7, d8, d9, dX⟩, g0, g1, g2, g3, g4, g5, g6, g7, g8, g9, gX⟩ := hen hk.1
  have hld := heap_lt' hk.1
  have hnd := hk.2
  clear hk
  go_wp2_with fail
  have HLW : Hid (w.heap.size < u11.drew.heap.size) := heap_lt' (F.out.keep _ (List.Mem.tail _ (List.Mem.head _))).1
  have F2 := Lib.hid (F.out.go (Below.refl _ _).drew)
  clear F
  have F := F2
  clear F2
  have hRB := F.out.qr.lt
  have hNB := heap_lt' (F.out.keep _ (List.Mem.tail _ (List.Mem.head _))).1
  have hne := Nat.ne_of_gt hNB0
  have HK1 := Lib.hid (F.out.keep _ (List.Mem.head _)).1
  go_region_held3 (fun w' => w'.cell? ⟨u1.heap.size, 3, none⟩ = some (.int .i64 t.at_)) (with_reducible first | exact (quad HK1.out).1.2.2.2 | exact (quad HK2.out).1.2.2.2 | exact (quad (alloc_box _ HK2.out)).1.2.2.2 | exact (quad (put11_other HK2.out hne)).1.2.2.2 | exact (quad (alloc_box _ (put11_other HK2.out hne))).1.2.2.2) (first
    | (go_at_call 88; (with_reducible refine Calls.mono (HA.out _ F.out.qr) ?_); rintro e u9 ⟨ka, kc, rfl, hkid, hr, hg⟩; have F4 := Lib.hid (F.out.step hr hg); have HK2 := Lib.hid (F4.out.keep _ (List.Mem.head _)).1; clear d0 d1 d2 d3 d4 d5 d6 d7 d8 d9 dX g0 g1 g2 g3 g4 g5 g6 g7 g8 g9 gX hld hnd hr hg t0 t1 t2 t3 hnt hmt; have hk := (F4.out.keep _ (List.Mem.tail _ (List.Mem.head _))); obtain ⟨⟨v0, v1, v2, v3, v4, v5, v6, v7, v8, v9, vX⟩, p0, p1, p2, p3, p4, p5, p6, p7, p8, p9, pX⟩ := hen hk.1; have hlv := heap_lt' hk.1; have hnv := hk.2; clear hk))
  clear F HK1 HK2 hRB hNB hne
  have F := F4
  clear F4
  go_wp2_with fail
  have hn := (Nw.start F.out.gr).put11 (B := w.heap.size) (Nat.le_refl _) (c0 := .int .i64 7) (c1 := .int .i64 0) (c2 := .string (cbs nm)) (c3 := .string ⟨#[]⟩) (c4 := .int .i64 0) (c5 := .slice ka l.length kc) (c6 := .int .i64 t.at_) (c7 := .int .i64 0) (c8 := .int .i64 0) (c9 := .int .i64 0) (c10 := .int .i64 0)
  exact bodyPost_ret (v := .agg #[.int .i64 7, .int .i64 0, .string (cbs nm), .string ⟨#[]⟩, .int .i64 0, .slice ka l.length kc, .int .i64 t.at_, .int .i64 0, .int .i64 0, .int .i64 0, .int .i64 0]) (by simp [results, Tryd.results75, go_sem, v0, v1, v2, v3, v4, v5, v6, v7, v8, v9, vX]) rfl ⟨_, _, _, _, _, _, _, _, _, _, _, _, _, rfl, KidsAt.is ((KidsAt.put11 hkid HLW.out).lower (Nat.le_of_lt HLW.out)) 7 0 nm [] 0 t.at_, HH.out.fin F.out.qr hn, hn.gr⟩

theorem is_dead {ts : List RT} {s : Q} (h : (s.E == 0) = false) (wd : Bool) (t : List UInt8) : Qe.is ts s wd t = false := by unfold Qe.is; rw [h]; rfl
theorem qFirst_any (w : World) (R : Nat) (S : Value) (ts : List RT) (s : Q) (h : Qr w R S ts s) (rec : Nat → Q → Qe.Out) (hrec : QRecOk ts rec) (gg : Nat) (hgg : gg ≤ 1000000000) (x : Ex × Q) (hx : Qe.first ts rec gg s = some x) :
    Calls Tryd.prog 75 #[.pointer (some ⟨R, 0, none⟩)] w (QPost w.heap.size w R S ts x) := by
  dsimp only [Qe.first] at hx
  cases hok : (s.E == 0) with
  | true =>
    have hE : s.E = 0 := by simpa using hok
    cases hk2 : ((tokAt ts s.k).kind == 2) with
    | true =>
      rw [if_pos ⟨hE, by simpa using hk2⟩] at hx
      injection hx with hx
      subst hx
      exact qFirst_int w R S ts s h hok hk2
    | false =>
      rw [if_neg (fun hh => by rw [beq_eq_false_iff_ne] at hk2; exact hk2 hh.2)] at hx
      cases hv0 : Qe.is ts s true [116, 114, 117, 101] with
      | true =>
        rw [if_pos hv0] at hx
        injection hx with hx
        subst hx
        exact qFirst_true w R S ts s h hok hk2 hv0
      | false =>
        rw [if_neg (by rw [hv0]; decide)] at hx
        cases hv1 : Qe.is ts s true [102, 97, 108, 115, 101] with
        | true =>
          rw [if_pos hv1] at hx
          injection hx with hx
          subst hx
          exact qFirst_false w R S ts s h hok hk2 hv0 hv1
        | false =>
          rw [if_neg (by rw [hv1]; decide)] at hx
          cases hv2 : Qe.is ts s true [110, 117, 108, 108] with
          | true =>
            rw [if_pos hv2] at hx
            injection hx with hx
            subst hx
            exact qFirst_null w R S ts s h hok hk2 hv0 hv1 hv2
          | false =>
            rw [if_neg (by rw [hv2]; decide)] at hx
            cases hv3 : Qe.is ts s true [110, 101, 119] with
            | true =>
              rw [if_pos hv3] at hx
              exact qFirst_new w R S ts s h rec hrec x hx hok hk2 hv0 hv1 hv2 hv3
            | false =>
              rw [if_neg (by rw [hv3]; decide)] at hx
              cases hv4 : Qe.is ts s true [108, 101, 110] with
              | true =>
                rw [if_pos hv4] at hx
                split at hx
                · cases hx
                · rename_i e0 s2 he
                  injection hx with hx
                  subst hx
                  exact qFirst_len w R S ts s h rec hrec e0 s2 he hok hk2 hv0 hv1 hv2 hv3 hv4
              | false =>
                rw [if_neg (by rw [hv4]; decide)] at hx
                cases hv5 : Qe.is ts s true [114, 101, 97, 100] with
                | true =>
                  rw [if_pos hv5] at hx
                  injection hx with hx
                  subst hx
                  exact qFirst_read w R S ts s h hok hk2 hv0 hv1 hv2 hv3 hv4 hv5
                | false =>
                  rw [if_neg (by rw [hv5]; decide)] at hx
                  cases hv6 : Qe.is ts s false [40] with
                  | true =>
                    rw [if_pos hv6] at hx
                    exact qFirst_paren w R S ts s h rec hrec x hx hok hk2 hv0 hv1 hv2 hv3 hv4 hv5 hv6
                  | false =>
                    rw [if_neg (by rw [hv6]; decide)] at hx
                    cases hv9 : Qe.is ts (Qe.name ts s).2 false [40] with
                    | true =>
                      rw [if_pos hv9] at hx
                      split at hx
                      · cases hx
                      · rename_i l s2 ha
                        injection hx with hx
                        subst hx
                        exact qFirst_call w R S ts s h rec hrec hv9 gg hgg l s2 ha hok hk2 hv0 hv1 hv2 hv3 hv4 hv5 hv6
                    | false =>
                      rw [if_neg (by rw [hv9]; decide)] at hx
                      injection hx with hx
                      subst hx
                      exact qFirst_var w R S ts s h hv9 hok hk2 hv0 hv1 hv2 hv3 hv4 hv5 hv6
  | false =>
    have hE : ¬ s.E = 0 := by simpa using hok
    have hd := fun wd t => is_dead (ts := ts) hok wd t
    have hv9 : Qe.is ts (Qe.name ts s).2 false [40] = false := by
      unfold Qe.name Qe.fail
      rw [if_neg (fun hh => hE hh.1), if_neg hE]
      exact hd _ _
    rw [if_neg (fun hh => hE hh.1)] at hx
    simp only [hd, hv9, Bool.false_eq_true, if_false, Option.some.injEq] at hx
    subst hx
    exact qFirst_vdead w R S ts s h hv9 hok (hd _ _) (hd _ _) (hd _ _) (hd _ _) (hd _ _) (hd _ _) (hd _ _)
end Go.Proofs.YtnadaedibicaaaaDoor
