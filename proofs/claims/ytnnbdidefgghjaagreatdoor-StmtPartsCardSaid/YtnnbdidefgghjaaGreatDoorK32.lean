/-
  The answer's reader of statements (runrigref3), its contracts over the plain machine: a statement by its first word.
-/
import Derived.Test.YtnnbdidefgghjaaGreatDoorK31
namespace Go.Proofs.YtnnbdidefgghjaaGreatDoor
open Go.RowKit
open Px (RT tokAt isT)
open Pe (inc dec Ex)
open Qe (Q)
open Ps (Sm kindOf nameOf)

set_option maxRecDepth 8000 in
set_option maxHeartbeats 8000000 in
theorem qst_var (w : World) (R : Nat) (S : Value) (ts : List RT) (s : Q) (h : Qr w R S ts s) (nm : List UInt8) (s1 : Q) (on : List UInt8) (dm : Nat) (s2 : Q) (hn : Qe.name ts (Qe.next s) = (nm, s1)) (ho : Qe.of ts (Qe.take ts s1 false [58]) = (on, dm, s2)) (hv0 : Qe.is ts s true [118, 97, 114] = true) :
    Calls Tryz.prog 38 #[.pointer (some ⟨R, 0, none⟩)] w (QStPost w R S ts (.mk 1 nm on dm [] [] [] (tokAt ts s.k).at_ 0, Qe.take ts s2 false [59])) := by
  have HV0 := Lib.hid hv0
  have HN := Lib.hid hn
  clear hn
  have HO := Lib.hid ho
  clear ho
  have htk := fun w1 hh => qTok_any w1 R S ts s hh
  have htx : ((cbs (tokAt ts s.k).text).toList == [108, 101, 116]) = false := by rw [cbs_list, (is_text hv0).2.2]; rfl
  generalize tokAt ts s.k = t at htk htx  ⊢
  unfold tokW at htk
  have HTK := Lib.hid htk
  clear htk hv0
  have hlt := h.lt
  have HH := Lib.hid h
  have F := Lib.hid ((Fr.ofq h).alloc (.cells #[.int .i64 0, .string ⟨#[]⟩, .string ⟨#[]⟩, .int .i64 0, .slice none 0 0, .slice none 0 0, .slice none 0 0, .int .i64 0, .int .i64 0] 38))
  clear h
  go_enter Tryz.func38, Tryz.ntmps38
  go_wp2_with fail
  refine (HTK.out _ F.out.qr).mono ?_
  rintro e u1 ⟨rfl, hb⟩
  have F2 := Lib.hid (F.out.go hb)
  clear F
  have F := F2
  clear F2
  clear hb
  go_wp2_with fail
  have F2 := Lib.hid (F.out.alloc (.cells #[.int .i64 t.kind, .string (cbs t.text), .int .i64 t.num, .int .i64 t.at_] 47))
  clear F
  have F := F2
  clear F2
  have hnTZ := Nat.ne_of_gt ((List.pairwise_cons.1 F.out.nd).1 _ (List.Mem.head _))
  have hnZT := Ne.symm hnTZ
  dsimp only at hnTZ hnZT
  have F2 := Lib.hid (F.out.alloc2 (.cells #[.int .i64 0, .string ⟨#[]⟩, .string ⟨#[]⟩, .int .i64 0, .slice none 0 0, .slice none 0 0, .slice none 0 0, .int .i64 t.at_, .int .i64 0] 38) (b := u1.heap.size + 1) (size_alloc _ _))
  clear F
  have F := F2
  clear F2
  have hnsT := Nat.ne_of_gt ((List.pairwise_cons.1 F.out.nd).1 _ (List.Mem.head _))
  have hnTs := Ne.symm hnsT
  dsimp only at hnsT hnTs
  have hnsZ := Nat.ne_of_gt ((List.pairwise_cons.1 F.out.nd).1 _ (List.Mem.tail _ (List.Mem.head _)))
  have hnZs := Ne.symm hnsZ
  dsimp only at hnsZ hnZs
  refine (qIs_any _ R S ts _ F.out.qr ⟨#[118, 97, 114]⟩ (by decide) true (by decide)).mono ?_
  rintro e u2 ⟨rfl, hb⟩
  have F2 := Lib.hid (F.out.go hb)
  clear F
  have F := F2
  clear F2
  clear hb
  try rw [HV0.out]
  obtain ⟨⟨c0, c1, c2, c3, c4⟩, fr, hRl⟩ := F.out.qr.cells
  have fr1 := fr 1
  clear fr
  have hRs := Nat.ne_of_lt (Nat.lt_of_lt_of_le hlt (F.out.keep _ (List.Mem.head _)).2)
  have hsR := Ne.symm hRs
  dsimp only at hRs hsR
  have hk := (F.out.keep _ (List.Mem.head _)).1
  obtain ⟨⟨a0, a1, a2, a3, a4, a5, a6, a7, a8⟩, b0, b1, b2, b3, b4, b5, b6, b7, b8⟩ := nen hk
  have hla := heap_lt' hk
  clear hk
  go_wp2_with fail
  clear c0 c1 c2 c3 c4 fr1 hRl
  clear a0 a1 a2 a3 a4 a5 a6 a7 a8 b0 b1 b2 b3 b4 b5 b6 b7 b8 hla
  clear hRs hsR
  have F2 := Lib.hid (F.out.setk)
  clear F
  have F := F2
  clear F2
  have F2 := Lib.hid (F.out.put1 0 rfl 0 (.int .i64 1) rfl)
  clear F
  have F := F2
  clear F2
  refine (qName_any _ R S ts _ F.out.qr ).mono ?_
  rw [HN.out]
  rintro e un ⟨rfl, hr, hg⟩
  have F2 : Hid (Fr w R (QrK R S ts) s1 _ _ _) := Lib.hid (F.out.step hr hg)
  clear F
  have F := F2
  clear F2
  clear hr hg
  have hk := (F.out.keep _ (List.Mem.head _)).1
  obtain ⟨⟨a0, a1, a2, a3, a4, a5, a6, a7, a8⟩, b0, b1, b2, b3, b4, b5, b6, b7, b8⟩ := nen hk
  have hla := heap_lt' hk
  clear hk
  go_wp2_with fail
  clear a0 a1 a2 a3 a4 a5 a6 a7 a8 b0 b1 b2 b3 b4 b5 b6 b7 b8 hla
  have F2 := Lib.hid (F.out.put1 0 rfl 1 (.string (cbs nm)) rfl)
  clear F
  have F := F2
  clear F2
  refine (qTake_any _ R S ts _ F.out.qr ⟨#[58]⟩ (by decide) false (by decide)).mono ?_
  rintro e u3 ⟨rfl, hr, hg⟩
  have F2 : Hid (Fr w R (QrK R S ts) (Qe.take ts s1 false [58]) _ _ _) := Lib.hid (F.out.step hr hg)
  clear F
  have F := F2
  clear F2
  clear hr hg
  go_wp2_with fail
  refine (qOf_any _ R S ts _ F.out.qr ).mono ?_
  rw [HO.out]
  rintro e uo ⟨rfl, hr, hg⟩
  have F2 : Hid (Fr w R (QrK R S ts) s2 _ _ _) := Lib.hid (F.out.step hr hg)
  clear F
  have F := F2
  clear F2
  clear hr hg
  have hk := (F.out.keep _ (List.Mem.tail _ (List.Mem.head _))).1
  obtain ⟨⟨t0, t1, t2, t3⟩, q0, q1, q2, q3⟩ := quad hk
  have hlt := heap_lt' hk
  clear hk q0 q1 q2 q3
  have hk := (F.out.keep _ (List.Mem.head _)).1
  obtain ⟨⟨a0, a1, a2, a3, a4, a5, a6, a7, a8⟩, b0, b1, b2, b3, b4, b5, b6, b7, b8⟩ := nen hk
  have hla := heap_lt' hk
  clear hk
  go_wp2_with fail
  clear t0 t1 t2 t3 hlt
  clear a0 a1 a2 a3 a4 a5 a6 a7 a8 b0 b1 b2 b3 b4 b5 b6 b7 b8 hla
  have F2 := Lib.hid (F.out.put1 0 rfl 2 (.string (cbs on)) rfl)
  clear F
  have F := F2
  clear F2
  have F2 := Lib.hid (F.out.put1 0 rfl 3 (.int .i64 (dm : Nat)) rfl)
  clear F
  have F := F2
  clear F2
  refine (qTake_any _ R S ts _ F.out.qr ⟨#[59]⟩ (by decide) false (by decide)).mono ?_
  rintro e u4 ⟨rfl, hr, hg⟩
  have F2 : Hid (Fr w R (QrK R S ts) (Qe.take ts s2 false [59]) _ _ _) := Lib.hid (F.out.step hr hg)
  clear F
  have F := F2
  clear F2
  clear hr hg
  have hk := (F.out.keep _ (List.Mem.head _)).1
  obtain ⟨⟨a0, a1, a2, a3, a4, a5, a6, a7, a8⟩, b0, b1, b2, b3, b4, b5, b6, b7, b8⟩ := nen hk
  have hla := heap_lt' hk
  clear hk
  have hk := (F.out.keep _ (List.Mem.tail _ (List.Mem.tail _ (List.Mem.head _)))).1
  obtain ⟨⟨d0, d1, d2, d3, d4, d5, d6, d7, d8⟩, g0, g1, g2, g3, g4, g5, g6, g7, g8⟩ := nen hk
  have hld := heap_lt' hk
  clear hk
  go_wp2_with fail
  have F2 := Lib.hid (F.out.put9 2 rfl (c0 := .int .i64 1) (c1 := .string (cbs nm)) (c2 := .string (cbs on)) (c3 := .int .i64 (dm : Nat)) (c4 := .slice none 0 0) (c5 := .slice none 0 0) (c6 := .slice none 0 0) (c7 := .int .i64 t.at_) (c8 := .int .i64 0))
  clear F
  have F := F2
  clear F2
  exact bodyPost_ret (v := .agg #[.int .i64 1, .string (cbs nm), .string (cbs on), .int .i64 (dm : Nat), .slice none 0 0, .slice none 0 0, .slice none 0 0, .int .i64 t.at_, .int .i64 0]) (by simp [results, Tryz.results38, go_sem, d0, d1, d2, d3, d4, d5, d6, d7, d8]) rfl ⟨1, nm, on, dm, none, 0, 0, none, 0, 0, none, 0, 0, t.at_, 0, rfl, SIs.mk KidsAt.nil SsAt.nil SsAt.nil 1 nm on dm t.at_ 0, F.out.qr, F.out.gr⟩

set_option maxRecDepth 8000 in
set_option maxHeartbeats 8000000 in
theorem qst_let (w : World) (R : Nat) (S : Value) (ts : List RT) (s : Q) (h : Qr w R S ts s) (nm : List UInt8) (s1 : Q) (on : List UInt8) (dm : Nat) (s2 : Q) (hn : Qe.name ts (Qe.next s) = (nm, s1)) (ho : Qe.of ts (Qe.take ts s1 false [58]) = (on, dm, s2)) (rx : Qs.RX) (hX : QXOk ts rx) (e0 : Ex) (s3 : Q) (he : rx (Qe.take ts s2 false [61]) = some (e0, s3)) (hv0 : Qe.is ts s true [118, 97, 114] = false) (hv1 : Qe.is ts s true [108, 101, 116] = true) :
    Calls Tryz.prog 38 #[.pointer (some ⟨R, 0, none⟩)] w (QStPost w R S ts (.mk 2 nm on dm [e0] [] [] (tokAt ts s.k).at_ 0, Qe.take ts s3 false [59])) := by
  have HV0 := Lib.hid hv0
  have HV1 := Lib.hid hv1
  have HN := Lib.hid hn
  clear hn
  have HO := Lib.hid ho
  clear ho
  have HX := Lib.hid hX
  clear hX
  have HE := Lib.hid he
  clear he
  have htk := fun w1 hh => qTok_any w1 R S ts s hh
  have htx : ((cbs (tokAt ts s.k).text).toList == [108, 101, 116]) = true := by rw [cbs_list, (is_text hv1).2.2]; rfl
  generalize tokAt ts s.k = t at htk htx  ⊢
  unfold tokW at htk
  have HTK := Lib.hid htk
  clear htk hv0 hv1
  have hlt := h.lt
  have HH := Lib.hid h
  have F := Lib.hid ((Fr.ofq h).alloc (.cells #[.int .i64 0, .string ⟨#[]⟩, .string ⟨#[]⟩, .int .i64 0, .slice none 0 0, .slice none 0 0, .slice none 0 0, .int .i64 0, .int .i64 0] 38))
  clear h
  go_enter Tryz.func38, Tryz.ntmps38
  go_wp2_with fail
  refine (HTK.out _ F.out.qr).mono ?_
  rintro e u1 ⟨rfl, hb⟩
  have F2 := Lib.hid (F.out.go hb)
  clear F
  have F := F2
  clear F2
  clear hb
  go_wp2_with fail
  have F2 := Lib.hid (F.out.alloc (.cells #[.int .i64 t.kind, .string (cbs t.text), .int .i64 t.num, .int .i64 t.at_] 47))
  clear F
  have F := F2
  clear F2
  have hnTZ := Nat.ne_of_gt ((List.pairwise_cons.1 F.out.nd).1 _ (List.Mem.head _))
  have hnZT := Ne.symm hnTZ
  dsimp only at hnTZ hnZT
  have F2 := Lib.hid (F.out.alloc2 (.cells #[.int .i64 0, .string ⟨#[]⟩, .string ⟨#[]⟩, .int .i64 0, .slice none 0 0, .slice none 0 0, .slice none 0 0, .int .i64 t.at_, .int .i64 0] 38) (b := u1.heap.size + 1) (size_alloc _ _))
  clear F
  have F := F2
  clear F2
  have hnsT := Nat.ne_of_gt ((List.pairwise_cons.1 F.out.nd).1 _ (List.Mem.head _))
  have hnTs := Ne.symm hnsT
  dsimp only at hnsT hnTs
  have hnsZ := Nat.ne_of_gt ((List.pairwise_cons.1 F.out.nd).1 _ (List.Mem.tail _ (List.Mem.head _)))
  have hnZs := Ne.symm hnsZ
  dsimp only at hnsZ hnZs
  refine (qIs_any _ R S ts _ F.out.qr ⟨#[118, 97, 114]⟩ (by decide) true (by decide)).mono ?_
  rintro e u2 ⟨rfl, hb⟩
  have F2 := Lib.hid (F.out.go hb)
  clear F
  have F := F2
  clear F2
  clear hb
  try rw [HV0.out]
  go_wp2_with fail
  refine (qIs_any _ R S ts _ F.out.qr ⟨#[108, 101, 116]⟩ (by decide) true (by decide)).mono ?_
  rintro e u3 ⟨rfl, hb⟩
  have F2 := Lib.hid (F.out.go hb)
  clear F
  have F := F2
  clear F2
  clear hb
  try rw [HV1.out]
  obtain ⟨⟨c0, c1, c2, c3, c4⟩, fr, hRl⟩ := F.out.qr.cells
  have fr1 := fr 1
  clear fr
  have hRs := Nat.ne_of_lt (Nat.lt_of_lt_of_le hlt (F.out.keep _ (List.Mem.head _)).2)
  have hsR := Ne.symm hRs
  dsimp only at hRs hsR
  have hk := (F.out.keep _ (List.Mem.head _)).1
  obtain ⟨⟨a0, a1, a2, a3, a4, a5, a6, a7, a8⟩, b0, b1, b2, b3, b4, b5, b6, b7, b8⟩ := nen hk
  have hla := heap_lt' hk
  clear hk
  go_wp2_with fail
  clear c0 c1 c2 c3 c4 fr1 hRl
  clear a0 a1 a2 a3 a4 a5 a6 a7 a8 b0 b1 b2 b3 b4 b5 b6 b7 b8 hla
  clear hRs hsR
  have F2 := Lib.hid (F.out.setk)
  clear F
  have F := F2
  clear F2
  have F2 := Lib.hid (F.out.put1 0 rfl 0 (.int .i64 1) rfl)
  clear F
  have F := F2
  clear F2
  refine (qName_any _ R S ts _ F.out.qr ).mono ?_
  rw [HN.out]
  rintro e un ⟨rfl, hr, hg⟩
  have F2 : Hid (Fr w R (QrK R S ts) s1 _ _ _) := Lib.hid (F.out.step hr hg)
  clear F
  have F := F2
  clear F2
  clear hr hg
  have hk := (F.out.keep _ (List.Mem.head _)).1
  obtain ⟨⟨a0, a1, a2, a3, a4, a5, a6, a7, a8⟩, b0, b1, b2, b3, b4, b5, b6, b7, b8⟩ := nen hk
  have hla := heap_lt' hk
  clear hk
  go_wp2_with fail
  clear a0 a1 a2 a3 a4 a5 a6 a7 a8 b0 b1 b2 b3 b4 b5 b6 b7 b8 hla
  have F2 := Lib.hid (F.out.put1 0 rfl 1 (.string (cbs nm)) rfl)
  clear F
  have F := F2
  clear F2
  refine (qTake_any _ R S ts _ F.out.qr ⟨#[58]⟩ (by decide) false (by decide)).mono ?_
  rintro e u4 ⟨rfl, hr, hg⟩
  have F2 : Hid (Fr w R (QrK R S ts) (Qe.take ts s1 false [58]) _ _ _) := Lib.hid (F.out.step hr hg)
  clear F
  have F := F2
  clear F2
  clear hr hg
  go_wp2_with fail
  refine (qOf_any _ R S ts _ F.out.qr ).mono ?_
  rw [HO.out]
  rintro e uo ⟨rfl, hr, hg⟩
  have F2 : Hid (Fr w R (QrK R S ts) s2 _ _ _) := Lib.hid (F.out.step hr hg)
  clear F
  have F := F2
  clear F2
  clear hr hg
  have hk := (F.out.keep _ (List.Mem.tail _ (List.Mem.head _))).1
  obtain ⟨⟨t0, t1, t2, t3⟩, q0, q1, q2, q3⟩ := quad hk
  have hlt := heap_lt' hk
  clear hk q0 q1 q2 q3
  have hk := (F.out.keep _ (List.Mem.head _)).1
  obtain ⟨⟨a0, a1, a2, a3, a4, a5, a6, a7, a8⟩, b0, b1, b2, b3, b4, b5, b6, b7, b8⟩ := nen hk
  have hla := heap_lt' hk
  clear hk
  go_wp2_with fail
  clear t0 t1 t2 t3 hlt
  clear a0 a1 a2 a3 a4 a5 a6 a7 a8 b0 b1 b2 b3 b4 b5 b6 b7 b8 hla
  have F2 := Lib.hid (F.out.put1 0 rfl 2 (.string (cbs on)) rfl)
  clear F
  have F := F2
  clear F2
  have F2 := Lib.hid (F.out.put1 0 rfl 3 (.int .i64 (dm : Nat)) rfl)
  clear F
  have F := F2
  clear F2
  have F2 := Lib.hid (F.out.put1 0 rfl 0 (.int .i64 2) rfl)
  clear F
  have F := F2
  clear F2
  refine (qTake_any _ R S ts _ F.out.qr ⟨#[61]⟩ (by decide) false (by decide)).mono ?_
  rintro e u5 ⟨rfl, hr, hg⟩
  have F2 : Hid (Fr w R (QrK R S ts) (Qe.take ts s2 false [61]) _ _ _) := Lib.hid (F.out.step hr hg)
  clear F
  have F := F2
  clear F2
  clear hr hg
  go_wp2_with fail
  refine (HX.out _ _ HE.out _ R S F.out.qr).mono ?_
  rintro e u6 ⟨qk, qn, qs, qo, qd, qp, ql, qc, qa, qb, qr, qe, qf, rfl, hi, hr, hg⟩
  have Hq := Lib.hid hi
  have F2 := Lib.hid (F.out.call hr hg)
  clear F
  have F := F2
  clear F2
  clear hi hr hg
  have hk := (F.out.keep _ (List.Mem.head _)).1
  obtain ⟨⟨a0, a1, a2, a3, a4, a5, a6, a7, a8⟩, b0, b1, b2, b3, b4, b5, b6, b7, b8⟩ := nen hk
  have hla := heap_lt' hk
  clear hk
  go_wp2_with fail
  clear a0 a1 a2 a3 a4 a5 a6 a7 a8 b0 b1 b2 b3 b4 b5 b6 b7 b8 hla
  have F2 := Lib.hid (F.out.put1 0 rfl 4 (.slice (some ⟨u6.heap.size, 0, none⟩) 1 1) rfl)
  clear F
  have F := F2
  clear F2
  have F2 := Lib.hid (F.out.alloc2 (.cells #[.int .i64 qk, .int .i64 qn, .string (cbs qs), .string (cbs qo), .int .i64 qd, .slice qp ql qc, .int .i64 qa, .int .i64 qb, .int .i64 qr, .int .i64 qe, .int .i64 qf] 73) (b := u6.heap.size) (by simp only [size_set]))
  clear F
  have F := F2
  clear F2
  have hnrows := Nat.ne_of_gt ((List.pairwise_cons.1 F.out.nd).1 _ (List.Mem.head _))
  have hnsrow := Ne.symm hnrows
  dsimp only at hnrows hnsrow
  have hnrowT := Nat.ne_of_gt ((List.pairwise_cons.1 F.out.nd).1 _ (List.Mem.tail _ (List.Mem.head _)))
  have hnTrow := Ne.symm hnrowT
  dsimp only at hnrowT hnTrow
  have hnrowZ := Nat.ne_of_gt ((List.pairwise_cons.1 F.out.nd).1 _ (List.Mem.tail _ (List.Mem.tail _ (List.Mem.head _))))
  have hnZrow := Ne.symm hnrowZ
  dsimp only at hnrowZ hnZrow
  refine (qTake_any _ R S ts _ F.out.qr ⟨#[59]⟩ (by decide) false (by decide)).mono ?_
  rintro e u7 ⟨rfl, hr, hg⟩
  have F2 : Hid (Fr w R (QrK R S ts) (Qe.take ts s3 false [59]) _ _ _) := Lib.hid (F.out.step hr hg)
  clear F
  have F := F2
  clear F2
  clear hr hg
  have hk := (F.out.keep _ (List.Mem.tail _ (List.Mem.head _))).1
  obtain ⟨⟨a0, a1, a2, a3, a4, a5, a6, a7, a8⟩, b0, b1, b2, b3, b4, b5, b6, b7, b8⟩ := nen hk
  have hla := heap_lt' hk
  clear hk
  have hk := (F.out.keep _ (List.Mem.tail _ (List.Mem.tail _ (List.Mem.tail _ (List.Mem.head _))))).1
  obtain ⟨⟨d0, d1, d2, d3, d4, d5, d6, d7, d8⟩, g0, g1, g2, g3, g4, g5, g6, g7, g8⟩ := nen hk
  have hld := heap_lt' hk
  clear hk
  go_wp2_with fail
  have F2 := Lib.hid (F.out.put9 3 rfl (c0 := .int .i64 2) (c1 := .string (cbs nm)) (c2 := .string (cbs on)) (c3 := .int .i64 (dm : Nat)) (c4 := .slice (some ⟨u6.heap.size, 0, none⟩) 1 1) (c5 := .slice none 0 0) (c6 := .slice none 0 0) (c7 := .int .i64 t.at_) (c8 := .int .i64 0))
  clear F
  have F := F2
  clear F2
  exact bodyPost_ret (v := .agg #[.int .i64 2, .string (cbs nm), .string (cbs on), .int .i64 (dm : Nat), .slice (some ⟨u6.heap.size, 0, none⟩) 1 1, .slice none 0 0, .slice none 0 0, .int .i64 t.at_, .int .i64 0]) (by simp [results, Tryz.results38, go_sem, d0, d1, d2, d3, d4, d5, d6, d7, d8]) rfl ⟨2, nm, on, dm, some ⟨u6.heap.size, 0, none⟩, 1, 1, none, 0, 0, none, 0, 0, t.at_, 0, rfl, SIs.mk (KidsAt.one (F.out.keep _ (List.Mem.head _)).1 (F.out.keep _ (List.Mem.head _)).2 (Is.lower (F.out.ag _ (List.Mem.head _)).2 _ (Hq.out.ag (F.out.ag _ (List.Mem.head _)).1)) rfl) SsAt.nil SsAt.nil 2 nm on dm t.at_ 0, F.out.qr, F.out.gr⟩

set_option maxRecDepth 8000 in
set_option maxHeartbeats 8000000 in
theorem qst_if (w : World) (R : Nat) (S : Value) (ts : List RT) (s : Q) (h : Qr w R S ts s) (rx : Qs.RX) (hX : QXOk ts rx) (recB : Q → Qs.OutB) (hB : QBlOk ts recB) (e0 : Ex) (s1 : Q) (he : rx (Qe.next s) = some (e0, s1)) (l1 : List Sm) (s2 : Q) (hb1 : recB s1 = some (l1, s2)) (hI : Qe.is ts s2 true [101, 108, 115, 101] = false) (hv0 : Qe.is ts s true [118, 97, 114] = false) (hv1 : Qe.is ts s true [108, 101, 116] = false) (hv2 : Qe.is ts s true [105, 102] = true) :
    Calls Tryz.prog 38 #[.pointer (some ⟨R, 0, none⟩)] w (QStPost w R S ts (.mk 5 [] [] 0 [e0] l1 [] (tokAt ts s.k).at_ 0, s2)) := by
  have HV0 := Lib.hid hv0
  have HV1 := Lib.hid hv1
  have HV2 := Lib.hid hv2
  have HX := Lib.hid hX
  clear hX
  have HBK := Lib.hid hB
  clear hB
  have HE := Lib.hid he
  clear he
  have HB1 := Lib.hid hb1
  clear hb1
  have HI := Lib.hid hI
  clear hI
  have htk := fun w1 hh => qTok_any w1 R S ts s hh
  generalize tokAt ts s.k = t at htk   ⊢
  unfold tokW at htk
  have HTK := Lib.hid htk
  clear htk hv0 hv1 hv2
  have hlt := h.lt
  have HH := Lib.hid h
  have F := Lib.hid ((Fr.ofq h).alloc (.cells #[.int .i64 0, .string ⟨#[]⟩, .string ⟨#[]⟩, .int .i64 0, .slice none 0 0, .slice none 0 0, .slice none 0 0, .int .i64 0, .int .i64 0] 38))
  clear h
  go_enter Tryz.func38, Tryz.ntmps38
  go_wp2_with fail
  refine (HTK.out _ F.out.qr).mono ?_
  rintro e u1 ⟨rfl, hb⟩
  have F2 := Lib.hid (F.out.go hb)
  clear F
  have F := F2
  clear F2
  clear hb
  go_wp2_with fail
  have F2 := Lib.hid (F.out.alloc (.cells #[.int .i64 t.kind, .string (cbs t.text), .int .i64 t.num, .int .i64 t.at_] 47))
  clear F
  have F := F2
  clear F2
  have hnTZ := Nat.ne_of_gt ((List.pairwise_cons.1 F.out.nd).1 _ (List.Mem.head _))
  have hnZT := Ne.symm hnTZ
  dsimp only at hnTZ hnZT
  have F2 := Lib.hid (F.out.alloc2 (.cells #[.int .i64 0, .string ⟨#[]⟩, .string ⟨#[]⟩, .int .i64 0, .slice none 0 0, .slice none 0 0, .slice none 0 0, .int .i64 t.at_, .int .i64 0] 38) (b := u1.heap.size + 1) (size_alloc _ _))
  clear F
  have F := F2
  clear F2
  have hnsT := Nat.ne_of_gt ((List.pairwise_cons.1 F.out.nd).1 _ (List.Mem.head _))
  have hnTs := Ne.symm hnsT
  dsimp only at hnsT hnTs
  have hnsZ := Nat.ne_of_gt ((List.pairwise_cons.1 F.out.nd).1 _ (List.Mem.tail _ (List.Mem.head _)))
  have hnZs := Ne.symm hnsZ
  dsimp only at hnsZ hnZs
  refine (qIs_any _ R S ts _ F.out.qr ⟨#[118, 97, 114]⟩ (by decide) true (by decide)).mono ?_
  rintro e u2 ⟨rfl, hb⟩
  have F2 := Lib.hid (F.out.go hb)
  clear F
  have F := F2
  clear F2
  clear hb
  try rw [HV0.out]
  go_wp2_with fail
  refine (qIs_any _ R S ts _ F.out.qr ⟨#[108, 101, 116]⟩ (by decide) true (by decide)).mono ?_
  rintro e u3 ⟨rfl, hb⟩
  have F2 := Lib.hid (F.out.go hb)
  clear F
  have F := F2
  clear F2
  clear hb
  try rw [HV1.out]
  go_wp2_with fail
  refine (qIs_any _ R S ts _ F.out.qr ⟨#[105, 102]⟩ (by decide) true (by decide)).mono ?_
  rintro e u4 ⟨rfl, hb⟩
  have F2 := Lib.hid (F.out.go hb)
  clear F
  have F := F2
  clear F2
  clear hb
  try rw [HV2.out]
  obtain ⟨⟨c0, c1, c2, c3, c4⟩, fr, hRl⟩ := F.out.qr.cells
  have fr1 := fr 1
  clear fr
  have hRs := Nat.ne_of_lt (Nat.lt_of_lt_of_le hlt (F.out.keep _ (List.Mem.head _)).2)
  have hsR := Ne.symm hRs
  dsimp only at hRs hsR
  have hk := (F.out.keep _ (List.Mem.head _)).1
  obtain ⟨⟨a0, a1, a2, a3, a4, a5, a6, a7, a8⟩, b0, b1, b2, b3, b4, b5, b6, b7, b8⟩ := nen hk
  have hla := heap_lt' hk
  clear hk
  go_wp2_with fail
  clear c0 c1 c2 c3 c4 fr1 hRl
  clear a0 a1 a2 a3 a4 a5 a6 a7 a8 b0 b1 b2 b3 b4 b5 b6 b7 b8 hla
  clear hRs hsR
  have F2 := Lib.hid (F.out.setk)
  clear F
  have F := F2
  clear F2
  have F2 := Lib.hid (F.out.put1 0 rfl 0 (.int .i64 5) rfl)
  clear F
  have F := F2
  clear F2
  refine (HX.out _ _ HE.out _ R S F.out.qr).mono ?_
  rintro e u5 ⟨qk, qn, qs, qo, qd, qp, ql, qc, qa, qb, qr, qe, qf, rfl, hi, hr, hg⟩
  have Hq := Lib.hid hi
  have F2 := Lib.hid (F.out.call hr hg)
  clear F
  have F := F2
  clear F2
  clear hi hr hg
  have hk := (F.out.keep _ (List.Mem.head _)).1
  obtain ⟨⟨a0, a1, a2, a3, a4, a5, a6, a7, a8⟩, b0, b1, b2, b3, b4, b5, b6, b7, b8⟩ := nen hk
  have hla := heap_lt' hk
  clear hk
  go_wp2_with fail
  clear a0 a1 a2 a3 a4 a5 a6 a7 a8 b0 b1 b2 b3 b4 b5 b6 b7 b8 hla
  have F2 := Lib.hid (F.out.put1 0 rfl 4 (.slice (some ⟨u5.heap.size, 0, none⟩) 1 1) rfl)
  clear F
  have F := F2
  clear F2
  have F2 := Lib.hid (F.out.alloc2 (.cells #[.int .i64 qk, .int .i64 qn, .string (cbs qs), .string (cbs qo), .int .i64 qd, .slice qp ql qc, .int .i64 qa, .int .i64 qb, .int .i64 qr, .int .i64 qe, .int .i64 qf] 73) (b := u5.heap.size) (by simp only [size_set]))
  clear F
  have F := F2
  clear F2
  have hnrows := Nat.ne_of_gt ((List.pairwise_cons.1 F.out.nd).1 _ (List.Mem.head _))
  have hnsrow := Ne.symm hnrows
  dsimp only at hnrows hnsrow
  have hnrowT := Nat.ne_of_gt ((List.pairwise_cons.1 F.out.nd).1 _ (List.Mem.tail _ (List.Mem.head _)))
  have hnTrow := Ne.symm hnrowT
  dsimp only at hnrowT hnTrow
  have hnrowZ := Nat.ne_of_gt ((List.pairwise_cons.1 F.out.nd).1 _ (List.Mem.tail _ (List.Mem.tail _ (List.Mem.head _))))
  have hnZrow := Ne.symm hnrowZ
  dsimp only at hnrowZ hnZrow
  refine (HBK.out _ _ HB1.out _ R S F.out.qr).mono ?_
  rintro e u6 ⟨xp, xc, rfl, hk, hr, hg⟩
  have Hbx := Lib.hid hk
  have F2 := Lib.hid (F.out.call hr hg)
  clear F
  have F := F2
  clear F2
  clear hk hr hg
  have hk := (F.out.keep _ (List.Mem.tail _ (List.Mem.head _))).1
  obtain ⟨⟨a0, a1, a2, a3, a4, a5, a6, a7, a8⟩, b0, b1, b2, b3, b4, b5, b6, b7, b8⟩ := nen hk
  have hla := heap_lt' hk
  clear hk
  go_wp2_with fail
  clear a0 a1 a2 a3 a4 a5 a6 a7 a8 b0 b1 b2 b3 b4 b5 b6 b7 b8 hla
  have F2 := Lib.hid (F.out.put1 1 rfl 5 (.slice xp l1.length (l1.length + xc)) rfl)
  clear F
  have F := F2
  clear F2
  refine (qIs_any _ R S ts _ F.out.qr ⟨#[101, 108, 115, 101]⟩ (by decide) true (by decide)).mono ?_
  rintro e u7 ⟨rfl, hb⟩
  have F2 := Lib.hid (F.out.go hb)
  clear F
  have F := F2
  clear F2
  clear hb
  try rw [HI.out]
  have hk := (F.out.keep _ (List.Mem.tail _ (List.Mem.head _))).1
  obtain ⟨⟨a0, a1, a2, a3, a4, a5, a6, a7, a8⟩, b0, b1, b2, b3, b4, b5, b6, b7, b8⟩ := nen hk
  have hla := heap_lt' hk
  clear hk
  have hk := (F.out.keep _ (List.Mem.tail _ (List.Mem.tail _ (List.Mem.tail _ (List.Mem.head _))))).1
  obtain ⟨⟨d0, d1, d2, d3, d4, d5, d6, d7, d8⟩, g0, g1, g2, g3, g4, g5, g6, g7, g8⟩ := nen hk
  have hld := heap_lt' hk
  clear hk
  go_wp2_with fail
  have F2 := Lib.hid (F.out.put9 3 rfl (c0 := .int .i64 5) (c1 := .string ⟨#[]⟩) (c2 := .string ⟨#[]⟩) (c3 := .int .i64 0) (c4 := .slice (some ⟨u5.heap.size, 0, none⟩) 1 1) (c5 := .slice xp l1.length (l1.length + xc)) (c6 := .slice none 0 0) (c7 := .int .i64 t.at_) (c8 := .int .i64 0))
  clear F
  have F := F2
  clear F2
  exact bodyPost_ret (v := .agg #[.int .i64 5, .string ⟨#[]⟩, .string ⟨#[]⟩, .int .i64 0, .slice (some ⟨u5.heap.size, 0, none⟩) 1 1, .slice xp l1.length (l1.length + xc), .slice none 0 0, .int .i64 t.at_, .int .i64 0]) (by simp [results, Tryz.results38, go_sem, d0, d1, d2, d3, d4, d5, d6, d7, d8]) rfl ⟨5, [], [], 0, some ⟨u5.heap.size, 0, none⟩, 1, 1, xp, l1.length, (l1.length + xc), none, 0, 0, t.at_, 0, rfl, SIs.mk (KidsAt.one (F.out.keep _ (List.Mem.head _)).1 (F.out.keep _ (List.Mem.head _)).2 (Is.lower (F.out.ag _ (List.Mem.tail _ (List.Mem.head _))).2 _ (Hq.out.ag (F.out.ag _ (List.Mem.tail _ (List.Mem.head _))).1)) rfl) (SsAt.lower (Hbx.out.ag (F.out.ag _ (List.Mem.head _)).1) (F.out.ag _ (List.Mem.head _)).2) SsAt.nil 5 [] [] 0 t.at_ 0, F.out.qr, F.out.gr⟩

set_option maxRecDepth 8000 in
set_option maxHeartbeats 8000000 in
theorem qst_if_else (w : World) (R : Nat) (S : Value) (ts : List RT) (s : Q) (h : Qr w R S ts s) (rx : Qs.RX) (hX : QXOk ts rx) (recB : Q → Qs.OutB) (hB : QBlOk ts recB) (e0 : Ex) (s1 : Q) (he : rx (Qe.next s) = some (e0, s1)) (l1 : List Sm) (s2 : Q) (hb1 : recB s1 = some (l1, s2)) (hI : Qe.is ts s2 true [101, 108, 115, 101] = true) (l2 : List Sm) (s3 : Q) (hb2 : recB (Qe.next s2) = some (l2, s3)) (hv0 : Qe.is ts s true [118, 97, 114] = false) (hv1 : Qe.is ts s true [108, 101, 116] = false) (hv2 : Qe.is ts s true [105, 102] = true) :
    Calls Tryz.prog 38 #[.pointer (some ⟨R, 0, none⟩)] w (QStPost w R S ts (.mk 5 [] [] 0 [e0] l1 l2 (tokAt ts s.k).at_ 0, s3)) := by
  have HV0 := Lib.hid hv0
  have HV1 := Lib.hid hv1
  have HV2 := Lib.hid hv2
  have HX := Lib.hid hX
  clear hX
  have HBK := Lib.hid hB
  clear hB
  have HE := Lib.hid he
  clear he
  have HB1 := Lib.hid hb1
  clear hb1
  have HI := Lib.hid hI
  clear hI
  have HB2 := Lib.hid hb2
  clear hb2
  have htk := fun w1 hh => qTok_any w1 R S ts s hh
  generalize tokAt ts s.k = t at htk   ⊢
  unfold tokW at htk
  have HTK := Lib.hid htk
  clear htk hv0 hv1 hv2
  have hlt := h.lt
  have HH := Lib.hid h
  have F := Lib.hid ((Fr.ofq h).alloc (.cells #[.int .i64 0, .string ⟨#[]⟩, .string ⟨#[]⟩, .int .i64 0, .slice none 0 0, .slice none 0 0, .slice none 0 0, .int .i64 0, .int .i64 0] 38))
  clear h
  go_enter Tryz.func38, Tryz.ntmps38
  go_wp2_with fail
  refine (HTK.out _ F.out.qr).mono ?_
  rintro e u1 ⟨rfl, hb⟩
  have F2 := Lib.hid (F.out.go hb)
  clear F
  have F := F2
  clear F2
  clear hb
  go_wp2_with fail
  have F2 := Lib.hid (F.out.alloc (.cells #[.int .i64 t.kind, .string (cbs t.text), .int .i64 t.num, .int .i64 t.at_] 47))
  clear F
  have F := F2
  clear F2
  have hnTZ := Nat.ne_of_gt ((List.pairwise_cons.1 F.out.nd).1 _ (List.Mem.head _))
  have hnZT := Ne.symm hnTZ
  dsimp only at hnTZ hnZT
  have F2 := Lib.hid (F.out.alloc2 (.cells #[.int .i64 0, .string ⟨#[]⟩, .string ⟨#[]⟩, .int .i64 0, .slice none 0 0, .slice none 0 0, .slice none 0 0, .int .i64 t.at_, .int .i64 0] 38) (b := u1.heap.size + 1) (size_alloc _ _))
  clear F
  have F := F2
  clear F2
  have hnsT := Nat.ne_of_gt ((List.pairwise_cons.1 F.out.nd).1 _ (List.Mem.head _))
  have hnTs := Ne.symm hnsT
  dsimp only at hnsT hnTs
  have hnsZ := Nat.ne_of_gt ((List.pairwise_cons.1 F.out.nd).1 _ (List.Mem.tail _ (List.Mem.head _)))
  have hnZs := Ne.symm hnsZ
  dsimp only at hnsZ hnZs
  refine (qIs_any _ R S ts _ F.out.qr ⟨#[118, 97, 114]⟩ (by decide) true (by decide)).mono ?_
  rintro e u2 ⟨rfl, hb⟩
  have F2 := Lib.hid (F.out.go hb)
  clear F
  have F := F2
  clear F2
  clear hb
  try rw [HV0.out]
  go_wp2_with fail
  refine (qIs_any _ R S ts _ F.out.qr ⟨#[108, 101, 116]⟩ (by decide) true (by decide)).mono ?_
  rintro e u3 ⟨rfl, hb⟩
  have F2 := Lib.hid (F.out.go hb)
  clear F
  have F := F2
  clear F2
  clear hb
  try rw [HV1.out]
  go_wp2_with fail
  refine (qIs_any _ R S ts _ F.out.qr ⟨#[105, 102]⟩ (by decide) true (by decide)).mono ?_
  rintro e u4 ⟨rfl, hb⟩
  have F2 := Lib.hid (F.out.go hb)
  clear F
  have F := F2
  clear F2
  clear hb
  try rw [HV2.out]
  obtain ⟨⟨c0, c1, c2, c3, c4⟩, fr, hRl⟩ := F.out.qr.cells
  have fr1 := fr 1
  clear fr
  have hRs := Nat.ne_of_lt (Nat.lt_of_lt_of_le hlt (F.out.keep _ (List.Mem.head _)).2)
  have hsR := Ne.symm hRs
  dsimp only at hRs hsR
  have hk := (F.out.keep _ (List.Mem.head _)).1
  obtain ⟨⟨a0, a1, a2, a3, a4, a5, a6, a7, a8⟩, b0, b1, b2, b3, b4, b5, b6, b7, b8⟩ := nen hk
  have hla := heap_lt' hk
  clear hk
  go_wp2_with fail
  clear c0 c1 c2 c3 c4 fr1 hRl
  clear a0 a1 a2 a3 a4 a5 a6 a7 a8 b0 b1 b2 b3 b4 b5 b6 b7 b8 hla
  clear hRs hsR
  have F2 := Lib.hid (F.out.setk)
  clear F
  have F := F2
  clear F2
  have F2 := Lib.hid (F.out.put1 0 rfl 0 (.int .i64 5) rfl)
  clear F
  have F := F2
  clear F2
  refine (HX.out _ _ HE.out _ R S F.out.qr).mono ?_
  rintro e u5 ⟨qk, qn, qs, qo, qd, qp, ql, qc, qa, qb, qr, qe, qf, rfl, hi, hr, hg⟩
  have Hq := Lib.hid hi
  have F2 := Lib.hid (F.out.call hr hg)
  clear F
  have F := F2
  clear F2
  clear hi hr hg
  have hk := (F.out.keep _ (List.Mem.head _)).1
  obtain ⟨⟨a0, a1, a2, a3, a4, a5, a6, a7, a8⟩, b0, b1, b2, b3, b4, b5, b6, b7, b8⟩ := nen hk
  have hla := heap_lt' hk
  clear hk
  go_wp2_with fail
  clear a0 a1 a2 a3 a4 a5 a6 a7 a8 b0 b1 b2 b3 b4 b5 b6 b7 b8 hla
  have F2 := Lib.hid (F.out.put1 0 rfl 4 (.slice (some ⟨u5.heap.size, 0, none⟩) 1 1) rfl)
  clear F
  have F := F2
  clear F2
  have F2 := Lib.hid (F.out.alloc2 (.cells #[.int .i64 qk, .int .i64 qn, .string (cbs qs), .string (cbs qo), .int .i64 qd, .slice qp ql qc, .int .i64 qa, .int .i64 qb, .int .i64 qr, .int .i64 qe, .int .i64 qf] 73) (b := u5.heap.size) (by simp only [size_set]))
  clear F
  have F := F2
  clear F2
  have hnrows := Nat.ne_of_gt ((List.pairwise_cons.1 F.out.nd).1 _ (List.Mem.head _))
  have hnsrow := Ne.symm hnrows
  dsimp only at hnrows hnsrow
  have hnrowT := Nat.ne_of_gt ((List.pairwise_cons.1 F.out.nd).1 _ (List.Mem.tail _ (List.Mem.head _)))
  have hnTrow := Ne.symm hnrowT
  dsimp only at hnrowT hnTrow
  have hnrowZ := Nat.ne_of_gt ((List.pairwise_cons.1 F.out.nd).1 _ (List.Mem.tail _ (List.Mem.tail _ (List.Mem.head _))))
  have hnZrow := Ne.symm hnrowZ
  dsimp only at hnrowZ hnZrow
  refine (HBK.out _ _ HB1.out _ R S F.out.qr).mono ?_
  rintro e u6 ⟨xp, xc, rfl, hk, hr, hg⟩
  have Hbx := Lib.hid hk
  have F2 := Lib.hid (F.out.call hr hg)
  clear F
  have F := F2
  clear F2
  clear hk hr hg
  have hk := (F.out.keep _ (List.Mem.tail _ (List.Mem.head _))).1
  obtain ⟨⟨a0, a1, a2, a3, a4, a5, a6, a7, a8⟩, b0, b1, b2, b3, b4, b5, b6, b7, b8⟩ := nen hk
  have hla := heap_lt' hk
  clear hk
  go_wp2_with fail
  clear a0 a1 a2 a3 a4 a5 a6 a7 a8 b0 b1 b2 b3 b4 b5 b6 b7 b8 hla
  have F2 := Lib.hid (F.out.put1 1 rfl 5 (.slice xp l1.length (l1.length + xc)) rfl)
  clear F
  have F := F2
  clear F2
  refine (qIs_any _ R S ts _ F.out.qr ⟨#[101, 108, 115, 101]⟩ (by decide) true (by decide)).mono ?_
  rintro e u7 ⟨rfl, hb⟩
  have F2 := Lib.hid (F.out.go hb)
  clear F
  have F := F2
  clear F2
  clear hb
  try rw [HI.out]
  obtain ⟨⟨c0, c1, c2, c3, c4⟩, fr, hRl⟩ := F.out.qr.cells
  have fr1 := fr 1
  clear fr
  have hRs := Nat.ne_of_lt (Nat.lt_of_lt_of_le hlt (F.out.keep _ (List.Mem.tail _ (List.Mem.head _))).2)
  have hsR := Ne.symm hRs
  dsimp only at hRs hsR
  have hk := (F.out.keep _ (List.Mem.tail _ (List.Mem.head _))).1
  obtain ⟨⟨a0, a1, a2, a3, a4, a5, a6, a7, a8⟩, b0, b1, b2, b3, b4, b5, b6, b7, b8⟩ := nen hk
  have hla := heap_lt' hk
  clear hk
  go_wp2_with fail
  clear c0 c1 c2 c3 c4 fr1 hRl
  clear a0 a1 a2 a3 a4 a5 a6 a7 a8 b0 b1 b2 b3 b4 b5 b6 b7 b8 hla
  clear hRs hsR
  have F2 := Lib.hid (F.out.setk)
  clear F
  have F := F2
  clear F2
  refine (HBK.out _ _ HB2.out _ R S F.out.qr).mono ?_
  rintro e u8 ⟨yp, yc, rfl, hk, hr, hg⟩
  have Hby := Lib.hid hk
  have F2 := Lib.hid (F.out.call hr hg)
  clear F
  have F := F2
  clear F2
  clear hk hr hg
  have hk := (F.out.keep _ (List.Mem.tail _ (List.Mem.head _))).1
  obtain ⟨⟨a0, a1, a2, a3, a4, a5, a6, a7, a8⟩, b0, b1, b2, b3, b4, b5, b6, b7, b8⟩ := nen hk
  have hla := heap_lt' hk
  clear hk
  have hk := (F.out.keep _ (List.Mem.tail _ (List.Mem.tail _ (List.Mem.tail _ (List.Mem.head _))))).1
  obtain ⟨⟨d0, d1, d2, d3, d4, d5, d6, d7, d8⟩, g0, g1, g2, g3, g4, g5, g6, g7, g8⟩ := nen hk
  have hld := heap_lt' hk
  clear hk
  go_wp2_with fail
  clear a0 a1 a2 a3 a4 a5 a6 a7 a8 b0 b1 b2 b3 b4 b5 b6 b7 b8 hla
  have F2 := Lib.hid (F.out.put1 1 rfl 6 (.slice yp l2.length (l2.length + yc)) rfl)
  clear F
  have F := F2
  clear F2
  skip
  have F2 := Lib.hid (F.out.put9 3 rfl (c0 := .int .i64 5) (c1 := .string ⟨#[]⟩) (c2 := .string ⟨#[]⟩) (c3 := .int .i64 0) (c4 := .slice (some ⟨u5.heap.size, 0, none⟩) 1 1) (c5 := .slice xp l1.length (l1.length + xc)) (c6 := .slice yp l2.length (l2.length + yc)) (c7 := .int .i64 t.at_) (c8 := .int .i64 0))
  clear F
  have F := F2
  clear F2
  exact bodyPost_ret (v := .agg #[.int .i64 5, .string ⟨#[]⟩, .string ⟨#[]⟩, .int .i64 0, .slice (some ⟨u5.heap.size, 0, none⟩) 1 1, .slice xp l1.length (l1.length + xc), .slice yp l2.length (l2.length + yc), .int .i64 t.at_, .int .i64 0]) (by simp [results, Tryz.results38, go_sem, d0, d1, d2, d3, d4, d5, d6, d7, d8]) rfl ⟨5, [], [], 0, some ⟨u5.heap.size, 0, none⟩, 1, 1, xp, l1.length, (l1.length + xc), yp, l2.length, (l2.length + yc), t.at_, 0, rfl, SIs.mk (KidsAt.one (F.out.keep _ (List.Mem.head _)).1 (F.out.keep _ (List.Mem.head _)).2 (Is.lower (F.out.ag _ (List.Mem.tail _ (List.Mem.tail _ (List.Mem.head _)))).2 _ (Hq.out.ag (F.out.ag _ (List.Mem.tail _ (List.Mem.tail _ (List.Mem.head _)))).1)) rfl) (SsAt.lower (Hbx.out.ag (F.out.ag _ (List.Mem.tail _ (List.Mem.head _))).1) (F.out.ag _ (List.Mem.tail _ (List.Mem.head _))).2) (SsAt.lower (Hby.out.ag (F.out.ag _ (List.Mem.head _)).1) (F.out.ag _ (List.Mem.head _)).2) 5 [] [] 0 t.at_ 0, F.out.qr, F.out.gr⟩

set_option maxRecDepth 8000 in
set_option maxHeartbeats 8000000 in
theorem qst_while (w : World) (R : Nat) (S : Value) (ts : List RT) (s : Q) (h : Qr w R S ts s) (rx : Qs.RX) (hX : QXOk ts rx) (recB : Q → Qs.OutB) (hB : QBlOk ts recB) (e0 : Ex) (s1 : Q) (he : rx (Qe.next s) = some (e0, s1)) (l1 : List Sm) (s2 : Q) (hb1 : recB s1 = some (l1, s2)) (hv0 : Qe.is ts s true [118, 97, 114] = false) (hv1 : Qe.is ts s true [108, 101, 116] = false) (hv2 : Qe.is ts s true [105, 102] = false) (hv3 : Qe.is ts s true [119, 104, 105, 108, 101] = true) :
    Calls Tryz.prog 38 #[.pointer (some ⟨R, 0, none⟩)] w (QStPost w R S ts (.mk 6 [] [] 0 [e0] l1 [] (tokAt ts s.k).at_ 0, s2)) := by
  have HV0 := Lib.hid hv0
  have HV1 := Lib.hid hv1
  have HV2 := Lib.hid hv2
  have HV3 := Lib.hid hv3
  have HX := Lib.hid hX
  clear hX
  have HBK := Lib.hid hB
  clear hB
  have HE := Lib.hid he
  clear he
  have HB1 := Lib.hid hb1
  clear hb1
  have htk := fun w1 hh => qTok_any w1 R S ts s hh
  generalize tokAt ts s.k = t at htk   ⊢
  unfold tokW at htk
  have HTK := Lib.hid htk
  clear htk hv0 hv1 hv2 hv3
  have hlt := h.lt
  have HH := Lib.hid h
  have F := Lib.hid ((Fr.ofq h).alloc (.cells #[.int .i64 0, .string ⟨#[]⟩, .string ⟨#[]⟩, .int .i64 0, .slice none 0 0, .slice none 0 0, .slice none 0 0, .int .i64 0, .int .i64 0] 38))
  clear h
  go_enter Tryz.func38, Tryz.ntmps38
  go_wp2_with fail
  refine (HTK.out _ F.out.qr).mono ?_
  rintro e u1 ⟨rfl, hb⟩
  have F2 := Lib.hid (F.out.go hb)
  clear F
  have F := F2
  clear F2
  clear hb
  go_wp2_with fail
  have F2 := Lib.hid (F.out.alloc (.cells #[.int .i64 t.kind, .string (cbs t.text), .int .i64 t.num, .int .i64 t.at_] 47))
  clear F
  have F := F2
  clear F2
  have hnTZ := Nat.ne_of_gt ((List.pairwise_cons.1 F.out.nd).1 _ (List.Mem.head _))
  have hnZT := Ne.symm hnTZ
  dsimp only at hnTZ hnZT
  have F2 := Lib.hid (F.out.alloc2 (.cells #[.int .i64 0, .string ⟨#[]⟩, .string ⟨#[]⟩, .int .i64 0, .slice none 0 0, .slice none 0 0, .slice none 0 0, .int .i64 t.at_, .int .i64 0] 38) (b := u1.heap.size + 1) (size_alloc _ _))
  clear F
  have F := F2
  clear F2
  have hnsT := Nat.ne_of_gt ((List.pairwise_cons.1 F.out.nd).1 _ (List.Mem.head _))
  have hnTs := Ne.symm hnsT
  dsimp only at hnsT hnTs
  have hnsZ := Nat.ne_of_gt ((List.pairwise_cons.1 F.out.nd).1 _ (List.Mem.tail _ (List.Mem.head _)))
  have hnZs := Ne.symm hnsZ
  dsimp only at hnsZ hnZs
  refine (qIs_any _ R S ts _ F.out.qr ⟨#[118, 97, 114]⟩ (by decide) true (by decide)).mono ?_
  rintro e u2 ⟨rfl, hb⟩
  have F2 := Lib.hid (F.out.go hb)
  clear F
  have F := F2
  clear F2
  clear hb
  try rw [HV0.out]
  go_wp2_with fail
  refine (qIs_any _ R S ts _ F.out.qr ⟨#[108, 101, 116]⟩ (by decide) true (by decide)).mono ?_
  rintro e u3 ⟨rfl, hb⟩
  have F2 := Lib.hid (F.out.go hb)
  clear F
  have F := F2
  clear F2
  clear hb
  try rw [HV1.out]
  go_wp2_with fail
  refine (qIs_any _ R S ts _ F.out.qr ⟨#[105, 102]⟩ (by decide) true (by decide)).mono ?_
  rintro e u4 ⟨rfl, hb⟩
  have F2 := Lib.hid (F.out.go hb)
  clear F
  have F := F2
  clear F2
  clear hb
  try rw [HV2.out]
  go_wp2_with fail
  refine (qIs_any _ R S ts _ F.out.qr ⟨#[119, 104, 105, 108, 101]⟩ (by decide) true (by decide)).mono ?_
  rintro e u5 ⟨rfl, hb⟩
  have F2 := Lib.hid (F.out.go hb)
  clear F
  have F := F2
  clear F2
  clear hb
  try rw [HV3.out]
  obtain ⟨⟨c0, c1, c2, c3, c4⟩, fr, hRl⟩ := F.out.qr.cells
  have fr1 := fr 1
  clear fr
  have hRs := Nat.ne_of_lt (Nat.lt_of_lt_of_le hlt (F.out.keep _ (List.Mem.head _)).2)
  have hsR := Ne.symm hRs
  dsimp only at hRs hsR
  have hk := (F.out.keep _ (List.Mem.head _)).1
  obtain ⟨⟨a0, a1, a2, a3, a4, a5, a6, a7, a8⟩, b0, b1, b2, b3, b4, b5, b6, b7, b8⟩ := nen hk
  have hla := heap_lt' hk
  clear hk
  go_wp2_with fail
  clear c0 c1 c2 c3 c4 fr1 hRl
  clear a0 a1 a2 a3 a4 a5 a6 a7 a8 b0 b1 b2 b3 b4 b5 b6 b7 b8 hla
  clear hRs hsR
  have F2 := Lib.hid (F.out.setk)
  clear F
  have F := F2
  clear F2
  have F2 := Lib.hid (F.out.put1 0 rfl 0 (.int .i64 6) rfl)
  clear F
  have F := F2
  clear F2
  refine (HX.out _ _ HE.out _ R S F.out.qr).mono ?_
  rintro e u6 ⟨qk, qn, qs, qo, qd, qp, ql, qc, qa, qb, qr, qe, qf, rfl, hi, hr, hg⟩
  have Hq := Lib.hid hi
  have F2 := Lib.hid (F.out.call hr hg)
  clear F
  have F := F2
  clear F2
  clear hi hr hg
  have hk := (F.out.keep _ (List.Mem.head _)).1
  obtain ⟨⟨a0, a1, a2, a3, a4, a5, a6, a7, a8⟩, b0, b1, b2, b3, b4, b5, b6, b7, b8⟩ := nen hk
  have hla := heap_lt' hk
  clear hk
  go_wp2_with fail
  clear a0 a1 a2 a3 a4 a5 a6 a7 a8 b0 b1 b2 b3 b4 b5 b6 b7 b8 hla
  have F2 := Lib.hid (F.out.put1 0 rfl 4 (.slice (some ⟨u6.heap.size, 0, none⟩) 1 1) rfl)
  clear F
  have F := F2
  clear F2
  have F2 := Lib.hid (F.out.alloc2 (.cells #[.int .i64 qk, .int .i64 qn, .string (cbs qs), .string (cbs qo), .int .i64 qd, .slice qp ql qc, .int .i64 qa, .int .i64 qb, .int .i64 qr, .int .i64 qe, .int .i64 qf] 73) (b := u6.heap.size) (by simp only [size_set]))
  clear F
  have F := F2
  clear F2
  have hnrows := Nat.ne_of_gt ((List.pairwise_cons.1 F.out.nd).1 _ (List.Mem.head _))
  have hnsrow := Ne.symm hnrows
  dsimp only at hnrows hnsrow
  have hnrowT := Nat.ne_of_gt ((List.pairwise_cons.1 F.out.nd).1 _ (List.Mem.tail _ (List.Mem.head _)))
  have hnTrow := Ne.symm hnrowT
  dsimp only at hnrowT hnTrow
  have hnrowZ := Nat.ne_of_gt ((List.pairwise_cons.1 F.out.nd).1 _ (List.Mem.tail _ (List.Mem.tail _ (List.Mem.head _))))
  have hnZrow := Ne.symm hnrowZ
  dsimp only at hnrowZ hnZrow
  refine (HBK.out _ _ HB1.out _ R S F.out.qr).mono ?_
  rintro e u7 ⟨xp, xc, rfl, hk, hr, hg⟩
  have Hbx := Lib.hid hk
  have F2 := Lib.hid (F.out.call hr hg)
  clear F
  have F := F2
  clear F2
  clear hk hr hg
  have hk := (F.out.keep _ (List.Mem.tail _ (List.Mem.head _))).1
  obtain ⟨⟨a0, a1, a2, a3, a4, a5, a6, a7, a8⟩, b0, b1, b2, b3, b4, b5, b6, b7, b8⟩ := nen hk
  have hla := heap_lt' hk
  clear hk
  have hk := (F.out.keep _ (List.Mem.tail _ (List.Mem.tail _ (List.Mem.tail _ (List.Mem.head _))))).1
  obtain ⟨⟨d0, d1, d2, d3, d4, d5, d6, d7, d8⟩, g0, g1, g2, g3, g4, g5, g6, g7, g8⟩ := nen hk
  have hld := heap_lt' hk
  clear hk
  go_wp2_with fail
  have F2 := Lib.hid (F.out.put1 1 rfl 5 (.slice xp l1.length (l1.length + xc)) rfl)
  clear F
  have F := F2
  clear F2
  have F2 := Lib.hid (F.out.put9 3 rfl (c0 := .int .i64 6) (c1 := .string ⟨#[]⟩) (c2 := .string ⟨#[]⟩) (c3 := .int .i64 0) (c4 := .slice (some ⟨u6.heap.size, 0, none⟩) 1 1) (c5 := .slice xp l1.length (l1.length + xc)) (c6 := .slice none 0 0) (c7 := .int .i64 t.at_) (c8 := .int .i64 0))
  clear F
  have F := F2
  clear F2
  exact bodyPost_ret (v := .agg #[.int .i64 6, .string ⟨#[]⟩, .string ⟨#[]⟩, .int .i64 0, .slice (some ⟨u6.heap.size, 0, none⟩) 1 1, .slice xp l1.length (l1.length + xc), .slice none 0 0, .int .i64 t.at_, .int .i64 0]) (by simp [results, Tryz.results38, go_sem, d0, d1, d2, d3, d4, d5, d6, d7, d8]) rfl ⟨6, [], [], 0, some ⟨u6.heap.size, 0, none⟩, 1, 1, xp, l1.length, (l1.length + xc), none, 0, 0, t.at_, 0, rfl, SIs.mk (KidsAt.one (F.out.keep _ (List.Mem.head _)).1 (F.out.keep _ (List.Mem.head _)).2 (Is.lower (F.out.ag _ (List.Mem.tail _ (List.Mem.head _))).2 _ (Hq.out.ag (F.out.ag _ (List.Mem.tail _ (List.Mem.head _))).1)) rfl) (SsAt.lower (Hbx.out.ag (F.out.ag _ (List.Mem.head _)).1) (F.out.ag _ (List.Mem.head _)).2) SsAt.nil 6 [] [] 0 t.at_ 0, F.out.qr, F.out.gr⟩

set_option maxRecDepth 8000 in
set_option maxHeartbeats 8000000 in
theorem qst_return (w : World) (R : Nat) (S : Value) (ts : List RT) (s : Q) (h : Qr w R S ts s) (hI : Qe.is ts (Qe.next s) false [59] = true) (hv0 : Qe.is ts s true [118, 97, 114] = false) (hv1 : Qe.is ts s true [108, 101, 116] = false) (hv2 : Qe.is ts s true [105, 102] = false) (hv3 : Qe.is ts s true [119, 104, 105, 108, 101] = false) (hv4 : Qe.is ts s true [114, 101, 116, 117, 114, 110] = true) :
    Calls Tryz.prog 38 #[.pointer (some ⟨R, 0, none⟩)] w (QStPost w R S ts (.mk 7 [] [] 0 [] [] [] (tokAt ts s.k).at_ 0, Qe.take ts (Qe.next s) false [59])) := by
  have HV0 := Lib.hid hv0
  have HV1 := Lib.hid hv1
  have HV2 := Lib.hid hv2
  have HV3 := Lib.hid hv3
  have HV4 := Lib.hid hv4
  have HI := Lib.hid hI
  clear hI
  have htk := fun w1 hh => qTok_any w1 R S ts s hh
  generalize tokAt ts s.k = t at htk   ⊢
  unfold tokW at htk
  have HTK := Lib.hid htk
  clear htk hv0 hv1 hv2 hv3 hv4
  have hlt := h.lt
  have HH := Lib.hid h
  have F := Lib.hid ((Fr.ofq h).alloc (.cells #[.int .i64 0, .string ⟨#[]⟩, .string ⟨#[]⟩, .int .i64 0, .slice none 0 0, .slice none 0 0, .slice none 0 0, .int .i64 0, .int .i64 0] 38))
  clear h
  go_enter Tryz.func38, Tryz.ntmps38
  go_wp2_with fail
  refine (HTK.out _ F.out.qr).mono ?_
  rintro e u1 ⟨rfl, hb⟩
  have F2 := Lib.hid (F.out.go hb)
  clear F
  have F := F2
  clear F2
  clear hb
  go_wp2_with fail
  have F2 := Lib.hid (F.out.alloc (.cells #[.int .i64 t.kind, .string (cbs t.text), .int .i64 t.num, .int .i64 t.at_] 47))
  clear F
  have F := F2
  clear F2
  have hnTZ := Nat.ne_of_gt ((List.pairwise_cons.1 F.out.nd).1 _ (List.Mem.head _))
  have hnZT := Ne.symm hnTZ
  dsimp only at hnTZ hnZT
  have F2 := Lib.hid (F.out.alloc2 (.cells #[.int .i64 0, .string ⟨#[]⟩, .string ⟨#[]⟩, .int .i64 0, .slice none 0 0, .slice none 0 0, .slice none 0 0, .int .i64 t.at_, .int .i64 0] 38) (b := u1.heap.size + 1) (size_alloc _ _))
  clear F
  have F := F2
  clear F2
  have hnsT := Nat.ne_of_gt ((List.pairwise_cons.1 F.out.nd).1 _ (List.Mem.head _))
  have hnTs := Ne.symm hnsT
  dsimp only at hnsT hnTs
  have hnsZ := Nat.ne_of_gt ((List.pairwise_cons.1 F.out.nd).1 _ (List.Mem.tail _ (List.Mem.head _)))
  have hnZs := Ne.symm hnsZ
  dsimp only at hnsZ hnZs
  refine (qIs_any _ R S ts _ F.out.qr ⟨#[118, 97, 114]⟩ (by decide) true (by decide)).mono ?_
  rintro e u2 ⟨rfl, hb⟩
  have F2 := Lib.hid (F.out.go hb)
  clear F
  have F := F2
  clear F2
  clear hb
  try rw [HV0.out]
  go_wp2_with fail
  refine (qIs_any _ R S ts _ F.out.qr ⟨#[108, 101, 116]⟩ (by decide) true (by decide)).mono ?_
  rintro e u3 ⟨rfl, hb⟩
  have F2 := Lib.hid (F.out.go hb)
  clear F
  have F := F2
  clear F2
  clear hb
  try rw [HV1.out]
  go_wp2_with fail
  refine (qIs_any _ R S ts _ F.out.qr ⟨#[105, 102]⟩ (by decide) true (by decide)).mono ?_
  rintro e u4 ⟨rfl, hb⟩
  have F2 := Lib.hid (F.out.go hb)
  clear F
  have F := F2
  clear F2
  clear hb
  try rw [HV2.out]
  go_wp2_with fail
  refine (qIs_any _ R S ts _ F.out.qr ⟨#[119, 104, 105, 108, 101]⟩ (by decide) true (by decide)).mono ?_
  rintro e u5 ⟨rfl, hb⟩
  have F2 := Lib.hid (F.out.go hb)
  clear F
  have F := F2
  clear F2
  clear hb
  try rw [HV3.out]
  go_wp2_with fail
  refine (qIs_any _ R S ts _ F.out.qr ⟨#[114, 101, 116, 117, 114, 110]⟩ (by decide) true (by decide)).mono ?_
  rintro e u6 ⟨rfl, hb⟩
  have F2 := Lib.hid (F.out.go hb)
  clear F
  have F := F2
  clear F2
  clear hb
  try rw [HV4.out]
  obtain ⟨⟨c0, c1, c2, c3, c4⟩, fr, hRl⟩ := F.out.qr.cells
  have fr1 := fr 1
  clear fr
  have hRs := Nat.ne_of_lt (Nat.lt_of_lt_of_le hlt (F.out.keep _ (List.Mem.head _)).2)
  have hsR := Ne.symm hRs
  dsimp only at hRs hsR
  have hk := (F.out.keep _ (List.Mem.head _)).1
  obtain ⟨⟨a0, a1, a2, a3, a4, a5, a6, a7, a8⟩, b0, b1, b2, b3, b4, b5, b6, b7, b8⟩ := nen hk
  have hla := heap_lt' hk
  clear hk
  go_wp2_with fail
  clear c0 c1 c2 c3 c4 fr1 hRl
  clear a0 a1 a2 a3 a4 a5 a6 a7 a8 b0 b1 b2 b3 b4 b5 b6 b7 b8 hla
  clear hRs hsR
  have F2 := Lib.hid (F.out.setk)
  clear F
  have F := F2
  clear F2
  have F2 := Lib.hid (F.out.put1 0 rfl 0 (.int .i64 7) rfl)
  clear F
  have F := F2
  clear F2
  refine (qIs_any _ R S ts _ F.out.qr ⟨#[59]⟩ (by decide) false (by decide)).mono ?_
  rintro e u7 ⟨rfl, hb⟩
  have F2 := Lib.hid (F.out.go hb)
  clear F
  have F := F2
  clear F2
  clear hb
  try rw [HI.out]
  go_wp2_with fail
  refine (qTake_any _ R S ts _ F.out.qr ⟨#[59]⟩ (by decide) false (by decide)).mono ?_
  rintro e u8 ⟨rfl, hr, hg⟩
  have F2 : Hid (Fr w R (QrK R S ts) (Qe.take ts (Qe.next s) false [59]) _ _ _) := Lib.hid (F.out.step hr hg)
  clear F
  have F := F2
  clear F2
  clear hr hg
  have hk := (F.out.keep _ (List.Mem.head _)).1
  obtain ⟨⟨a0, a1, a2, a3, a4, a5, a6, a7, a8⟩, b0, b1, b2, b3, b4, b5, b6, b7, b8⟩ := nen hk
  have hla := heap_lt' hk
  clear hk
  have hk := (F.out.keep _ (List.Mem.tail _ (List.Mem.tail _ (List.Mem.head _)))).1
  obtain ⟨⟨d0, d1, d2, d3, d4, d5, d6, d7, d8⟩, g0, g1, g2, g3, g4, g5, g6, g7, g8⟩ := nen hk
  have hld := heap_lt' hk
  clear hk
  go_wp2_with fail
  have F2 := Lib.hid (F.out.put9 2 rfl (c0 := .int .i64 7) (c1 := .string ⟨#[]⟩) (c2 := .string ⟨#[]⟩) (c3 := .int .i64 0) (c4 := .slice none 0 0) (c5 := .slice none 0 0) (c6 := .slice none 0 0) (c7 := .int .i64 t.at_) (c8 := .int .i64 0))
  clear F
  have F := F2
  clear F2
  exact bodyPost_ret (v := .agg #[.int .i64 7, .string ⟨#[]⟩, .string ⟨#[]⟩, .int .i64 0, .slice none 0 0, .slice none 0 0, .slice none 0 0, .int .i64 t.at_, .int .i64 0]) (by simp [results, Tryz.results38, go_sem, d0, d1, d2, d3, d4, d5, d6, d7, d8]) rfl ⟨7, [], [], 0, none, 0, 0, none, 0, 0, none, 0, 0, t.at_, 0, rfl, SIs.mk KidsAt.nil SsAt.nil SsAt.nil 7 [] [] 0 t.at_ 0, F.out.qr, F.out.gr⟩

set_option maxRecDepth 8000 in
set_option maxHeartbeats 8000000 in
theorem qst_return_val (w : World) (R : Nat) (S : Value) (ts : List RT) (s : Q) (h : Qr w R S ts s) (rx : Qs.RX) (hX : QXOk ts rx) (e0 : Ex) (s1 : Q) (he : rx (Qe.next s) = some (e0, s1)) (hI : Qe.is ts (Qe.next s) false [59] = false) (hv0 : Qe.is ts s true [118, 97, 114] = false) (hv1 : Qe.is ts s true [108, 101, 116] = false) (hv2 : Qe.is ts s true [105, 102] = false) (hv3 : Qe.is ts s true [119, 104, 105, 108, 101] = false) (hv4 : Qe.is ts s true [114, 101, 116, 117, 114, 110] = true) :
    Calls Tryz.prog 38 #[.pointer (some ⟨R, 0, none⟩)] w (QStPost w R S ts (.mk 7 [] [] 0 [e0] [] [] (tokAt ts s.k).at_ 0, Qe.take ts s1 false [59])) := by
  have HV0 := Lib.hid hv0
  have HV1 := Lib.hid hv1
  have HV2 := Lib.hid hv2
  have HV3 := Lib.hid hv3
  have HV4 := Lib.hid hv4
  have HX := Lib.hid hX
  clear hX
  have HE := Lib.hid he
  clear he
  have HI := Lib.hid hI
  clear hI
  have htk := fun w1 hh => qTok_any w1 R S ts s hh
  generalize tokAt ts s.k = t at htk   ⊢
  unfold tokW at htk
  have HTK := Lib.hid htk
  clear htk hv0 hv1 hv2 hv3 hv4
  have hlt := h.lt
  have HH := Lib.hid h
  have F := Lib.hid ((Fr.ofq h).alloc (.cells #[.int .i64 0, .string ⟨#[]⟩, .string ⟨#[]⟩, .int .i64 0, .slice none 0 0, .slice none 0 0, .slice none 0 0, .int .i64 0, .int .i64 0] 38))
  clear h
  go_enter Tryz.func38, Tryz.ntmps38
  go_wp2_with fail
  refine (HTK.out _ F.out.qr).mono ?_
  rintro e u1 ⟨rfl, hb⟩
  have F2 := Lib.hid (F.out.go hb)
  clear F
  have F := F2
  clear F2
  clear hb
  go_wp2_with fail
  have F2 := Lib.hid (F.out.alloc (.cells #[.int .i64 t.kind, .string (cbs t.text), .int .i64 t.num, .int .i64 t.at_] 47))
  clear F
  have F := F2
  clear F2
  have hnTZ := Nat.ne_of_gt ((List.pairwise_cons.1 F.out.nd).1 _ (List.Mem.head _))
  have hnZT := Ne.symm hnTZ
  dsimp only at hnTZ hnZT
  have F2 := Lib.hid (F.out.alloc2 (.cells #[.int .i64 0, .string ⟨#[]⟩, .string ⟨#[]⟩, .int .i64 0, .slice none 0 0, .slice none 0 0, .slice none 0 0, .int .i64 t.at_, .int .i64 0] 38) (b := u1.heap.size + 1) (size_alloc _ _))
  clear F
  have F := F2
  clear F2
  have hnsT := Nat.ne_of_gt ((List.pairwise_cons.1 F.out.nd).1 _ (List.Mem.head _))
  have hnTs := Ne.symm hnsT
  dsimp only at hnsT hnTs
  have hnsZ := Nat.ne_of_gt ((List.pairwise_cons.1 F.out.nd).1 _ (List.Mem.tail _ (List.Mem.head _)))
  have hnZs := Ne.symm hnsZ
  dsimp only at hnsZ hnZs
  refine (qIs_any _ R S ts _ F.out.qr ⟨#[118, 97, 114]⟩ (by decide) true (by decide)).mono ?_
  rintro e u2 ⟨rfl, hb⟩
  have F2 := Lib.hid (F.out.go hb)
  clear F
  have F := F2
  clear F2
  clear hb
  try rw [HV0.out]
  go_wp2_with fail
  refine (qIs_any _ R S ts _ F.out.qr ⟨#[108, 101, 116]⟩ (by decide) true (by decide)).mono ?_
  rintro e u3 ⟨rfl, hb⟩
  have F2 := Lib.hid (F.out.go hb)
  clear F
  have F := F2
  clear F2
  clear hb
  try rw [HV1.out]
  go_wp2_with fail
  refine (qIs_any _ R S ts _ F.out.qr ⟨#[105, 102]⟩ (by decide) true (by decide)).mono ?_
  rintro e u4 ⟨rfl, hb⟩
  have F2 := Lib.hid (F.out.go hb)
  clear F
  have F := F2
  clear F2
  clear hb
  try rw [HV2.out]
  go_wp2_with fail
  refine (qIs_any _ R S ts _ F.out.qr ⟨#[119, 104, 105, 108, 101]⟩ (by decide) true (by decide)).mono ?_
  rintro e u5 ⟨rfl, hb⟩
  have F2 := Lib.hid (F.out.go hb)
  clear F
  have F := F2
  clear F2
  clear hb
  try rw [HV3.out]
  go_wp2_with fail
  refine (qIs_any _ R S ts _ F.out.qr ⟨#[114, 101, 116, 117, 114, 110]⟩ (by decide) true (by decide)).mono ?_
  rintro e u6 ⟨rfl, hb⟩
  have F2 := Lib.hid (F.out.go hb)
  clear F
  have F := F2
  clear F2
  clear hb
  try rw [HV4.out]
  obtain ⟨⟨c0, c1, c2, c3, c4⟩, fr, hRl⟩ := F.out.qr.cells
  have fr1 := fr 1
  clear fr
  have hRs := Nat.ne_of_lt (Nat.lt_of_lt_of_le hlt (F.out.keep _ (List.Mem.head _)).2)
  have hsR := Ne.symm hRs
  dsimp only at hRs hsR
  have hk := (F.out.keep _ (List.Mem.head _)).1
  obtain ⟨⟨a0, a1, a2, a3, a4, a5, a6, a7, a8⟩, b0, b1, b2, b3, b4, b5, b6, b7, b8⟩ := nen hk
  have hla := heap_lt' hk
  clear hk
  go_wp2_with fail
  clear c0 c1 c2 c3 c4 fr1 hRl
  clear a0 a1 a2 a3 a4 a5 a6 a7 a8 b0 b1 b2 b3 b4 b5 b6 b7 b8 hla
  clear hRs hsR
  have F2 := Lib.hid (F.out.setk)
  clear F
  have F := F2
  clear F2
  have F2 := Lib.hid (F.out.put1 0 rfl 0 (.int .i64 7) rfl)
  clear F
  have F := F2
  clear F2
  refine (qIs_any _ R S ts _ F.out.qr ⟨#[59]⟩ (by decide) false (by decide)).mono ?_
  rintro e u7 ⟨rfl, hb⟩
  have F2 := Lib.hid (F.out.go hb)
  clear F
  have F := F2
  clear F2
  clear hb
  try rw [HI.out]
  go_wp2_with fail
  refine (HX.out _ _ HE.out _ R S F.out.qr).mono ?_
  rintro e u8 ⟨qk, qn, qs, qo, qd, qp, ql, qc, qa, qb, qr, qe, qf, rfl, hi, hr, hg⟩
  have Hq := Lib.hid hi
  have F2 := Lib.hid (F.out.call hr hg)
  clear F
  have F := F2
  clear F2
  clear hi hr hg
  have hk := (F.out.keep _ (List.Mem.head _)).1
  obtain ⟨⟨a0, a1, a2, a3, a4, a5, a6, a7, a8⟩, b0, b1, b2, b3, b4, b5, b6, b7, b8⟩ := nen hk
  have hla := heap_lt' hk
  clear hk
  go_wp2_with fail
  clear a0 a1 a2 a3 a4 a5 a6 a7 a8 b0 b1 b2 b3 b4 b5 b6 b7 b8 hla
  have F2 := Lib.hid (F.out.put1 0 rfl 4 (.slice (some ⟨u8.heap.size, 0, none⟩) 1 1) rfl)
  clear F
  have F := F2
  clear F2
  have F2 := Lib.hid (F.out.alloc2 (.cells #[.int .i64 qk, .int .i64 qn, .string (cbs qs), .string (cbs qo), .int .i64 qd, .slice qp ql qc, .int .i64 qa, .int .i64 qb, .int .i64 qr, .int .i64 qe, .int .i64 qf] 73) (b := u8.heap.size) (by simp only [size_set]))
  clear F
  have F := F2
  clear F2
  have hnrows := Nat.ne_of_gt ((List.pairwise_cons.1 F.out.nd).1 _ (List.Mem.head _))
  have hnsrow := Ne.symm hnrows
  dsimp only at hnrows hnsrow
  have hnrowT := Nat.ne_of_gt ((List.pairwise_cons.1 F.out.nd).1 _ (List.Mem.tail _ (List.Mem.head _)))
  have hnTrow := Ne.symm hnrowT
  dsimp only at hnrowT hnTrow
  have hnrowZ := Nat.ne_of_gt ((List.pairwise_cons.1 F.out.nd).1 _ (List.Mem.tail _ (List.Mem.tail _ (List.Mem.head _))))
  have hnZrow := Ne.symm hnrowZ
  dsimp only at hnrowZ hnZrow
  refine (qTake_any _ R S ts _ F.out.qr ⟨#[59]⟩ (by decide) false (by decide)).mono ?_
  rintro e u9 ⟨rfl, hr, hg⟩
  have F2 : Hid (Fr w R (QrK R S ts) (Qe.take ts s1 false [59]) _ _ _) := Lib.hid (F.out.step hr hg)
  clear F
  have F := F2
  clear F2
  clear hr hg
  have hk := (F.out.keep _ (List.Mem.tail _ (List.Mem.head _))).1
  obtain ⟨⟨a0, a1, a2, a3, a4, a5, a6, a7, a8⟩, b0, b1, b2, b3, b4, b5, b6, b7, b8⟩ := nen hk
  have hla := heap_lt' hk
  clear hk
  have hk := (F.out.keep _ (List.Mem.tail _ (List.Mem.tail _ (List.Mem.tail _ (List.Mem.head _))))).1
  obtain ⟨⟨d0, d1, d2, d3, d4, d5, d6, d7, d8⟩, g0, g1, g2, g3, g4, g5, g6, g7, g8⟩ := nen hk
  have hld := heap_lt' hk
  clear hk
  go_wp2_with fail
  have F2 := Lib.hid (F.out.put9 3 rfl (c0 := .int .i64 7) (c1 := .string ⟨#[]⟩) (c2 := .string ⟨#[]⟩) (c3 := .int .i64 0) (c4 := .slice (some ⟨u8.heap.size, 0, none⟩) 1 1) (c5 := .slice none 0 0) (c6 := .slice none 0 0) (c7 := .int .i64 t.at_) (c8 := .int .i64 0))
  clear F
  have F := F2
  clear F2
  exact bodyPost_ret (v := .agg #[.int .i64 7, .string ⟨#[]⟩, .string ⟨#[]⟩, .int .i64 0, .slice (some ⟨u8.heap.size, 0, none⟩) 1 1, .slice none 0 0, .slice none 0 0, .int .i64 t.at_, .int .i64 0]) (by simp [results, Tryz.results38, go_sem, d0, d1, d2, d3, d4, d5, d6, d7, d8]) rfl ⟨7, [], [], 0, some ⟨u8.heap.size, 0, none⟩, 1, 1, none, 0, 0, none, 0, 0, t.at_, 0, rfl, SIs.mk (KidsAt.one (F.out.keep _ (List.Mem.head _)).1 (F.out.keep _ (List.Mem.head _)).2 (Is.lower (F.out.ag _ (List.Mem.head _)).2 _ (Hq.out.ag (F.out.ag _ (List.Mem.head _)).1)) rfl) SsAt.nil SsAt.nil 7 [] [] 0 t.at_ 0, F.out.qr, F.out.gr⟩

set_option maxRecDepth 8000 in
set_option maxHeartbeats 8000000 in
theorem qst_print (w : World) (R : Nat) (S : Value) (ts : List RT) (s : Q) (h : Qr w R S ts s) (rx : Qs.RX) (hX : QXOk ts rx) (e0 : Ex) (s1 : Q) (he : rx (Qe.next s) = some (e0, s1)) (hv0 : Qe.is ts s true [118, 97, 114] = false) (hv1 : Qe.is ts s true [108, 101, 116] = false) (hv2 : Qe.is ts s true [105, 102] = false) (hv3 : Qe.is ts s true [119, 104, 105, 108, 101] = false) (hv4 : Qe.is ts s true [114, 101, 116, 117, 114, 110] = false) (hv5 : Qe.is ts s true [112, 114, 105, 110, 116] = true) :
    Calls Tryz.prog 38 #[.pointer (some ⟨R, 0, none⟩)] w (QStPost w R S ts (.mk 8 [] [] 0 [e0] [] [] (tokAt ts s.k).at_ 0, Qe.take ts s1 false [59])) := by
  have HV0 := Lib.hid hv0
  have HV1 := Lib.hid hv1
  have HV2 := Lib.hid hv2
  have HV3 := Lib.hid hv3
  have HV4 := Lib.hid hv4
  have HV5 := Lib.hid hv5
  have HX := Lib.hid hX
  clear hX
  have HE := Lib.hid he
  clear he
  have htk := fun w1 hh => qTok_any w1 R S ts s hh
  generalize tokAt ts s.k = t at htk   ⊢
  unfold tokW at htk
  have HTK := Lib.hid htk
  clear htk hv0 hv1 hv2 hv3 hv4 hv5
  have hlt := h.lt
  have HH := Lib.hid h
  have F := Lib.hid ((Fr.ofq h).alloc (.cells #[.int .i64 0, .string ⟨#[]⟩, .string ⟨#[]⟩, .int .i64 0, .slice none 0 0, .slice none 0 0, .slice none 0 0, .int .i64 0, .int .i64 0] 38))
  clear h
  go_enter Tryz.func38, Tryz.ntmps38
  go_wp2_with fail
  refine (HTK.out _ F.out.qr).mono ?_
  rintro e u1 ⟨rfl, hb⟩
  have F2 := Lib.hid (F.out.go hb)
  clear F
  have F := F2
  clear F2
  clear hb
  go_wp2_with fail
  have F2 := Lib.hid (F.out.alloc (.cells #[.int .i64 t.kind, .string (cbs t.text), .int .i64 t.num, .int .i64 t.at_] 47))
  clear F
  have F := F2
  clear F2
  have hnTZ := Nat.ne_of_gt ((List.pairwise_cons.1 F.out.nd).1 _ (List.Mem.head _))
  have hnZT := Ne.symm hnTZ
  dsimp only at hnTZ hnZT
  have F2 := Lib.hid (F.out.alloc2 (.cells #[.int .i64 0, .string ⟨#[]⟩, .string ⟨#[]⟩, .int .i64 0, .slice none 0 0, .slice none 0 0, .slice none 0 0, .int .i64 t.at_, .int .i64 0] 38) (b := u1.heap.size + 1) (size_alloc _ _))
  clear F
  have F := F2
  clear F2
  have hnsT := Nat.ne_of_gt ((List.pairwise_cons.1 F.out.nd).1 _ (List.Mem.head _))
  have hnTs := Ne.symm hnsT
  dsimp only at hnsT hnTs
  have hnsZ := Nat.ne_of_gt ((List.pairwise_cons.1 F.out.nd).1 _ (List.Mem.tail _ (List.Mem.head _)))
  have hnZs := Ne.symm hnsZ
  dsimp only at hnsZ hnZs
  refine (qIs_any _ R S ts _ F.out.qr ⟨#[118, 97, 114]⟩ (by decide) true (by decide)).mono ?_
  rintro e u2 ⟨rfl, hb⟩
  have F2 := Lib.hid (F.out.go hb)
  clear F
  have F := F2
  clear F2
  clear hb
  try rw [HV0.out]
  go_wp2_with fail
  refine (qIs_any _ R S ts _ F.out.qr ⟨#[108, 101, 116]⟩ (by decide) true (by decide)).mono ?_
  rintro e u3 ⟨rfl, hb⟩
  have F2 := Lib.hid (F.out.go hb)
  clear F
  have F := F2
  clear F2
  clear hb
  try rw [HV1.out]
  go_wp2_with fail
  refine (qIs_any _ R S ts _ F.out.qr ⟨#[105, 102]⟩ (by decide) true (by decide)).mono ?_
  rintro e u4 ⟨rfl, hb⟩
  have F2 := Lib.hid (F.out.go hb)
  clear F
  have F := F2
  clear F2
  clear hb
  try rw [HV2.out]
  go_wp2_with fail
  refine (qIs_any _ R S ts _ F.out.qr ⟨#[119, 104, 105, 108, 101]⟩ (by decide) true (by decide)).mono ?_
  rintro e u5 ⟨rfl, hb⟩
  have F2 := Lib.hid (F.out.go hb)
  clear F
  have F := F2
  clear F2
  clear hb
  try rw [HV3.out]
  go_wp2_with fail
  refine (qIs_any _ R S ts _ F.out.qr ⟨#[114, 101, 116, 117, 114, 110]⟩ (by decide) true (by decide)).mono ?_
  rintro e u6 ⟨rfl, hb⟩
  have F2 := Lib.hid (F.out.go hb)
  clear F
  have F := F2
  clear F2
  clear hb
  try rw [HV4.out]
  go_wp2_with fail
  refine (qIs_any _ R S ts _ F.out.qr ⟨#[112, 114, 105, 110, 116]⟩ (by decide) true (by decide)).mono ?_
  rintro e u7 ⟨rfl, hb⟩
  have F2 := Lib.hid (F.out.go hb)
  clear F
  have F := F2
  clear F2
  clear hb
  try rw [HV5.out]
  obtain ⟨⟨c0, c1, c2, c3, c4⟩, fr, hRl⟩ := F.out.qr.cells
  have fr1 := fr 1
  clear fr
  have hRs := Nat.ne_of_lt (Nat.lt_of_lt_of_le hlt (F.out.keep _ (List.Mem.head _)).2)
  have hsR := Ne.symm hRs
  dsimp only at hRs hsR
  have hk := (F.out.keep _ (List.Mem.head _)).1
  obtain ⟨⟨a0, a1, a2, a3, a4, a5, a6, a7, a8⟩, b0, b1, b2, b3, b4, b5, b6, b7, b8⟩ := nen hk
  have hla := heap_lt' hk
  clear hk
  go_wp2_with fail
  clear c0 c1 c2 c3 c4 fr1 hRl
  clear a0 a1 a2 a3 a4 a5 a6 a7 a8 b0 b1 b2 b3 b4 b5 b6 b7 b8 hla
  clear hRs hsR
  have F2 := Lib.hid (F.out.setk)
  clear F
  have F := F2
  clear F2
  have F2 := Lib.hid (F.out.put1 0 rfl 0 (.int .i64 8) rfl)
  clear F
  have F := F2
  clear F2
  refine (HX.out _ _ HE.out _ R S F.out.qr).mono ?_
  rintro e u8 ⟨qk, qn, qs, qo, qd, qp, ql, qc, qa, qb, qr, qe, qf, rfl, hi, hr, hg⟩
  have Hq := Lib.hid hi
  have F2 := Lib.hid (F.out.call hr hg)
  clear F
  have F := F2
  clear F2
  clear hi hr hg
  have hk := (F.out.keep _ (List.Mem.head _)).1
  obtain ⟨⟨a0, a1, a2, a3, a4, a5, a6, a7, a8⟩, b0, b1, b2, b3, b4, b5, b6, b7, b8⟩ := nen hk
  have hla := heap_lt' hk
  clear hk
  go_wp2_with fail
  clear a0 a1 a2 a3 a4 a5 a6 a7 a8 b0 b1 b2 b3 b4 b5 b6 b7 b8 hla
  have F2 := Lib.hid (F.out.put1 0 rfl 4 (.slice (some ⟨u8.heap.size, 0, none⟩) 1 1) rfl)
  clear F
  have F := F2
  clear F2
  have F2 := Lib.hid (F.out.alloc2 (.cells #[.int .i64 qk, .int .i64 qn, .string (cbs qs), .string (cbs qo), .int .i64 qd, .slice qp ql qc, .int .i64 qa, .int .i64 qb, .int .i64 qr, .int .i64 qe, .int .i64 qf] 73) (b := u8.heap.size) (by simp only [size_set]))
  clear F
  have F := F2
  clear F2
  have hnrows := Nat.ne_of_gt ((List.pairwise_cons.1 F.out.nd).1 _ (List.Mem.head _))
  have hnsrow := Ne.symm hnrows
  dsimp only at hnrows hnsrow
  have hnrowT := Nat.ne_of_gt ((List.pairwise_cons.1 F.out.nd).1 _ (List.Mem.tail _ (List.Mem.head _)))
  have hnTrow := Ne.symm hnrowT
  dsimp only at hnrowT hnTrow
  have hnrowZ := Nat.ne_of_gt ((List.pairwise_cons.1 F.out.nd).1 _ (List.Mem.tail _ (List.Mem.tail _ (List.Mem.head _))))
  have hnZrow := Ne.symm hnrowZ
  dsimp only at hnrowZ hnZrow
  refine (qTake_any _ R S ts _ F.out.qr ⟨#[59]⟩ (by decide) false (by decide)).mono ?_
  rintro e u9 ⟨rfl, hr, hg⟩
  have F2 : Hid (Fr w R (QrK R S ts) (Qe.take ts s1 false [59]) _ _ _) := Lib.hid (F.out.step hr hg)
  clear F
  have F := F2
  clear F2
  clear hr hg
  have hk := (F.out.keep _ (List.Mem.tail _ (List.Mem.head _))).1
  obtain ⟨⟨a0, a1, a2, a3, a4, a5, a6, a7, a8⟩, b0, b1, b2, b3, b4, b5, b6, b7, b8⟩ := nen hk
  have hla := heap_lt' hk
  clear hk
  have hk := (F.out.keep _ (List.Mem.tail _ (List.Mem.tail _ (List.Mem.tail _ (List.Mem.head _))))).1
  obtain ⟨⟨d0, d1, d2, d3, d4, d5, d6, d7, d8⟩, g0, g1, g2, g3, g4, g5, g6, g7, g8⟩ := nen hk
  have hld := heap_lt' hk
  clear hk
  go_wp2_with fail
  have F2 := Lib.hid (F.out.put9 3 rfl (c0 := .int .i64 8) (c1 := .string ⟨#[]⟩) (c2 := .string ⟨#[]⟩) (c3 := .int .i64 0) (c4 := .slice (some ⟨u8.heap.size, 0, none⟩) 1 1) (c5 := .slice none 0 0) (c6 := .slice none 0 0) (c7 := .int .i64 t.at_) (c8 := .int .i64 0))
  clear F
  have F := F2
  clear F2
  exact bodyPost_ret (v := .agg #[.int .i64 8, .string ⟨#[]⟩, .string ⟨#[]⟩, .int .i64 0, .slice (some ⟨u8.heap.size, 0, none⟩) 1 1, .slice none 0 0, .slice none 0 0, .int .i64 t.at_, .int .i64 0]) (by simp [results, Tryz.results38, go_sem, d0, d1, d2, d3, d4, d5, d6, d7, d8]) rfl ⟨8, [], [], 0, some ⟨u8.heap.size, 0, none⟩, 1, 1, none, 0, 0, none, 0, 0, t.at_, 0, rfl, SIs.mk (KidsAt.one (F.out.keep _ (List.Mem.head _)).1 (F.out.keep _ (List.Mem.head _)).2 (Is.lower (F.out.ag _ (List.Mem.head _)).2 _ (Hq.out.ag (F.out.ag _ (List.Mem.head _)).1)) rfl) SsAt.nil SsAt.nil 8 [] [] 0 t.at_ 0, F.out.qr, F.out.gr⟩

set_option maxRecDepth 8000 in
set_option maxHeartbeats 8000000 in
theorem qst_plain (w : World) (R : Nat) (S : Value) (ts : List RT) (s : Q) (h : Qr w R S ts s) (rx : Qs.RX) (hX : QXOk ts rx) (x : Sm × Q) (hx : Qs.plain ts rx (tokAt ts s.k).at_ s = some x) (hv0 : Qe.is ts s true [118, 97, 114] = false) (hv1 : Qe.is ts s true [108, 101, 116] = false) (hv2 : Qe.is ts s true [105, 102] = false) (hv3 : Qe.is ts s true [119, 104, 105, 108, 101] = false) (hv4 : Qe.is ts s true [114, 101, 116, 117, 114, 110] = false) (hv5 : Qe.is ts s true [112, 114, 105, 110, 116] = false) :
    Calls Tryz.prog 38 #[.pointer (some ⟨R, 0, none⟩)] w (QStPost w R S ts x) := by
  have HV0 := Lib.hid hv0
  have HV1 := Lib.hid hv1
  have HV2 := Lib.hid hv2
  have HV3 := Lib.hid hv3
  have HV4 := Lib.hid hv4
  have HV5 := Lib.hid hv5
  have HX := Lib.hid hX
  clear hX
  have htk := fun w1 hh => qTok_any w1 R S ts s hh
  generalize tokAt ts s.k = t at htk  hx ⊢
  unfold tokW at htk
  have HHX := Lib.hid hx
  clear hx
  have HTK := Lib.hid htk
  clear htk hv0 hv1 hv2 hv3 hv4 hv5
  have hlt := h.lt
  have HH := Lib.hid h
  have F := Lib.hid ((Fr.ofq h).alloc (.cells #[.int .i64 0, .string ⟨#[]⟩, .string ⟨#[]⟩, .int .i64 0, .slice none 0 0, .slice none 0 0, .slice none 0 0, .int .i64 0, .int .i64 0] 38))
  clear h
  go_enter Tryz.func38, Tryz.ntmps38
  go_wp2_with fail
  refine (HTK.out _ F.out.qr).mono ?_
  rintro e u1 ⟨rfl, hb⟩
  have F2 := Lib.hid (F.out.go hb)
  clear F
  have F := F2
  clear F2
  clear hb
  go_wp2_with fail
  have F2 := Lib.hid (F.out.alloc (.cells #[.int .i64 t.kind, .string (cbs t.text), .int .i64 t.num, .int .i64 t.at_] 47))
  clear F
  have F := F2
  clear F2
  have hnTZ := Nat.ne_of_gt ((List.pairwise_cons.1 F.out.nd).1 _ (List.Mem.head _))
  have hnZT := Ne.symm hnTZ
  dsimp only at hnTZ hnZT
  have F2 := Lib.hid (F.out.alloc2 (.cells #[.int .i64 0, .string ⟨#[]⟩, .string ⟨#[]⟩, .int .i64 0, .slice none 0 0, .slice none 0 0, .slice none 0 0, .int .i64 t.at_, .int .i64 0] 38) (b := u1.heap.size + 1) (size_alloc _ _))
  clear F
  have F := F2
  clear F2
  have hnsT := Nat.ne_of_gt ((List.pairwise_cons.1 F.out.nd).1 _ (List.Mem.head _))
  have hnTs := Ne.symm hnsT
  dsimp only at hnsT hnTs
  have hnsZ := Nat.ne_of_gt ((List.pairwise_cons.1 F.out.nd).1 _ (List.Mem.tail _ (List.Mem.head _)))
  have hnZs := Ne.symm hnsZ
  dsimp only at hnsZ hnZs
  refine (qIs_any _ R S ts _ F.out.qr ⟨#[118, 97, 114]⟩ (by decide) true (by decide)).mono ?_
  rintro e u2 ⟨rfl, hb⟩
  have F2 := Lib.hid (F.out.go hb)
  clear F
  have F := F2
  clear F2
  clear hb
  try rw [HV0.out]
  go_wp2_with fail
  refine (qIs_any _ R S ts _ F.out.qr ⟨#[108, 101, 116]⟩ (by decide) true (by decide)).mono ?_
  rintro e u3 ⟨rfl, hb⟩
  have F2 := Lib.hid (F.out.go hb)
  clear F
  have F := F2
  clear F2
  clear hb
  try rw [HV1.out]
  go_wp2_with fail
  refine (qIs_any _ R S ts _ F.out.qr ⟨#[105, 102]⟩ (by decide) true (by decide)).mono ?_
  rintro e u4 ⟨rfl, hb⟩
  have F2 := Lib.hid (F.out.go hb)
  clear F
  have F := F2
  clear F2
  clear hb
  try rw [HV2.out]
  go_wp2_with fail
  refine (qIs_any _ R S ts _ F.out.qr ⟨#[119, 104, 105, 108, 101]⟩ (by decide) true (by decide)).mono ?_
  rintro e u5 ⟨rfl, hb⟩
  have F2 := Lib.hid (F.out.go hb)
  clear F
  have F := F2
  clear F2
  clear hb
  try rw [HV3.out]
  go_wp2_with fail
  refine (qIs_any _ R S ts _ F.out.qr ⟨#[114, 101, 116, 117, 114, 110]⟩ (by decide) true (by decide)).mono ?_
  rintro e u6 ⟨rfl, hb⟩
  have F2 := Lib.hid (F.out.go hb)
  clear F
  have F := F2
  clear F2
  clear hb
  try rw [HV4.out]
  go_wp2_with fail
  refine (qIs_any _ R S ts _ F.out.qr ⟨#[112, 114, 105, 110, 116]⟩ (by decide) true (by decide)).mono ?_
  rintro e u7 ⟨rfl, hb⟩
  have F2 := Lib.hid (F.out.go hb)
  clear F
  have F := F2
  clear F2
  clear hb
  try rw [HV5.out]
  have hk := (F.out.keep _ (List.Mem.head _)).1
  obtain ⟨⟨a0, a1, a2, a3, a4, a5, a6, a7, a8⟩, b0, b1, b2, b3, b4, b5, b6, b7, b8⟩ := nen hk
  have hla := heap_lt' hk
  clear hk
  go_wp2_with fail
  clear a0 a1 a2 a3 a4 a5 a6 a7 a8 b0 b1 b2 b3 b4 b5 b6 b7 b8 hla
  refine (qplain_any _ R S ts s F.out.qr t.at_ rx HX.out x HHX.out).mono ?_
  rintro e u8 ⟨sk, sn, so, sd, sep, sel, sec, sbp, sbl, sbc, slp, sll, slc, sa, sr, rfl, hi, hr, hg⟩
  have Hst := Lib.hid hi
  have F2 := Lib.hid (F.out.call hr hg)
  clear F
  have F := F2
  clear F2
  clear hi hr hg
  have hk := (F.out.keep _ (List.Mem.tail _ (List.Mem.tail _ (List.Mem.head _)))).1
  obtain ⟨⟨d0, d1, d2, d3, d4, d5, d6, d7, d8⟩, g0, g1, g2, g3, g4, g5, g6, g7, g8⟩ := nen hk
  have hld := heap_lt' hk
  clear hk
  go_wp2_with fail
  have F2 := Lib.hid (F.out.put9 2 rfl (c0 := .int .i64 sk) (c1 := .string (cbs sn)) (c2 := .string (cbs so)) (c3 := .int .i64 sd) (c4 := .slice sep sel sec) (c5 := .slice sbp sbl sbc) (c6 := .slice slp sll slc) (c7 := .int .i64 sa) (c8 := .int .i64 sr))
  clear F
  have F := F2
  clear F2
  exact bodyPost_ret (v := .agg #[.int .i64 sk, .string (cbs sn), .string (cbs so), .int .i64 sd, .slice sep sel sec, .slice sbp sbl sbc, .slice slp sll slc, .int .i64 sa, .int .i64 sr]) (by simp [results, Tryz.results38, go_sem, d0, d1, d2, d3, d4, d5, d6, d7, d8]) rfl ⟨sk, sn, so, sd, sep, sel, sec, sbp, sbl, sbc, slp, sll, slc, sa, sr, rfl, SIs.lower (F.out.ag _ (List.Mem.head _)).2 _ (SIs.ag (F.out.ag _ (List.Mem.head _)).1 _ Hst.out), F.out.qr, F.out.gr⟩

theorem qstmt_any {ts : List RT} {rx : Qs.RX} (hX : QXOk ts rx) {recB : Q → Qs.OutB} (hB : QBlOk ts recB) : QStOk ts (Qs.stmt ts rx recB) := by
  intro s x hx w R S h
  cases h0 : Qe.is ts s true [118, 97, 114] with
  | true =>
    unfold Qs.stmt at hx
    rw [h0, Bool.true_or, if_pos rfl] at hx
    obtain ⟨nm, s1, hn⟩ : ∃ nm s1, Qe.name ts (Qe.next s) = (nm, s1) := ⟨_, _, rfl⟩
    obtain ⟨on, dm, s2, ho⟩ : ∃ on dm s2, Qe.of ts (Qe.take ts s1 false [58]) = (on, dm, s2) := ⟨_, _, _, rfl⟩
    have hd : Qs.decl ts s = (nm, on, dm, s2) := by simp only [Qs.decl, hn, ho]
    have ht : ¬ (tokAt ts s.k).text = [108, 101, 116] := by rw [(is_text h0).2.2]; decide
    unfold Qs.declared at hx
    simp only [hd, if_neg ht] at hx
    obtain rfl := Option.some.inj hx
    exact qst_var w R S ts s h nm s1 on dm s2 hn ho h0
  | false =>
  cases h1 : Qe.is ts s true [108, 101, 116] with
  | true =>
    unfold Qs.stmt at hx
    rw [h0, h1, Bool.false_or, if_pos rfl] at hx
    obtain ⟨nm, s1, hn⟩ : ∃ nm s1, Qe.name ts (Qe.next s) = (nm, s1) := ⟨_, _, rfl⟩
    obtain ⟨on, dm, s2, ho⟩ : ∃ on dm s2, Qe.of ts (Qe.take ts s1 false [58]) = (on, dm, s2) := ⟨_, _, _, rfl⟩
    have hd : Qs.decl ts s = (nm, on, dm, s2) := by simp only [Qs.decl, hn, ho]
    unfold Qs.declared at hx
    simp only [hd, if_pos (is_text h1).2.2] at hx
    split at hx
    · cases hx
    · rename_i e s3 he
      obtain rfl := Option.some.inj hx
      exact qst_let w R S ts s h nm s1 on dm s2 hn ho rx hX e s3 he h0 h1
  | false =>
  unfold Qs.stmt at hx
  rw [h0, h1, Bool.false_or, if_neg (by decide)] at hx
  cases h2 : Qe.is ts s true [105, 102] with
  | true =>
    rw [h2, if_pos rfl] at hx
    unfold Qs.choice at hx
    split at hx
    · cases hx
    · rename_i e s1 he
      split at hx
      · cases hx
      · rename_i l1 s2 hb1
        cases hI : Qe.is ts s2 true [101, 108, 115, 101] with
        | true =>
          rw [hI, if_pos rfl] at hx
          split at hx
          · cases hx
          · rename_i l2 s3 hb2
            obtain rfl := Option.some.inj hx
            exact qst_if_else w R S ts s h rx hX recB hB e s1 he l1 s2 hb1 hI l2 s3 hb2 h0 h1 h2
        | false =>
          rw [hI, if_neg (by decide)] at hx
          obtain rfl := Option.some.inj hx
          exact qst_if w R S ts s h rx hX recB hB e s1 he l1 s2 hb1 hI h0 h1 h2
  | false =>
  rw [h2, if_neg (by decide)] at hx
  cases h3 : Qe.is ts s true [119, 104, 105, 108, 101] with
  | true =>
    rw [h3, if_pos rfl] at hx
    unfold Qs.loop at hx
    split at hx
    · cases hx
    · rename_i e s1 he
      split at hx
      · cases hx
      · rename_i l1 s2 hb1
        obtain rfl := Option.some.inj hx
        exact qst_while w R S ts s h rx hX recB hB e s1 he l1 s2 hb1 h0 h1 h2 h3
  | false =>
  rw [h3, if_neg (by decide)] at hx
  cases h4 : Qe.is ts s true [114, 101, 116, 117, 114, 110] with
  | true =>
    rw [h4, if_pos rfl] at hx
    unfold Qs.result at hx
    cases hI : Qe.is ts (Qe.next s) false [59] with
    | true =>
      rw [hI, if_pos rfl] at hx
      obtain rfl := Option.some.inj hx
      exact qst_return w R S ts s h hI h0 h1 h2 h3 h4
    | false =>
      rw [hI, if_neg (by decide)] at hx
      split at hx
      · cases hx
      · rename_i e s1 he
        obtain rfl := Option.some.inj hx
        exact qst_return_val w R S ts s h rx hX e s1 he hI h0 h1 h2 h3 h4
  | false =>
  rw [h4, if_neg (by decide)] at hx
  cases h5 : Qe.is ts s true [112, 114, 105, 110, 116] with
  | true =>
    rw [h5, if_pos rfl] at hx
    unfold Qs.output at hx
    split at hx
    · cases hx
    · rename_i e s1 he
      obtain rfl := Option.some.inj hx
      exact qst_print w R S ts s h rx hX e s1 he h0 h1 h2 h3 h4 h5
  | false =>
  rw [h5, if_neg (by decide)] at hx
  exact qst_plain w R S ts s h rx hX x hx h0 h1 h2 h3 h4 h5
end Go.Proofs.YtnnbdidefgghjaaGreatDoor
