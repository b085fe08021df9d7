/-
  The answer's reader of statements (runrigref3), its contracts over the plain machine: a statement that begins with an expression.
-/
import Derived.Test.YtnnbdidefgghjaaGreatDoorK30
import Derived.Laws.Rows
namespace Go.Proofs.YtnnbdidefgghjaaGreatDoor
open Go.RowKit
open Px (RT tokAt isT)
open Pe (inc dec Ex)
open Qe (Q)
open Ps (Sm kindOf nameOf)

theorem infoSt9 : (Tryz.prog.info? 38).map (·.size) = some 9 := by kernel_rfl

set_option maxRecDepth 8000 in
set_option maxHeartbeats 8000000 in
theorem qplain_do (w : World) (R : Nat) (S : Value) (ts : List RT) (s : Q) (h : Qr w R S ts s) (at0 : Int) (rx : Qs.RX) (hX : QXOk ts rx) (e0 : Ex) (s1 : Q) (he : rx s = some (e0, s1)) (hI : Qe.is ts s1 false [61] = false) (hJ : Qe.is ts s1 false [59] = false) :
    Calls Tryz.prog 56 #[.pointer (some ⟨R, 0, none⟩), .agg #[.int .i64 0, .string ⟨#[]⟩, .string ⟨#[]⟩, .int .i64 0, .slice none 0 0, .slice none 0 0, .slice none 0 0, .int .i64 at0, .int .i64 0]] w (QStPost w R S ts (.mk 9 [] [] 0 [e0] [] [] at0 0, Qe.take ts s1 false [59])) := by
  have HX := Lib.hid hX
  have HE := Lib.hid he
  clear hX he
  have HI := Lib.hid hI
  clear hI
  have HJ := Lib.hid hJ
  clear hJ
  have hlt := h.lt
  have HH := Lib.hid h
  have F := Lib.hid (((Fr.ofq h).alloc (.cells #[.int .i64 0, .string ⟨#[]⟩, .string ⟨#[]⟩, .int .i64 0, .slice none 0 0, .slice none 0 0, .slice none 0 0, .int .i64 at0, .int .i64 0] 38)).alloc2 (.cells #[.int .i64 0, .string ⟨#[]⟩, .string ⟨#[]⟩, .int .i64 0, .slice none 0 0, .slice none 0 0, .slice none 0 0, .int .i64 0, .int .i64 0] 38) (b := w.heap.size + 1) (size_alloc _ _))
  clear h
  go_enter Tryz.func56, Tryz.ntmps56
  go_wp2_with fail
  have hnsZ : w.heap.size ≠ w.heap.size + 1 := by omega
  have hnZs := Ne.symm hnsZ
  refine (HX.out _ _ HE.out _ R S F.out.qr).mono ?_
  rintro e u1 ⟨qk, qn, qs, qo, qd, qp, ql, qc, qa, qb, qr, qe, qf, rfl, hi, hr, hg⟩
  have Hq := Lib.hid hi
  have F2 := Lib.hid (F.out.call hr hg)
  clear F
  have F := F2
  clear F2
  clear hi hr hg
  have hkd := (Is.kind Hq.out).1
  have hnm := Lib.hid (Is.kind Hq.out).2
  clear hkd
  go_wp2_with fail
  have F2 := Lib.hid (F.out.alloc (.cells #[.int .i64 qk, .int .i64 qn, .string (cbs qs), .string (cbs qo), .int .i64 qd, .slice qp ql qc, .int .i64 qa, .int .i64 qb, .int .i64 qr, .int .i64 qe, .int .i64 qf] 73))
  clear F
  have F := F2
  clear F2
  have hneZ := Nat.ne_of_gt ((List.pairwise_cons.1 F.out.nd).1 _ (List.Mem.head _))
  have hnZe := Ne.symm hneZ
  dsimp only at hneZ hnZe
  have hnes := Nat.ne_of_gt ((List.pairwise_cons.1 F.out.nd).1 _ (List.Mem.tail _ (List.Mem.head _)))
  have hnse := Ne.symm hnes
  dsimp only at hnes hnse
  refine (qIs_any _ R S ts _ F.out.qr ⟨#[61]⟩ (by decide) false (by decide)).mono ?_
  rintro e u2 ⟨rfl, hb⟩
  have F2 := Lib.hid (F.out.go hb)
  clear F
  have F := F2
  clear F2
  clear hb
  try rw [HI.out]
  have hk := (F.out.keep _ (List.Mem.tail _ (List.Mem.tail _ (List.Mem.head _)))).1
  obtain ⟨⟨a0, a1, a2, a3, a4, a5, a6, a7, a8⟩, b0, b1, b2, b3, b4, b5, b6, b7, b8⟩ := nen hk
  have hla := heap_lt' hk
  clear hk
  have hk := (F.out.keep _ (List.Mem.head _)).1
  obtain ⟨⟨x0, x1, x2, x3, x4, x5, x6, x7, x8, x9, xX⟩, y0, y1, y2, y3, y4, y5, y6, y7, y8, y9, yX⟩ := hen hk
  have hlx := heap_lt' hk
  clear hk
  go_wp2_with fail
  have F2 := Lib.hid (F.out.put1 2 rfl 0 (.int .i64 9) rfl)
  clear F
  have F := F2
  clear F2
  have F2 := Lib.hid (F.out.put1 2 rfl 4 (.slice (some ⟨u2.heap.size, 0, none⟩) 1 1) rfl)
  clear F
  have F := F2
  clear F2
  have F2 := Lib.hid (F.out.alloc2 (.cells #[.int .i64 qk, .int .i64 qn, .string (cbs qs), .string (cbs qo), .int .i64 qd, .slice qp ql qc, .int .i64 qa, .int .i64 qb, .int .i64 qr, .int .i64 qe, .int .i64 qf] 73) (b := u2.heap.size) (by simp only [size_set]))
  clear F
  have F := F2
  clear F2
  have hnrowe := Nat.ne_of_gt ((List.pairwise_cons.1 F.out.nd).1 _ (List.Mem.head _))
  have hnerow := Ne.symm hnrowe
  dsimp only at hnrowe hnerow
  have hnrowZ := Nat.ne_of_gt ((List.pairwise_cons.1 F.out.nd).1 _ (List.Mem.tail _ (List.Mem.head _)))
  have hnZrow := Ne.symm hnrowZ
  dsimp only at hnrowZ hnZrow
  have hnrows := Nat.ne_of_gt ((List.pairwise_cons.1 F.out.nd).1 _ (List.Mem.tail _ (List.Mem.tail _ (List.Mem.head _))))
  have hnsrow := Ne.symm hnrows
  dsimp only at hnrows hnsrow
  clear a0 a1 a2 a3 a4 a5 a6 a7 a8 b0 b1 b2 b3 b4 b5 b6 b7 b8 hla
  clear x0 x1 x2 x3 x4 x5 x6 x7 x8 x9 xX y0 y1 y2 y3 y4 y5 y6 y7 y8 y9 yX hlx
  refine (qIs_any _ R S ts _ F.out.qr ⟨#[59]⟩ (by decide) false (by decide)).mono ?_
  rintro e u3 ⟨rfl, hb⟩
  have F2 := Lib.hid (F.out.go hb)
  clear F
  have F := F2
  clear F2
  clear hb
  try rw [HJ.out]
  have hk := (F.out.keep _ (List.Mem.tail _ (List.Mem.head _))).1
  obtain ⟨⟨x0, x1, x2, x3, x4, x5, x6, x7, x8, x9, xX⟩, y0, y1, y2, y3, y4, y5, y6, y7, y8, y9, yX⟩ := hen hk
  have hlx := heap_lt' hk
  clear hk
  go_wp2_with fail
  clear x0 x1 x2 x3 x4 x5 x6 x7 x8 x9 xX y0 y1 y2 y3 y4 y5 y6 y7 y8 y9 yX hlx
  refine (qTake_any _ R S ts _ F.out.qr ⟨#[59]⟩ (by decide) false (by decide)).mono ?_
  rintro e u4 ⟨rfl, hr, hg⟩
  have F2 : Hid (Fr w R (QrK R S ts) (Qe.take ts s1 false [59]) _ _ _) := Lib.hid (F.out.step hr hg)
  clear F
  have F := F2
  clear F2
  clear hr hg
  have hk := (F.out.keep _ (List.Mem.tail _ (List.Mem.tail _ (List.Mem.tail _ (List.Mem.head _))))).1
  obtain ⟨⟨a0, a1, a2, a3, a4, a5, a6, a7, a8⟩, b0, b1, b2, b3, b4, b5, b6, b7, b8⟩ := nen hk
  have hla := heap_lt' hk
  clear hk
  have hk := (F.out.keep _ (List.Mem.tail _ (List.Mem.tail _ (List.Mem.head _)))).1
  obtain ⟨⟨d0, d1, d2, d3, d4, d5, d6, d7, d8⟩, g0, g1, g2, g3, g4, g5, g6, g7, g8⟩ := nen hk
  have hld := heap_lt' hk
  clear hk
  go_wp2_with fail
  have F2 := Lib.hid (F.out.put9 2 rfl (c0 := .int .i64 9) (c1 := .string ⟨#[]⟩) (c2 := .string ⟨#[]⟩) (c3 := .int .i64 0) (c4 := .slice (some ⟨u2.heap.size, 0, none⟩) 1 1) (c5 := .slice none 0 0) (c6 := .slice none 0 0) (c7 := .int .i64 at0) (c8 := .int .i64 0))
  clear F
  have F := F2
  clear F2
  exact bodyPost_ret (v := .agg #[.int .i64 9, .string ⟨#[]⟩, .string ⟨#[]⟩, .int .i64 0, .slice (some ⟨u2.heap.size, 0, none⟩) 1 1, .slice none 0 0, .slice none 0 0, .int .i64 at0, .int .i64 0]) (by simp [results, Tryz.results56, go_sem, d0, d1, d2, d3, d4, d5, d6, d7, d8]) rfl ⟨9, [], [], 0, some ⟨u2.heap.size, 0, none⟩, 1, 1, none, 0, 0, none, 0, 0, at0, 0, rfl, SIs.mk (KidsAt.one (F.out.keep _ (List.Mem.head _)).1 (F.out.keep _ (List.Mem.head _)).2 (Is.lower (F.out.ag _ (List.Mem.head _)).2 _ (Hq.out.ag (F.out.ag _ (List.Mem.head _)).1)) rfl) SsAt.nil SsAt.nil 9 [] [] 0 at0 0, F.out.qr, F.out.gr⟩

set_option maxRecDepth 8000 in
set_option maxHeartbeats 8000000 in
theorem qplain_do7 (w : World) (R : Nat) (S : Value) (ts : List RT) (s : Q) (h : Qr w R S ts s) (at0 : Int) (rx : Qs.RX) (hX : QXOk ts rx) (e0 : Ex) (s1 : Q) (he : rx s = some (e0, s1)) (hI : Qe.is ts s1 false [61] = false) (hJ : Qe.is ts s1 false [59] = true) (hK : kindOf e0 = 7) :
    Calls Tryz.prog 56 #[.pointer (some ⟨R, 0, none⟩), .agg #[.int .i64 0, .string ⟨#[]⟩, .string ⟨#[]⟩, .int .i64 0, .slice none 0 0, .slice none 0 0, .slice none 0 0, .int .i64 at0, .int .i64 0]] w (QStPost w R S ts (.mk 9 [] [] 0 [e0] [] [] at0 0, Qe.take ts s1 false [59])) := by
  have HX := Lib.hid hX
  have HE := Lib.hid he
  clear hX he
  have HI := Lib.hid hI
  clear hI
  have HJ := Lib.hid hJ
  clear hJ
  have HKD := Lib.hid hK
  clear hK
  have hlt := h.lt
  have HH := Lib.hid h
  have F := Lib.hid (((Fr.ofq h).alloc (.cells #[.int .i64 0, .string ⟨#[]⟩, .string ⟨#[]⟩, .int .i64 0, .slice none 0 0, .slice none 0 0, .slice none 0 0, .int .i64 at0, .int .i64 0] 38)).alloc2 (.cells #[.int .i64 0, .string ⟨#[]⟩, .string ⟨#[]⟩, .int .i64 0, .slice none 0 0, .slice none 0 0, .slice none 0 0, .int .i64 0, .int .i64 0] 38) (b := w.heap.size + 1) (size_alloc _ _))
  clear h
  go_enter Tryz.func56, Tryz.ntmps56
  go_wp2_with fail
  have hnsZ : w.heap.size ≠ w.heap.size + 1 := by omega
  have hnZs := Ne.symm hnsZ
  refine (HX.out _ _ HE.out _ R S F.out.qr).mono ?_
  rintro e u1 ⟨qk, qn, qs, qo, qd, qp, ql, qc, qa, qb, qr, qe, qf, rfl, hi, hr, hg⟩
  have Hq := Lib.hid hi
  have F2 := Lib.hid (F.out.call hr hg)
  clear F
  have F := F2
  clear F2
  clear hi hr hg
  have hkd := (Is.kind Hq.out).1
  have hnm := Lib.hid (Is.kind Hq.out).2
  obtain rfl : qk = 7 := hkd.symm.trans HKD.out
  clear hkd
  go_wp2_with fail
  have F2 := Lib.hid (F.out.alloc (.cells #[.int .i64 7, .int .i64 qn, .string (cbs qs), .string (cbs qo), .int .i64 qd, .slice qp ql qc, .int .i64 qa, .int .i64 qb, .int .i64 qr, .int .i64 qe, .int .i64 qf] 73))
  clear F
  have F := F2
  clear F2
  have hneZ := Nat.ne_of_gt ((List.pairwise_cons.1 F.out.nd).1 _ (List.Mem.head _))
  have hnZe := Ne.symm hneZ
  dsimp only at hneZ hnZe
  have hnes := Nat.ne_of_gt ((List.pairwise_cons.1 F.out.nd).1 _ (List.Mem.tail _ (List.Mem.head _)))
  have hnse := Ne.symm hnes
  dsimp only at hnes hnse
  refine (qIs_any _ R S ts _ F.out.qr ⟨#[61]⟩ (by decide) false (by decide)).mono ?_
  rintro e u2 ⟨rfl, hb⟩
  have F2 := Lib.hid (F.out.go hb)
  clear F
  have F := F2
  clear F2
  clear hb
  try rw [HI.out]
  have hk := (F.out.keep _ (List.Mem.tail _ (List.Mem.tail _ (List.Mem.head _)))).1
  obtain ⟨⟨a0, a1, a2, a3, a4, a5, a6, a7, a8⟩, b0, b1, b2, b3, b4, b5, b6, b7, b8⟩ := nen hk
  have hla := heap_lt' hk
  clear hk
  have hk := (F.out.keep _ (List.Mem.head _)).1
  obtain ⟨⟨x0, x1, x2, x3, x4, x5, x6, x7, x8, x9, xX⟩, y0, y1, y2, y3, y4, y5, y6, y7, y8, y9, yX⟩ := hen hk
  have hlx := heap_lt' hk
  clear hk
  go_wp2_with fail
  have F2 := Lib.hid (F.out.put1 2 rfl 0 (.int .i64 9) rfl)
  clear F
  have F := F2
  clear F2
  have F2 := Lib.hid (F.out.put1 2 rfl 4 (.slice (some ⟨u2.heap.size, 0, none⟩) 1 1) rfl)
  clear F
  have F := F2
  clear F2
  have F2 := Lib.hid (F.out.alloc2 (.cells #[.int .i64 7, .int .i64 qn, .string (cbs qs), .string (cbs qo), .int .i64 qd, .slice qp ql qc, .int .i64 qa, .int .i64 qb, .int .i64 qr, .int .i64 qe, .int .i64 qf] 73) (b := u2.heap.size) (by simp only [size_set]))
  clear F
  have F := F2
  clear F2
  have hnrowe := Nat.ne_of_gt ((List.pairwise_cons.1 F.out.nd).1 _ (List.Mem.head _))
  have hnerow := Ne.symm hnrowe
  dsimp only at hnrowe hnerow
  have hnrowZ := Nat.ne_of_gt ((List.pairwise_cons.1 F.out.nd).1 _ (List.Mem.tail _ (List.Mem.head _)))
  have hnZrow := Ne.symm hnrowZ
  dsimp only at hnrowZ hnZrow
  have hnrows := Nat.ne_of_gt ((List.pairwise_cons.1 F.out.nd).1 _ (List.Mem.tail _ (List.Mem.tail _ (List.Mem.head _))))
  have hnsrow := Ne.symm hnrows
  dsimp only at hnrows hnsrow
  clear a0 a1 a2 a3 a4 a5 a6 a7 a8 b0 b1 b2 b3 b4 b5 b6 b7 b8 hla
  clear x0 x1 x2 x3 x4 x5 x6 x7 x8 x9 xX y0 y1 y2 y3 y4 y5 y6 y7 y8 y9 yX hlx
  refine (qIs_any _ R S ts _ F.out.qr ⟨#[59]⟩ (by decide) false (by decide)).mono ?_
  rintro e u3 ⟨rfl, hb⟩
  have F2 := Lib.hid (F.out.go hb)
  clear F
  have F := F2
  clear F2
  clear hb
  try rw [HJ.out]
  have hk := (F.out.keep _ (List.Mem.tail _ (List.Mem.head _))).1
  obtain ⟨⟨x0, x1, x2, x3, x4, x5, x6, x7, x8, x9, xX⟩, y0, y1, y2, y3, y4, y5, y6, y7, y8, y9, yX⟩ := hen hk
  have hlx := heap_lt' hk
  clear hk
  go_wp2_with fail
  clear x0 x1 x2 x3 x4 x5 x6 x7 x8 x9 xX y0 y1 y2 y3 y4 y5 y6 y7 y8 y9 yX hlx
  refine (qTake_any _ R S ts _ F.out.qr ⟨#[59]⟩ (by decide) false (by decide)).mono ?_
  rintro e u4 ⟨rfl, hr, hg⟩
  have F2 : Hid (Fr w R (QrK R S ts) (Qe.take ts s1 false [59]) _ _ _) := Lib.hid (F.out.step hr hg)
  clear F
  have F := F2
  clear F2
  clear hr hg
  have hk := (F.out.keep _ (List.Mem.tail _ (List.Mem.tail _ (List.Mem.tail _ (List.Mem.head _))))).1
  obtain ⟨⟨a0, a1, a2, a3, a4, a5, a6, a7, a8⟩, b0, b1, b2, b3, b4, b5, b6, b7, b8⟩ := nen hk
  have hla := heap_lt' hk
  clear hk
  have hk := (F.out.keep _ (List.Mem.tail _ (List.Mem.tail _ (List.Mem.head _)))).1
  obtain ⟨⟨d0, d1, d2, d3, d4, d5, d6, d7, d8⟩, g0, g1, g2, g3, g4, g5, g6, g7, g8⟩ := nen hk
  have hld := heap_lt' hk
  clear hk
  go_wp2_with fail
  have F2 := Lib.hid (F.out.put9 2 rfl (c0 := .int .i64 9) (c1 := .string ⟨#[]⟩) (c2 := .string ⟨#[]⟩) (c3 := .int .i64 0) (c4 := .slice (some ⟨u2.heap.size, 0, none⟩) 1 1) (c5 := .slice none 0 0) (c6 := .slice none 0 0) (c7 := .int .i64 at0) (c8 := .int .i64 0))
  clear F
  have F := F2
  clear F2
  exact bodyPost_ret (v := .agg #[.int .i64 9, .string ⟨#[]⟩, .string ⟨#[]⟩, .int .i64 0, .slice (some ⟨u2.heap.size, 0, none⟩) 1 1, .slice none 0 0, .slice none 0 0, .int .i64 at0, .int .i64 0]) (by simp [results, Tryz.results56, go_sem, d0, d1, d2, d3, d4, d5, d6, d7, d8]) rfl ⟨9, [], [], 0, some ⟨u2.heap.size, 0, none⟩, 1, 1, none, 0, 0, none, 0, 0, at0, 0, rfl, SIs.mk (KidsAt.one (F.out.keep _ (List.Mem.head _)).1 (F.out.keep _ (List.Mem.head _)).2 (Is.lower (F.out.ag _ (List.Mem.head _)).2 _ (Hq.out.ag (F.out.ag _ (List.Mem.head _)).1)) rfl) SsAt.nil SsAt.nil 9 [] [] 0 at0 0, F.out.qr, F.out.gr⟩

set_option maxRecDepth 8000 in
set_option maxHeartbeats 8000000 in
theorem qplain_dono (w : World) (R : Nat) (S : Value) (ts : List RT) (s : Q) (h : Qr w R S ts s) (at0 : Int) (rx : Qs.RX) (hX : QXOk ts rx) (e0 : Ex) (s1 : Q) (he : rx s = some (e0, s1)) (hI : Qe.is ts s1 false [61] = false) (hJ : Qe.is ts s1 false [59] = true) (hK : kindOf e0 ≠ 7) :
    Calls Tryz.prog 56 #[.pointer (some ⟨R, 0, none⟩), .agg #[.int .i64 0, .string ⟨#[]⟩, .string ⟨#[]⟩, .int .i64 0, .slice none 0 0, .slice none 0 0, .slice none 0 0, .int .i64 at0, .int .i64 0]] w (QStPost w R S ts (.mk 9 [] [] 0 [e0] [] [] at0 0, Qe.take ts (Qe.fail ts s1 2) false [59])) := by
  have HX := Lib.hid hX
  have HE := Lib.hid he
  clear hX he
  have HI := Lib.hid hI
  clear hI
  have HJ := Lib.hid hJ
  clear hJ
  have HKD := Lib.hid hK
  clear hK
  have hlt := h.lt
  have HH := Lib.hid h
  have F := Lib.hid (((Fr.ofq h).alloc (.cells #[.int .i64 0, .string ⟨#[]⟩, .string ⟨#[]⟩, .int .i64 0, .slice none 0 0, .slice none 0 0, .slice none 0 0, .int .i64 at0, .int .i64 0] 38)).alloc2 (.cells #[.int .i64 0, .string ⟨#[]⟩, .string ⟨#[]⟩, .int .i64 0, .slice none 0 0, .slice none 0 0, .slice none 0 0, .int .i64 0, .int .i64 0] 38) (b := w.heap.size + 1) (size_alloc _ _))
  clear h
  go_enter Tryz.func56, Tryz.ntmps56
  go_wp2_with fail
  have hnsZ : w.heap.size ≠ w.heap.size + 1 := by omega
  have hnZs := Ne.symm hnsZ
  refine (HX.out _ _ HE.out _ R S F.out.qr).mono ?_
  rintro e u1 ⟨qk, qn, qs, qo, qd, qp, ql, qc, qa, qb, qr, qe, qf, rfl, hi, hr, hg⟩
  have Hq := Lib.hid hi
  have F2 := Lib.hid (F.out.call hr hg)
  clear F
  have F := F2
  clear F2
  clear hi hr hg
  have hkd := (Is.kind Hq.out).1
  have hnm := Lib.hid (Is.kind Hq.out).2
  have h7b : (qk != 7) = true := by have := HKD.out; rw [hkd] at this; simpa using this
  clear hkd
  go_wp2_with fail
  have F2 := Lib.hid (F.out.alloc (.cells #[.int .i64 qk, .int .i64 qn, .string (cbs qs), .string (cbs qo), .int .i64 qd, .slice qp ql qc, .int .i64 qa, .int .i64 qb, .int .i64 qr, .int .i64 qe, .int .i64 qf] 73))
  clear F
  have F := F2
  clear F2
  have hneZ := Nat.ne_of_gt ((List.pairwise_cons.1 F.out.nd).1 _ (List.Mem.head _))
  have hnZe := Ne.symm hneZ
  dsimp only at hneZ hnZe
  have hnes := Nat.ne_of_gt ((List.pairwise_cons.1 F.out.nd).1 _ (List.Mem.tail _ (List.Mem.head _)))
  have hnse := Ne.symm hnes
  dsimp only at hnes hnse
  refine (qIs_any _ R S ts _ F.out.qr ⟨#[61]⟩ (by decide) false (by decide)).mono ?_
  rintro e u2 ⟨rfl, hb⟩
  have F2 := Lib.hid (F.out.go hb)
  clear F
  have F := F2
  clear F2
  clear hb
  try rw [HI.out]
  have hk := (F.out.keep _ (List.Mem.tail _ (List.Mem.tail _ (List.Mem.head _)))).1
  obtain ⟨⟨a0, a1, a2, a3, a4, a5, a6, a7, a8⟩, b0, b1, b2, b3, b4, b5, b6, b7, b8⟩ := nen hk
  have hla := heap_lt' hk
  clear hk
  have hk := (F.out.keep _ (List.Mem.head _)).1
  obtain ⟨⟨x0, x1, x2, x3, x4, x5, x6, x7, x8, x9, xX⟩, y0, y1, y2, y3, y4, y5, y6, y7, y8, y9, yX⟩ := hen hk
  have hlx := heap_lt' hk
  clear hk
  go_wp2_with fail
  have F2 := Lib.hid (F.out.put1 2 rfl 0 (.int .i64 9) rfl)
  clear F
  have F := F2
  clear F2
  have F2 := Lib.hid (F.out.put1 2 rfl 4 (.slice (some ⟨u2.heap.size, 0, none⟩) 1 1) rfl)
  clear F
  have F := F2
  clear F2
  have F2 := Lib.hid (F.out.alloc2 (.cells #[.int .i64 qk, .int .i64 qn, .string (cbs qs), .string (cbs qo), .int .i64 qd, .slice qp ql qc, .int .i64 qa, .int .i64 qb, .int .i64 qr, .int .i64 qe, .int .i64 qf] 73) (b := u2.heap.size) (by simp only [size_set]))
  clear F
  have F := F2
  clear F2
  have hnrowe := Nat.ne_of_gt ((List.pairwise_cons.1 F.out.nd).1 _ (List.Mem.head _))
  have hnerow := Ne.symm hnrowe
  dsimp only at hnrowe hnerow
  have hnrowZ := Nat.ne_of_gt ((List.pairwise_cons.1 F.out.nd).1 _ (List.Mem.tail _ (List.Mem.head _)))
  have hnZrow := Ne.symm hnrowZ
  dsimp only at hnrowZ hnZrow
  have hnrows := Nat.ne_of_gt ((List.pairwise_cons.1 F.out.nd).1 _ (List.Mem.tail _ (List.Mem.tail _ (List.Mem.head _))))
  have hnsrow := Ne.symm hnrows
  dsimp only at hnrows hnsrow
  clear a0 a1 a2 a3 a4 a5 a6 a7 a8 b0 b1 b2 b3 b4 b5 b6 b7 b8 hla
  clear x0 x1 x2 x3 x4 x5 x6 x7 x8 x9 xX y0 y1 y2 y3 y4 y5 y6 y7 y8 y9 yX hlx
  refine (qIs_any _ R S ts _ F.out.qr ⟨#[59]⟩ (by decide) false (by decide)).mono ?_
  rintro e u3 ⟨rfl, hb⟩
  have F2 := Lib.hid (F.out.go hb)
  clear F
  have F := F2
  clear F2
  clear hb
  try rw [HJ.out]
  have hk := (F.out.keep _ (List.Mem.tail _ (List.Mem.head _))).1
  obtain ⟨⟨x0, x1, x2, x3, x4, x5, x6, x7, x8, x9, xX⟩, y0, y1, y2, y3, y4, y5, y6, y7, y8, y9, yX⟩ := hen hk
  have hlx := heap_lt' hk
  clear hk
  go_wp2_with fail
  clear x0 x1 x2 x3 x4 x5 x6 x7 x8 x9 xX y0 y1 y2 y3 y4 y5 y6 y7 y8 y9 yX hlx
  refine (qFail_any _ R S ts _ F.out.qr 2).mono ?_
  rintro e u4 ⟨rfl, hr, hg⟩
  have F2 : Hid (Fr w R (QrK R S ts) (Qe.fail ts s1 2) _ _ _) := Lib.hid (F.out.step hr hg)
  clear F
  have F := F2
  clear F2
  clear hr hg
  go_wp2_with fail
  refine (qTake_any _ R S ts _ F.out.qr ⟨#[59]⟩ (by decide) false (by decide)).mono ?_
  rintro e u5 ⟨rfl, hr, hg⟩
  have F2 : Hid (Fr w R (QrK R S ts) (Qe.take ts (Qe.fail ts s1 2) false [59]) _ _ _) := Lib.hid (F.out.step hr hg)
  clear F
  have F := F2
  clear F2
  clear hr hg
  have hk := (F.out.keep _ (List.Mem.tail _ (List.Mem.tail _ (List.Mem.tail _ (List.Mem.head _))))).1
  obtain ⟨⟨a0, a1, a2, a3, a4, a5, a6, a7, a8⟩, b0, b1, b2, b3, b4, b5, b6, b7, b8⟩ := nen hk
  have hla := heap_lt' hk
  clear hk
  have hk := (F.out.keep _ (List.Mem.tail _ (List.Mem.tail _ (List.Mem.head _)))).1
  obtain ⟨⟨d0, d1, d2, d3, d4, d5, d6, d7, d8⟩, g0, g1, g2, g3, g4, g5, g6, g7, g8⟩ := nen hk
  have hld := heap_lt' hk
  clear hk
  go_wp2_with fail
  have F2 := Lib.hid (F.out.put9 2 rfl (c0 := .int .i64 9) (c1 := .string ⟨#[]⟩) (c2 := .string ⟨#[]⟩) (c3 := .int .i64 0) (c4 := .slice (some ⟨u2.heap.size, 0, none⟩) 1 1) (c5 := .slice none 0 0) (c6 := .slice none 0 0) (c7 := .int .i64 at0) (c8 := .int .i64 0))
  clear F
  have F := F2
  clear F2
  exact bodyPost_ret (v := .agg #[.int .i64 9, .string ⟨#[]⟩, .string ⟨#[]⟩, .int .i64 0, .slice (some ⟨u2.heap.size, 0, none⟩) 1 1, .slice none 0 0, .slice none 0 0, .int .i64 at0, .int .i64 0]) (by simp [results, Tryz.results56, go_sem, d0, d1, d2, d3, d4, d5, d6, d7, d8]) rfl ⟨9, [], [], 0, some ⟨u2.heap.size, 0, none⟩, 1, 1, none, 0, 0, none, 0, 0, at0, 0, rfl, SIs.mk (KidsAt.one (F.out.keep _ (List.Mem.head _)).1 (F.out.keep _ (List.Mem.head _)).2 (Is.lower (F.out.ag _ (List.Mem.head _)).2 _ (Hq.out.ag (F.out.ag _ (List.Mem.head _)).1)) rfl) SsAt.nil SsAt.nil 9 [] [] 0 at0 0, F.out.qr, F.out.gr⟩

set_option maxRecDepth 8000 in
set_option maxHeartbeats 8000000 in
theorem qplain_put4 (w : World) (R : Nat) (S : Value) (ts : List RT) (s : Q) (h : Qr w R S ts s) (at0 : Int) (rx : Qs.RX) (hX : QXOk ts rx) (e0 : Ex) (s1 : Q) (he : rx s = some (e0, s1)) (hI : Qe.is ts s1 false [61] = true) (hK : kindOf e0 = 4) (b0 : Ex) (s2 : Q) (hb : rx (Qe.take ts s1 false [61]) = some (b0, s2)) :
    Calls Tryz.prog 56 #[.pointer (some ⟨R, 0, none⟩), .agg #[.int .i64 0, .string ⟨#[]⟩, .string ⟨#[]⟩, .int .i64 0, .slice none 0 0, .slice none 0 0, .slice none 0 0, .int .i64 at0, .int .i64 0]] w (QStPost w R S ts (.mk 3 (nameOf e0) [] 0 [b0] [] [] at0 0, Qe.take ts s2 false [59])) := by
  have HX := Lib.hid hX
  have HE := Lib.hid he
  clear hX he
  have HI := Lib.hid hI
  clear hI
  have HKD := Lib.hid hK
  clear hK
  have HB := Lib.hid hb
  clear hb
  have hlt := h.lt
  have HH := Lib.hid h
  have F := Lib.hid (((Fr.ofq h).alloc (.cells #[.int .i64 0, .string ⟨#[]⟩, .string ⟨#[]⟩, .int .i64 0, .slice none 0 0, .slice none 0 0, .slice none 0 0, .int .i64 at0, .int .i64 0] 38)).alloc2 (.cells #[.int .i64 0, .string ⟨#[]⟩, .string ⟨#[]⟩, .int .i64 0, .slice none 0 0, .slice none 0 0, .slice none 0 0, .int .i64 0, .int .i64 0] 38) (b := w.heap.size + 1) (size_alloc _ _))
  clear h
  go_enter Tryz.func56, Tryz.ntmps56
  go_wp2_with fail
  have hnsZ : w.heap.size ≠ w.heap.size + 1 := by omega
  have hnZs := Ne.symm hnsZ
  refine (HX.out _ _ HE.out _ R S F.out.qr).mono ?_
  rintro e u1 ⟨qk, qn, qs, qo, qd, qp, ql, qc, qa, qb, qr, qe, qf, rfl, hi, hr, hg⟩
  have Hq := Lib.hid hi
  have F2 := Lib.hid (F.out.call hr hg)
  clear F
  have F := F2
  clear F2
  clear hi hr hg
  have hkd := (Is.kind Hq.out).1
  have hnm := Lib.hid (Is.kind Hq.out).2
  obtain rfl : qk = 4 := hkd.symm.trans HKD.out
  clear hkd
  go_wp2_with fail
  have F2 := Lib.hid (F.out.alloc (.cells #[.int .i64 4, .int .i64 qn, .string (cbs qs), .string (cbs qo), .int .i64 qd, .slice qp ql qc, .int .i64 qa, .int .i64 qb, .int .i64 qr, .int .i64 qe, .int .i64 qf] 73))
  clear F
  have F := F2
  clear F2
  have hneZ := Nat.ne_of_gt ((List.pairwise_cons.1 F.out.nd).1 _ (List.Mem.head _))
  have hnZe := Ne.symm hneZ
  dsimp only at hneZ hnZe
  have hnes := Nat.ne_of_gt ((List.pairwise_cons.1 F.out.nd).1 _ (List.Mem.tail _ (List.Mem.head _)))
  have hnse := Ne.symm hnes
  dsimp only at hnes hnse
  refine (qIs_any _ R S ts _ F.out.qr ⟨#[61]⟩ (by decide) false (by decide)).mono ?_
  rintro e u2 ⟨rfl, hb⟩
  have F2 := Lib.hid (F.out.go hb)
  clear F
  have F := F2
  clear F2
  clear hb
  try rw [HI.out]
  have hk := (F.out.keep _ (List.Mem.head _)).1
  obtain ⟨⟨x0, x1, x2, x3, x4, x5, x6, x7, x8, x9, xX⟩, y0, y1, y2, y3, y4, y5, y6, y7, y8, y9, yX⟩ := hen hk
  have hlx := heap_lt' hk
  clear hk
  go_wp2_with fail
  clear x0 x1 x2 x3 x4 x5 x6 x7 x8 x9 xX y0 y1 y2 y3 y4 y5 y6 y7 y8 y9 yX hlx
  refine (qTake_any _ R S ts _ F.out.qr ⟨#[61]⟩ (by decide) false (by decide)).mono ?_
  rintro e u3 ⟨rfl, hr, hg⟩
  have F2 : Hid (Fr w R (QrK R S ts) (Qe.take ts s1 false [61]) _ _ _) := Lib.hid (F.out.step hr hg)
  clear F
  have F := F2
  clear F2
  clear hr hg
  go_wp2_with fail
  refine (HX.out _ _ HB.out _ R S F.out.qr).mono ?_
  rintro e u4 ⟨pk, pn, ps, po, pd, pp, pl, pc, pa, pb, pr, pe, pf, rfl, hi, hr, hg⟩
  have Hp := Lib.hid hi
  have F2 := Lib.hid (F.out.call hr hg)
  clear F
  have F := F2
  clear F2
  clear hi hr hg
  go_wp2_with fail
  have F2 := Lib.hid (F.out.alloc (.cells #[.int .i64 pk, .int .i64 pn, .string (cbs ps), .string (cbs po), .int .i64 pd, .slice pp pl pc, .int .i64 pa, .int .i64 pb, .int .i64 pr, .int .i64 pe, .int .i64 pf] 73))
  clear F
  have F := F2
  clear F2
  have hnbe := Nat.ne_of_gt ((List.pairwise_cons.1 F.out.nd).1 _ (List.Mem.head _))
  have hneb := Ne.symm hnbe
  dsimp only at hnbe hneb
  have hnbZ := Nat.ne_of_gt ((List.pairwise_cons.1 F.out.nd).1 _ (List.Mem.tail _ (List.Mem.head _)))
  have hnZb := Ne.symm hnbZ
  dsimp only at hnbZ hnZb
  have hnbs := Nat.ne_of_gt ((List.pairwise_cons.1 F.out.nd).1 _ (List.Mem.tail _ (List.Mem.tail _ (List.Mem.head _))))
  have hnsb := Ne.symm hnbs
  dsimp only at hnbs hnsb
  refine (qTake_any _ R S ts _ F.out.qr ⟨#[59]⟩ (by decide) false (by decide)).mono ?_
  rintro e u5 ⟨rfl, hr, hg⟩
  have F2 : Hid (Fr w R (QrK R S ts) (Qe.take ts s2 false [59]) _ _ _) := Lib.hid (F.out.step hr hg)
  clear F
  have F := F2
  clear F2
  clear hr hg
  have hk := (F.out.keep _ (List.Mem.tail _ (List.Mem.head _))).1
  obtain ⟨⟨x0, x1, x2, x3, x4, x5, x6, x7, x8, x9, xX⟩, y0, y1, y2, y3, y4, y5, y6, y7, y8, y9, yX⟩ := hen hk
  have hlx := heap_lt' hk
  clear hk
  have hk := (F.out.keep _ (List.Mem.head _)).1
  obtain ⟨⟨m0, m1, m2, m3, m4, m5, m6, m7, m8, m9, mX⟩, k0, k1, k2, k3, k4, k5, k6, k7, k8, k9, kX⟩ := hen hk
  have hlm := heap_lt' hk
  clear hk
  have hk := (F.out.keep _ (List.Mem.tail _ (List.Mem.tail _ (List.Mem.tail _ (List.Mem.head _))))).1
  obtain ⟨⟨a0, a1, a2, a3, a4, a5, a6, a7, a8⟩, b0, b1, b2, b3, b4, b5, b6, b7, b8⟩ := nen hk
  have hla := heap_lt' hk
  clear hk
  clear y0 y1 y2 y3 y4 y5 y6 y7 y8 y9 yX k0 k1 k2 k3 k4 k5 k6 k7 k8 k9 kX
  have F2 := Lib.hid (F.out.put1 3 rfl 0 (.int .i64 3) rfl)
  clear F
  have F := F2
  clear F2
  have F2 := Lib.hid (F.out.put1 3 rfl 1 (.string (cbs qs)) rfl)
  clear F
  have F := F2
  clear F2
  have F2 := Lib.hid (F.out.put1 3 rfl 4 (.slice (some ⟨u5.heap.size, 0, none⟩) 1 1) rfl)
  clear F
  have F := F2
  clear F2
  have F2 := Lib.hid (F.out.alloc2 (.cells #[.int .i64 pk, .int .i64 pn, .string (cbs ps), .string (cbs po), .int .i64 pd, .slice pp pl pc, .int .i64 pa, .int .i64 pb, .int .i64 pr, .int .i64 pe, .int .i64 pf] 73) (b := u5.heap.size) (by simp only [size_set]))
  clear F
  have F := F2
  clear F2
  have hnrowb := Nat.ne_of_gt ((List.pairwise_cons.1 F.out.nd).1 _ (List.Mem.head _))
  have hnbrow := Ne.symm hnrowb
  dsimp only at hnrowb hnbrow
  have hnrowe := Nat.ne_of_gt ((List.pairwise_cons.1 F.out.nd).1 _ (List.Mem.tail _ (List.Mem.head _)))
  have hnerow := Ne.symm hnrowe
  dsimp only at hnrowe hnerow
  have hnrowZ := Nat.ne_of_gt ((List.pairwise_cons.1 F.out.nd).1 _ (List.Mem.tail _ (List.Mem.tail _ (List.Mem.head _))))
  have hnZrow := Ne.symm hnrowZ
  dsimp only at hnrowZ hnZrow
  have hnrows := Nat.ne_of_gt ((List.pairwise_cons.1 F.out.nd).1 _ (List.Mem.tail _ (List.Mem.tail _ (List.Mem.tail _ (List.Mem.head _)))))
  have hnsrow := Ne.symm hnrows
  dsimp only at hnrows hnsrow
  have HROW := Lib.hid (F.out.keep _ (List.Mem.tail _ (List.Mem.tail _ (List.Mem.tail _ (List.Mem.tail _ (List.Mem.head _)))))).1
  obtain ⟨wz, hwz⟩ : ∃ wz, wz = (((u5.setCell ⟨w.heap.size, 0, none⟩ (.int .i64 3)).setCell ⟨w.heap.size, 1, none⟩ (.string (cbs qs))).setCell ⟨w.heap.size, 4, none⟩ (.slice (some ⟨u5.heap.size, 0, none⟩) 1 1)).alloc (.cells #[.int .i64 pk, .int .i64 pn, .string (cbs ps), .string (cbs po), .int .i64 pd, .slice pp pl pc, .int .i64 pa, .int .i64 pb, .int .i64 pr, .int .i64 pe, .int .i64 pf] 73) := ⟨_, rfl⟩
  rw [← hwz] at F
  go_wp2_with (refine wpList_load_row rfl 38 (.tmp 3) rfl w.heap.size rfl 38 #[.int .i64 3, .string (cbs qs), .string ⟨#[]⟩, .int .i64 0, .slice (some ⟨u5.heap.size, 0, none⟩) 1 1, .slice none 0 0, .slice none 0 0, .int .i64 at0, .int .i64 0] (0, 0) _ ?hs Tryz.underlying38 rfl infoSt9 ?_; (case hs => exact HROW.out); rw [← hwz]; clear hwz x0 x1 x2 x3 x4 x5 x6 x7 x8 x9 xX m0 m1 m2 m3 m4 m5 m6 m7 m8 m9 mX a0 a1 a2 a3 a4 a5 a6 a7 a8 b0 b1 b2 b3 b4 b5 b6 b7 b8 hlx hlm hla; have hk := (F.out.keep _ (List.Mem.tail _ (List.Mem.tail _ (List.Mem.tail _ (List.Mem.head _))))).1; obtain ⟨⟨d0, d1, d2, d3, d4, d5, d6, d7, d8⟩, g0, g1, g2, g3, g4, g5, g6, g7, g8⟩ := nen hk; have hld := heap_lt' hk; clear hk)
  have F2 := Lib.hid (F.out.put9 3 rfl (c0 := .int .i64 3) (c1 := .string (cbs qs)) (c2 := .string ⟨#[]⟩) (c3 := .int .i64 0) (c4 := .slice (some ⟨u5.heap.size, 0, none⟩) 1 1) (c5 := .slice none 0 0) (c6 := .slice none 0 0) (c7 := .int .i64 at0) (c8 := .int .i64 0))
  clear F
  have F := F2
  clear F2
  exact bodyPost_ret (v := .agg #[.int .i64 3, .string (cbs qs), .string ⟨#[]⟩, .int .i64 0, .slice (some ⟨u5.heap.size, 0, none⟩) 1 1, .slice none 0 0, .slice none 0 0, .int .i64 at0, .int .i64 0]) (by simp [results, Tryz.results56, go_sem, d0, d1, d2, d3, d4, d5, d6, d7, d8]) rfl ⟨3, qs, [], 0, some ⟨u5.heap.size, 0, none⟩, 1, 1, none, 0, 0, none, 0, 0, at0, 0, rfl, SIs.named (SIs.mk (KidsAt.one (F.out.keep _ (List.Mem.head _)).1 (F.out.keep _ (List.Mem.head _)).2 (Is.lower (F.out.ag _ (List.Mem.head _)).2 _ (Hp.out.ag (F.out.ag _ (List.Mem.head _)).1)) rfl) SsAt.nil SsAt.nil 3 (nameOf e0) [] 0 at0 0) hnm.out, F.out.qr, F.out.gr⟩

set_option maxRecDepth 8000 in
set_option maxHeartbeats 8000000 in
theorem qplain_put5 (w : World) (R : Nat) (S : Value) (ts : List RT) (s : Q) (h : Qr w R S ts s) (at0 : Int) (rx : Qs.RX) (hX : QXOk ts rx) (e0 : Ex) (s1 : Q) (he : rx s = some (e0, s1)) (hI : Qe.is ts s1 false [61] = true) (hK : kindOf e0 = 5) (b0 : Ex) (s2 : Q) (hb : rx (Qe.take ts s1 false [61]) = some (b0, s2)) :
    Calls Tryz.prog 56 #[.pointer (some ⟨R, 0, none⟩), .agg #[.int .i64 0, .string ⟨#[]⟩, .string ⟨#[]⟩, .int .i64 0, .slice none 0 0, .slice none 0 0, .slice none 0 0, .int .i64 at0, .int .i64 0]] w (QStPost w R S ts (.mk 4 [] [] 0 [e0, b0] [] [] at0 0, Qe.take ts s2 false [59])) := by
  have HX := Lib.hid hX
  have HE := Lib.hid he
  clear hX he
  have HI := Lib.hid hI
  clear hI
  have HKD := Lib.hid hK
  clear hK
  have HB := Lib.hid hb
  clear hb
  have hlt := h.lt
  have HH := Lib.hid h
  have F := Lib.hid (((Fr.ofq h).alloc (.cells #[.int .i64 0, .string ⟨#[]⟩, .string ⟨#[]⟩, .int .i64 0, .slice none 0 0, .slice none 0 0, .slice none 0 0, .int .i64 at0, .int .i64 0] 38)).alloc2 (.cells #[.int .i64 0, .string ⟨#[]⟩, .string ⟨#[]⟩, .int .i64 0, .slice none 0 0, .slice none 0 0, .slice none 0 0, .int .i64 0, .int .i64 0] 38) (b := w.heap.size + 1) (size_alloc _ _))
  clear h
  go_enter Tryz.func56, Tryz.ntmps56
  go_wp2_with fail
  have hnsZ : w.heap.size ≠ w.heap.size + 1 := by omega
  have hnZs := Ne.symm hnsZ
  refine (HX.out _ _ HE.out _ R S F.out.qr).mono ?_
  rintro e u1 ⟨qk, qn, qs, qo, qd, qp, ql, qc, qa, qb, qr, qe, qf, rfl, hi, hr, hg⟩
  have Hq := Lib.hid hi
  have F2 := Lib.hid (F.out.call hr hg)
  clear F
  have F := F2
  clear F2
  clear hi hr hg
  have hkd := (Is.kind Hq.out).1
  have hnm := Lib.hid (Is.kind Hq.out).2
  obtain rfl : qk = 5 := hkd.symm.trans HKD.out
  clear hkd
  go_wp2_with fail
  have F2 := Lib.hid (F.out.alloc (.cells #[.int .i64 5, .int .i64 qn, .string (cbs qs), .string (cbs qo), .int .i64 qd, .slice qp ql qc, .int .i64 qa, .int .i64 qb, .int .i64 qr, .int .i64 qe, .int .i64 qf] 73))
  clear F
  have F := F2
  clear F2
  have hneZ := Nat.ne_of_gt ((List.pairwise_cons.1 F.out.nd).1 _ (List.Mem.head _))
  have hnZe := Ne.symm hneZ
  dsimp only at hneZ hnZe
  have hnes := Nat.ne_of_gt ((List.pairwise_cons.1 F.out.nd).1 _ (List.Mem.tail _ (List.Mem.head _)))
  have hnse := Ne.symm hnes
  dsimp only at hnes hnse
  refine (qIs_any _ R S ts _ F.out.qr ⟨#[61]⟩ (by decide) false (by decide)).mono ?_
  rintro e u2 ⟨rfl, hb⟩
  have F2 := Lib.hid (F.out.go hb)
  clear F
  have F := F2
  clear F2
  clear hb
  try rw [HI.out]
  have hk := (F.out.keep _ (List.Mem.head _)).1
  obtain ⟨⟨x0, x1, x2, x3, x4, x5, x6, x7, x8, x9, xX⟩, y0, y1, y2, y3, y4, y5, y6, y7, y8, y9, yX⟩ := hen hk
  have hlx := heap_lt' hk
  clear hk
  go_wp2_with fail
  clear x0 x1 x2 x3 x4 x5 x6 x7 x8 x9 xX y0 y1 y2 y3 y4 y5 y6 y7 y8 y9 yX hlx
  refine (qTake_any _ R S ts _ F.out.qr ⟨#[61]⟩ (by decide) false (by decide)).mono ?_
  rintro e u3 ⟨rfl, hr, hg⟩
  have F2 : Hid (Fr w R (QrK R S ts) (Qe.take ts s1 false [61]) _ _ _) := Lib.hid (F.out.step hr hg)
  clear F
  have F := F2
  clear F2
  clear hr hg
  go_wp2_with fail
  refine (HX.out _ _ HB.out _ R S F.out.qr).mono ?_
  rintro e u4 ⟨pk, pn, ps, po, pd, pp, pl, pc, pa, pb, pr, pe, pf, rfl, hi, hr, hg⟩
  have Hp := Lib.hid hi
  have F2 := Lib.hid (F.out.call hr hg)
  clear F
  have F := F2
  clear F2
  clear hi hr hg
  go_wp2_with fail
  have F2 := Lib.hid (F.out.alloc (.cells #[.int .i64 pk, .int .i64 pn, .string (cbs ps), .string (cbs po), .int .i64 pd, .slice pp pl pc, .int .i64 pa, .int .i64 pb, .int .i64 pr, .int .i64 pe, .int .i64 pf] 73))
  clear F
  have F := F2
  clear F2
  have hnbe := Nat.ne_of_gt ((List.pairwise_cons.1 F.out.nd).1 _ (List.Mem.head _))
  have hneb := Ne.symm hnbe
  dsimp only at hnbe hneb
  have hnbZ := Nat.ne_of_gt ((List.pairwise_cons.1 F.out.nd).1 _ (List.Mem.tail _ (List.Mem.head _)))
  have hnZb := Ne.symm hnbZ
  dsimp only at hnbZ hnZb
  have hnbs := Nat.ne_of_gt ((List.pairwise_cons.1 F.out.nd).1 _ (List.Mem.tail _ (List.Mem.tail _ (List.Mem.head _))))
  have hnsb := Ne.symm hnbs
  dsimp only at hnbs hnsb
  refine (qTake_any _ R S ts _ F.out.qr ⟨#[59]⟩ (by decide) false (by decide)).mono ?_
  rintro e u5 ⟨rfl, hr, hg⟩
  have F2 : Hid (Fr w R (QrK R S ts) (Qe.take ts s2 false [59]) _ _ _) := Lib.hid (F.out.step hr hg)
  clear F
  have F := F2
  clear F2
  clear hr hg
  have hk := (F.out.keep _ (List.Mem.tail _ (List.Mem.head _))).1
  obtain ⟨⟨x0, x1, x2, x3, x4, x5, x6, x7, x8, x9, xX⟩, y0, y1, y2, y3, y4, y5, y6, y7, y8, y9, yX⟩ := hen hk
  have hlx := heap_lt' hk
  clear hk
  have hk := (F.out.keep _ (List.Mem.head _)).1
  obtain ⟨⟨m0, m1, m2, m3, m4, m5, m6, m7, m8, m9, mX⟩, k0, k1, k2, k3, k4, k5, k6, k7, k8, k9, kX⟩ := hen hk
  have hlm := heap_lt' hk
  clear hk
  have hk := (F.out.keep _ (List.Mem.tail _ (List.Mem.tail _ (List.Mem.tail _ (List.Mem.head _))))).1
  obtain ⟨⟨a0, a1, a2, a3, a4, a5, a6, a7, a8⟩, b0, b1, b2, b3, b4, b5, b6, b7, b8⟩ := nen hk
  have hla := heap_lt' hk
  clear hk
  clear y0 y1 y2 y3 y4 y5 y6 y7 y8 y9 yX k0 k1 k2 k3 k4 k5 k6 k7 k8 k9 kX
  have F2 := Lib.hid (F.out.put1 3 rfl 0 (.int .i64 4) rfl)
  clear F
  have F := F2
  clear F2
  have F2 := Lib.hid (F.out.put1 3 rfl 4 (.slice (some ⟨u5.heap.size, 0, none⟩) 2 2) rfl)
  clear F
  have F := F2
  clear F2
  have F2 := Lib.hid (F.out.alloc2 (.cells #[.int .i64 5, .int .i64 qn, .string (cbs qs), .string (cbs qo), .int .i64 qd, .slice qp ql qc, .int .i64 qa, .int .i64 qb, .int .i64 qr, .int .i64 qe, .int .i64 qf, .int .i64 pk, .int .i64 pn, .string (cbs ps), .string (cbs po), .int .i64 pd, .slice pp pl pc, .int .i64 pa, .int .i64 pb, .int .i64 pr, .int .i64 pe, .int .i64 pf] 73) (b := u5.heap.size) (by simp only [size_set]))
  clear F
  have F := F2
  clear F2
  have hnrowb := Nat.ne_of_gt ((List.pairwise_cons.1 F.out.nd).1 _ (List.Mem.head _))
  have hnbrow := Ne.symm hnrowb
  dsimp only at hnrowb hnbrow
  have hnrowe := Nat.ne_of_gt ((List.pairwise_cons.1 F.out.nd).1 _ (List.Mem.tail _ (List.Mem.head _)))
  have hnerow := Ne.symm hnrowe
  dsimp only at hnrowe hnerow
  have hnrowZ := Nat.ne_of_gt ((List.pairwise_cons.1 F.out.nd).1 _ (List.Mem.tail _ (List.Mem.tail _ (List.Mem.head _))))
  have hnZrow := Ne.symm hnrowZ
  dsimp only at hnrowZ hnZrow
  have hnrows := Nat.ne_of_gt ((List.pairwise_cons.1 F.out.nd).1 _ (List.Mem.tail _ (List.Mem.tail _ (List.Mem.tail _ (List.Mem.head _)))))
  have hnsrow := Ne.symm hnrows
  dsimp only at hnrows hnsrow
  have HROW := Lib.hid (F.out.keep _ (List.Mem.tail _ (List.Mem.tail _ (List.Mem.tail _ (List.Mem.tail _ (List.Mem.head _)))))).1
  obtain ⟨wz, hwz⟩ : ∃ wz, wz = ((u5.setCell ⟨w.heap.size, 0, none⟩ (.int .i64 4)).setCell ⟨w.heap.size, 4, none⟩ (.slice (some ⟨u5.heap.size, 0, none⟩) 2 2)).alloc (.cells #[.int .i64 5, .int .i64 qn, .string (cbs qs), .string (cbs qo), .int .i64 qd, .slice qp ql qc, .int .i64 qa, .int .i64 qb, .int .i64 qr, .int .i64 qe, .int .i64 qf, .int .i64 pk, .int .i64 pn, .string (cbs ps), .string (cbs po), .int .i64 pd, .slice pp pl pc, .int .i64 pa, .int .i64 pb, .int .i64 pr, .int .i64 pe, .int .i64 pf] 73) := ⟨_, rfl⟩
  rw [← hwz] at F
  go_wp2_with (refine wpList_load_row rfl 38 (.tmp 3) rfl w.heap.size rfl 38 #[.int .i64 4, .string ⟨#[]⟩, .string ⟨#[]⟩, .int .i64 0, .slice (some ⟨u5.heap.size, 0, none⟩) 2 2, .slice none 0 0, .slice none 0 0, .int .i64 at0, .int .i64 0] (0, 0) _ ?hs Tryz.underlying38 rfl infoSt9 ?_; (case hs => exact HROW.out); rw [← hwz]; clear hwz x0 x1 x2 x3 x4 x5 x6 x7 x8 x9 xX m0 m1 m2 m3 m4 m5 m6 m7 m8 m9 mX a0 a1 a2 a3 a4 a5 a6 a7 a8 b0 b1 b2 b3 b4 b5 b6 b7 b8 hlx hlm hla; have hk := (F.out.keep _ (List.Mem.tail _ (List.Mem.tail _ (List.Mem.tail _ (List.Mem.head _))))).1; obtain ⟨⟨d0, d1, d2, d3, d4, d5, d6, d7, d8⟩, g0, g1, g2, g3, g4, g5, g6, g7, g8⟩ := nen hk; have hld := heap_lt' hk; clear hk)
  have F2 := Lib.hid (F.out.put9 3 rfl (c0 := .int .i64 4) (c1 := .string ⟨#[]⟩) (c2 := .string ⟨#[]⟩) (c3 := .int .i64 0) (c4 := .slice (some ⟨u5.heap.size, 0, none⟩) 2 2) (c5 := .slice none 0 0) (c6 := .slice none 0 0) (c7 := .int .i64 at0) (c8 := .int .i64 0))
  clear F
  have F := F2
  clear F2
  exact bodyPost_ret (v := .agg #[.int .i64 4, .string ⟨#[]⟩, .string ⟨#[]⟩, .int .i64 0, .slice (some ⟨u5.heap.size, 0, none⟩) 2 2, .slice none 0 0, .slice none 0 0, .int .i64 at0, .int .i64 0]) (by simp [results, Tryz.results56, go_sem, d0, d1, d2, d3, d4, d5, d6, d7, d8]) rfl ⟨4, [], [], 0, some ⟨u5.heap.size, 0, none⟩, 2, 2, none, 0, 0, none, 0, 0, at0, 0, rfl, SIs.mk (KidsAt.two (F.out.keep _ (List.Mem.head _)).1 (F.out.keep _ (List.Mem.head _)).2 (Is.lower (F.out.ag _ (List.Mem.tail _ (List.Mem.head _))).2 _ (Hq.out.ag (F.out.ag _ (List.Mem.tail _ (List.Mem.head _))).1)) (Is.lower (F.out.ag _ (List.Mem.head _)).2 _ (Hp.out.ag (F.out.ag _ (List.Mem.head _)).1)) rfl) SsAt.nil SsAt.nil 4 [] [] 0 at0 0, F.out.qr, F.out.gr⟩

set_option maxRecDepth 8000 in
set_option maxHeartbeats 8000000 in
theorem qplain_put6 (w : World) (R : Nat) (S : Value) (ts : List RT) (s : Q) (h : Qr w R S ts s) (at0 : Int) (rx : Qs.RX) (hX : QXOk ts rx) (e0 : Ex) (s1 : Q) (he : rx s = some (e0, s1)) (hI : Qe.is ts s1 false [61] = true) (hK : kindOf e0 = 6) (b0 : Ex) (s2 : Q) (hb : rx (Qe.take ts s1 false [61]) = some (b0, s2)) :
    Calls Tryz.prog 56 #[.pointer (some ⟨R, 0, none⟩), .agg #[.int .i64 0, .string ⟨#[]⟩, .string ⟨#[]⟩, .int .i64 0, .slice none 0 0, .slice none 0 0, .slice none 0 0, .int .i64 at0, .int .i64 0]] w (QStPost w R S ts (.mk 4 [] [] 0 [e0, b0] [] [] at0 0, Qe.take ts s2 false [59])) := by
  have HX := Lib.hid hX
  have HE := Lib.hid he
  clear hX he
  have HI := Lib.hid hI
  clear hI
  have HKD := Lib.hid hK
  clear hK
  have HB := Lib.hid hb
  clear hb
  have hlt := h.lt
  have HH := Lib.hid h
  have F := Lib.hid (((Fr.ofq h).alloc (.cells #[.int .i64 0, .string ⟨#[]⟩, .string ⟨#[]⟩, .int .i64 0, .slice none 0 0, .slice none 0 0, .slice none 0 0, .int .i64 at0, .int .i64 0] 38)).alloc2 (.cells #[.int .i64 0, .string ⟨#[]⟩, .string ⟨#[]⟩, .int .i64 0, .slice none 0 0, .slice none 0 0, .slice none 0 0, .int .i64 0, .int .i64 0] 38) (b := w.heap.size + 1) (size_alloc _ _))
  clear h
  go_enter Tryz.func56, Tryz.ntmps56
  go_wp2_with fail
  have hnsZ : w.heap.size ≠ w.heap.size + 1 := by omega
  have hnZs := Ne.symm hnsZ
  refine (HX.out _ _ HE.out _ R S F.out.qr).mono ?_
  rintro e u1 ⟨qk, qn, qs, qo, qd, qp, ql, qc, qa, qb, qr, qe, qf, rfl, hi, hr, hg⟩
  have Hq := Lib.hid hi
  have F2 := Lib.hid (F.out.call hr hg)
  clear F
  have F := F2
  clear F2
  clear hi hr hg
  have hkd := (Is.kind Hq.out).1
  have hnm := Lib.hid (Is.kind Hq.out).2
  obtain rfl : qk = 6 := hkd.symm.trans HKD.out
  clear hkd
  go_wp2_with fail
  have F2 := Lib.hid (F.out.alloc (.cells #[.int .i64 6, .int .i64 qn, .string (cbs qs), .string (cbs qo), .int .i64 qd, .slice qp ql qc, .int .i64 qa, .int .i64 qb, .int .i64 qr, .int .i64 qe, .int .i64 qf] 73))
  clear F
  have F := F2
  clear F2
  have hneZ := Nat.ne_of_gt ((List.pairwise_cons.1 F.out.nd).1 _ (List.Mem.head _))
  have hnZe := Ne.symm hneZ
  dsimp only at hneZ hnZe
  have hnes := Nat.ne_of_gt ((List.pairwise_cons.1 F.out.nd).1 _ (List.Mem.tail _ (List.Mem.head _)))
  have hnse := Ne.symm hnes
  dsimp only at hnes hnse
  refine (qIs_any _ R S ts _ F.out.qr ⟨#[61]⟩ (by decide) false (by decide)).mono ?_
  rintro e u2 ⟨rfl, hb⟩
  have F2 := Lib.hid (F.out.go hb)
  clear F
  have F := F2
  clear F2
  clear hb
  try rw [HI.out]
  have hk := (F.out.keep _ (List.Mem.head _)).1
  obtain ⟨⟨x0, x1, x2, x3, x4, x5, x6, x7, x8, x9, xX⟩, y0, y1, y2, y3, y4, y5, y6, y7, y8, y9, yX⟩ := hen hk
  have hlx := heap_lt' hk
  clear hk
  go_wp2_with fail
  clear x0 x1 x2 x3 x4 x5 x6 x7 x8 x9 xX y0 y1 y2 y3 y4 y5 y6 y7 y8 y9 yX hlx
  refine (qTake_any _ R S ts _ F.out.qr ⟨#[61]⟩ (by decide) false (by decide)).mono ?_
  rintro e u3 ⟨rfl, hr, hg⟩
  have F2 : Hid (Fr w R (QrK R S ts) (Qe.take ts s1 false [61]) _ _ _) := Lib.hid (F.out.step hr hg)
  clear F
  have F := F2
  clear F2
  clear hr hg
  go_wp2_with fail
  refine (HX.out _ _ HB.out _ R S F.out.qr).mono ?_
  rintro e u4 ⟨pk, pn, ps, po, pd, pp, pl, pc, pa, pb, pr, pe, pf, rfl, hi, hr, hg⟩
  have Hp := Lib.hid hi
  have F2 := Lib.hid (F.out.call hr hg)
  clear F
  have F := F2
  clear F2
  clear hi hr hg
  go_wp2_with fail
  have F2 := Lib.hid (F.out.alloc (.cells #[.int .i64 pk, .int .i64 pn, .string (cbs ps), .string (cbs po), .int .i64 pd, .slice pp pl pc, .int .i64 pa, .int .i64 pb, .int .i64 pr, .int .i64 pe, .int .i64 pf] 73))
  clear F
  have F := F2
  clear F2
  have hnbe := Nat.ne_of_gt ((List.pairwise_cons.1 F.out.nd).1 _ (List.Mem.head _))
  have hneb := Ne.symm hnbe
  dsimp only at hnbe hneb
  have hnbZ := Nat.ne_of_gt ((List.pairwise_cons.1 F.out.nd).1 _ (List.Mem.tail _ (List.Mem.head _)))
  have hnZb := Ne.symm hnbZ
  dsimp only at hnbZ hnZb
  have hnbs := Nat.ne_of_gt ((List.pairwise_cons.1 F.out.nd).1 _ (List.Mem.tail _ (List.Mem.tail _ (List.Mem.head _))))
  have hnsb := Ne.symm hnbs
  dsimp only at hnbs hnsb
  refine (qTake_any _ R S ts _ F.out.qr ⟨#[59]⟩ (by decide) false (by decide)).mono ?_
  rintro e u5 ⟨rfl, hr, hg⟩
  have F2 : Hid (Fr w R (QrK R S ts) (Qe.take ts s2 false [59]) _ _ _) := Lib.hid (F.out.step hr hg)
  clear F
  have F := F2
  clear F2
  clear hr hg
  have hk := (F.out.keep _ (List.Mem.tail _ (List.Mem.head _))).1
  obtain ⟨⟨x0, x1, x2, x3, x4, x5, x6, x7, x8, x9, xX⟩, y0, y1, y2, y3, y4, y5, y6, y7, y8, y9, yX⟩ := hen hk
  have hlx := heap_lt' hk
  clear hk
  have hk := (F.out.keep _ (List.Mem.head _)).1
  obtain ⟨⟨m0, m1, m2, m3, m4, m5, m6, m7, m8, m9, mX⟩, k0, k1, k2, k3, k4, k5, k6, k7, k8, k9, kX⟩ := hen hk
  have hlm := heap_lt' hk
  clear hk
  have hk := (F.out.keep _ (List.Mem.tail _ (List.Mem.tail _ (List.Mem.tail _ (List.Mem.head _))))).1
  obtain ⟨⟨a0, a1, a2, a3, a4, a5, a6, a7, a8⟩, b0, b1, b2, b3, b4, b5, b6, b7, b8⟩ := nen hk
  have hla := heap_lt' hk
  clear hk
  clear y0 y1 y2 y3 y4 y5 y6 y7 y8 y9 yX k0 k1 k2 k3 k4 k5 k6 k7 k8 k9 kX
  have F2 := Lib.hid (F.out.put1 3 rfl 0 (.int .i64 4) rfl)
  clear F
  have F := F2
  clear F2
  have F2 := Lib.hid (F.out.put1 3 rfl 4 (.slice (some ⟨u5.heap.size, 0, none⟩) 2 2) rfl)
  clear F
  have F := F2
  clear F2
  have F2 := Lib.hid (F.out.alloc2 (.cells #[.int .i64 6, .int .i64 qn, .string (cbs qs), .string (cbs qo), .int .i64 qd, .slice qp ql qc, .int .i64 qa, .int .i64 qb, .int .i64 qr, .int .i64 qe, .int .i64 qf, .int .i64 pk, .int .i64 pn, .string (cbs ps), .string (cbs po), .int .i64 pd, .slice pp pl pc, .int .i64 pa, .int .i64 pb, .int .i64 pr, .int .i64 pe, .int .i64 pf] 73) (b := u5.heap.size) (by simp only [size_set]))
  clear F
  have F := F2
  clear F2
  have hnrowb := Nat.ne_of_gt ((List.pairwise_cons.1 F.out.nd).1 _ (List.Mem.head _))
  have hnbrow := Ne.symm hnrowb
  dsimp only at hnrowb hnbrow
  have hnrowe := Nat.ne_of_gt ((List.pairwise_cons.1 F.out.nd).1 _ (List.Mem.tail _ (List.Mem.head _)))
  have hnerow := Ne.symm hnrowe
  dsimp only at hnrowe hnerow
  have hnrowZ := Nat.ne_of_gt ((List.pairwise_cons.1 F.out.nd).1 _ (List.Mem.tail _ (List.Mem.tail _ (List.Mem.head _))))
  have hnZrow := Ne.symm hnrowZ
  dsimp only at hnrowZ hnZrow
  have hnrows := Nat.ne_of_gt ((List.pairwise_cons.1 F.out.nd).1 _ (List.Mem.tail _ (List.Mem.tail _ (List.Mem.tail _ (List.Mem.head _)))))
  have hnsrow := Ne.symm hnrows
  dsimp only at hnrows hnsrow
  have HROW := Lib.hid (F.out.keep _ (List.Mem.tail _ (List.Mem.tail _ (List.Mem.tail _ (List.Mem.tail _ (List.Mem.head _)))))).1
  obtain ⟨wz, hwz⟩ : ∃ wz, wz = ((u5.setCell ⟨w.heap.size, 0, none⟩ (.int .i64 4)).setCell ⟨w.heap.size, 4, none⟩ (.slice (some ⟨u5.heap.size, 0, none⟩) 2 2)).alloc (.cells #[.int .i64 6, .int .i64 qn, .string (cbs qs), .string (cbs qo), .int .i64 qd, .slice qp ql qc, .int .i64 qa, .int .i64 qb, .int .i64 qr, .int .i64 qe, .int .i64 qf, .int .i64 pk, .int .i64 pn, .string (cbs ps), .string (cbs po), .int .i64 pd, .slice pp pl pc, .int .i64 pa, .int .i64 pb, .int .i64 pr, .int .i64 pe, .int .i64 pf] 73) := ⟨_, rfl⟩
  rw [← hwz] at F
  go_wp2_with (refine wpList_load_row rfl 38 (.tmp 3) rfl w.heap.size rfl 38 #[.int .i64 4, .string ⟨#[]⟩, .string ⟨#[]⟩, .int .i64 0, .slice (some ⟨u5.heap.size, 0, none⟩) 2 2, .slice none 0 0, .slice none 0 0, .int .i64 at0, .int .i64 0] (0, 0) _ ?hs Tryz.underlying38 rfl infoSt9 ?_; (case hs => exact HROW.out); rw [← hwz]; clear hwz x0 x1 x2 x3 x4 x5 x6 x7 x8 x9 xX m0 m1 m2 m3 m4 m5 m6 m7 m8 m9 mX a0 a1 a2 a3 a4 a5 a6 a7 a8 b0 b1 b2 b3 b4 b5 b6 b7 b8 hlx hlm hla; have hk := (F.out.keep _ (List.Mem.tail _ (List.Mem.tail _ (List.Mem.tail _ (List.Mem.head _))))).1; obtain ⟨⟨d0, d1, d2, d3, d4, d5, d6, d7, d8⟩, g0, g1, g2, g3, g4, g5, g6, g7, g8⟩ := nen hk; have hld := heap_lt' hk; clear hk)
  have F2 := Lib.hid (F.out.put9 3 rfl (c0 := .int .i64 4) (c1 := .string ⟨#[]⟩) (c2 := .string ⟨#[]⟩) (c3 := .int .i64 0) (c4 := .slice (some ⟨u5.heap.size, 0, none⟩) 2 2) (c5 := .slice none 0 0) (c6 := .slice none 0 0) (c7 := .int .i64 at0) (c8 := .int .i64 0))
  clear F
  have F := F2
  clear F2
  exact bodyPost_ret (v := .agg #[.int .i64 4, .string ⟨#[]⟩, .string ⟨#[]⟩, .int .i64 0, .slice (some ⟨u5.heap.size, 0, none⟩) 2 2, .slice none 0 0, .slice none 0 0, .int .i64 at0, .int .i64 0]) (by simp [results, Tryz.results56, go_sem, d0, d1, d2, d3, d4, d5, d6, d7, d8]) rfl ⟨4, [], [], 0, some ⟨u5.heap.size, 0, none⟩, 2, 2, none, 0, 0, none, 0, 0, at0, 0, rfl, SIs.mk (KidsAt.two (F.out.keep _ (List.Mem.head _)).1 (F.out.keep _ (List.Mem.head _)).2 (Is.lower (F.out.ag _ (List.Mem.tail _ (List.Mem.head _))).2 _ (Hq.out.ag (F.out.ag _ (List.Mem.tail _ (List.Mem.head _))).1)) (Is.lower (F.out.ag _ (List.Mem.head _)).2 _ (Hp.out.ag (F.out.ag _ (List.Mem.head _)).1)) rfl) SsAt.nil SsAt.nil 4 [] [] 0 at0 0, F.out.qr, F.out.gr⟩

set_option maxRecDepth 8000 in
set_option maxHeartbeats 8000000 in
theorem qplain_putno (w : World) (R : Nat) (S : Value) (ts : List RT) (s : Q) (h : Qr w R S ts s) (at0 : Int) (rx : Qs.RX) (hX : QXOk ts rx) (e0 : Ex) (s1 : Q) (he : rx s = some (e0, s1)) (hI : Qe.is ts s1 false [61] = true) (hK : kindOf e0 ≠ 4 ∧ kindOf e0 ≠ 5 ∧ kindOf e0 ≠ 6) (b0 : Ex) (s2 : Q) (hb : rx (Qe.take ts (Qe.fail ts s1 2) false [61]) = some (b0, s2)) :
    Calls Tryz.prog 56 #[.pointer (some ⟨R, 0, none⟩), .agg #[.int .i64 0, .string ⟨#[]⟩, .string ⟨#[]⟩, .int .i64 0, .slice none 0 0, .slice none 0 0, .slice none 0 0, .int .i64 at0, .int .i64 0]] w (QStPost w R S ts (.mk 4 [] [] 0 [e0, b0] [] [] at0 0, Qe.take ts s2 false [59])) := by
  have HX := Lib.hid hX
  have HE := Lib.hid he
  clear hX he
  have HI := Lib.hid hI
  clear hI
  have HKD := Lib.hid hK
  clear hK
  have HB := Lib.hid hb
  clear hb
  have hlt := h.lt
  have HH := Lib.hid h
  have F := Lib.hid (((Fr.ofq h).alloc (.cells #[.int .i64 0, .string ⟨#[]⟩, .string ⟨#[]⟩, .int .i64 0, .slice none 0 0, .slice none 0 0, .slice none 0 0, .int .i64 at0, .int .i64 0] 38)).alloc2 (.cells #[.int .i64 0, .string ⟨#[]⟩, .string ⟨#[]⟩, .int .i64 0, .slice none 0 0, .slice none 0 0, .slice none 0 0, .int .i64 0, .int .i64 0] 38) (b := w.heap.size + 1) (size_alloc _ _))
  clear h
  go_enter Tryz.func56, Tryz.ntmps56
  go_wp2_with fail
  have hnsZ : w.heap.size ≠ w.heap.size + 1 := by omega
  have hnZs := Ne.symm hnsZ
  refine (HX.out _ _ HE.out _ R S F.out.qr).mono ?_
  rintro e u1 ⟨qk, qn, qs, qo, qd, qp, ql, qc, qa, qb, qr, qe, qf, rfl, hi, hr, hg⟩
  have Hq := Lib.hid hi
  have F2 := Lib.hid (F.out.call hr hg)
  clear F
  have F := F2
  clear F2
  clear hi hr hg
  have hkd := (Is.kind Hq.out).1
  have hnm := Lib.hid (Is.kind Hq.out).2
  have hkk := HKD.out
  rw [hkd] at hkk
  have g4 : (qk != 4) = true := by simpa using hkk.1
  have g5 : (qk != 5) = true := by simpa using hkk.2.1
  have g6 : (qk != 6) = true := by simpa using hkk.2.2
  have g4b : (qk == 4) = false := by simpa using hkk.1
  clear hkk hkd
  go_wp2_with fail
  have F2 := Lib.hid (F.out.alloc (.cells #[.int .i64 qk, .int .i64 qn, .string (cbs qs), .string (cbs qo), .int .i64 qd, .slice qp ql qc, .int .i64 qa, .int .i64 qb, .int .i64 qr, .int .i64 qe, .int .i64 qf] 73))
  clear F
  have F := F2
  clear F2
  have hneZ := Nat.ne_of_gt ((List.pairwise_cons.1 F.out.nd).1 _ (List.Mem.head _))
  have hnZe := Ne.symm hneZ
  dsimp only at hneZ hnZe
  have hnes := Nat.ne_of_gt ((List.pairwise_cons.1 F.out.nd).1 _ (List.Mem.tail _ (List.Mem.head _)))
  have hnse := Ne.symm hnes
  dsimp only at hnes hnse
  refine (qIs_any _ R S ts _ F.out.qr ⟨#[61]⟩ (by decide) false (by decide)).mono ?_
  rintro e u2 ⟨rfl, hb⟩
  have F2 := Lib.hid (F.out.go hb)
  clear F
  have F := F2
  clear F2
  clear hb
  try rw [HI.out]
  have hk := (F.out.keep _ (List.Mem.head _)).1
  obtain ⟨⟨x0, x1, x2, x3, x4, x5, x6, x7, x8, x9, xX⟩, y0, y1, y2, y3, y4, y5, y6, y7, y8, y9, yX⟩ := hen hk
  have hlx := heap_lt' hk
  clear hk
  go_wp2_with fail
  clear x0 x1 x2 x3 x4 x5 x6 x7 x8 x9 xX y0 y1 y2 y3 y4 y5 y6 y7 y8 y9 yX hlx
  refine (qFail_any _ R S ts _ F.out.qr 2).mono ?_
  rintro e u3 ⟨rfl, hr, hg⟩
  have F2 : Hid (Fr w R (QrK R S ts) (Qe.fail ts s1 2) _ _ _) := Lib.hid (F.out.step hr hg)
  clear F
  have F := F2
  clear F2
  clear hr hg
  go_wp2_with fail
  refine (qTake_any _ R S ts _ F.out.qr ⟨#[61]⟩ (by decide) false (by decide)).mono ?_
  rintro e u4 ⟨rfl, hr, hg⟩
  have F2 : Hid (Fr w R (QrK R S ts) (Qe.take ts (Qe.fail ts s1 2) false [61]) _ _ _) := Lib.hid (F.out.step hr hg)
  clear F
  have F := F2
  clear F2
  clear hr hg
  go_wp2_with fail
  refine (HX.out _ _ HB.out _ R S F.out.qr).mono ?_
  rintro e u5 ⟨pk, pn, ps, po, pd, pp, pl, pc, pa, pb, pr, pe, pf, rfl, hi, hr, hg⟩
  have Hp := Lib.hid hi
  have F2 := Lib.hid (F.out.call hr hg)
  clear F
  have F := F2
  clear F2
  clear hi hr hg
  go_wp2_with fail
  have F2 := Lib.hid (F.out.alloc (.cells #[.int .i64 pk, .int .i64 pn, .string (cbs ps), .string (cbs po), .int .i64 pd, .slice pp pl pc, .int .i64 pa, .int .i64 pb, .int .i64 pr, .int .i64 pe, .int .i64 pf] 73))
  clear F
  have F := F2
  clear F2
  have hnbe := Nat.ne_of_gt ((List.pairwise_cons.1 F.out.nd).1 _ (List.Mem.head _))
  have hneb := Ne.symm hnbe
  dsimp only at hnbe hneb
  have hnbZ := Nat.ne_of_gt ((List.pairwise_cons.1 F.out.nd).1 _ (List.Mem.tail _ (List.Mem.head _)))
  have hnZb := Ne.symm hnbZ
  dsimp only at hnbZ hnZb
  have hnbs := Nat.ne_of_gt ((List.pairwise_cons.1 F.out.nd).1 _ (List.Mem.tail _ (List.Mem.tail _ (List.Mem.head _))))
  have hnsb := Ne.symm hnbs
  dsimp only at hnbs hnsb
  refine (qTake_any _ R S ts _ F.out.qr ⟨#[59]⟩ (by decide) false (by decide)).mono ?_
  rintro e u6 ⟨rfl, hr, hg⟩
  have F2 : Hid (Fr w R (QrK R S ts) (Qe.take ts s2 false [59]) _ _ _) := Lib.hid (F.out.step hr hg)
  clear F
  have F := F2
  clear F2
  clear hr hg
  have hk := (F.out.keep _ (List.Mem.tail _ (List.Mem.head _))).1
  obtain ⟨⟨x0, x1, x2, x3, x4, x5, x6, x7, x8, x9, xX⟩, y0, y1, y2, y3, y4, y5, y6, y7, y8, y9, yX⟩ := hen hk
  have hlx := heap_lt' hk
  clear hk
  have hk := (F.out.keep _ (List.Mem.head _)).1
  obtain ⟨⟨m0, m1, m2, m3, m4, m5, m6, m7, m8, m9, mX⟩, k0, k1, k2, k3, k4, k5, k6, k7, k8, k9, kX⟩ := hen hk
  have hlm := heap_lt' hk
  clear hk
  have hk := (F.out.keep _ (List.Mem.tail _ (List.Mem.tail _ (List.Mem.tail _ (List.Mem.head _))))).1
  obtain ⟨⟨a0, a1, a2, a3, a4, a5, a6, a7, a8⟩, b0, b1, b2, b3, b4, b5, b6, b7, b8⟩ := nen hk
  have hla := heap_lt' hk
  clear hk
  clear y0 y1 y2 y3 y4 y5 y6 y7 y8 y9 yX k0 k1 k2 k3 k4 k5 k6 k7 k8 k9 kX
  have F2 := Lib.hid (F.out.put1 3 rfl 0 (.int .i64 4) rfl)
  clear F
  have F := F2
  clear F2
  have F2 := Lib.hid (F.out.put1 3 rfl 4 (.slice (some ⟨u6.heap.size, 0, none⟩) 2 2) rfl)
  clear F
  have F := F2
  clear F2
  have F2 := Lib.hid (F.out.alloc2 (.cells #[.int .i64 qk, .int .i64 qn, .string (cbs qs), .string (cbs qo), .int .i64 qd, .slice qp ql qc, .int .i64 qa, .int .i64 qb, .int .i64 qr, .int .i64 qe, .int .i64 qf, .int .i64 pk, .int .i64 pn, .string (cbs ps), .string (cbs po), .int .i64 pd, .slice pp pl pc, .int .i64 pa, .int .i64 pb, .int .i64 pr, .int .i64 pe, .int .i64 pf] 73) (b := u6.heap.size) (by simp only [size_set]))
  clear F
  have F := F2
  clear F2
  have hnrowb := Nat.ne_of_gt ((List.pairwise_cons.1 F.out.nd).1 _ (List.Mem.head _))
  have hnbrow := Ne.symm hnrowb
  dsimp only at hnrowb hnbrow
  have hnrowe := Nat.ne_of_gt ((List.pairwise_cons.1 F.out.nd).1 _ (List.Mem.tail _ (List.Mem.head _)))
  have hnerow := Ne.symm hnrowe
  dsimp only at hnrowe hnerow
  have hnrowZ := Nat.ne_of_gt ((List.pairwise_cons.1 F.out.nd).1 _ (List.Mem.tail _ (List.Mem.tail _ (List.Mem.head _))))
  have hnZrow := Ne.symm hnrowZ
  dsimp only at hnrowZ hnZrow
  have hnrows := Nat.ne_of_gt ((List.pairwise_cons.1 F.out.nd).1 _ (List.Mem.tail _ (List.Mem.tail _ (List.Mem.tail _ (List.Mem.head _)))))
  have hnsrow := Ne.symm hnrows
  dsimp only at hnrows hnsrow
  have HROW := Lib.hid (F.out.keep _ (List.Mem.tail _ (List.Mem.tail _ (List.Mem.tail _ (List.Mem.tail _ (List.Mem.head _)))))).1
  obtain ⟨wz, hwz⟩ : ∃ wz, wz = ((u6.setCell ⟨w.heap.size, 0, none⟩ (.int .i64 4)).setCell ⟨w.heap.size, 4, none⟩ (.slice (some ⟨u6.heap.size, 0, none⟩) 2 2)).alloc (.cells #[.int .i64 qk, .int .i64 qn, .string (cbs qs), .string (cbs qo), .int .i64 qd, .slice qp ql qc, .int .i64 qa, .int .i64 qb, .int .i64 qr, .int .i64 qe, .int .i64 qf, .int .i64 pk, .int .i64 pn, .string (cbs ps), .string (cbs po), .int .i64 pd, .slice pp pl pc, .int .i64 pa, .int .i64 pb, .int .i64 pr, .int .i64 pe, .int .i64 pf] 73) := ⟨_, rfl⟩
  rw [← hwz] at F
  go_wp2_with (refine wpList_load_row rfl 38 (.tmp 3) rfl w.heap.size rfl 38 #[.int .i64 4, .string ⟨#[]⟩, .string ⟨#[]⟩, .int .i64 0, .slice (some ⟨u6.heap.size, 0, none⟩) 2 2, .slice none 0 0, .slice none 0 0, .int .i64 at0, .int .i64 0] (0, 0) _ ?hs Tryz.underlying38 rfl infoSt9 ?_; (case hs => exact HROW.out); rw [← hwz]; clear hwz x0 x1 x2 x3 x4 x5 x6 x7 x8 x9 xX m0 m1 m2 m3 m4 m5 m6 m7 m8 m9 mX a0 a1 a2 a3 a4 a5 a6 a7 a8 b0 b1 b2 b3 b4 b5 b6 b7 b8 hlx hlm hla; have hk := (F.out.keep _ (List.Mem.tail _ (List.Mem.tail _ (List.Mem.tail _ (List.Mem.head _))))).1; obtain ⟨⟨d0, d1, d2, d3, d4, d5, d6, d7, d8⟩, g0, g1, g2, g3, g4, g5, g6, g7, g8⟩ := nen hk; have hld := heap_lt' hk; clear hk)
  have F2 := Lib.hid (F.out.put9 3 rfl (c0 := .int .i64 4) (c1 := .string ⟨#[]⟩) (c2 := .string ⟨#[]⟩) (c3 := .int .i64 0) (c4 := .slice (some ⟨u6.heap.size, 0, none⟩) 2 2) (c5 := .slice none 0 0) (c6 := .slice none 0 0) (c7 := .int .i64 at0) (c8 := .int .i64 0))
  clear F
  have F := F2
  clear F2
  exact bodyPost_ret (v := .agg #[.int .i64 4, .string ⟨#[]⟩, .string ⟨#[]⟩, .int .i64 0, .slice (some ⟨u6.heap.size, 0, none⟩) 2 2, .slice none 0 0, .slice none 0 0, .int .i64 at0, .int .i64 0]) (by simp [results, Tryz.results56, go_sem, d0, d1, d2, d3, d4, d5, d6, d7, d8]) rfl ⟨4, [], [], 0, some ⟨u6.heap.size, 0, none⟩, 2, 2, none, 0, 0, none, 0, 0, at0, 0, rfl, SIs.mk (KidsAt.two (F.out.keep _ (List.Mem.head _)).1 (F.out.keep _ (List.Mem.head _)).2 (Is.lower (F.out.ag _ (List.Mem.tail _ (List.Mem.head _))).2 _ (Hq.out.ag (F.out.ag _ (List.Mem.tail _ (List.Mem.head _))).1)) (Is.lower (F.out.ag _ (List.Mem.head _)).2 _ (Hp.out.ag (F.out.ag _ (List.Mem.head _)).1)) rfl) SsAt.nil SsAt.nil 4 [] [] 0 at0 0, F.out.qr, F.out.gr⟩

theorem qplain_any (w : World) (R : Nat) (S : Value) (ts : List RT) (s : Q) (h : Qr w R S ts s) (at0 : Int) (rx : Qs.RX) (hX : QXOk ts rx) (x : Sm × Q) (hx : Qs.plain ts rx at0 s = some x) :
    Calls Tryz.prog 56 #[.pointer (some ⟨R, 0, none⟩), .agg #[.int .i64 0, .string ⟨#[]⟩, .string ⟨#[]⟩, .int .i64 0, .slice none 0 0, .slice none 0 0, .slice none 0 0, .int .i64 at0, .int .i64 0]] w (QStPost w R S ts x) := by
  unfold Qs.plain at hx
  split at hx
  · cases hx
  · rename_i e s1 he
    cases hI : Qe.is ts s1 false [61] with
    | false =>
      rw [hI, if_neg (by decide)] at hx
      obtain rfl := Option.some.inj hx
      unfold Qs.plainDo
      cases hJ : Qe.is ts s1 false [59] with
      | false =>
        rw [if_neg (fun hh => by cases hh.1)]
        exact qplain_do w R S ts s h at0 rx hX e s1 he hI hJ
      | true =>
        by_cases hK : kindOf e = 7
        · rw [if_neg (fun hh => hh.2 hK)]
          exact qplain_do7 w R S ts s h at0 rx hX e s1 he hI hJ hK
        · rw [if_pos ⟨rfl, hK⟩]
          exact qplain_dono w R S ts s h at0 rx hX e s1 he hI hJ hK
    | true =>
      rw [hI, if_pos rfl] at hx
      unfold Qs.plainPut at hx
      split at hx
      · cases hx
      · rename_i b s2 hb
        obtain rfl := Option.some.inj hx
        by_cases h4 : kindOf e = 4
        · rw [if_neg (fun hh => hh.1 h4)] at hb
          rw [if_pos h4]
          exact qplain_put4 w R S ts s h at0 rx hX e s1 he hI h4 b s2 hb
        · rw [if_neg h4]
          by_cases h5 : kindOf e = 5
          · rw [if_neg (fun hh => hh.2.1 h5)] at hb
            exact qplain_put5 w R S ts s h at0 rx hX e s1 he hI h5 b s2 hb
          · by_cases h6 : kindOf e = 6
            · rw [if_neg (fun hh => hh.2.2 h6)] at hb
              exact qplain_put6 w R S ts s h at0 rx hX e s1 he hI h6 b s2 hb
            · rw [if_pos ⟨h4, h5, h6⟩] at hb
              exact qplain_putno w R S ts s h at0 rx hX e s1 he hI ⟨h4, h5, h6⟩ b s2 hb
end Go.Proofs.YtnnbdidefgghjaaGreatDoor
