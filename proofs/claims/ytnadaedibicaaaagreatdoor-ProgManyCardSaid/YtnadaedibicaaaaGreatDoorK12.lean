/-
  The contracts of the project's reader: an expression, one in brackets, a number, null, len, read.
-/
import Derived.Test.YtnadaedibicaaaaGreatDoorK11
namespace Go.Proofs.YtnadaedibicaaaaGreatDoor
open Go.RowKit
open Px (RT tokAt)
open Pe

theorem enclosed_some {ts : List RT} {rec : Nat → St → Out} {s : St} {a b : List UInt8} {x : Ex × St} (h : enclosed ts rec s a b = some x) : ∃ e s2, rec 1 (enter ts s a).2 = some (e, s2) ∧ x = (e, leave ts s2 b) := by
  unfold enclosed at h
  split at h
  · cases h
  · rename_i e s2 he
    exact ⟨e, s2, he, by simpa using h.symm⟩
theorem length_some {ts : List RT} {rec : Nat → St → Out} {s : St} {x : Ex × St} (h : length ts rec s = some x) : ∃ e s2, enclosed ts rec ⟨next s.c, s.o⟩ [40] [41] = some (e, s2) ∧ x = (Ex.of 10 0 [] [] 0 [e] (peek ts s.c).at_, s2) := by
  unfold length at h
  split at h
  · cases h
  · rename_i e s2 he
    exact ⟨e, s2, he, by simpa using h.symm⟩

set_option maxHeartbeats 2000000 in
theorem expression_any (w : World) (R M1 M2 M3 : Nat) (S : Value) (ts : List RT) (s : St) (h : Rs w R M1 M2 M3 S ts s) (rec : Nat → St → Out) (hrec : RecOk ts rec) (x : Ex × St) (hx : rec 1 s = some x) :
    Calls Tryz.prog 165 #[.pointer (some ⟨R, 0, none⟩)] w (ExPost w.heap.size w R M1 M2 M3 S ts x) := by
  have hp := fun w1 hh => hrec 1 s x (Nat.le_refl _) (by decide) hx w1 R M1 M2 M3 S hh
  have HP := Lib.hid hp
  clear hp hrec hx
  have hb0 : Below w.heap.size w (w.alloc (.cells #[.int .i64 0, .int .i64 0, .string ⟨#[]⟩, .string ⟨#[]⟩, .int .i64 0, .slice none 0 0, .int .i64 0, .int .i64 0, .int .i64 0, .int .i64 0, .int .i64 0] 106)) := (Below.refl w.heap.size w).alloc (Nat.le_refl _) _
  have hlt := h.lt
  have HH := Lib.hid h
  have HR := Lib.hid (h.go hb0)
  have HG := Lib.hid (Gr.refl R (w.alloc (.cells #[.int .i64 0, .int .i64 0, .string ⟨#[]⟩, .string ⟨#[]⟩, .int .i64 0, .slice none 0 0, .int .i64 0, .int .i64 0, .int .i64 0, .int .i64 0, .int .i64 0] 106)))
  clear h hb0
  go_enter Tryz.func165, Tryz.ntmps165
  go_wp2_with fail
  have hRBq := HR.out.lt
  have hNBq := Nat.lt_of_lt_of_le (by rw [size_alloc]; exact Nat.lt_succ_self _ : w.heap.size < (w.alloc (.cells #[.int .i64 0, .int .i64 0, .string ⟨#[]⟩, .string ⟨#[]⟩, .int .i64 0, .slice none 0 0, .int .i64 0, .int .i64 0, .int .i64 0, .int .i64 0, .int .i64 0] 106)).heap.size) HG.out.size
  refine (HP.out _ HR.out).mono ?_
  rintro e w1 ⟨qk, qn, qs, qo, qd, qp, ql, qc, qa, qb, qr, qe, qf, rfl, hi, hr, hg⟩
  have Hiq := Lib.hid hi
  have HGx := Lib.hid (HG.out.trans hg)
  have HRx := Lib.hid (hr)
  clear HG HR
  have HG := HGx
  have HR := HRx
  clear HGx HRx
  clear hr hg hi
  have hk := mine HG.out hlt
  obtain ⟨⟨d0, d1, d2, d3, d4, d5, d6, d7, d8, d9, dX⟩, g0, g1, g2, g3, g4, g5, g6, g7, g8, g9, gX⟩ := hen hk
  have hl := heap_lt' hk
  clear hk
  go_wp2_with fail
  have hn := (Nw.start ((Gr.alloc (Gr.refl R w) _).trans HG.out)).put11 (B := w.heap.size) (Nat.le_refl _) (c0 := .int .i64 qk) (c1 := .int .i64 qn) (c2 := .string (cbs qs)) (c3 := .string (cbs qo)) (c4 := .int .i64 qd) (c5 := .slice qp ql qc) (c6 := .int .i64 qa) (c7 := .int .i64 qb) (c8 := .int .i64 qr) (c9 := .int .i64 qe) (c10 := .int .i64 qf)
  exact bodyPost_ret (v := .agg #[.int .i64 qk, .int .i64 qn, .string (cbs qs), .string (cbs qo), .int .i64 qd, .slice qp ql qc, .int .i64 qa, .int .i64 qb, .int .i64 qr, .int .i64 qe, .int .i64 qf]) (by simp [results, Tryz.results165, go_sem, d0, d1, d2, d3, d4, d5, d6, d7, d8, d9, dX]) rfl ⟨_, _, _, _, _, _, _, _, _, _, _, _, _, rfl, Is.lower (Nat.le_of_lt hNBq) _ (Hiq.out.put11 hNBq), HH.out.fin HR.out hn, hn.gr⟩

set_option maxHeartbeats 2000000 in
theorem enclosed_any (w : World) (R M1 M2 M3 : Nat) (S : Value) (ts : List RT) (s : St) (h : Rs w R M1 M2 M3 S ts s) (rec : Nat → St → Out) (hrec : RecOk ts rec) (ta tb : ByteArray) (x : Ex × St) (hx : enclosed ts rec s ta.data.toList tb.data.toList = some x) :
    Calls Tryz.prog 192 #[.pointer (some ⟨R, 0, none⟩), .string ta, .string tb] w (ExPost w.heap.size w R M1 M2 M3 S ts x) := by
  obtain ⟨e0, s2, he, rfl⟩ := enclosed_some hx
  have HP := Lib.hid (fun w1 hh => expression_any w1 R M1 M2 M3 S ts (enter ts s ta.data.toList).2 hh rec hrec (e0, s2) he)
  clear hrec hx he
  have hb0 : Below w.heap.size w (w.alloc (.cells #[.int .i64 0, .int .i64 0, .string ⟨#[]⟩, .string ⟨#[]⟩, .int .i64 0, .slice none 0 0, .int .i64 0, .int .i64 0, .int .i64 0, .int .i64 0, .int .i64 0] 106)) := (Below.refl w.heap.size w).alloc (Nat.le_refl _) _
  have hlt := h.lt
  have HH := Lib.hid h
  have HR := Lib.hid (h.go hb0)
  have HG := Lib.hid (Gr.refl R (w.alloc (.cells #[.int .i64 0, .int .i64 0, .string ⟨#[]⟩, .string ⟨#[]⟩, .int .i64 0, .slice none 0 0, .int .i64 0, .int .i64 0, .int .i64 0, .int .i64 0, .int .i64 0] 106)))
  clear h hb0
  go_enter Tryz.func192, Tryz.ntmps192
  go_wp2_with fail
  refine (enter_any _ R M1 M2 M3 S ts s HR.out ta).mono ?_
  rintro e w1 ⟨rfl, hr, hg⟩
  have HGx := Lib.hid (HG.out.trans hg)
  have HRx := Lib.hid (hr)
  clear HG HR
  have HG := HGx
  have HR := HRx
  clear HGx HRx
  clear hr hg
  go_wp2_with fail
  have hRBq := HR.out.lt
  have hNBq := Nat.lt_of_lt_of_le (by rw [size_alloc]; exact Nat.lt_succ_self _ : w.heap.size < (w.alloc (.cells #[.int .i64 0, .int .i64 0, .string ⟨#[]⟩, .string ⟨#[]⟩, .int .i64 0, .slice none 0 0, .int .i64 0, .int .i64 0, .int .i64 0, .int .i64 0, .int .i64 0] 106)).heap.size) HG.out.size
  refine (HP.out _ HR.out).mono ?_
  rintro e w2 ⟨qk, qn, qs, qo, qd, qp, ql, qc, qa, qb, qr, qe, qf, rfl, hi, hr, hg⟩
  have Hiq := Lib.hid hi
  have HGx := Lib.hid (HG.out.trans hg)
  have HRx := Lib.hid (hr)
  clear HG HR
  have HG := HGx
  have HR := HRx
  clear HGx HRx
  clear hr hg hi
  go_wp2_with fail
  refine (leave_any _ R M1 M2 M3 S ts s2 (HR.out.go ((Below.refl _ _).alloc (Nat.le_refl _) _)) tb).mono ?_
  rintro e w3 ⟨rfl, hr, hg⟩
  have hkb := mine hg HR.out.lt
  have Hix := Lib.hid ((Hiq.out.alloc _).gr hRBq hg)
  clear Hiq
  have Hiq := Hix
  clear Hix
  have HGx := Lib.hid ((HG.out.alloc _).trans hg)
  have HRx := Lib.hid (hr)
  clear HG HR
  have HG := HGx
  have HR := HRx
  clear HGx HRx
  clear hr hg
  obtain ⟨⟨x0, x1, x2, x3, x4, x5, x6, x7, x8, x9, xX⟩, y0, y1, y2, y3, y4, y5, y6, y7, y8, y9, yX⟩ := hen hkb
  have hlb := heap_lt' hkb
  clear hkb
  have hk := mine HG.out hlt
  obtain ⟨⟨d0, d1, d2, d3, d4, d5, d6, d7, d8, d9, dX⟩, g0, g1, g2, g3, g4, g5, g6, g7, g8, g9, gX⟩ := hen hk
  have hl := heap_lt' hk
  clear hk
  go_wp2_with fail
  have hn := (Nw.start ((Gr.alloc (Gr.refl R w) _).trans HG.out)).put11 (B := w.heap.size) (Nat.le_refl _) (c0 := .int .i64 qk) (c1 := .int .i64 qn) (c2 := .string (cbs qs)) (c3 := .string (cbs qo)) (c4 := .int .i64 qd) (c5 := .slice qp ql qc) (c6 := .int .i64 qa) (c7 := .int .i64 qb) (c8 := .int .i64 qr) (c9 := .int .i64 qe) (c10 := .int .i64 qf)
  exact bodyPost_ret (v := .agg #[.int .i64 qk, .int .i64 qn, .string (cbs qs), .string (cbs qo), .int .i64 qd, .slice qp ql qc, .int .i64 qa, .int .i64 qb, .int .i64 qr, .int .i64 qe, .int .i64 qf]) (by simp [results, Tryz.results192, go_sem, d0, d1, d2, d3, d4, d5, d6, d7, d8, d9, dX]) rfl ⟨_, _, _, _, _, _, _, _, _, _, _, _, _, rfl, Is.lower (Nat.le_of_lt hNBq) _ (Hiq.out.put11 hNBq), HH.out.fin HR.out hn, hn.gr⟩

set_option maxHeartbeats 2000000 in
theorem paren_any (w : World) (R M1 M2 M3 : Nat) (S : Value) (ts : List RT) (s : St) (h : Rs w R M1 M2 M3 S ts s) (rec : Nat → St → Out) (hrec : RecOk ts rec) (x : Ex × St) (hx : enclosed ts rec s [40] [41] = some x) :
    Calls Tryz.prog 180 #[.pointer (some ⟨R, 0, none⟩)] w (ExPost w.heap.size w R M1 M2 M3 S ts x) := by
  have HP := Lib.hid (fun w1 hh => enclosed_any w1 R M1 M2 M3 S ts s hh rec hrec ⟨#[40]⟩ ⟨#[41]⟩ x hx)
  clear hrec hx
  have hb0 : Below w.heap.size w (w.alloc (.cells #[.int .i64 0, .int .i64 0, .string ⟨#[]⟩, .string ⟨#[]⟩, .int .i64 0, .slice none 0 0, .int .i64 0, .int .i64 0, .int .i64 0, .int .i64 0, .int .i64 0] 106)) := (Below.refl w.heap.size w).alloc (Nat.le_refl _) _
  have hlt := h.lt
  have HH := Lib.hid h
  have HR := Lib.hid (h.go hb0)
  have HG := Lib.hid (Gr.refl R (w.alloc (.cells #[.int .i64 0, .int .i64 0, .string ⟨#[]⟩, .string ⟨#[]⟩, .int .i64 0, .slice none 0 0, .int .i64 0, .int .i64 0, .int .i64 0, .int .i64 0, .int .i64 0] 106)))
  clear h hb0
  go_enter Tryz.func180, Tryz.ntmps180
  go_wp2_with fail
  have hRBq := HR.out.lt
  have hNBq := Nat.lt_of_lt_of_le (by rw [size_alloc]; exact Nat.lt_succ_self _ : w.heap.size < (w.alloc (.cells #[.int .i64 0, .int .i64 0, .string ⟨#[]⟩, .string ⟨#[]⟩, .int .i64 0, .slice none 0 0, .int .i64 0, .int .i64 0, .int .i64 0, .int .i64 0, .int .i64 0] 106)).heap.size) HG.out.size
  refine (HP.out _ HR.out).mono ?_
  rintro e w1 ⟨qk, qn, qs, qo, qd, qp, ql, qc, qa, qb, qr, qe, qf, rfl, hi, hr, hg⟩
  have Hiq := Lib.hid hi
  have HGx := Lib.hid (HG.out.trans hg)
  have HRx := Lib.hid (hr)
  clear HG HR
  have HG := HGx
  have HR := HRx
  clear HGx HRx
  clear hr hg hi
  have hk := mine HG.out hlt
  obtain ⟨⟨d0, d1, d2, d3, d4, d5, d6, d7, d8, d9, dX⟩, g0, g1, g2, g3, g4, g5, g6, g7, g8, g9, gX⟩ := hen hk
  have hl := heap_lt' hk
  clear hk
  go_wp2_with fail
  have hn := (Nw.start ((Gr.alloc (Gr.refl R w) _).trans HG.out)).put11 (B := w.heap.size) (Nat.le_refl _) (c0 := .int .i64 qk) (c1 := .int .i64 qn) (c2 := .string (cbs qs)) (c3 := .string (cbs qo)) (c4 := .int .i64 qd) (c5 := .slice qp ql qc) (c6 := .int .i64 qa) (c7 := .int .i64 qb) (c8 := .int .i64 qr) (c9 := .int .i64 qe) (c10 := .int .i64 qf)
  exact bodyPost_ret (v := .agg #[.int .i64 qk, .int .i64 qn, .string (cbs qs), .string (cbs qo), .int .i64 qd, .slice qp ql qc, .int .i64 qa, .int .i64 qb, .int .i64 qr, .int .i64 qe, .int .i64 qf]) (by simp [results, Tryz.results180, go_sem, d0, d1, d2, d3, d4, d5, d6, d7, d8, d9, dX]) rfl ⟨_, _, _, _, _, _, _, _, _, _, _, _, _, rfl, Is.lower (Nat.le_of_lt hNBq) _ (Hiq.out.put11 hNBq), HH.out.fin HR.out hn, hn.gr⟩

set_option maxHeartbeats 2000000 in
theorem number_any (w : World) (R M1 M2 M3 : Nat) (S : Value) (ts : List RT) (s : St) (h : Rs w R M1 M2 M3 S ts s) :
    Calls Tryz.prog 177 #[.pointer (some ⟨R, 0, none⟩)] w (ExPost w.heap.size w R M1 M2 M3 S ts (number ts s)) := by
  have hp := fun w1 hh => next_any w1 R 203 S [.int .i64 s.o, .map (some M1), .map (some M2), .map (some M3)] ts s.c hh
  unfold number
  generalize peek ts s.c = t at hp ⊢
  unfold tokW at hp
  have HP := Lib.hid hp
  clear hp
  have hb0 : Below w.heap.size w (w.alloc (.cells #[.int .i64 0, .int .i64 0, .string ⟨#[]⟩, .string ⟨#[]⟩, .int .i64 0, .slice none 0 0, .int .i64 0, .int .i64 0, .int .i64 0, .int .i64 0, .int .i64 0] 106)) := (Below.refl w.heap.size w).alloc (Nat.le_refl _) _
  have hlt := h.lt
  have HH := Lib.hid h
  have HR := Lib.hid (h.go hb0)
  have HG := Lib.hid (Gr.refl R (w.alloc (.cells #[.int .i64 0, .int .i64 0, .string ⟨#[]⟩, .string ⟨#[]⟩, .int .i64 0, .slice none 0 0, .int .i64 0, .int .i64 0, .int .i64 0, .int .i64 0, .int .i64 0] 106)))
  clear h hb0
  go_enter Tryz.func177, Tryz.ntmps177
  go_wp2_with fail
  refine (HP.out _ HR.out.cu).mono ?_
  rintro e w1 ⟨rfl, hc, hg⟩
  have HGx := Lib.hid (HG.out.trans hg)
  have HRx := Lib.hid (HR.out.cur hg hc)
  clear HG HR
  have HG := HGx
  have HR := HRx
  clear HGx HRx
  clear hc hg
  have hk := mine HG.out hlt
  obtain ⟨⟨d0, d1, d2, d3, d4, d5, d6, d7, d8, d9, dX⟩, g0, g1, g2, g3, g4, g5, g6, g7, g8, g9, gX⟩ := hen hk
  have hl := heap_lt' hk
  clear hk
  go_wp2_with fail
  have hn := (Nw.start ((Gr.alloc (Gr.refl R w) _).trans HG.out)).put11 (B := w.heap.size) (Nat.le_refl _) (c0 := .int .i64 1) (c1 := .int .i64 t.num) (c2 := .string ⟨#[]⟩) (c3 := .string ⟨#[]⟩) (c4 := .int .i64 0) (c5 := .slice none 0 0) (c6 := .int .i64 t.at_) (c7 := .int .i64 0) (c8 := .int .i64 0) (c9 := .int .i64 0) (c10 := .int .i64 0)
  have hn := hn.alloc (.cells #[.int .i64 t.kind, .string (cbs t.text), .int .i64 t.num, .int .i64 t.at_] 66)
  exact bodyPost_ret (v := .agg #[.int .i64 1, .int .i64 t.num, .string ⟨#[]⟩, .string ⟨#[]⟩, .int .i64 0, .slice none 0 0, .int .i64 t.at_, .int .i64 0, .int .i64 0, .int .i64 0, .int .i64 0]) (by simp [results, Tryz.results177, go_sem, hl, d0, d1, d2, d3, d4, d5, d6, d7, d8, d9, dX]) rfl ⟨_, _, _, _, _, _, _, _, _, _, _, _, _, rfl, Is.leaf 1 t.num [] [] 0 t.at_, HH.out.fin HR.out hn, hn.gr⟩

set_option maxHeartbeats 2000000 in
theorem null_any (w : World) (R M1 M2 M3 : Nat) (S : Value) (ts : List RT) (s : St) (h : Rs w R M1 M2 M3 S ts s) :
    Calls Tryz.prog 182 #[.pointer (some ⟨R, 0, none⟩)] w (ExPost w.heap.size w R M1 M2 M3 S ts (null ts s)) := by
  have hp := fun w1 hh => next_any w1 R 203 S [.int .i64 s.o, .map (some M1), .map (some M2), .map (some M3)] ts s.c hh
  have hq := fun w1 hh => readType_any w1 R 203 S [.int .i64 s.o, .map (some M1), .map (some M2), .map (some M3)] ts (next s.c) hh
  unfold null
  generalize peek ts s.c = t at hp ⊢
  unfold tokW at hp
  generalize readType ts (next s.c) = y at hq ⊢
  obtain ⟨nm, dm, c2⟩ := y
  dsimp only at hq ⊢
  have hfd : ∀ w1 : World, (Instr.field 66 (.agg #[.int .i64 t.kind, .string (cbs t.text), .int .i64 t.num, .int .i64 t.at_]) 3).run Tryz.prog w1 = .ok (.int .i64 t.at_) w1 := fun _ => by kernel_rfl
  have HP := Lib.hid hp
  have HQ := Lib.hid hq
  clear hp hq
  have hb0 : Below w.heap.size w (w.alloc (.cells #[.int .i64 0, .int .i64 0, .string ⟨#[]⟩, .string ⟨#[]⟩, .int .i64 0, .slice none 0 0, .int .i64 0, .int .i64 0, .int .i64 0, .int .i64 0, .int .i64 0] 106)) := (Below.refl w.heap.size w).alloc (Nat.le_refl _) _
  have hlt := h.lt
  have HH := Lib.hid h
  have HR := Lib.hid (h.go hb0)
  have HG := Lib.hid (Gr.refl R (w.alloc (.cells #[.int .i64 0, .int .i64 0, .string ⟨#[]⟩, .string ⟨#[]⟩, .int .i64 0, .slice none 0 0, .int .i64 0, .int .i64 0, .int .i64 0, .int .i64 0, .int .i64 0] 106)))
  clear h hb0
  go_enter Tryz.func182, Tryz.ntmps182
  go_wp2_with fail
  refine (HP.out _ HR.out.cu).mono ?_
  rintro e w1 ⟨rfl, hc, hg⟩
  have HGx := Lib.hid (HG.out.trans hg)
  have HRx := Lib.hid (HR.out.cur hg hc)
  clear HG HR
  have HG := HGx
  have HR := HRx
  clear HGx HRx
  clear hc hg
  go_wp2_with fail
  refine (HQ.out _ HR.out.cu).mono ?_
  rintro e w2 ⟨rfl, hc, hg⟩
  have HGx := Lib.hid (HG.out.trans hg)
  have HRx := Lib.hid (HR.out.cur hg hc)
  clear HG HR
  have HG := HGx
  have HR := HRx
  clear HGx HRx
  clear hc hg
  have hk := mine HG.out hlt
  obtain ⟨⟨d0, d1, d2, d3, d4, d5, d6, d7, d8, d9, dX⟩, g0, g1, g2, g3, g4, g5, g6, g7, g8, g9, gX⟩ := hen hk
  have hl := heap_lt' hk
  clear hk
  go_wp2_with fail
  have hn := (Nw.start ((Gr.alloc (Gr.refl R w) _).trans HG.out)).put11 (B := w.heap.size) (Nat.le_refl _) (c0 := .int .i64 3) (c1 := .int .i64 0) (c2 := .string ⟨#[]⟩) (c3 := .string (cbs nm)) (c4 := .int .i64 dm) (c5 := .slice none 0 0) (c6 := .int .i64 t.at_) (c7 := .int .i64 0) (c8 := .int .i64 0) (c9 := .int .i64 0) (c10 := .int .i64 0)
  exact bodyPost_ret (v := .agg #[.int .i64 3, .int .i64 0, .string ⟨#[]⟩, .string (cbs nm), .int .i64 dm, .slice none 0 0, .int .i64 t.at_, .int .i64 0, .int .i64 0, .int .i64 0, .int .i64 0]) (by simp [results, Tryz.results182, go_sem, d0, d1, d2, d3, d4, d5, d6, d7, d8, d9, dX]) rfl ⟨_, _, _, _, _, _, _, _, _, _, _, _, _, rfl, Is.leaf 3 0 [] nm dm t.at_, HH.out.fin HR.out hn, hn.gr⟩

set_option maxHeartbeats 2000000 in
theorem input_any (w : World) (R M1 M2 M3 : Nat) (S : Value) (ts : List RT) (s : St) (h : Rs w R M1 M2 M3 S ts s) :
    Calls Tryz.prog 185 #[.pointer (some ⟨R, 0, none⟩)] w (ExPost w.heap.size w R M1 M2 M3 S ts (input ts s)) := by
  have hp := fun w1 hh => next_any w1 R 203 S [.int .i64 s.o, .map (some M1), .map (some M2), .map (some M3)] ts s.c hh
  unfold input
  generalize peek ts s.c = t at hp ⊢
  unfold tokW at hp
  have hfd : ∀ w1 : World, (Instr.field 66 (.agg #[.int .i64 t.kind, .string (cbs t.text), .int .i64 t.num, .int .i64 t.at_]) 3).run Tryz.prog w1 = .ok (.int .i64 t.at_) w1 := fun _ => by kernel_rfl
  have HP := Lib.hid hp
  clear hp
  have hb0 : Below w.heap.size w (w.alloc (.cells #[.int .i64 0, .int .i64 0, .string ⟨#[]⟩, .string ⟨#[]⟩, .int .i64 0, .slice none 0 0, .int .i64 0, .int .i64 0, .int .i64 0, .int .i64 0, .int .i64 0] 106)) := (Below.refl w.heap.size w).alloc (Nat.le_refl _) _
  have hlt := h.lt
  have HH := Lib.hid h
  have HR := Lib.hid (h.go hb0)
  have HG := Lib.hid (Gr.refl R (w.alloc (.cells #[.int .i64 0, .int .i64 0, .string ⟨#[]⟩, .string ⟨#[]⟩, .int .i64 0, .slice none 0 0, .int .i64 0, .int .i64 0, .int .i64 0, .int .i64 0, .int .i64 0] 106)))
  clear h hb0
  go_enter Tryz.func185, Tryz.ntmps185
  go_wp2_with fail
  refine (HP.out _ HR.out.cu).mono ?_
  rintro e w1 ⟨rfl, hc, hg⟩
  have HGx := Lib.hid (HG.out.trans hg)
  have HRx := Lib.hid (HR.out.cur hg hc)
  clear HG HR
  have HG := HGx
  have HR := HRx
  clear HGx HRx
  clear hc hg
  go_wp2_with fail
  refine (enter_any _ R M1 M2 M3 S ts ⟨next s.c, s.o⟩ HR.out ⟨#[40]⟩).mono ?_
  rintro e w2 ⟨rfl, hr, hg⟩
  have HGx := Lib.hid (HG.out.trans hg)
  have HRx := Lib.hid (hr)
  clear HG HR
  have HG := HGx
  have HR := HRx
  clear HGx HRx
  clear hr hg
  go_wp2_with fail
  refine (leave_any _ R M1 M2 M3 S ts _ HR.out ⟨#[41]⟩).mono ?_
  rintro e w3 ⟨rfl, hr, hg⟩
  have HGx := Lib.hid (HG.out.trans hg)
  have HRx := Lib.hid (hr)
  clear HG HR
  have HG := HGx
  have HR := HRx
  clear HGx HRx
  clear hr hg
  have hk := mine HG.out hlt
  obtain ⟨⟨d0, d1, d2, d3, d4, d5, d6, d7, d8, d9, dX⟩, g0, g1, g2, g3, g4, g5, g6, g7, g8, g9, gX⟩ := hen hk
  have hl := heap_lt' hk
  clear hk
  go_wp2_with fail
  have hn := (Nw.start ((Gr.alloc (Gr.refl R w) _).trans HG.out)).put11 (B := w.heap.size) (Nat.le_refl _) (c0 := .int .i64 11) (c1 := .int .i64 0) (c2 := .string ⟨#[]⟩) (c3 := .string ⟨#[]⟩) (c4 := .int .i64 0) (c5 := .slice none 0 0) (c6 := .int .i64 t.at_) (c7 := .int .i64 0) (c8 := .int .i64 0) (c9 := .int .i64 0) (c10 := .int .i64 0)
  exact bodyPost_ret (v := .agg #[.int .i64 11, .int .i64 0, .string ⟨#[]⟩, .string ⟨#[]⟩, .int .i64 0, .slice none 0 0, .int .i64 t.at_, .int .i64 0, .int .i64 0, .int .i64 0, .int .i64 0]) (by simp [results, Tryz.results185, go_sem, d0, d1, d2, d3, d4, d5, d6, d7, d8, d9, dX]) rfl ⟨_, _, _, _, _, _, _, _, _, _, _, _, _, rfl, Is.leaf 11 0 [] [] 0 t.at_, HH.out.fin HR.out hn, hn.gr⟩

set_option maxHeartbeats 2000000 in
theorem length_any (w : World) (R M1 M2 M3 : Nat) (S : Value) (ts : List RT) (s : St) (h : Rs w R M1 M2 M3 S ts s) (rec : Nat → St → Out) (hrec : RecOk ts rec) (x : Ex × St) (hx : length ts rec s = some x) :
    Calls Tryz.prog 184 #[.pointer (some ⟨R, 0, none⟩)] w (ExPost w.heap.size w R M1 M2 M3 S ts x) := by
  obtain ⟨e0, s2, he, rfl⟩ := length_some hx
  have HE := Lib.hid (fun w1 hh => enclosed_any w1 R M1 M2 M3 S ts ⟨next s.c, s.o⟩ hh rec hrec ⟨#[40]⟩ ⟨#[41]⟩ (e0, s2) he)
  have hp := fun w1 hh => next_any w1 R 203 S [.int .i64 s.o, .map (some M1), .map (some M2), .map (some M3)] ts s.c hh
  clear hrec hx he
  generalize peek ts s.c = t at hp ⊢
  unfold tokW at hp
  have hfd : ∀ w1 : World, (Instr.field 66 (.agg #[.int .i64 t.kind, .string (cbs t.text), .int .i64 t.num, .int .i64 t.at_]) 3).run Tryz.prog w1 = .ok (.int .i64 t.at_) w1 := fun _ => by kernel_rfl
  have HP := Lib.hid hp
  clear hp
  have hb0 : Below w.heap.size w (w.alloc (.cells #[.int .i64 0, .int .i64 0, .string ⟨#[]⟩, .string ⟨#[]⟩, .int .i64 0, .slice none 0 0, .int .i64 0, .int .i64 0, .int .i64 0, .int .i64 0, .int .i64 0] 106)) := (Below.refl w.heap.size w).alloc (Nat.le_refl _) _
  have hlt := h.lt
  have HH := Lib.hid h
  have HR := Lib.hid (h.go hb0)
  have HG := Lib.hid (Gr.refl R (w.alloc (.cells #[.int .i64 0, .int .i64 0, .string ⟨#[]⟩, .string ⟨#[]⟩, .int .i64 0, .slice none 0 0, .int .i64 0, .int .i64 0, .int .i64 0, .int .i64 0, .int .i64 0] 106)))
  clear h hb0
  go_enter Tryz.func184, Tryz.ntmps184
  go_wp2_with fail
  refine (HP.out _ HR.out.cu).mono ?_
  rintro e w1 ⟨rfl, hc, hg⟩
  have HGx := Lib.hid (HG.out.trans hg)
  have HRx := Lib.hid (HR.out.cur hg hc)
  clear HG HR
  have HG := HGx
  have HR := HRx
  clear HGx HRx
  clear hc hg
  go_wp2_with fail
  have hRBq := HR.out.lt
  have hNBq := Nat.lt_of_lt_of_le (by rw [size_alloc]; exact Nat.lt_succ_self _ : w.heap.size < (w.alloc (.cells #[.int .i64 0, .int .i64 0, .string ⟨#[]⟩, .string ⟨#[]⟩, .int .i64 0, .slice none 0 0, .int .i64 0, .int .i64 0, .int .i64 0, .int .i64 0, .int .i64 0] 106)).heap.size) HG.out.size
  refine (HE.out _ HR.out).mono ?_
  rintro e w2 ⟨qk, qn, qs, qo, qd, qp, ql, qc, qa, qb, qr, qe, qf, rfl, hi, hr, hg⟩
  have Hiq := Lib.hid hi
  have HGx := Lib.hid (HG.out.trans hg)
  have HRx := Lib.hid (hr)
  clear HG HR
  have HG := HGx
  have HR := HRx
  clear HGx HRx
  clear hr hg hi
  have hk := mine HG.out hlt
  obtain ⟨⟨d0, d1, d2, d3, d4, d5, d6, d7, d8, d9, dX⟩, g0, g1, g2, g3, g4, g5, g6, g7, g8, g9, gX⟩ := hen hk
  have hl := heap_lt' hk
  clear hk
  go_wp2_with fail
  have hn := ((Nw.start ((Gr.alloc (Gr.refl R w) _).trans HG.out)).put11 (B := w.heap.size) (Nat.le_refl _) (c0 := .int .i64 10) (c1 := .int .i64 0) (c2 := .string ⟨#[]⟩) (c3 := .string ⟨#[]⟩) (c4 := .int .i64 0) (c5 := .slice (some ⟨w2.heap.size, 0, none⟩) 1 1) (c6 := .int .i64 t.at_) (c7 := .int .i64 0) (c8 := .int .i64 0) (c9 := .int .i64 0) (c10 := .int .i64 0)).alloc (.cells #[.int .i64 qk, .int .i64 qn, .string (cbs qs), .string (cbs qo), .int .i64 qd, .slice qp ql qc, .int .i64 qa, .int .i64 qb, .int .i64 qr, .int .i64 qe, .int .i64 qf] 106)
  have hbx := box_put11 (w := w2) (N := w.heap.size) (o := .cells #[.int .i64 qk, .int .i64 qn, .string (cbs qs), .string (cbs qo), .int .i64 qd, .slice qp ql qc, .int .i64 qa, .int .i64 qb, .int .i64 qr, .int .i64 qe, .int .i64 qf] 106) (c0 := .int .i64 10) (c1 := .int .i64 0) (c2 := .string ⟨#[]⟩) (c3 := .string ⟨#[]⟩) (c4 := .int .i64 0) (c5 := .slice (some ⟨w2.heap.size, 0, none⟩) 1 1) (c6 := .int .i64 t.at_) (c7 := .int .i64 0) (c8 := .int .i64 0) (c9 := .int .i64 0) (c10 := .int .i64 0)
  have hle : w.heap.size ≤ w2.heap.size := Nat.le_of_lt (Nat.lt_of_lt_of_le (by rw [size_alloc]; exact Nat.lt_succ_self _ : w.heap.size < (w.alloc (.cells #[.int .i64 0, .int .i64 0, .string ⟨#[]⟩, .string ⟨#[]⟩, .int .i64 0, .slice none 0 0, .int .i64 0, .int .i64 0, .int .i64 0, .int .i64 0, .int .i64 0] 106)).heap.size) HG.out.size)
  exact bodyPost_ret (v := .agg #[.int .i64 10, .int .i64 0, .string ⟨#[]⟩, .string ⟨#[]⟩, .int .i64 0, .slice (some ⟨w2.heap.size, 0, none⟩) 1 1, .int .i64 t.at_, .int .i64 0, .int .i64 0, .int .i64 0, .int .i64 0]) (by simp [results, Tryz.results184, go_sem, hl, d0, d1, d2, d3, d4, d5, d6, d7, d8, d9, dX]) rfl ⟨_, _, _, _, _, _, _, _, _, _, _, _, _, rfl, Is.node1 hbx hle (Is.lower (Nat.le_of_lt hNBq) _ ((Hiq.out.put11 hNBq).alloc _)) rfl 10 0 [] [] 0 t.at_ 1, HH.out.fin HR.out hn, hn.gr⟩
end Go.Proofs.YtnadaedibicaaaaGreatDoor
