/-
  The contracts of the project's reader: what is made (new).
-/
import Derived.Test.YtnadaedibicaaaaGreatDoorK12
import Derived.Deep.RegionHeld3
namespace Go.Proofs.YtnadaedibicaaaaGreatDoor
open Go.RowKit
open Px (RT tokAt)
open Pe

theorem creation_no {ts : List RT} {rec : Nat → St → Out} {s : St} {x : Ex × St} (h : creation ts rec s = some x) (hv : sees ts (next s.c) 4 [91] = false) : x = (Ex.of 8 0 [] (name ts (next s.c)).1 0 [] (peek ts s.c).at_, ⟨(name ts (next s.c)).2, s.o⟩) := by
  simp only [creation, hv, Bool.false_eq_true, if_false, Option.some.injEq] at h
  exact h.symm
theorem creation_yes {ts : List RT} {rec : Nat → St → Out} {s : St} {x : Ex × St} (h : creation ts rec s = some x) (hv : sees ts (next s.c) 4 [91] = true) : ∃ e s2, enclosed ts rec ⟨(sign ts (readType ts (next (next s.c))).2.2 [93]).2, s.o⟩ [40] [41] = some (e, s2) ∧ x = (Ex.of 9 0 [] (readType ts (next (next s.c))).1 (readType ts (next (next s.c))).2.1 [e] (peek ts s.c).at_, s2) := by
  simp only [creation, hv, if_true] at h
  split at h
  · cases h
  · rename_i e s2 he
    exact ⟨e, s2, he, by simpa using h.symm⟩

set_option maxRecDepth 8000 in
set_option maxHeartbeats 2000000 in
theorem creation_no_any (w : World) (R M1 M2 M3 : Nat) (S : Value) (ts : List RT) (s : St) (h : Rs w R M1 M2 M3 S ts s) (hv : sees ts (next s.c) 4 [91] = false) :
    Calls Tryz.prog 183 #[.pointer (some ⟨R, 0, none⟩)] w (ExPost w.heap.size w R M1 M2 M3 S ts (Ex.of 8 0 [] (name ts (next s.c)).1 0 [] (peek ts s.c).at_, ⟨(name ts (next s.c)).2, s.o⟩)) := by
  have hp := fun w1 hh => next_any w1 R 203 S [.int .i64 s.o, .map (some M1), .map (some M2), .map (some M3)] ts s.c hh
  have hs := fun w1 hh => seesSign_any w1 R 203 S [.int .i64 s.o, .map (some M1), .map (some M2), .map (some M3)] ts (next s.c) hh ⟨#[91]⟩
  have hq := fun w1 hh => name_any w1 R 203 S [.int .i64 s.o, .map (some M1), .map (some M2), .map (some M3)] ts (next s.c) hh
  generalize peek ts s.c = t at hp ⊢
  unfold tokW at hp
  generalize name ts (next s.c) = y at hq ⊢
  obtain ⟨nm, c2⟩ := y
  dsimp only at hq ⊢
  have hfd : ∀ w1 : World, (Instr.field 66 (.agg #[.int .i64 t.kind, .string (cbs t.text), .int .i64 t.num, .int .i64 t.at_]) 3).run Tryz.prog w1 = .ok (.int .i64 t.at_) w1 := fun _ => by kernel_rfl
  have HP := Lib.hid hp
  have HQ := Lib.hid hq
  have HS := Lib.hid hs
  have HV := Lib.hid hv
  clear hp hq hs hv
  have hb0 : Below w.heap.size w (w.alloc (.cells #[.int .i64 0, .int .i64 0, .string ⟨#[]⟩, .string ⟨#[]⟩, .int .i64 0, .slice none 0 0, .int .i64 0, .int .i64 0, .int .i64 0, .int .i64 0, .int .i64 0] 106)) := (Below.refl w.heap.size w).alloc (Nat.le_refl _) _
  have hlt := h.lt
  have HH := Lib.hid h
  have HR := Lib.hid (h.go hb0)
  have HG := Lib.hid (Gr.refl R (w.alloc (.cells #[.int .i64 0, .int .i64 0, .string ⟨#[]⟩, .string ⟨#[]⟩, .int .i64 0, .slice none 0 0, .int .i64 0, .int .i64 0, .int .i64 0, .int .i64 0, .int .i64 0] 106)))
  clear h hb0
  go_enter Tryz.func183, Tryz.ntmps183
  go_wp2_with fail
  refine (HP.out _ HR.out.cu).mono ?_
  rintro e w1 ⟨rfl, hc, hg⟩
  have HGx := Lib.hid (HG.out.trans hg)
  have HRx := Lib.hid (HR.out.cur hg hc)
  clear HG HR
  have HG := HGx
  have HR := HRx
  clear HGx HRx
  clear hc hg
  go_wp2_with fail
  refine (HS.out _ HR.out.cu).mono ?_
  rintro e w2 ⟨rfl, hb⟩
  have HGx := Lib.hid (HG.out.below hb)
  have HRx := Lib.hid (HR.out.go hb)
  clear HG HR
  have HG := HGx
  have HR := HRx
  clear HGx HRx
  clear hb
  rw [HV.out]
  go_wp2_with fail
  refine (HQ.out _ HR.out.cu).mono ?_
  rintro e w3 ⟨rfl, hc, hg⟩
  have HGx := Lib.hid (HG.out.trans hg)
  have HRx := Lib.hid (HR.out.cur hg hc)
  clear HG HR
  have HG := HGx
  have HR := HRx
  clear HGx HRx
  clear hc hg
  have hk := mine HG.out hlt
  obtain ⟨⟨d0, d1, d2, d3, d4, d5, d6, d7, d8, d9, dX⟩, g0, g1, g2, g3, g4, g5, g6, g7, g8, g9, gX⟩ := hen hk
  have hl := heap_lt' hk
  clear hk
  go_wp2_with fail
  have hn := (Nw.start ((Gr.alloc (Gr.refl R w) _).trans HG.out)).put11 (B := w.heap.size) (Nat.le_refl _) (c0 := .int .i64 8) (c1 := .int .i64 0) (c2 := .string ⟨#[]⟩) (c3 := .string (cbs nm)) (c4 := .int .i64 0) (c5 := .slice none 0 0) (c6 := .int .i64 t.at_) (c7 := .int .i64 0) (c8 := .int .i64 0) (c9 := .int .i64 0) (c10 := .int .i64 0)
  exact bodyPost_ret (v := .agg #[.int .i64 8, .int .i64 0, .string ⟨#[]⟩, .string (cbs nm), .int .i64 0, .slice none 0 0, .int .i64 t.at_, .int .i64 0, .int .i64 0, .int .i64 0, .int .i64 0]) (by simp [results, Tryz.results183, go_sem, d0, d1, d2, d3, d4, d5, d6, d7, d8, d9, dX]) rfl ⟨_, _, _, _, _, _, _, _, _, _, _, _, _, rfl, Is.leaf 8 0 [] nm 0 t.at_, HH.out.fin HR.out hn, hn.gr⟩

set_option maxRecDepth 8000 in
set_option maxHeartbeats 2000000 in
theorem creation_yes_any (w : World) (R M1 M2 M3 : Nat) (S : Value) (ts : List RT) (s : St) (h : Rs w R M1 M2 M3 S ts s) (rec : Nat → St → Out) (hrec : RecOk ts rec) (hv : sees ts (next s.c) 4 [91] = true) (e0 : Ex) (s2 : St) (he : enclosed ts rec ⟨(sign ts (readType ts (next (next s.c))).2.2 [93]).2, s.o⟩ [40] [41] = some (e0, s2)) :
    Calls Tryz.prog 183 #[.pointer (some ⟨R, 0, none⟩)] w (ExPost w.heap.size w R M1 M2 M3 S ts (Ex.of 9 0 [] (readType ts (next (next s.c))).1 (readType ts (next (next s.c))).2.1 [e0] (peek ts s.c).at_, s2)) := by
  have hp := fun w1 hh => next_any w1 R 203 S [.int .i64 s.o, .map (some M1), .map (some M2), .map (some M3)] ts s.c hh
  have hs := fun w1 hh => seesSign_any w1 R 203 S [.int .i64 s.o, .map (some M1), .map (some M2), .map (some M3)] ts (next s.c) hh ⟨#[91]⟩
  have hn := fun w1 hh => next_any w1 R 203 S [.int .i64 s.o, .map (some M1), .map (some M2), .map (some M3)] ts (next s.c) hh
  have hq := fun w1 hh => readType_any w1 R 203 S [.int .i64 s.o, .map (some M1), .map (some M2), .map (some M3)] ts (next (next s.c)) hh
  generalize peek ts s.c = t at hp ⊢
  unfold tokW at hp
  generalize readType ts (next (next s.c)) = y at hq he ⊢
  obtain ⟨nm, dm, c2⟩ := y
  dsimp only at hq he ⊢
  have hg := fun w1 hh => sign_any w1 R 203 S [.int .i64 s.o, .map (some M1), .map (some M2), .map (some M3)] ts c2 hh ⟨#[93]⟩
  have HE := Lib.hid (fun w1 hh => enclosed_any w1 R M1 M2 M3 S ts ⟨(sign ts c2 [93]).2, s.o⟩ hh rec hrec ⟨#[40]⟩ ⟨#[41]⟩ (e0, s2) he)
  clear hrec he
  have hfd : ∀ w1 : World, (Instr.field 66 (.agg #[.int .i64 t.kind, .string (cbs t.text), .int .i64 t.num, .int .i64 t.at_]) 3).run Tryz.prog w1 = .ok (.int .i64 t.at_) w1 := fun _ => by kernel_rfl
  have HP := Lib.hid hp
  have HQ := Lib.hid hq
  have HS := Lib.hid hs
  have HN := Lib.hid hn
  have HSG := Lib.hid hg
  have HV := Lib.hid hv
  clear hp hq hs hn hg hv
  have hb0 : Below w.heap.size w (w.alloc (.cells #[.int .i64 0, .int .i64 0, .string ⟨#[]⟩, .string ⟨#[]⟩, .int .i64 0, .slice none 0 0, .int .i64 0, .int .i64 0, .int .i64 0, .int .i64 0, .int .i64 0] 106)) := (Below.refl w.heap.size w).alloc (Nat.le_refl _) _
  have hlt := h.lt
  have HH := Lib.hid h
  have HR := Lib.hid (h.go hb0)
  have HG := Lib.hid (Gr.refl R (w.alloc (.cells #[.int .i64 0, .int .i64 0, .string ⟨#[]⟩, .string ⟨#[]⟩, .int .i64 0, .slice none 0 0, .int .i64 0, .int .i64 0, .int .i64 0, .int .i64 0, .int .i64 0] 106)))
  clear h hb0
  go_enter Tryz.func183, Tryz.ntmps183
  go_wp2_with fail
  refine (HP.out _ HR.out.cu).mono ?_
  rintro e w1 ⟨rfl, hc, hg⟩
  have HGx := Lib.hid (HG.out.trans hg)
  have HRx := Lib.hid (HR.out.cur hg hc)
  clear HG HR
  have HG := HGx
  have HR := HRx
  clear HGx HRx
  clear hc hg
  go_wp2_with fail
  refine (HS.out _ HR.out.cu).mono ?_
  rintro e w2 ⟨rfl, hb⟩
  have HGx := Lib.hid (HG.out.below hb)
  have HRx := Lib.hid (HR.out.go hb)
  clear HG HR
  have HG := HGx
  have HR := HRx
  clear HGx HRx
  clear hb
  rw [HV.out]
  go_wp2_with fail
  refine (HN.out _ HR.out.cu).mono ?_
  rintro e w3 ⟨rfl, hc, hg⟩
  have HGx := Lib.hid (HG.out.trans hg)
  have HRx := Lib.hid (HR.out.cur hg hc)
  clear HG HR
  have HG := HGx
  have HR := HRx
  clear HGx HRx
  clear hc hg
  go_wp2_with fail
  refine (HQ.out _ HR.out.cu).mono ?_
  rintro e w4 ⟨rfl, hc, hg⟩
  have HGx := Lib.hid (HG.out.trans hg)
  have HRx := Lib.hid (HR.out.cur hg hc)
  clear HG HR
  have HG := HGx
  have HR := HRx
  clear HGx HRx
  clear hc hg
  go_wp2_with fail
  have hnb : w.heap.size < w4.heap.size := (Nat.lt_of_lt_of_le (by rw [size_alloc]; exact Nat.lt_succ_self _ : w.heap.size < (w.alloc (.cells #[.int .i64 0, .int .i64 0, .string ⟨#[]⟩, .string ⟨#[]⟩, .int .i64 0, .slice none 0 0, .int .i64 0, .int .i64 0, .int .i64 0, .int .i64 0, .int .i64 0] 106)).heap.size) HG.out.size)
  refine (HSG.out _ (HR.out.go ((Below.refl _ _).alloc (Nat.le_refl _) _)).cu).mono ?_
  rintro e w5 ⟨rfl, hc, hg⟩
  have hr := (HR.out.go ((Below.refl _ _).alloc (Nat.le_refl _) _)).cur hg hc
  clear hc
  have hkb := mine hg HR.out.lt
  have HGx := Lib.hid ((HG.out.alloc _).trans hg)
  have HRx := Lib.hid (hr)
  clear HG HR
  have HG := HGx
  have HR := HRx
  clear HGx HRx
  clear hr hg
  have HKP1 : Hid (w5.drew.heap[w4.heap.size]? = some (.cells #[.string (cbs nm), .int .i64 dm] 43 (0, 0))) := hkb
  have hne : w4.heap.size ≠ w.heap.size := Nat.ne_of_gt hnb
  obtain ⟨⟨x0, x1⟩, ⟨y0, y1⟩, hlx⟩ := duo hkb
  clear hkb
  have hk := mine HG.out hlt
  obtain ⟨⟨d0, d1, d2, d3, d4, d5, d6, d7, d8, d9, dX⟩, g0, g1, g2, g3, g4, g5, g6, g7, g8, g9, gX⟩ := hen hk
  have hl := heap_lt' hk
  clear hk
  go_wp2_with fail
  have HC1 := Lib.hid (HR.out.go (Below.refl _ _).drew)
  have hNBq : w.heap.size < w5.heap.size := (Nat.lt_of_lt_of_le (by rw [size_alloc]; exact Nat.lt_succ_self _ : w.heap.size < (w.alloc (.cells #[.int .i64 0, .int .i64 0, .string ⟨#[]⟩, .string ⟨#[]⟩, .int .i64 0, .slice none 0 0, .int .i64 0, .int .i64 0, .int .i64 0, .int .i64 0, .int .i64 0] 106)).heap.size) HG.out.size)
  go_region_held3 (fun w' => w'.cell? ⟨w4.heap.size, 0, none⟩ = some (.string (cbs nm)) ∧ w'.cell? ⟨w4.heap.size, 1, none⟩ = some (.int .i64 dm)) (with_reducible first | exact (duo HKP1.out).1 | exact (duo HKP2.out).1 | exact (duo (alloc_box _ HKP2.out)).1 | exact (duo (put11_other HKP2.out hne)).1 | exact (duo (alloc_box _ (put11_other HKP2.out hne))).1) (first
    | (go_at_call 192; (with_reducible refine Calls.mono (HE.out _ HC1.out) ?_); rintro e w6 ⟨qk, qn, qs, qo, qd, qp, ql, qc, qa, qb, qr, qe, qf, rfl, hi, hr, hg⟩; have HG2 := Lib.hid ((HG.out.trans (Gr.of (Below.refl _ _).drew)).trans hg); have HR2 := Lib.hid hr; have Hiq := Lib.hid hi; have HKP2 := Lib.hid (hg.box HKP1.out (Nat.ne_of_gt (Nat.lt_of_lt_of_le hlt (Nat.le_of_lt hnb)))); clear d0 d1 d2 d3 d4 d5 d6 d7 d8 d9 dX g0 g1 g2 g3 g4 g5 g6 g7 g8 g9 gX hl hr hi hg; have hk := mine HG2.out hlt; obtain ⟨⟨v0, v1, v2, v3, v4, v5, v6, v7, v8, v9, vX⟩, p0, p1, p2, p3, p4, p5, p6, p7, p8, p9, pX⟩ := hen hk; have hm := heap_lt' hk; clear hk))
  go_wp2_with fail
  have hn := ((Nw.start ((Gr.alloc (Gr.refl R w) _).trans HG2.out)).put11 (B := w.heap.size) (Nat.le_refl _) (c0 := .int .i64 9) (c1 := .int .i64 0) (c2 := .string ⟨#[]⟩) (c3 := .string (cbs nm)) (c4 := .int .i64 dm) (c5 := .slice (some ⟨w6.heap.size, 0, none⟩) 1 1) (c6 := .int .i64 t.at_) (c7 := .int .i64 0) (c8 := .int .i64 0) (c9 := .int .i64 0) (c10 := .int .i64 0)).alloc (.cells #[.int .i64 qk, .int .i64 qn, .string (cbs qs), .string (cbs qo), .int .i64 qd, .slice qp ql qc, .int .i64 qa, .int .i64 qb, .int .i64 qr, .int .i64 qe, .int .i64 qf] 106)
  have hbx := box_put11 (w := w6) (N := w.heap.size) (o := .cells #[.int .i64 qk, .int .i64 qn, .string (cbs qs), .string (cbs qo), .int .i64 qd, .slice qp ql qc, .int .i64 qa, .int .i64 qb, .int .i64 qr, .int .i64 qe, .int .i64 qf] 106) (c0 := .int .i64 9) (c1 := .int .i64 0) (c2 := .string ⟨#[]⟩) (c3 := .string (cbs nm)) (c4 := .int .i64 dm) (c5 := .slice (some ⟨w6.heap.size, 0, none⟩) 1 1) (c6 := .int .i64 t.at_) (c7 := .int .i64 0) (c8 := .int .i64 0) (c9 := .int .i64 0) (c10 := .int .i64 0)
  have hle : w.heap.size ≤ w6.heap.size := Nat.le_of_lt hm
  exact bodyPost_ret (v := .agg #[.int .i64 9, .int .i64 0, .string ⟨#[]⟩, .string (cbs nm), .int .i64 dm, .slice (some ⟨w6.heap.size, 0, none⟩) 1 1, .int .i64 t.at_, .int .i64 0, .int .i64 0, .int .i64 0, .int .i64 0]) (by simp [results, Tryz.results183, go_sem, hm, v0, v1, v2, v3, v4, v5, v6, v7, v8, v9, vX]) rfl ⟨_, _, _, _, _, _, _, _, _, _, _, _, _, rfl, Is.node1 hbx hle (Is.lower (Nat.le_of_lt hNBq) _ ((Hiq.out.put11 (N := w.heap.size) hNBq).alloc _)) rfl 9 0 [] nm dm t.at_ 1, HH.out.fin HR2.out hn, hn.gr⟩

set_option maxRecDepth 8000 in
set_option maxHeartbeats 2000000 in
theorem creation_any (w : World) (R M1 M2 M3 : Nat) (S : Value) (ts : List RT) (s : St) (h : Rs w R M1 M2 M3 S ts s) (rec : Nat → St → Out) (hrec : RecOk ts rec) (x : Ex × St) (hx : creation ts rec s = some x) :
    Calls Tryz.prog 183 #[.pointer (some ⟨R, 0, none⟩)] w (ExPost w.heap.size w R M1 M2 M3 S ts x) := by
  cases hv : sees ts (next s.c) 4 [91] with
  | true =>
    obtain ⟨e0, s2, he, rfl⟩ := creation_yes hx hv
    exact creation_yes_any w R M1 M2 M3 S ts s h rec hrec hv e0 s2 he
  | false =>
    rw [creation_no hx hv]
    exact creation_no_any w R M1 M2 M3 S ts s h hv
end Go.Proofs.YtnadaedibicaaaaGreatDoor
