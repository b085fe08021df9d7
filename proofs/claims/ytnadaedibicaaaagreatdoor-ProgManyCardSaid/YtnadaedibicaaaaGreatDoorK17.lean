/-
  The contracts of the project's reader: one with a sign in front, true and false.
-/
import Derived.Test.YtnadaedibicaaaaGreatDoorK12
namespace Go.Proofs.YtnadaedibicaaaaGreatDoor
open Go.RowKit
open Px (RT tokAt)
open Pe

theorem prefixed_some {ts : List RT} {recU : St → Out} {s : St} {a : List UInt8} {kind : Int} {x : Ex × St} (h : prefixed ts recU s a kind = some x) : ∃ e s2, recU (enter ts s a).2 = some (e, s2) ∧ x = (Ex.of kind 0 [] [] 0 [e] (enter ts s a).1.at_, ⟨s2.c, dec s2.o⟩) := by
  unfold prefixed at h
  split at h
  · cases h
  · rename_i e s2 he
    exact ⟨e, s2, he, by simpa using h.symm⟩

set_option maxRecDepth 8000 in
set_option maxHeartbeats 2000000 in
theorem prefixed_any (w : World) (R M1 M2 M3 : Nat) (S : Value) (ts : List RT) (s : St) (h : Rs w R M1 M2 M3 S ts s) (recU : St → Out) (hrec : UnOk ts recU) (ta : ByteArray) (kind : Int) (x : Ex × St) (hx : prefixed ts recU s ta.data.toList kind = some x) :
    Calls Tryz.prog 194 #[.pointer (some ⟨R, 0, none⟩), .string ta, .int .i64 kind] w (ExPost w.heap.size w R M1 M2 M3 S ts x) := by
  obtain ⟨e0, s2, he, rfl⟩ := prefixed_some hx
  have HP := Lib.hid (fun w1 hh => hrec (enter ts s ta.data.toList).2 (e0, s2) he w1 R M1 M2 M3 S hh)
  have hen := fun w1 hh => enter_any w1 R M1 M2 M3 S ts s hh ta
  clear hrec hx he
  generalize enter ts s ta.data.toList = y at hen HP ⊢
  obtain ⟨t, s1⟩ := y
  dsimp only at hen HP ⊢
  unfold tokW at hen
  have hfd : ∀ w1 : World, (Instr.field 66 (.agg #[.int .i64 t.kind, .string (cbs t.text), .int .i64 t.num, .int .i64 t.at_]) 3).run Tryz.prog w1 = .ok (.int .i64 t.at_) w1 := fun _ => by kernel_rfl
  have HE := Lib.hid hen
  clear hen
  have hb0 : Below w.heap.size w (w.alloc (.cells #[.int .i64 0, .int .i64 0, .string ⟨#[]⟩, .string ⟨#[]⟩, .int .i64 0, .slice none 0 0, .int .i64 0, .int .i64 0, .int .i64 0, .int .i64 0, .int .i64 0] 106)) := (Below.refl w.heap.size w).alloc (Nat.le_refl _) _
  have hlt := h.lt
  have HH := Lib.hid h
  have HR := Lib.hid (h.go hb0)
  have HG := Lib.hid (Gr.refl R (w.alloc (.cells #[.int .i64 0, .int .i64 0, .string ⟨#[]⟩, .string ⟨#[]⟩, .int .i64 0, .slice none 0 0, .int .i64 0, .int .i64 0, .int .i64 0, .int .i64 0, .int .i64 0] 106)))
  clear h hb0
  go_enter Tryz.func194, Tryz.ntmps194
  go_wp2_with fail
  refine (HE.out _ HR.out).mono ?_
  rintro e w1 ⟨rfl, hr, hg⟩
  have HGx := Lib.hid (HG.out.trans hg)
  have HRx := Lib.hid (hr)
  clear HG HR
  have HG := HGx
  have HR := HRx
  clear HGx HRx
  clear hr hg
  go_wp2_with fail
  have hRBq := HR.out.lt
  have hNBq := Nat.lt_of_lt_of_le (by rw [size_alloc]; exact Nat.lt_succ_self _ : w.heap.size < (w.alloc (.cells #[.int .i64 0, .int .i64 0, .string ⟨#[]⟩, .string ⟨#[]⟩, .int .i64 0, .slice none 0 0, .int .i64 0, .int .i64 0, .int .i64 0, .int .i64 0, .int .i64 0] 106)).heap.size) HG.out.size
  refine (HP.out _ HR.out).mono ?_
  rintro e w2 ⟨qk, qn, qs, qo, qd, qp, ql, qc, qa, qb, qr, qe, qf, rfl, hi, hr, hg⟩
  have Hiq := Lib.hid hi
  have HGx := Lib.hid (HG.out.trans hg)
  have HRx := Lib.hid (hr)
  clear HG HR
  have HG := HGx
  have HR := HRx
  clear HGx HRx
  clear hr hg hi
  go_wp2_with fail
  refine (leaveN_any _ R M1 M2 M3 S ts s2 (HR.out.go ((Below.refl _ _).alloc (Nat.le_refl _) _))).mono ?_
  rintro e w3 ⟨rfl, hr, hg⟩
  have hkb := mine hg HR.out.lt
  have Hix := Lib.hid ((Hiq.out.alloc _).gr hRBq hg)
  clear Hiq
  have Hiq := Hix
  clear Hix
  have HGx := Lib.hid ((HG.out.alloc _).trans hg)
  have HRx := Lib.hid (hr)
  clear HG HR
  have HG := HGx
  have HR := HRx
  clear HGx HRx
  clear hr hg
  obtain ⟨⟨x0, x1, x2, x3, x4, x5, x6, x7, x8, x9, xX⟩, y0, y1, y2, y3, y4, y5, y6, y7, y8, y9, yX⟩ := hen hkb
  have hlb := heap_lt' hkb
  clear hkb
  have hk := mine HG.out hlt
  obtain ⟨⟨d0, d1, d2, d3, d4, d5, d6, d7, d8, d9, dX⟩, g0, g1, g2, g3, g4, g5, g6, g7, g8, g9, gX⟩ := hen hk
  have hl := heap_lt' hk
  clear hk
  go_wp2_with fail
  have hn := ((Nw.start ((Gr.alloc (Gr.refl R w) _).trans HG.out)).put11 (B := w.heap.size) (Nat.le_refl _) (c0 := .int .i64 kind) (c1 := .int .i64 0) (c2 := .string ⟨#[]⟩) (c3 := .string ⟨#[]⟩) (c4 := .int .i64 0) (c5 := .slice (some ⟨w3.heap.size, 0, none⟩) 1 1) (c6 := .int .i64 t.at_) (c7 := .int .i64 0) (c8 := .int .i64 0) (c9 := .int .i64 0) (c10 := .int .i64 0)).alloc (.cells #[.int .i64 qk, .int .i64 qn, .string (cbs qs), .string (cbs qo), .int .i64 qd, .slice qp ql qc, .int .i64 qa, .int .i64 qb, .int .i64 qr, .int .i64 qe, .int .i64 qf] 106)
  have hbx := box_put11 (w := w3) (N := w.heap.size) (o := .cells #[.int .i64 qk, .int .i64 qn, .string (cbs qs), .string (cbs qo), .int .i64 qd, .slice qp ql qc, .int .i64 qa, .int .i64 qb, .int .i64 qr, .int .i64 qe, .int .i64 qf] 106) (c0 := .int .i64 kind) (c1 := .int .i64 0) (c2 := .string ⟨#[]⟩) (c3 := .string ⟨#[]⟩) (c4 := .int .i64 0) (c5 := .slice (some ⟨w3.heap.size, 0, none⟩) 1 1) (c6 := .int .i64 t.at_) (c7 := .int .i64 0) (c8 := .int .i64 0) (c9 := .int .i64 0) (c10 := .int .i64 0)
  have hle : w.heap.size ≤ w3.heap.size := Nat.le_of_lt (Nat.lt_of_lt_of_le (by rw [size_alloc]; exact Nat.lt_succ_self _ : w.heap.size < (w.alloc (.cells #[.int .i64 0, .int .i64 0, .string ⟨#[]⟩, .string ⟨#[]⟩, .int .i64 0, .slice none 0 0, .int .i64 0, .int .i64 0, .int .i64 0, .int .i64 0, .int .i64 0] 106)).heap.size) HG.out.size)
  exact bodyPost_ret (v := .agg #[.int .i64 kind, .int .i64 0, .string ⟨#[]⟩, .string ⟨#[]⟩, .int .i64 0, .slice (some ⟨w3.heap.size, 0, none⟩) 1 1, .int .i64 t.at_, .int .i64 0, .int .i64 0, .int .i64 0, .int .i64 0]) (by simp [results, Tryz.results194, go_sem, hl, d0, d1, d2, d3, d4, d5, d6, d7, d8, d9, dX]) rfl ⟨_, _, _, _, _, _, _, _, _, _, _, _, _, rfl, Is.node1 hbx hle (Is.lower (Nat.le_of_lt hNBq) _ ((Hiq.out.put11 hNBq).alloc _)) rfl kind 0 [] [] 0 t.at_ 1, HH.out.fin HR.out hn, hn.gr⟩

set_option maxRecDepth 8000 in
set_option maxHeartbeats 2000000 in
theorem truth_any (w : World) (R M1 M2 M3 : Nat) (S : Value) (ts : List RT) (s : St) (h : Rs w R M1 M2 M3 S ts s) :
    Calls Tryz.prog 181 #[.pointer (some ⟨R, 0, none⟩)] w (ExPost w.heap.size w R M1 M2 M3 S ts (truth ts s)) := by
  have hp := fun w1 hh => next_any w1 R 203 S [.int .i64 s.o, .map (some M1), .map (some M2), .map (some M3)] ts s.c hh
  have hq := fun w1 hh => peek_any w1 R 203 S [.int .i64 s.o, .map (some M1), .map (some M2), .map (some M3)] ts s.c hh
  unfold truth
  generalize peek ts s.c = t at hp hq ⊢
  unfold tokW at hp hq
  have hfd : ∀ w1 : World, (Instr.field 66 (.agg #[.int .i64 t.kind, .string (cbs t.text), .int .i64 t.num, .int .i64 t.at_]) 3).run Tryz.prog w1 = .ok (.int .i64 t.at_) w1 := fun _ => by kernel_rfl
  have hfd2 : ∀ w1 : World, (Instr.field 66 (.agg #[.int .i64 t.kind, .string (cbs t.text), .int .i64 t.num, .int .i64 t.at_]) 1).run Tryz.prog w1 = .ok (.string (cbs t.text)) w1 := fun _ => by kernel_rfl
  have HP := Lib.hid hp
  have HQ := Lib.hid hq
  clear hp hq
  obtain ⟨v, hv⟩ : ∃ v : Int, v = if t.text = [116, 114, 117, 101] then 1 else 0 := ⟨_, rfl⟩
  rw [← hv]
  have HV := Lib.hid hv
  clear hv
  have hb0 : Below w.heap.size w (w.alloc (.cells #[.int .i64 0, .int .i64 0, .string ⟨#[]⟩, .string ⟨#[]⟩, .int .i64 0, .slice none 0 0, .int .i64 0, .int .i64 0, .int .i64 0, .int .i64 0, .int .i64 0] 106)) := (Below.refl w.heap.size w).alloc (Nat.le_refl _) _
  have hlt := h.lt
  have HH := Lib.hid h
  have HR := Lib.hid (h.go hb0)
  have HG := Lib.hid (Gr.refl R (w.alloc (.cells #[.int .i64 0, .int .i64 0, .string ⟨#[]⟩, .string ⟨#[]⟩, .int .i64 0, .slice none 0 0, .int .i64 0, .int .i64 0, .int .i64 0, .int .i64 0, .int .i64 0] 106)))
  clear h hb0
  go_enter Tryz.func181, Tryz.ntmps181
  go_wp2_with fail
  refine (HQ.out _ HR.out.cu).mono ?_
  rintro e w1 ⟨rfl, hb⟩
  have HGx := Lib.hid (HG.out.below hb)
  have HRx := Lib.hid (HR.out.go hb)
  clear HG HR
  have HG := HGx
  have HR := HRx
  clear HGx HRx
  clear hb
  have HZ := Lib.hid HG.out
  go_wp2_with fail
  have hnb := Nat.ne_of_lt (Nat.lt_of_lt_of_le (by rw [size_alloc]; exact Nat.lt_succ_self _ : w.heap.size < (w.alloc (.cells #[.int .i64 0, .int .i64 0, .string ⟨#[]⟩, .string ⟨#[]⟩, .int .i64 0, .slice none 0 0, .int .i64 0, .int .i64 0, .int .i64 0, .int .i64 0, .int .i64 0] 106)).heap.size) HG.out.size)
  have hnb2 := Ne.symm hnb
  refine (HP.out _ (HR.out.go ((Below.refl _ _).alloc (Nat.le_refl _) _)).cu).mono ?_
  rintro e w2 ⟨rfl, hc, hg⟩
  have hr := (HR.out.go ((Below.refl _ _).alloc (Nat.le_refl _) _)).cur hg hc
  clear hc
  have hkb := mine hg HR.out.lt
  have HGx := Lib.hid ((HG.out.alloc _).trans hg)
  have HRx := Lib.hid (hr)
  clear HG HR
  have HG := HGx
  have HR := HRx
  clear HGx HRx
  clear hr hg
  obtain ⟨⟨x0, x1, x2, x3, x4, x5, x6, x7, x8, x9, xX⟩, y0, y1, y2, y3, y4, y5, y6, y7, y8, y9, yX⟩ := hen hkb
  have hlb := heap_lt' hkb
  clear hkb
  have hk := mine HG.out hlt
  obtain ⟨⟨d0, d1, d2, d3, d4, d5, d6, d7, d8, d9, dX⟩, g0, g1, g2, g3, g4, g5, g6, g7, g8, g9, gX⟩ := hen hk
  have hl := heap_lt' hk
  clear hk
  have hlt1 : w.heap.size < w1.heap.size := Nat.lt_of_le_of_ne (by have := HZ.out.size; rw [size_alloc] at this; omega) hnb
  have htx : ((cbs t.text).toList == [116, 114, 117, 101]) = decide (t.text = [116, 114, 117, 101]) := by rw [cbs_list, Bool.eq_iff_iff]; simp
  cases hT : ((cbs t.text).toList == [116, 114, 117, 101]) with
  | true =>
    have htd : true = decide (t.text = [116, 114, 117, 101]) := by rw [← hT, htx]
    clear htx
    have hv : v = 1 := by rw [HV.out, if_pos (by have := of_decide_eq_true (p := t.text = [116, 114, 117, 101]) (by rw [← htd]); exact this)]
    subst hv
    clear htd
    go_wp2_with fail
    have hn := ((Nw.start ((Gr.alloc (Gr.refl R w) _).trans HG.out)).set (p := ⟨w1.heap.size, 1, none⟩) (Nat.le_of_lt hlt1) (.int .i64 1)).put11 (B := w.heap.size) (Nat.le_refl _) (c0 := .int .i64 2) (c1 := .int .i64 1) (c2 := .string ⟨#[]⟩) (c3 := .string ⟨#[]⟩) (c4 := .int .i64 0) (c5 := .slice none 0 0) (c6 := .int .i64 t.at_) (c7 := .int .i64 0) (c8 := .int .i64 0) (c9 := .int .i64 0) (c10 := .int .i64 0)
    exact bodyPost_ret (v := .agg #[.int .i64 2, .int .i64 1, .string ⟨#[]⟩, .string ⟨#[]⟩, .int .i64 0, .slice none 0 0, .int .i64 t.at_, .int .i64 0, .int .i64 0, .int .i64 0, .int .i64 0]) (by simp [results, Tryz.results181, go_sem, d0, d1, d2, d3, d4, d5, d6, d7, d8, d9, dX]) rfl ⟨_, _, _, _, _, _, _, _, _, _, _, _, _, rfl, Is.leaf 2 1 [] [] 0 t.at_, HH.out.fin HR.out hn, hn.gr⟩
  | false =>
    have htd : false = decide (t.text = [116, 114, 117, 101]) := by rw [← hT, htx]
    clear htx
    have hv : v = 0 := by rw [HV.out, if_neg (fun hh => by rw [hh] at htd; cases htd)]
    subst hv
    clear htd
    go_wp2_with fail
    have hn := (Nw.start ((Gr.alloc (Gr.refl R w) _).trans HG.out)).put11 (B := w.heap.size) (Nat.le_refl _) (c0 := .int .i64 2) (c1 := .int .i64 0) (c2 := .string ⟨#[]⟩) (c3 := .string ⟨#[]⟩) (c4 := .int .i64 0) (c5 := .slice none 0 0) (c6 := .int .i64 t.at_) (c7 := .int .i64 0) (c8 := .int .i64 0) (c9 := .int .i64 0) (c10 := .int .i64 0)
    exact bodyPost_ret (v := .agg #[.int .i64 2, .int .i64 0, .string ⟨#[]⟩, .string ⟨#[]⟩, .int .i64 0, .slice none 0 0, .int .i64 t.at_, .int .i64 0, .int .i64 0, .int .i64 0, .int .i64 0]) (by simp [results, Tryz.results181, go_sem, d0, d1, d2, d3, d4, d5, d6, d7, d8, d9, dX]) rfl ⟨_, _, _, _, _, _, _, _, _, _, _, _, _, rfl, Is.leaf 2 0 [] [] 0 t.at_, HH.out.fin HR.out hn, hn.gr⟩
end Go.Proofs.YtnadaedibicaaaaGreatDoor
