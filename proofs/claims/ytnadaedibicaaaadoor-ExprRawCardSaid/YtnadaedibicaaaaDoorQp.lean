/-
  The contracts of the answer's reader (runrigref3) over the plain machine: all of its steps together.
-/
import Derived.Test.YtnadaedibicaaaaDoorQi
import Derived.Test.YtnadaedibicaaaaDoorQj
import Derived.Test.YtnadaedibicaaaaDoorQm
import Derived.Test.YtnadaedibicaaaaDoorQn
namespace Go.Proofs.YtnadaedibicaaaaDoor
open Go.RowKit
open Px (RT tokAt isT)
open Pe (inc dec Ex)
open Qe (Q)

theorem qun_some {ts : List RT} {rec : Nat → Q → Qe.Out} {g : Nat} {s : Q} {x : Ex × Q} (h : Qe.unary ts rec g s = some x) (hv : Qe.is ts s false [45] = false) (hv2 : Qe.is ts s false [33] = false) : ∃ e s2, Qe.first ts rec g s = some (e, s2) ∧ Qe.behind ts rec g e s2 = some x := by
  rw [Qe.unary, if_neg (by rw [hv]; decide), if_neg (by rw [hv2]; decide)] at h
  split at h
  · cases h
  · rename_i e s2 he
    exact ⟨e, s2, he, h⟩

set_option maxRecDepth 8000 in
set_option maxHeartbeats 4000000 in
theorem qUnary_else (w : World) (R : Nat) (S : Value) (ts : List RT) (s : Q) (h : Qr w R S ts s) (rec : Nat → Q → Qe.Out) (hrec : QRecOk ts rec) (hv0 : Qe.is ts s false [45] = false) (hv1 : Qe.is ts s false [33] = false) (gg : Nat) (hgg : gg ≤ 1000000000) (e0 : Ex) (s1 : Q) (he : Qe.first ts rec gg s = some (e0, s1)) (x : Ex × Q) (hx : Qe.behind ts rec gg e0 s1 = some x) :
    Calls Tryd.prog 57 #[.pointer (some ⟨R, 0, none⟩)] w (QPost w.heap.size w R S ts x) := by
  have HE := Lib.hid (fun w1 hh => qFirst_any w1 R S ts s hh rec hrec gg hgg (e0, s1) he)
  have HX := Lib.hid hx
  have HREC := Lib.hid hrec
  have HV0 := Lib.hid hv0
  have HV1 := Lib.hid hv1
  have htk := fun w1 hh => qTok_any w1 R S ts s hh
  generalize tokAt ts s.k = t at htk
  unfold tokW at htk
  have HTK := Lib.hid htk
  clear htk hrec he hx hv0 hv1 hgg
  have hlt := h.lt
  have HH := Lib.hid h
  have F := Lib.hid ((Fq.start h).alloc (.cells #[.int .i64 0, .int .i64 0, .string ⟨#[]⟩, .string ⟨#[]⟩, .int .i64 0, .slice none 0 0, .int .i64 0, .int .i64 0, .int .i64 0, .int .i64 0, .int .i64 0] 39))
  clear h 
  go_enter Tryd.func57, Tryd.ntmps57
  go_wp2_with fail
  refine (HTK.out _ F.out.qr).mono ?_
  rintro e u1 ⟨rfl, hb⟩
  have F2 := Lib.hid (F.out.go hb)
  clear F
  have F := F2
  clear F2
  clear hb
  go_wp2_with fail
  have F2 := Lib.hid (F.out.alloc (.cells #[.int .i64 t.kind, .string (cbs t.text), .int .i64 t.num, .int .i64 t.at_] 51))
  clear F
  have F := F2
  clear F2
  refine (qIs_any _ R S ts _ F.out.qr ⟨#[45]⟩ (by decide) false (by decide)).mono ?_
  rintro e u2 ⟨rfl, hb⟩
  have F2 := Lib.hid (F.out.go hb)
  clear F
  have F := F2
  clear F2
  clear hb
  try rw [HV0.out]
  go_wp2_with fail
  refine (qIs_any _ R S ts _ F.out.qr ⟨#[33]⟩ (by decide) false (by decide)).mono ?_
  rintro e u3 ⟨rfl, hb⟩
  have F2 := Lib.hid (F.out.go hb)
  clear F
  have F := F2
  clear F2
  clear hb
  try rw [HV1.out]
  go_wp2_with fail
  have hRB := F.out.qr.lt
  have hNB := heap_lt' (F.out.keep _ (List.Mem.tail _ (List.Mem.head _))).1
  refine (HE.out _ F.out.qr).mono ?_
  rintro e u4 ⟨qk, qn, qs, qo, qd, qp, ql, qc, qa, qb, qr, qe, qf, rfl, hi, hr, hg⟩
  have F2 := Lib.hid ((F.out.step hr hg).tree hi hNB hRB)
  clear F
  have F := F2
  clear F2
  clear hi hr hg hRB hNB
  go_wp2_with fail
  have HTR := Lib.hid (F.out.trees _ (List.Mem.head _))
  refine (qBehind_any _ R S ts s1 F.out.qr rec HREC.out (w.heap.size + 1) (by omega) (Nat.succ_le_of_lt (heap_lt' (F.out.keep _ (List.Mem.tail _ (List.Mem.head _))).1)) gg e0 qk qn qs qo qd qp ql qc qa qb qr qe qf (Is.lower HTR.out.2.1 _ HTR.out.1) x HX.out).mono ?_
  rintro e u9 ⟨zk, zn, zs, zo, zd, zp, zl, zc, za, zb, zr, ze, zf, rfl, hi, hr, hg⟩
  have F2 := Lib.hid ((F.out.step hr hg).tree hi (Nat.lt_succ_self _) (by omega))
  clear F
  have F := F2
  clear F2
  clear hi hr hg HTR
  have hk := (F.out.keep _ (List.Mem.tail _ (List.Mem.head _)))
  obtain ⟨⟨d0, d1, d2, d3, d4, d5, d6, d7, d8, d9, dX⟩, g0, g1, g2, g3, g4, g5, g6, g7, g8, g9, gX⟩ := hen hk.1
  have hld := heap_lt' hk.1
  have hnd := hk.2
  clear hk
  go_wp2_with fail
  have hn := (Nw.start F.out.gr).put11 (B := w.heap.size) (Nat.le_refl _) (c0 := .int .i64 zk) (c1 := .int .i64 zn) (c2 := .string (cbs zs)) (c3 := .string (cbs zo)) (c4 := .int .i64 zd) (c5 := .slice zp zl zc) (c6 := .int .i64 za) (c7 := .int .i64 zb) (c8 := .int .i64 zr) (c9 := .int .i64 ze) (c10 := .int .i64 zf)
  exact bodyPost_ret (v := .agg #[.int .i64 zk, .int .i64 zn, .string (cbs zs), .string (cbs zo), .int .i64 zd, .slice zp zl zc, .int .i64 za, .int .i64 zb, .int .i64 zr, .int .i64 ze, .int .i64 zf]) (by simp [results, Tryd.results57, go_sem, d0, d1, d2, d3, d4, d5, d6, d7, d8, d9, dX]) rfl ⟨_, _, _, _, _, _, _, _, _, _, _, _, _, rfl, Is.lower (Nat.le_of_lt (F.out.trees _ (List.Mem.head _)).2.1) _ ((F.out.trees _ (List.Mem.head _)).1.put11 (F.out.trees _ (List.Mem.head _)).2.1), HH.out.fin F.out.qr hn, hn.gr⟩

theorem qUnary_any (w : World) (R : Nat) (S : Value) (ts : List RT) (s : Q) (h : Qr w R S ts s) (rec : Nat → Q → Qe.Out) (hrec : QRecOk ts rec) (gg : Nat) (hgg : gg ≤ 1000000000) (x : Ex × Q) (hx : Qe.unary ts rec gg s = some x) :
    Calls Tryd.prog 57 #[.pointer (some ⟨R, 0, none⟩)] w (QPost w.heap.size w R S ts x) := by
  cases hv : Qe.is ts s false [45] with
  | true =>
    rw [Qe.unary, if_pos hv] at hx
    obtain ⟨e0, s2, he, rfl⟩ := qpre_some hx
    exact qUnary_45 w R S ts s h rec hrec hv e0 s2 he
  | false =>
    cases hv2 : Qe.is ts s false [33] with
    | true =>
      rw [Qe.unary, if_neg (by rw [hv]; decide), if_pos hv2] at hx
      obtain ⟨e0, s2, he, rfl⟩ := qpre_some hx
      exact qUnary_33 w R S ts s h rec hrec hv hv2 e0 s2 he
    | false =>
      obtain ⟨e0, s1, he, hb⟩ := qun_some hx hv hv2
      exact qUnary_else w R S ts s h rec hrec hv hv2 gg hgg e0 s1 he x hb

set_option maxRecDepth 8000 in
set_option maxHeartbeats 4000000 in
theorem qExpr_top (w : World) (R : Nat) (S : Value) (ts : List RT) (s : Q) (h : Qr w R S ts s) (rec : Nat → Q → Qe.Out) (hrec : QRecOk ts rec) (gg : Nat) (hgg : gg ≤ 1000000000) (x : Ex × Q) (hx : Qe.unary ts rec gg s = some x) :
    Calls Tryd.prog 38 #[.pointer (some ⟨R, 0, none⟩), .int .i64 5] w (QPost w.heap.size w R S ts x) := by
  have HE := Lib.hid (fun w1 hh => qUnary_any w1 R S ts s hh rec hrec gg hgg x hx)
  clear hrec hx hgg
  have hlt := h.lt
  have HH := Lib.hid h
  have F := Lib.hid ((Fq.start h).alloc (.cells #[.int .i64 0, .int .i64 0, .string ⟨#[]⟩, .string ⟨#[]⟩, .int .i64 0, .slice none 0 0, .int .i64 0, .int .i64 0, .int .i64 0, .int .i64 0, .int .i64 0] 39))
  clear h 
  go_enter Tryd.func38, Tryd.ntmps38
  go_wp2_with fail
  have hRB := F.out.qr.lt
  have hNB := heap_lt' (F.out.keep _ (List.Mem.head _)).1
  refine (HE.out _ F.out.qr).mono ?_
  rintro e u1 ⟨qk, qn, qs, qo, qd, qp, ql, qc, qa, qb, qr, qe, qf, rfl, hi, hr, hg⟩
  have F2 := Lib.hid ((F.out.step hr hg).tree hi hNB hRB)
  clear F
  have F := F2
  clear F2
  clear hi hr hg hRB hNB
  have hk := (F.out.keep _ (List.Mem.head _))
  obtain ⟨⟨d0, d1, d2, d3, d4, d5, d6, d7, d8, d9, dX⟩, g0, g1, g2, g3, g4, g5, g6, g7, g8, g9, gX⟩ := hen hk.1
  have hld := heap_lt' hk.1
  have hnd := hk.2
  clear hk
  go_wp2_with fail
  have hn := (Nw.start F.out.gr).put11 (B := w.heap.size) (Nat.le_refl _) (c0 := .int .i64 qk) (c1 := .int .i64 qn) (c2 := .string (cbs qs)) (c3 := .string (cbs qo)) (c4 := .int .i64 qd) (c5 := .slice qp ql qc) (c6 := .int .i64 qa) (c7 := .int .i64 qb) (c8 := .int .i64 qr) (c9 := .int .i64 qe) (c10 := .int .i64 qf)
  exact bodyPost_ret (v := .agg #[.int .i64 qk, .int .i64 qn, .string (cbs qs), .string (cbs qo), .int .i64 qd, .slice qp ql qc, .int .i64 qa, .int .i64 qb, .int .i64 qr, .int .i64 qe, .int .i64 qf]) (by simp [results, Tryd.results38, go_sem, d0, d1, d2, d3, d4, d5, d6, d7, d8, d9, dX]) rfl ⟨_, _, _, _, _, _, _, _, _, _, _, _, _, rfl, Is.lower (Nat.le_of_lt (F.out.trees _ (List.Mem.head _)).2.1) _ ((F.out.trees _ (List.Mem.head _)).1.put11 (F.out.trees _ (List.Mem.head _)).2.1), HH.out.fin F.out.qr hn, hn.gr⟩

/-- Its contract, by so much fuel. -/
theorem qrun_ok (ts : List RT) : ∀ f, f ≤ 1000000000 → QRecOk ts (Qe.run ts f) := by
  intro f
  induction f with
  | zero => intro _ n s x _ hx; cases hx
  | succ f ih =>
    intro hf n s x hn hx w R S h
    have hrec := ih (by omega)
    rw [Qe.run] at hx
    dsimp only at hx
    by_cases h5 : n = 5
    · subst h5
      rw [if_pos rfl] at hx
      exact qExpr_top w R S ts s h _ hrec f (by omega) x hx
    · rw [if_neg h5] at hx
      split at hx
      · cases hx
      · rename_i e0 s1 he
        exact qExpr_low w R S ts s h _ hrec n (by omega) f e0 s1 he x hx
end Go.Proofs.YtnadaedibicaaaaDoor
