/-
  The contracts of the project's reader: what opens, what closes, what is refused.
-/
import Derived.Test.YtnadaedibicaaaaDoorTree
import Derived.Test.YtnadaedibicaaaaDoorCurN
namespace Go.Proofs.YtnadaedibicaaaaDoor
open Go.RowKit
open Px (RT tokAt)
open Pe

theorem dec_eq (x : Int) : wrap64 (x - 1) = dec x := rfl

theorem enter_eq (ts : List RT) (s : St) (text : List UInt8) : enter ts s text = ((enterC ts s.c s.o text).1, ⟨(enterC ts s.c s.o text).2, inc s.o⟩) := rfl
theorem enter_any (w : World) (R M1 M2 M3 : Nat) (S : Value) (ts : List RT) (s : St) (h : Rs w R M1 M2 M3 S ts s) (text : ByteArray) :
    Calls Tryd.prog 81 #[.pointer (some ⟨R, 0, none⟩), .string text] w fun e w' => e = .returned (tokW (enter ts s text.data.toList).1) ∧ Rs w' R M1 M2 M3 S ts (enter ts s text.data.toList).2 ∧ Gr R w w' := by
  rw [enter_eq]
  exact (enterC_any w R _ S s.o _ ts s.c h.cu text).mono fun e w' ⟨he, hc, hg⟩ => ⟨he, h.gr (s' := ⟨_, inc s.o⟩) hg hc, hg⟩
theorem leaveN_any (w : World) (R M1 M2 M3 : Nat) (S : Value) (ts : List RT) (s : St) (h : Rs w R M1 M2 M3 S ts s) :
    Calls Tryd.prog 89 #[.pointer (some ⟨R, 0, none⟩)] w fun e w' => e = .returned (.tuple #[]) ∧ Rs w' R M1 M2 M3 S ts ⟨s.c, dec s.o⟩ ∧ Gr R w w' :=
  (leaveC_any w R _ S s.o _ ts s.c h.cu).mono fun _e _w' ⟨he, hc, hg⟩ => ⟨he, h.gr (s' := ⟨_, dec s.o⟩) hg hc, hg⟩

set_option maxHeartbeats 1000000 in
theorem leave_any (w : World) (R M1 M2 M3 : Nat) (S : Value) (ts : List RT) (s : St) (h : Rs w R M1 M2 M3 S ts s) (text : ByteArray) :
    Calls Tryd.prog 82 #[.pointer (some ⟨R, 0, none⟩), .string text] w fun e w' => e = .returned (.tuple #[]) ∧ Rs w' R M1 M2 M3 S ts (leave ts s text.data.toList) ∧ Gr R w w' := by
  have hp := sign_any w R _ S _ ts s.c h.cu text
  unfold leave
  generalize hsg : sign ts s.c text.data.toList = sg at hp ⊢
  obtain ⟨t, c2⟩ := sg
  dsimp only at hp ⊢
  unfold tokW at hp
  have HP := Lib.hid hp
  have HH := Lib.hid h
  clear h hp hsg
  go_enter Tryd.func82, Tryd.ntmps82
  go_wp2_with fail
  refine (HP.out).mono ?_
  rintro e w2 ⟨rfl, hr2, hg2⟩
  have HG2 := Lib.hid hg2
  have HR2 := Lib.hid (HH.out.cur hg2 hr2)
  clear hr2 hg2
  go_wp2_with fail
  refine (leaveN_any _ R M1 M2 M3 S ts _ HR2.out).mono ?_
  rintro e w3 ⟨rfl, hr3, hg3⟩
  have HG3 := Lib.hid (HG2.out.trans hg3)
  have HR3 := Lib.hid hr3
  clear hr3 hg3
  go_wp2_with fail
  first
    | exact bodyPost_end (results_none rfl _ _ _) rfl ⟨rfl, HR3.out, HG3.out⟩
    | exact bodyPost_ret (results_none rfl _ _ _) rfl ⟨rfl, HR3.out, HG3.out⟩

set_option maxHeartbeats 1000000 in
theorem refuse_any (w : World) (R M1 M2 M3 : Nat) (S : Value) (ts : List RT) (s : St) (h : Rs w R M1 M2 M3 S ts s) :
    Calls Tryd.prog 79 #[.pointer (some ⟨R, 0, none⟩)] w (ExPost w.heap.size w R M1 M2 M3 S ts (refuse ts s)) := by
  have hb0 : Below w.heap.size w (w.alloc (.cells #[.int .i64 0, .int .i64 0, .string ⟨#[]⟩, .string ⟨#[]⟩, .int .i64 0, .slice none 0 0, .int .i64 0, .int .i64 0, .int .i64 0, .int .i64 0, .int .i64 0] 39)) := (Below.refl w.heap.size w).alloc (Nat.le_refl _) _
  have h1 := h.go hb0
  have hlt := h.lt
  have hp := fail_any _ R _ S _ ts s.c h1.cu 2
  have HP := Lib.hid hp
  have HH := Lib.hid h
  have H1 := Lib.hid h1
  clear h h1 hp hb0
  go_enter Tryd.func79, Tryd.ntmps79
  go_wp2_with (first
    | (go_at_call 40; refine (HP.out).mono ?_; rintro e w1 ⟨rfl, hr1, hg1⟩; have HG1 := Lib.hid hg1; have HR1 := Lib.hid (H1.out.cur hg1 hr1); clear hr1; have hk := mine hg1 hlt; clear hg1; have hc := hen hk; obtain ⟨⟨d0, d1, d2, d3, d4, d5, d6, d7, d8, d9, dX⟩, g0, g1, g2, g3, g4, g5, g6, g7, g8, g9, gX⟩ := hc; have hl := heap_lt' hk; clear hk))
  have hn := (Nw.start (wA := w1) ((Gr.alloc (Gr.refl R w) _).trans HG1.out)).put11 (B := w.heap.size) (Nat.le_refl _) (c0 := .int .i64 0) (c1 := .int .i64 0) (c2 := .string ⟨#[]⟩) (c3 := .string ⟨#[]⟩) (c4 := .int .i64 0) (c5 := .slice none 0 0) (c6 := .int .i64 0) (c7 := .int .i64 0) (c8 := .int .i64 0) (c9 := .int .i64 0) (c10 := .int .i64 0)
  exact bodyPost_ret (v := .agg #[.int .i64 0, .int .i64 0, .string ⟨#[]⟩, .string ⟨#[]⟩, .int .i64 0, .slice none 0 0, .int .i64 0, .int .i64 0, .int .i64 0, .int .i64 0, .int .i64 0]) (by simp [results, Tryd.results79, go_sem, d0, d1, d2, d3, d4, d5, d6, d7, d8, d9, dX]) rfl ⟨_, _, _, _, _, _, _, _, _, _, _, _, _, rfl, Is.zero, HH.out.fin HR1.out hn, hn.gr⟩
end Go.Proofs.YtnadaedibicaaaaDoor
