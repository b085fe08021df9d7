/-
  The contracts of the project's reader: what opens, what closes, what is refused.
-/
import Derived.Test.YtldhgoblimfhbaaDoorTree
namespace Go.Proofs.YtldhgoblimfhbaaDoor
open Go.RowKit
open Px (RT tokAt)
open Pe

theorem dec_eq (x : Int) : wrap64 (x - 1) = dec x := rfl

set_option maxHeartbeats 1000000 in
theorem enter_A (w : World) (R M1 M2 M3 : Nat) (S : Value) (ts : List RT) (s : St) (h : Rs w R M1 M2 M3 S ts s) (text : ByteArray) (hv : sees ts s.c 4 text.data.toList = true) (hd : (s.o == 50) = true) :
    Calls Tryd.prog 84 #[.pointer (some ⟨R, 0, none⟩), .string text] w fun e w' => e = .returned (tokW (sign ts (fail ts s.c 4) text.data.toList).1) ∧ Rs w' R M1 M2 M3 S ts ⟨(sign ts (fail ts s.c 4) text.data.toList).2, inc s.o⟩ ∧ Gr R w w' := by
  have hb0 : Below w.heap.size w (w.alloc (.cells #[.int .i64 0, .string ⟨#[]⟩, .int .i64 0, .int .i64 0] 52)) := (Below.refl w.heap.size w).alloc (Nat.le_refl _) _
  have h1 := h.go hb0
  have hs := seesSign_any _ R _ S _ ts s.c h1.cu text
  have hlt := h.lt
  rw [hv] at hs
  have hp : ∀ w1 X, Cu w1 R 74 S X ts (fail ts s.c 4) → Calls Tryd.prog 45 #[.pointer (some ⟨R, 0, none⟩), .string text] w1 _ := fun w1 X h1 => sign_any w1 R _ S X ts (fail ts s.c 4) h1 text
  generalize hsg : sign ts (fail ts s.c 4) text.data.toList = sg at hp ⊢
  obtain ⟨t, c2⟩ := sg
  dsimp only at hp ⊢
  unfold tokW at hp
  have HP := Lib.hid hp
  have HH := Lib.hid h
  have H1 := Lib.hid h1
  have HS := Lib.hid hs
  clear h h1 hs hp hsg hv hb0
  go_enter Tryd.func84, Tryd.ntmps84
  go_wp2_with (first
    | (go_at_call 39; refine (HS.out).mono ?_; rintro e w1 ⟨rfl, hb1⟩; have HG := Lib.hid (Gr.of (R := R) hb1); have HR := Lib.hid (H1.out.go hb1); clear hb1; obtain ⟨o4, o5, o6, o7, f4⟩ := HR.out.open_; clear o5 o6 o7)
    | (go_at_call 40; refine (fail_any _ R _ S _ ts s.c HR.out.cu 4).mono ?_; rintro e wf ⟨rfl, hrf, hgf⟩; have HG2 := Lib.hid (HG.out.trans hgf); have HR2 := Lib.hid (HR.out.cur hgf hrf); clear hrf hgf HG HR o4 f4; have HG := HG2; have HR := HR2; clear HG2 HR2; obtain ⟨o4, o5, o6, o7, f4⟩ := HR.out.open_; clear o5 o6 o7)
    | (go_at_call 45; have HGo := Lib.hid (HG.out.set 4 (.int .i64 (wrap64 (s.o + 1)))); have HRo := Lib.hid (HR.out.set_o (inc s.o)); refine (HP.out _ _ HRo.out.cu).mono ?_; rintro e w2 ⟨rfl, hr2, hg2⟩; have HG2 := Lib.hid (HGo.out.trans hg2); have HR2 := Lib.hid (HRo.out.cur hg2 hr2); clear hr2 hg2 HGo HRo; have hk := mine HG2.out hlt; obtain ⟨⟨d0, d1, d2, d3⟩, g0, g1, g2, g3⟩ := quad hk; have hl := heap_lt' hk; clear hk))
  have hn := ((((Nw.start ((Gr.alloc (Gr.refl R w) _).trans HG2.out)).set (p := ⟨w.heap.size, 0, none⟩) (Nat.le_refl _) (.int .i64 t.kind)).set (p := ⟨w.heap.size, 1, none⟩) (Nat.le_refl _) (.string (cbs t.text))).set (p := ⟨w.heap.size, 2, none⟩) (Nat.le_refl _) (.int .i64 t.num)).set (p := ⟨w.heap.size, 3, none⟩) (Nat.le_refl _) (.int .i64 t.at_)
  exact bodyPost_ret (v := tokW t) (by simp [tokW, results, Tryd.results84, go_sem, d0, d1, d2, d3]) rfl ⟨rfl, HH.out.fin HR2.out hn, hn.gr⟩

set_option maxHeartbeats 1000000 in
theorem enter_B (w : World) (R M1 M2 M3 : Nat) (S : Value) (ts : List RT) (s : St) (h : Rs w R M1 M2 M3 S ts s) (text : ByteArray) (hv : sees ts s.c 4 text.data.toList = true) (hd : (s.o == 50) = false) :
    Calls Tryd.prog 84 #[.pointer (some ⟨R, 0, none⟩), .string text] w fun e w' => e = .returned (tokW (sign ts (s.c) text.data.toList).1) ∧ Rs w' R M1 M2 M3 S ts ⟨(sign ts (s.c) text.data.toList).2, inc s.o⟩ ∧ Gr R w w' := by
  have hb0 : Below w.heap.size w (w.alloc (.cells #[.int .i64 0, .string ⟨#[]⟩, .int .i64 0, .int .i64 0] 52)) := (Below.refl w.heap.size w).alloc (Nat.le_refl _) _
  have h1 := h.go hb0
  have hs := seesSign_any _ R _ S _ ts s.c h1.cu text
  have hlt := h.lt
  rw [hv] at hs
  have hp : ∀ w1 X, Cu w1 R 74 S X ts (s.c) → Calls Tryd.prog 45 #[.pointer (some ⟨R, 0, none⟩), .string text] w1 _ := fun w1 X h1 => sign_any w1 R _ S X ts (s.c) h1 text
  generalize hsg : sign ts (s.c) text.data.toList = sg at hp ⊢
  obtain ⟨t, c2⟩ := sg
  dsimp only at hp ⊢
  unfold tokW at hp
  have HP := Lib.hid hp
  have HH := Lib.hid h
  have H1 := Lib.hid h1
  have HS := Lib.hid hs
  clear h h1 hs hp hsg hv hb0
  go_enter Tryd.func84, Tryd.ntmps84
  go_wp2_with (first
    | (go_at_call 39; refine (HS.out).mono ?_; rintro e w1 ⟨rfl, hb1⟩; have HG := Lib.hid (Gr.of (R := R) hb1); have HR := Lib.hid (H1.out.go hb1); clear hb1; obtain ⟨o4, o5, o6, o7, f4⟩ := HR.out.open_; clear o5 o6 o7)
    | (go_at_call 45; have HGo := Lib.hid (HG.out.set 4 (.int .i64 (wrap64 (s.o + 1)))); have HRo := Lib.hid (HR.out.set_o (inc s.o)); refine (HP.out _ _ HRo.out.cu).mono ?_; rintro e w2 ⟨rfl, hr2, hg2⟩; have HG2 := Lib.hid (HGo.out.trans hg2); have HR2 := Lib.hid (HRo.out.cur hg2 hr2); clear hr2 hg2 HGo HRo; have hk := mine HG2.out hlt; obtain ⟨⟨d0, d1, d2, d3⟩, g0, g1, g2, g3⟩ := quad hk; have hl := heap_lt' hk; clear hk))
  have hn := ((((Nw.start ((Gr.alloc (Gr.refl R w) _).trans HG2.out)).set (p := ⟨w.heap.size, 0, none⟩) (Nat.le_refl _) (.int .i64 t.kind)).set (p := ⟨w.heap.size, 1, none⟩) (Nat.le_refl _) (.string (cbs t.text))).set (p := ⟨w.heap.size, 2, none⟩) (Nat.le_refl _) (.int .i64 t.num)).set (p := ⟨w.heap.size, 3, none⟩) (Nat.le_refl _) (.int .i64 t.at_)
  exact bodyPost_ret (v := tokW t) (by simp [tokW, results, Tryd.results84, go_sem, d0, d1, d2, d3]) rfl ⟨rfl, HH.out.fin HR2.out hn, hn.gr⟩

set_option maxHeartbeats 1000000 in
theorem enter_C (w : World) (R M1 M2 M3 : Nat) (S : Value) (ts : List RT) (s : St) (h : Rs w R M1 M2 M3 S ts s) (text : ByteArray) (hv : sees ts s.c 4 text.data.toList = false) :
    Calls Tryd.prog 84 #[.pointer (some ⟨R, 0, none⟩), .string text] w fun e w' => e = .returned (tokW (sign ts (s.c) text.data.toList).1) ∧ Rs w' R M1 M2 M3 S ts ⟨(sign ts (s.c) text.data.toList).2, inc s.o⟩ ∧ Gr R w w' := by
  have hb0 : Below w.heap.size w (w.alloc (.cells #[.int .i64 0, .string ⟨#[]⟩, .int .i64 0, .int .i64 0] 52)) := (Below.refl w.heap.size w).alloc (Nat.le_refl _) _
  have h1 := h.go hb0
  have hs := seesSign_any _ R _ S _ ts s.c h1.cu text
  have hlt := h.lt
  rw [hv] at hs
  have hp : ∀ w1 X, Cu w1 R 74 S X ts (s.c) → Calls Tryd.prog 45 #[.pointer (some ⟨R, 0, none⟩), .string text] w1 _ := fun w1 X h1 => sign_any w1 R _ S X ts (s.c) h1 text
  generalize hsg : sign ts (s.c) text.data.toList = sg at hp ⊢
  obtain ⟨t, c2⟩ := sg
  dsimp only at hp ⊢
  unfold tokW at hp
  have HP := Lib.hid hp
  have HH := Lib.hid h
  have H1 := Lib.hid h1
  have HS := Lib.hid hs
  clear h h1 hs hp hsg hv hb0
  go_enter Tryd.func84, Tryd.ntmps84
  go_wp2_with (first
    | (go_at_call 39; refine (HS.out).mono ?_; rintro e w1 ⟨rfl, hb1⟩; have HG := Lib.hid (Gr.of (R := R) hb1); have HR := Lib.hid (H1.out.go hb1); clear hb1; obtain ⟨o4, o5, o6, o7, f4⟩ := HR.out.open_; clear o5 o6 o7)
    | (go_at_call 45; have HGo := Lib.hid (HG.out.set 4 (.int .i64 (wrap64 (s.o + 1)))); have HRo := Lib.hid (HR.out.set_o (inc s.o)); refine (HP.out _ _ HRo.out.cu).mono ?_; rintro e w2 ⟨rfl, hr2, hg2⟩; have HG2 := Lib.hid (HGo.out.trans hg2); have HR2 := Lib.hid (HRo.out.cur hg2 hr2); clear hr2 hg2 HGo HRo; have hk := mine HG2.out hlt; obtain ⟨⟨d0, d1, d2, d3⟩, g0, g1, g2, g3⟩ := quad hk; have hl := heap_lt' hk; clear hk))
  have hn := ((((Nw.start ((Gr.alloc (Gr.refl R w) _).trans HG2.out)).set (p := ⟨w.heap.size, 0, none⟩) (Nat.le_refl _) (.int .i64 t.kind)).set (p := ⟨w.heap.size, 1, none⟩) (Nat.le_refl _) (.string (cbs t.text))).set (p := ⟨w.heap.size, 2, none⟩) (Nat.le_refl _) (.int .i64 t.num)).set (p := ⟨w.heap.size, 3, none⟩) (Nat.le_refl _) (.int .i64 t.at_)
  exact bodyPost_ret (v := tokW t) (by simp [tokW, results, Tryd.results84, go_sem, d0, d1, d2, d3]) rfl ⟨rfl, HH.out.fin HR2.out hn, hn.gr⟩

theorem enter_any (w : World) (R M1 M2 M3 : Nat) (S : Value) (ts : List RT) (s : St) (h : Rs w R M1 M2 M3 S ts s) (text : ByteArray) :
    Calls Tryd.prog 84 #[.pointer (some ⟨R, 0, none⟩), .string text] w fun e w' => e = .returned (tokW (enter ts s text.data.toList).1) ∧ Rs w' R M1 M2 M3 S ts (enter ts s text.data.toList).2 ∧ Gr R w w' := by
  cases hv : sees ts s.c 4 text.data.toList with
  | true =>
    cases hd : (s.o == 50) with
    | true =>
      have : enter ts s text.data.toList = ((sign ts (fail ts s.c 4) text.data.toList).1, ⟨(sign ts (fail ts s.c 4) text.data.toList).2, inc s.o⟩) := by
        have hd2 : s.o = 50 := by simpa using hd
        simp [enter, hv, hd2]
      rw [this]
      exact enter_A w R M1 M2 M3 S ts s h text hv hd
    | false =>
      have : enter ts s text.data.toList = ((sign ts s.c text.data.toList).1, ⟨(sign ts s.c text.data.toList).2, inc s.o⟩) := by
        have hd2 : ¬ s.o = 50 := by simpa using hd
        simp [enter, hv, hd2]
      rw [this]
      exact enter_B w R M1 M2 M3 S ts s h text hv hd
  | false =>
    have : enter ts s text.data.toList = ((sign ts s.c text.data.toList).1, ⟨(sign ts s.c text.data.toList).2, inc s.o⟩) := by simp [enter, hv]
    rw [this]
    exact enter_C w R M1 M2 M3 S ts s h text hv

set_option maxHeartbeats 1000000 in
theorem leave_any (w : World) (R M1 M2 M3 : Nat) (S : Value) (ts : List RT) (s : St) (h : Rs w R M1 M2 M3 S ts s) (text : ByteArray) :
    Calls Tryd.prog 85 #[.pointer (some ⟨R, 0, none⟩), .string text] w fun e w' => e = .returned (.tuple #[]) ∧ Rs w' R M1 M2 M3 S ts (leave ts s text.data.toList) ∧ Gr R w w' := by
  have hp := sign_any w R _ S _ ts s.c h.cu text
  unfold leave
  generalize hsg : sign ts s.c text.data.toList = sg at hp ⊢
  obtain ⟨t, c2⟩ := sg
  dsimp only at hp ⊢
  unfold tokW at hp
  have HP := Lib.hid hp
  have HH := Lib.hid h
  clear h hp hsg
  go_enter Tryd.func85, Tryd.ntmps85
  go_wp2_with (first
    | (go_at_call 45; refine (HP.out).mono ?_; rintro e w2 ⟨rfl, hr2, hg2⟩; have HG2 := Lib.hid hg2; have HR2 := Lib.hid (HH.out.cur hg2 hr2); clear hr2 hg2; obtain ⟨o4, o5, o6, o7, f4⟩ := HR2.out.open_; clear o5 o6 o7))
  first
    | exact bodyPost_end (results_none rfl _ _ _) rfl ⟨rfl, HR2.out.set_o (dec s.o), HG2.out.set 4 _⟩
    | exact bodyPost_ret (results_none rfl _ _ _) rfl ⟨rfl, HR2.out.set_o (dec s.o), HG2.out.set 4 _⟩

set_option maxHeartbeats 1000000 in
theorem refuse_any (w : World) (R M1 M2 M3 : Nat) (S : Value) (ts : List RT) (s : St) (h : Rs w R M1 M2 M3 S ts s) :
    Calls Tryd.prog 82 #[.pointer (some ⟨R, 0, none⟩)] w (ExPost w.heap.size w R M1 M2 M3 S ts (refuse ts s)) := by
  have hb0 : Below w.heap.size w (w.alloc (.cells #[.int .i64 0, .int .i64 0, .string ⟨#[]⟩, .string ⟨#[]⟩, .int .i64 0, .slice none 0 0, .int .i64 0, .int .i64 0, .int .i64 0, .int .i64 0, .int .i64 0] 39)) := (Below.refl w.heap.size w).alloc (Nat.le_refl _) _
  have h1 := h.go hb0
  have hlt := h.lt
  have hp := fail_any _ R _ S _ ts s.c h1.cu 2
  have HP := Lib.hid hp
  have HH := Lib.hid h
  have H1 := Lib.hid h1
  clear h h1 hp hb0
  go_enter Tryd.func82, Tryd.ntmps82
  go_wp2_with (first
    | (go_at_call 40; refine (HP.out).mono ?_; rintro e w1 ⟨rfl, hr1, hg1⟩; have HG1 := Lib.hid hg1; have HR1 := Lib.hid (H1.out.cur hg1 hr1); clear hr1; have hk := mine hg1 hlt; clear hg1; have hc := hen hk; obtain ⟨⟨d0, d1, d2, d3, d4, d5, d6, d7, d8, d9, dX⟩, g0, g1, g2, g3, g4, g5, g6, g7, g8, g9, gX⟩ := hc; have hl := heap_lt' hk; clear hk))
  have hn := (Nw.start (wA := w1) ((Gr.alloc (Gr.refl R w) _).trans HG1.out)).put11 (B := w.heap.size) (Nat.le_refl _) (c0 := .int .i64 0) (c1 := .int .i64 0) (c2 := .string ⟨#[]⟩) (c3 := .string ⟨#[]⟩) (c4 := .int .i64 0) (c5 := .slice none 0 0) (c6 := .int .i64 0) (c7 := .int .i64 0) (c8 := .int .i64 0) (c9 := .int .i64 0) (c10 := .int .i64 0)
  exact bodyPost_ret (v := .agg #[.int .i64 0, .int .i64 0, .string ⟨#[]⟩, .string ⟨#[]⟩, .int .i64 0, .slice none 0 0, .int .i64 0, .int .i64 0, .int .i64 0, .int .i64 0, .int .i64 0]) (by simp [results, Tryd.results82, go_sem, d0, d1, d2, d3, d4, d5, d6, d7, d8, d9, dX]) rfl ⟨_, _, _, _, _, _, _, _, _, _, _, _, _, rfl, Is.zero, HH.out.fin HR1.out hn, hn.gr⟩
end Go.Proofs.YtldhgoblimfhbaaDoor
