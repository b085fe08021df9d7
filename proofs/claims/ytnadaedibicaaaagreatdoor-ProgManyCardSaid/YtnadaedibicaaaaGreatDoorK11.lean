/-
  The contracts of the project's cursor that counts what is open.
  The contracts of the project's reader: what opens, what closes, what is refused.
-/
import Derived.Test.YtnadaedibicaaaaGreatDoorK07
import Derived.Test.YtnadaedibicaaaaGreatDoorK10
namespace Go.Proofs.YtnadaedibicaaaaGreatDoor
open Go.RowKit
open Px (RT tokAt)
open Pe

/-- What is taken where so many are open: the token, and the cursor behind it. -/
def Pe.enterC (ts : List RT) (c : Cs) (o : Int) (text : List UInt8) : RT × Cs :=
  sign ts (if sees ts c 4 text && decide (o = 50) then fail ts c 4 else c) text

theorem Cu.open_ {w : World} {R : Nat} {T : TypeId} {S : Value} {X : List Value} {ts : List RT} {s : Cs} {o : Int} (h : Cu w R T S (.int .i64 o :: X) ts s) : w.cell? ⟨R, 4, none⟩ = some (.int .i64 o) ∧ w.frozen? ⟨R, 4, none⟩ = false := by
  have hr := h.row
  exact ⟨by rw [cell_of_row _ _ _ _ _ _ hr]; simp, frozen_of_row _ _ _ _ _ hr⟩
theorem Cu.set_o {w : World} {R : Nat} {T : TypeId} {S : Value} {X : List Value} {ts : List RT} {s : Cs} {o : Int} (h : Cu w R T S (.int .i64 o :: X) ts s) (q : Int) : Cu (w.setCell ⟨R, 4, none⟩ (.int .i64 q)) R T S (.int .i64 q :: X) ts s :=
  ⟨by have := Lib.heap_setCell_same h.row (i := 4) (v := .int .i64 q); simpa using this, h.toks.gr ((Gr.refl R w).set 4 _)⟩

set_option maxHeartbeats 1000000 in
theorem enterC_A (w : World) (R : Nat) (T : TypeId) (S : Value) (o : Int) (X : List Value) (ts : List RT) (s : Cs) (h : Cu w R T S (.int .i64 o :: X) ts s) (text : ByteArray) (hv : sees ts s 4 text.data.toList = true) (hd : (o == 50) = true) :
    Calls Tryz.prog 127 #[.pointer (some ⟨R, 0, none⟩), .string text] w fun e w' => e = .returned (tokW (sign ts (fail ts s 4) text.data.toList).1) ∧ Cu w' R T S (.int .i64 (inc o) :: X) ts (sign ts (fail ts s 4) text.data.toList).2 ∧ Gr R w w' := by
  have hb0 : Below w.heap.size w (w.alloc (.cells #[.int .i64 0, .string ⟨#[]⟩, .int .i64 0, .int .i64 0] 66)) := (Below.refl w.heap.size w).alloc (Nat.le_refl _) _
  have h1 := h.go hb0
  have hs := seesSign_any _ R _ S _ ts s h1 text
  have hlt := h.lt
  rw [hv] at hs
  have hp : ∀ w1 X, Cu w1 R T S X ts (fail ts s 4) → Calls Tryz.prog 71 #[.pointer (some ⟨R, 0, none⟩), .string text] w1 _ := fun w1 X h1 => sign_any w1 R _ S X ts (fail ts s 4) h1 text
  generalize hsg : sign ts (fail ts s 4) text.data.toList = sg at hp ⊢
  obtain ⟨t, c2⟩ := sg
  dsimp only at hp ⊢
  unfold tokW at hp
  have HP := Lib.hid hp
  have HH := Lib.hid h
  have H1 := Lib.hid h1
  have HS := Lib.hid hs
  clear h h1 hs hp hsg hv hb0
  go_enter Tryz.func127, Tryz.ntmps127
  go_wp2_with (first
    | (go_at_call 75; refine (HS.out).mono ?_; rintro e w1 ⟨rfl, hb1⟩; have HG := Lib.hid (Gr.of (R := R) hb1); have HR := Lib.hid (H1.out.go hb1); clear hb1; obtain ⟨o4, f4⟩ := HR.out.open_)
    | (go_at_call 50; refine (fail_any _ R _ S _ ts s HR.out 4).mono ?_; rintro e wf ⟨rfl, hrf, hgf⟩; have HG2 := Lib.hid (HG.out.trans hgf); have HR2 := Lib.hid (hrf); clear hrf hgf HG HR o4 f4; have HG := HG2; have HR := HR2; clear HG2 HR2; obtain ⟨o4, f4⟩ := HR.out.open_)
    | (go_at_call 71; have HGo := Lib.hid (HG.out.set 4 (.int .i64 (wrap64 (o + 1)))); have HRo := Lib.hid (HR.out.set_o (inc o)); refine (HP.out _ _ HRo.out).mono ?_; rintro e w2 ⟨rfl, hr2, hg2⟩; have HG2 := Lib.hid (HGo.out.trans hg2); have HR2 := Lib.hid (hr2); clear hr2 hg2 HGo HRo; have hk := mine HG2.out hlt; obtain ⟨⟨d0, d1, d2, d3⟩, g0, g1, g2, g3⟩ := quad hk; have hl := heap_lt' hk; clear hk))
  have hn := ((((Nw.start ((Gr.alloc (Gr.refl R w) _).trans HG2.out)).set (p := ⟨w.heap.size, 0, none⟩) (Nat.le_refl _) (.int .i64 t.kind)).set (p := ⟨w.heap.size, 1, none⟩) (Nat.le_refl _) (.string (cbs t.text))).set (p := ⟨w.heap.size, 2, none⟩) (Nat.le_refl _) (.int .i64 t.num)).set (p := ⟨w.heap.size, 3, none⟩) (Nat.le_refl _) (.int .i64 t.at_)
  exact bodyPost_ret (v := tokW t) (by simp [tokW, results, Tryz.results127, go_sem, d0, d1, d2, d3]) rfl ⟨rfl, HH.out.fin HR2.out hn, hn.gr⟩

set_option maxHeartbeats 1000000 in
theorem enterC_B (w : World) (R : Nat) (T : TypeId) (S : Value) (o : Int) (X : List Value) (ts : List RT) (s : Cs) (h : Cu w R T S (.int .i64 o :: X) ts s) (text : ByteArray) (hv : sees ts s 4 text.data.toList = true) (hd : (o == 50) = false) :
    Calls Tryz.prog 127 #[.pointer (some ⟨R, 0, none⟩), .string text] w fun e w' => e = .returned (tokW (sign ts (s) text.data.toList).1) ∧ Cu w' R T S (.int .i64 (inc o) :: X) ts (sign ts (s) text.data.toList).2 ∧ Gr R w w' := by
  have hb0 : Below w.heap.size w (w.alloc (.cells #[.int .i64 0, .string ⟨#[]⟩, .int .i64 0, .int .i64 0] 66)) := (Below.refl w.heap.size w).alloc (Nat.le_refl _) _
  have h1 := h.go hb0
  have hs := seesSign_any _ R _ S _ ts s h1 text
  have hlt := h.lt
  rw [hv] at hs
  have hp : ∀ w1 X, Cu w1 R T S X ts (s) → Calls Tryz.prog 71 #[.pointer (some ⟨R, 0, none⟩), .string text] w1 _ := fun w1 X h1 => sign_any w1 R _ S X ts (s) h1 text
  generalize hsg : sign ts (s) text.data.toList = sg at hp ⊢
  obtain ⟨t, c2⟩ := sg
  dsimp only at hp ⊢
  unfold tokW at hp
  have HP := Lib.hid hp
  have HH := Lib.hid h
  have H1 := Lib.hid h1
  have HS := Lib.hid hs
  clear h h1 hs hp hsg hv hb0
  go_enter Tryz.func127, Tryz.ntmps127
  go_wp2_with (first
    | (go_at_call 75; refine (HS.out).mono ?_; rintro e w1 ⟨rfl, hb1⟩; have HG := Lib.hid (Gr.of (R := R) hb1); have HR := Lib.hid (H1.out.go hb1); clear hb1; obtain ⟨o4, f4⟩ := HR.out.open_)
    | (go_at_call 71; have HGo := Lib.hid (HG.out.set 4 (.int .i64 (wrap64 (o + 1)))); have HRo := Lib.hid (HR.out.set_o (inc o)); refine (HP.out _ _ HRo.out).mono ?_; rintro e w2 ⟨rfl, hr2, hg2⟩; have HG2 := Lib.hid (HGo.out.trans hg2); have HR2 := Lib.hid (hr2); clear hr2 hg2 HGo HRo; have hk := mine HG2.out hlt; obtain ⟨⟨d0, d1, d2, d3⟩, g0, g1, g2, g3⟩ := quad hk; have hl := heap_lt' hk; clear hk))
  have hn := ((((Nw.start ((Gr.alloc (Gr.refl R w) _).trans HG2.out)).set (p := ⟨w.heap.size, 0, none⟩) (Nat.le_refl _) (.int .i64 t.kind)).set (p := ⟨w.heap.size, 1, none⟩) (Nat.le_refl _) (.string (cbs t.text))).set (p := ⟨w.heap.size, 2, none⟩) (Nat.le_refl _) (.int .i64 t.num)).set (p := ⟨w.heap.size, 3, none⟩) (Nat.le_refl _) (.int .i64 t.at_)
  exact bodyPost_ret (v := tokW t) (by simp [tokW, results, Tryz.results127, go_sem, d0, d1, d2, d3]) rfl ⟨rfl, HH.out.fin HR2.out hn, hn.gr⟩

set_option maxHeartbeats 1000000 in
theorem enterC_C (w : World) (R : Nat) (T : TypeId) (S : Value) (o : Int) (X : List Value) (ts : List RT) (s : Cs) (h : Cu w R T S (.int .i64 o :: X) ts s) (text : ByteArray) (hv : sees ts s 4 text.data.toList = false) :
    Calls Tryz.prog 127 #[.pointer (some ⟨R, 0, none⟩), .string text] w fun e w' => e = .returned (tokW (sign ts (s) text.data.toList).1) ∧ Cu w' R T S (.int .i64 (inc o) :: X) ts (sign ts (s) text.data.toList).2 ∧ Gr R w w' := by
  have hb0 : Below w.heap.size w (w.alloc (.cells #[.int .i64 0, .string ⟨#[]⟩, .int .i64 0, .int .i64 0] 66)) := (Below.refl w.heap.size w).alloc (Nat.le_refl _) _
  have h1 := h.go hb0
  have hs := seesSign_any _ R _ S _ ts s h1 text
  have hlt := h.lt
  rw [hv] at hs
  have hp : ∀ w1 X, Cu w1 R T S X ts (s) → Calls Tryz.prog 71 #[.pointer (some ⟨R, 0, none⟩), .string text] w1 _ := fun w1 X h1 => sign_any w1 R _ S X ts (s) h1 text
  generalize hsg : sign ts (s) text.data.toList = sg at hp ⊢
  obtain ⟨t, c2⟩ := sg
  dsimp only at hp ⊢
  unfold tokW at hp
  have HP := Lib.hid hp
  have HH := Lib.hid h
  have H1 := Lib.hid h1
  have HS := Lib.hid hs
  clear h h1 hs hp hsg hv hb0
  go_enter Tryz.func127, Tryz.ntmps127
  go_wp2_with (first
    | (go_at_call 75; refine (HS.out).mono ?_; rintro e w1 ⟨rfl, hb1⟩; have HG := Lib.hid (Gr.of (R := R) hb1); have HR := Lib.hid (H1.out.go hb1); clear hb1; obtain ⟨o4, f4⟩ := HR.out.open_)
    | (go_at_call 71; have HGo := Lib.hid (HG.out.set 4 (.int .i64 (wrap64 (o + 1)))); have HRo := Lib.hid (HR.out.set_o (inc o)); refine (HP.out _ _ HRo.out).mono ?_; rintro e w2 ⟨rfl, hr2, hg2⟩; have HG2 := Lib.hid (HGo.out.trans hg2); have HR2 := Lib.hid (hr2); clear hr2 hg2 HGo HRo; have hk := mine HG2.out hlt; obtain ⟨⟨d0, d1, d2, d3⟩, g0, g1, g2, g3⟩ := quad hk; have hl := heap_lt' hk; clear hk))
  have hn := ((((Nw.start ((Gr.alloc (Gr.refl R w) _).trans HG2.out)).set (p := ⟨w.heap.size, 0, none⟩) (Nat.le_refl _) (.int .i64 t.kind)).set (p := ⟨w.heap.size, 1, none⟩) (Nat.le_refl _) (.string (cbs t.text))).set (p := ⟨w.heap.size, 2, none⟩) (Nat.le_refl _) (.int .i64 t.num)).set (p := ⟨w.heap.size, 3, none⟩) (Nat.le_refl _) (.int .i64 t.at_)
  exact bodyPost_ret (v := tokW t) (by simp [tokW, results, Tryz.results127, go_sem, d0, d1, d2, d3]) rfl ⟨rfl, HH.out.fin HR2.out hn, hn.gr⟩

theorem enterC_any (w : World) (R : Nat) (T : TypeId) (S : Value) (o : Int) (X : List Value) (ts : List RT) (s : Cs) (h : Cu w R T S (.int .i64 o :: X) ts s) (text : ByteArray) :
    Calls Tryz.prog 127 #[.pointer (some ⟨R, 0, none⟩), .string text] w fun e w' => e = .returned (tokW (enterC ts s o text.data.toList).1) ∧ Cu w' R T S (.int .i64 (inc o) :: X) ts (enterC ts s o text.data.toList).2 ∧ Gr R w w' := by
  cases hv : sees ts s 4 text.data.toList with
  | true =>
    cases hd : (o == 50) with
    | true =>
      have : enterC ts s o text.data.toList = sign ts (fail ts s 4) text.data.toList := by
        have hd2 : o = 50 := by simpa using hd
        simp [enterC, hv, hd2]
      rw [this]
      exact enterC_A w R T S o X ts s h text hv hd
    | false =>
      have : enterC ts s o text.data.toList = sign ts s text.data.toList := by
        have hd2 : ¬ o = 50 := by simpa using hd
        simp [enterC, hv, hd2]
      rw [this]
      exact enterC_B w R T S o X ts s h text hv hd
  | false =>
    have : enterC ts s o text.data.toList = sign ts s text.data.toList := by simp [enterC, hv]
    rw [this]
    exact enterC_C w R T S o X ts s h text hv

set_option maxHeartbeats 1000000 in
theorem leaveC_any (w : World) (R : Nat) (T : TypeId) (S : Value) (o : Int) (X : List Value) (ts : List RT) (s : Cs) (h : Cu w R T S (.int .i64 o :: X) ts s) :
    Calls Tryz.prog 129 #[.pointer (some ⟨R, 0, none⟩)] w fun e w' => e = .returned (.tuple #[]) ∧ Cu w' R T S (.int .i64 (dec o) :: X) ts s ∧ Gr R w w' := by
  have HH := Lib.hid h
  have hlt := h.lt
  obtain ⟨o4, f4⟩ := h.open_
  clear h
  go_enter Tryz.func129, Tryz.ntmps129
  go_wp2
  first
    | exact bodyPost_end (results_none rfl _ _ _) rfl ⟨rfl, HH.out.set_o (dec o), (Gr.refl R w).set 4 _⟩
    | exact bodyPost_ret (results_none rfl _ _ _) rfl ⟨rfl, HH.out.set_o (dec o), (Gr.refl R w).set 4 _⟩

set_option maxHeartbeats 1000000 in
theorem openC_any (w : World) (R : Nat) (T : TypeId) (S : Value) (o : Int) (X : List Value) (ts : List RT) (s : Cs) (h : Cu w R T S (.int .i64 o :: X) ts s) :
    Calls Tryz.prog 158 #[.pointer (some ⟨R, 0, none⟩)] w fun e w' => e = .returned (.int .i64 o) ∧ w = w' := by
  obtain ⟨o4, f4⟩ := h.open_
  clear h
  go_enter Tryz.func158, Tryz.ntmps158
  go_wp2
  go_ret
  exact ⟨rfl, rfl⟩
end Go.Proofs.YtnadaedibicaaaaGreatDoor
namespace Go.Proofs.YtnadaedibicaaaaGreatDoor
open Go.RowKit
open Px (RT tokAt)
open Pe

theorem dec_eq (x : Int) : wrap64 (x - 1) = dec x := rfl

theorem enter_eq (ts : List RT) (s : St) (text : List UInt8) : enter ts s text = ((enterC ts s.c s.o text).1, ⟨(enterC ts s.c s.o text).2, inc s.o⟩) := rfl
theorem enter_any (w : World) (R M1 M2 M3 : Nat) (S : Value) (ts : List RT) (s : St) (h : Rs w R M1 M2 M3 S ts s) (text : ByteArray) :
    Calls Tryz.prog 127 #[.pointer (some ⟨R, 0, none⟩), .string text] w fun e w' => e = .returned (tokW (enter ts s text.data.toList).1) ∧ Rs w' R M1 M2 M3 S ts (enter ts s text.data.toList).2 ∧ Gr R w w' := by
  rw [enter_eq]
  exact (enterC_any w R _ S s.o _ ts s.c h.cu text).mono fun e w' ⟨he, hc, hg⟩ => ⟨he, h.gr (s' := ⟨_, inc s.o⟩) hg hc, hg⟩
theorem leaveN_any (w : World) (R M1 M2 M3 : Nat) (S : Value) (ts : List RT) (s : St) (h : Rs w R M1 M2 M3 S ts s) :
    Calls Tryz.prog 129 #[.pointer (some ⟨R, 0, none⟩)] w fun e w' => e = .returned (.tuple #[]) ∧ Rs w' R M1 M2 M3 S ts ⟨s.c, dec s.o⟩ ∧ Gr R w w' :=
  (leaveC_any w R _ S s.o _ ts s.c h.cu).mono fun _e _w' ⟨he, hc, hg⟩ => ⟨he, h.gr (s' := ⟨_, dec s.o⟩) hg hc, hg⟩

set_option maxHeartbeats 1000000 in
theorem leave_any (w : World) (R M1 M2 M3 : Nat) (S : Value) (ts : List RT) (s : St) (h : Rs w R M1 M2 M3 S ts s) (text : ByteArray) :
    Calls Tryz.prog 193 #[.pointer (some ⟨R, 0, none⟩), .string text] w fun e w' => e = .returned (.tuple #[]) ∧ Rs w' R M1 M2 M3 S ts (leave ts s text.data.toList) ∧ Gr R w w' := by
  have hp := sign_any w R _ S _ ts s.c h.cu text
  unfold leave
  generalize hsg : sign ts s.c text.data.toList = sg at hp ⊢
  obtain ⟨t, c2⟩ := sg
  dsimp only at hp ⊢
  unfold tokW at hp
  have HP := Lib.hid hp
  have HH := Lib.hid h
  clear h hp hsg
  go_enter Tryz.func193, Tryz.ntmps193
  go_wp2_with fail
  refine (HP.out).mono ?_
  rintro e w2 ⟨rfl, hr2, hg2⟩
  have HG2 := Lib.hid hg2
  have HR2 := Lib.hid (HH.out.cur hg2 hr2)
  clear hr2 hg2
  go_wp2_with fail
  refine (leaveN_any _ R M1 M2 M3 S ts _ HR2.out).mono ?_
  rintro e w3 ⟨rfl, hr3, hg3⟩
  have HG3 := Lib.hid (HG2.out.trans hg3)
  have HR3 := Lib.hid hr3
  clear hr3 hg3
  go_wp2_with fail
  first
    | exact bodyPost_end (results_none rfl _ _ _) rfl ⟨rfl, HR3.out, HG3.out⟩
    | exact bodyPost_ret (results_none rfl _ _ _) rfl ⟨rfl, HR3.out, HG3.out⟩

set_option maxHeartbeats 1000000 in
theorem refuse_any (w : World) (R M1 M2 M3 : Nat) (S : Value) (ts : List RT) (s : St) (h : Rs w R M1 M2 M3 S ts s) :
    Calls Tryz.prog 191 #[.pointer (some ⟨R, 0, none⟩)] w (ExPost w.heap.size w R M1 M2 M3 S ts (refuse ts s)) := by
  have hb0 : Below w.heap.size w (w.alloc (.cells #[.int .i64 0, .int .i64 0, .string ⟨#[]⟩, .string ⟨#[]⟩, .int .i64 0, .slice none 0 0, .int .i64 0, .int .i64 0, .int .i64 0, .int .i64 0, .int .i64 0] 106)) := (Below.refl w.heap.size w).alloc (Nat.le_refl _) _
  have h1 := h.go hb0
  have hlt := h.lt
  have hp := fail_any _ R _ S _ ts s.c h1.cu 2
  have HP := Lib.hid hp
  have HH := Lib.hid h
  have H1 := Lib.hid h1
  clear h h1 hp hb0
  go_enter Tryz.func191, Tryz.ntmps191
  go_wp2_with (first
    | (go_at_call 50; refine (HP.out).mono ?_; rintro e w1 ⟨rfl, hr1, hg1⟩; have HG1 := Lib.hid hg1; have HR1 := Lib.hid (H1.out.cur hg1 hr1); clear hr1; have hk := mine hg1 hlt; clear hg1; have hc := hen hk; obtain ⟨⟨d0, d1, d2, d3, d4, d5, d6, d7, d8, d9, dX⟩, g0, g1, g2, g3, g4, g5, g6, g7, g8, g9, gX⟩ := hc; have hl := heap_lt' hk; clear hk))
  have hn := (Nw.start (wA := w1) ((Gr.alloc (Gr.refl R w) _).trans HG1.out)).put11 (B := w.heap.size) (Nat.le_refl _) (c0 := .int .i64 0) (c1 := .int .i64 0) (c2 := .string ⟨#[]⟩) (c3 := .string ⟨#[]⟩) (c4 := .int .i64 0) (c5 := .slice none 0 0) (c6 := .int .i64 0) (c7 := .int .i64 0) (c8 := .int .i64 0) (c9 := .int .i64 0) (c10 := .int .i64 0)
  exact bodyPost_ret (v := .agg #[.int .i64 0, .int .i64 0, .string ⟨#[]⟩, .string ⟨#[]⟩, .int .i64 0, .slice none 0 0, .int .i64 0, .int .i64 0, .int .i64 0, .int .i64 0, .int .i64 0]) (by simp [results, Tryz.results191, go_sem, d0, d1, d2, d3, d4, d5, d6, d7, d8, d9, dX]) rfl ⟨_, _, _, _, _, _, _, _, _, _, _, _, _, rfl, Is.zero, HH.out.fin HR1.out hn, hn.gr⟩
end Go.Proofs.YtnadaedibicaaaaGreatDoor
