/-
  The contracts of the project's cursor that counts what is open.
-/
import Derived.Test.YtnadaedibicaaaaDoorCurC
namespace Go.Proofs.YtnadaedibicaaaaDoor
open Go.RowKit
open Px (RT tokAt)
open Pe

/-- What is taken where so many are open: the token, and the cursor behind it. -/
def Pe.enterC (ts : List RT) (c : Cs) (o : Int) (text : List UInt8) : RT × Cs :=
  sign ts (if sees ts c 4 text && decide (o = 50) then fail ts c 4 else c) text

theorem Cu.open_ {w : World} {R : Nat} {T : TypeId} {S : Value} {X : List Value} {ts : List RT} {s : Cs} {o : Int} (h : Cu w R T S (.int .i64 o :: X) ts s) : w.cell? ⟨R, 4, none⟩ = some (.int .i64 o) ∧ w.frozen? ⟨R, 4, none⟩ = false := by
  have hr := h.row
  exact ⟨by rw [cell_of_row _ _ _ _ _ _ hr]; simp, frozen_of_row _ _ _ _ _ hr⟩
theorem Cu.set_o {w : World} {R : Nat} {T : TypeId} {S : Value} {X : List Value} {ts : List RT} {s : Cs} {o : Int} (h : Cu w R T S (.int .i64 o :: X) ts s) (q : Int) : Cu (w.setCell ⟨R, 4, none⟩ (.int .i64 q)) R T S (.int .i64 q :: X) ts s :=
  ⟨by have := Lib.heap_setCell_same h.row (i := 4) (v := .int .i64 q); simpa using this, h.toks.gr ((Gr.refl R w).set 4 _)⟩

set_option maxHeartbeats 1000000 in
theorem enterC_A (w : World) (R : Nat) (T : TypeId) (S : Value) (o : Int) (X : List Value) (ts : List RT) (s : Cs) (h : Cu w R T S (.int .i64 o :: X) ts s) (text : ByteArray) (hv : sees ts s 4 text.data.toList = true) (hd : (o == 50) = true) :
    Calls Tryd.prog 81 #[.pointer (some ⟨R, 0, none⟩), .string text] w fun e w' => e = .returned (tokW (sign ts (fail ts s 4) text.data.toList).1) ∧ Cu w' R T S (.int .i64 (inc o) :: X) ts (sign ts (fail ts s 4) text.data.toList).2 ∧ Gr R w w' := by
  have hb0 : Below w.heap.size w (w.alloc (.cells #[.int .i64 0, .string ⟨#[]⟩, .int .i64 0, .int .i64 0] 51)) := (Below.refl w.heap.size w).alloc (Nat.le_refl _) _
  have h1 := h.go hb0
  have hs := seesSign_any _ R _ S _ ts s h1 text
  have hlt := h.lt
  rw [hv] at hs
  have hp : ∀ w1 X, Cu w1 R T S X ts (fail ts s 4) → Calls Tryd.prog 45 #[.pointer (some ⟨R, 0, none⟩), .string text] w1 _ := fun w1 X h1 => sign_any w1 R _ S X ts (fail ts s 4) h1 text
  generalize hsg : sign ts (fail ts s 4) text.data.toList = sg at hp ⊢
  obtain ⟨t, c2⟩ := sg
  dsimp only at hp ⊢
  unfold tokW at hp
  have HP := Lib.hid hp
  have HH := Lib.hid h
  have H1 := Lib.hid h1
  have HS := Lib.hid hs
  clear h h1 hs hp hsg hv hb0
  go_enter Tryd.func81, Tryd.ntmps81
  go_wp2_with (first
    | (go_at_call 39; refine (HS.out).mono ?_; rintro e w1 ⟨rfl, hb1⟩; have HG := Lib.hid (Gr.of (R := R) hb1); have HR := Lib.hid (H1.out.go hb1); clear hb1; obtain ⟨o4, f4⟩ := HR.out.open_)
    | (go_at_call 40; refine (fail_any _ R _ S _ ts s HR.out 4).mono ?_; rintro e wf ⟨rfl, hrf, hgf⟩; have HG2 := Lib.hid (HG.out.trans hgf); have HR2 := Lib.hid (hrf); clear hrf hgf HG HR o4 f4; have HG := HG2; have HR := HR2; clear HG2 HR2; obtain ⟨o4, f4⟩ := HR.out.open_)
    | (go_at_call 45; have HGo := Lib.hid (HG.out.set 4 (.int .i64 (wrap64 (o + 1)))); have HRo := Lib.hid (HR.out.set_o (inc o)); refine (HP.out _ _ HRo.out).mono ?_; rintro e w2 ⟨rfl, hr2, hg2⟩; have HG2 := Lib.hid (HGo.out.trans hg2); have HR2 := Lib.hid (hr2); clear hr2 hg2 HGo HRo; have hk := mine HG2.out hlt; obtain ⟨⟨d0, d1, d2, d3⟩, g0, g1, g2, g3⟩ := quad hk; have hl := heap_lt' hk; clear hk))
  have hn := ((((Nw.start ((Gr.alloc (Gr.refl R w) _).trans HG2.out)).set (p := ⟨w.heap.size, 0, none⟩) (Nat.le_refl _) (.int .i64 t.kind)).set (p := ⟨w.heap.size, 1, none⟩) (Nat.le_refl _) (.string (cbs t.text))).set (p := ⟨w.heap.size, 2, none⟩) (Nat.le_refl _) (.int .i64 t.num)).set (p := ⟨w.heap.size, 3, none⟩) (Nat.le_refl _) (.int .i64 t.at_)
  exact bodyPost_ret (v := tokW t) (by simp [tokW, results, Tryd.results81, go_sem, d0, d1, d2, d3]) rfl ⟨rfl, HH.out.fin HR2.out hn, hn.gr⟩

set_option maxHeartbeats 1000000 in
theorem enterC_B (w : World) (R : Nat) (T : TypeId) (S : Value) (o : Int) (X : List Value) (ts : List RT) (s : Cs) (h : Cu w R T S (.int .i64 o :: X) ts s) (text : ByteArray) (hv : sees ts s 4 text.data.toList = true) (hd : (o == 50) = false) :
    Calls Tryd.prog 81 #[.pointer (some ⟨R, 0, none⟩), .string text] w fun e w' => e = .returned (tokW (sign ts (s) text.data.toList).1) ∧ Cu w' R T S (.int .i64 (inc o) :: X) ts (sign ts (s) text.data.toList).2 ∧ Gr R w w' := by
  have hb0 : Below w.heap.size w (w.alloc (.cells #[.int .i64 0, .string ⟨#[]⟩, .int .i64 0, .int .i64 0] 51)) := (Below.refl w.heap.size w).alloc (Nat.le_refl _) _
  have h1 := h.go hb0
  have hs := seesSign_any _ R _ S _ ts s h1 text
  have hlt := h.lt
  rw [hv] at hs
  have hp : ∀ w1 X, Cu w1 R T S X ts (s) → Calls Tryd.prog 45 #[.pointer (some ⟨R, 0, none⟩), .string text] w1 _ := fun w1 X h1 => sign_any w1 R _ S X ts (s) h1 text
  generalize hsg : sign ts (s) text.data.toList = sg at hp ⊢
  obtain ⟨t, c2⟩ := sg
  dsimp only at hp ⊢
  unfold tokW at hp
  have HP := Lib.hid hp
  have HH := Lib.hid h
  have H1 := Lib.hid h1
  have HS := Lib.hid hs
  clear h h1 hs hp hsg hv hb0
  go_enter Tryd.func81, Tryd.ntmps81
  go_wp2_with (first
    | (go_at_call 39; refine (HS.out).mono ?_; rintro e w1 ⟨rfl, hb1⟩; have HG := Lib.hid (Gr.of (R := R) hb1); have HR := Lib.hid (H1.out.go hb1); clear hb1; obtain ⟨o4, f4⟩ := HR.out.open_)
    | (go_at_call 45; have HGo := Lib.hid (HG.out.set 4 (.int .i64 (wrap64 (o + 1)))); have HRo := Lib.hid (HR.out.set_o (inc o)); refine (HP.out _ _ HRo.out).mono ?_; rintro e w2 ⟨rfl, hr2, hg2⟩; have HG2 := Lib.hid (HGo.out.trans hg2); have HR2 := Lib.hid (hr2); clear hr2 hg2 HGo HRo; have hk := mine HG2.out hlt; obtain ⟨⟨d0, d1, d2, d3⟩, g0, g1, g2, g3⟩ := quad hk; have hl := heap_lt' hk; clear hk))
  have hn := ((((Nw.start ((Gr.alloc (Gr.refl R w) _).trans HG2.out)).set (p := ⟨w.heap.size, 0, none⟩) (Nat.le_refl _) (.int .i64 t.kind)).set (p := ⟨w.heap.size, 1, none⟩) (Nat.le_refl _) (.string (cbs t.text))).set (p := ⟨w.heap.size, 2, none⟩) (Nat.le_refl _) (.int .i64 t.num)).set (p := ⟨w.heap.size, 3, none⟩) (Nat.le_refl _) (.int .i64 t.at_)
  exact bodyPost_ret (v := tokW t) (by simp [tokW, results, Tryd.results81, go_sem, d0, d1, d2, d3]) rfl ⟨rfl, HH.out.fin HR2.out hn, hn.gr⟩

set_option maxHeartbeats 1000000 in
theorem enterC_C (w : World) (R : Nat) (T : TypeId) (S : Value) (o : Int) (X : List Value) (ts : List RT) (s : Cs) (h : Cu w R T S (.int .i64 o :: X) ts s) (text : ByteArray) (hv : sees ts s 4 text.data.toList = false) :
    Calls Tryd.prog 81 #[.pointer (some ⟨R, 0, none⟩), .string text] w fun e w' => e = .returned (tokW (sign ts (s) text.data.toList).1) ∧ Cu w' R T S (.int .i64 (inc o) :: X) ts (sign ts (s) text.data.toList).2 ∧ Gr R w w' := by
  have hb0 : Below w.heap.size w (w.alloc (.cells #[.int .i64 0, .string ⟨#[]⟩, .int .i64 0, .int .i64 0] 51)) := (Below.refl w.heap.size w).alloc (Nat.le_refl _) _
  have h1 := h.go hb0
  have hs := seesSign_any _ R _ S _ ts s h1 text
  have hlt := h.lt
  rw [hv] at hs
  have hp : ∀ w1 X, Cu w1 R T S X ts (s) → Calls Tryd.prog 45 #[.pointer (some ⟨R, 0, none⟩), .string text] w1 _ := fun w1 X h1 => sign_any w1 R _ S X ts (s) h1 text
  generalize hsg : sign ts (s) text.data.toList = sg at hp ⊢
  obtain ⟨t, c2⟩ := sg
  dsimp only at hp ⊢
  unfold tokW at hp
  have HP := Lib.hid hp
  have HH := Lib.hid h
  have H1 := Lib.hid h1
  have HS := Lib.hid hs
  clear h h1 hs hp hsg hv hb0
  go_enter Tryd.func81, Tryd.ntmps81
  go_wp2_with (first
    | (go_at_call 39; refine (HS.out).mono ?_; rintro e w1 ⟨rfl, hb1⟩; have HG := Lib.hid (Gr.of (R := R) hb1); have HR := Lib.hid (H1.out.go hb1); clear hb1; obtain ⟨o4, f4⟩ := HR.out.open_)
    | (go_at_call 45; have HGo := Lib.hid (HG.out.set 4 (.int .i64 (wrap64 (o + 1)))); have HRo := Lib.hid (HR.out.set_o (inc o)); refine (HP.out _ _ HRo.out).mono ?_; rintro e w2 ⟨rfl, hr2, hg2⟩; have HG2 := Lib.hid (HGo.out.trans hg2); have HR2 := Lib.hid (hr2); clear hr2 hg2 HGo HRo; have hk := mine HG2.out hlt; obtain ⟨⟨d0, d1, d2, d3⟩, g0, g1, g2, g3⟩ := quad hk; have hl := heap_lt' hk; clear hk))
  have hn := ((((Nw.start ((Gr.alloc (Gr.refl R w) _).trans HG2.out)).set (p := ⟨w.heap.size, 0, none⟩) (Nat.le_refl _) (.int .i64 t.kind)).set (p := ⟨w.heap.size, 1, none⟩) (Nat.le_refl _) (.string (cbs t.text))).set (p := ⟨w.heap.size, 2, none⟩) (Nat.le_refl _) (.int .i64 t.num)).set (p := ⟨w.heap.size, 3, none⟩) (Nat.le_refl _) (.int .i64 t.at_)
  exact bodyPost_ret (v := tokW t) (by simp [tokW, results, Tryd.results81, go_sem, d0, d1, d2, d3]) rfl ⟨rfl, HH.out.fin HR2.out hn, hn.gr⟩

theorem enterC_any (w : World) (R : Nat) (T : TypeId) (S : Value) (o : Int) (X : List Value) (ts : List RT) (s : Cs) (h : Cu w R T S (.int .i64 o :: X) ts s) (text : ByteArray) :
    Calls Tryd.prog 81 #[.pointer (some ⟨R, 0, none⟩), .string text] w fun e w' => e = .returned (tokW (enterC ts s o text.data.toList).1) ∧ Cu w' R T S (.int .i64 (inc o) :: X) ts (enterC ts s o text.data.toList).2 ∧ Gr R w w' := by
  cases hv : sees ts s 4 text.data.toList with
  | true =>
    cases hd : (o == 50) with
    | true =>
      have : enterC ts s o text.data.toList = sign ts (fail ts s 4) text.data.toList := by
        have hd2 : o = 50 := by simpa using hd
        simp [enterC, hv, hd2]
      rw [this]
      exact enterC_A w R T S o X ts s h text hv hd
    | false =>
      have : enterC ts s o text.data.toList = sign ts s text.data.toList := by
        have hd2 : ¬ o = 50 := by simpa using hd
        simp [enterC, hv, hd2]
      rw [this]
      exact enterC_B w R T S o X ts s h text hv hd
  | false =>
    have : enterC ts s o text.data.toList = sign ts s text.data.toList := by simp [enterC, hv]
    rw [this]
    exact enterC_C w R T S o X ts s h text hv

set_option maxHeartbeats 1000000 in
theorem leaveC_any (w : World) (R : Nat) (T : TypeId) (S : Value) (o : Int) (X : List Value) (ts : List RT) (s : Cs) (h : Cu w R T S (.int .i64 o :: X) ts s) :
    Calls Tryd.prog 89 #[.pointer (some ⟨R, 0, none⟩)] w fun e w' => e = .returned (.tuple #[]) ∧ Cu w' R T S (.int .i64 (dec o) :: X) ts s ∧ Gr R w w' := by
  have HH := Lib.hid h
  have hlt := h.lt
  obtain ⟨o4, f4⟩ := h.open_
  clear h
  go_enter Tryd.func89, Tryd.ntmps89
  go_wp2
  first
    | exact bodyPost_end (results_none rfl _ _ _) rfl ⟨rfl, HH.out.set_o (dec o), (Gr.refl R w).set 4 _⟩
    | exact bodyPost_ret (results_none rfl _ _ _) rfl ⟨rfl, HH.out.set_o (dec o), (Gr.refl R w).set 4 _⟩

end Go.Proofs.YtnadaedibicaaaaDoor
