/-
  The contracts of the project's cursor over tokens, third part: a sign, a name, a text of its own, the end.
-/
import Derived.Test.YtnadaedibicaaaaDoorCurB
import Derived.Test.YtnadaedibicaaaaDoorShelf
namespace Go.Proofs.YtnadaedibicaaaaDoor
open Go.RowKit
open Px (RT tokAt)
open Pe

theorem cbs_size (l : List UInt8) : (cbs l).size = l.length := by simp [cbs, ByteArray.size]

set_option maxHeartbeats 1000000 in
theorem clone_any (w : World) (s : ByteArray) (hs : s.size ≤ 281474976710656) :
    Calls Tryd.prog 60 #[.string s] w fun e w' => e = .returned (.string s) ∧ Below w.heap.size w w' := by
  go_enter Tryd.func60, Tryd.ntmps60
  go_wp2_with (go_at_call 77; refine (Any.stringslite_Clone Tryd.laysM316 s _ hs).mono ?_; rintro e w1 ⟨rfl, hb⟩)
  go_ret
  exact ⟨rfl, hb⟩

set_option maxHeartbeats 1000000 in
theorem text_any (w : World) (R : Nat) (T : TypeId) (S : Value) (X : List Value) (ts : List RT) (s : Cs) (h : Cu w R T S X ts s) :
    Calls Tryd.prog 43 #[.pointer (some ⟨R, 0, none⟩)] w fun e w' => e = .returned (.string (cbs (peek ts s).text)) ∧ Cu w' R T S X ts (next s) ∧ Gr R w w' := by
  have hp := next_any w R T S X ts s h
  have hsz := h.toks.peek s
  generalize peek ts s = t at hp hsz ⊢
  unfold tokW at hp
  have hfd : ∀ w1 : World, (Instr.field 51 (.agg #[.int .i64 t.kind, .string (cbs t.text), .int .i64 t.num, .int .i64 t.at_]) 1).run Tryd.prog w1 = .ok (.string (cbs t.text)) w1 := fun _ => by kernel_rfl
  have HP := Lib.hid hp
  have HS := Lib.hid hsz
  clear h hp hsz
  go_enter Tryd.func43, Tryd.ntmps43
  go_wp2_with (first
    | (go_at_call 41; refine (HP.out).mono ?_; rintro e w1 ⟨rfl, hr1, hg1⟩; have HR1 := Lib.hid hr1; have HG1 := Lib.hid hg1; clear hr1 hg1)
    | (go_at_call 60; refine (clone_any w1 (cbs t.text) (by rw [cbs_size]; exact HS.out)).mono ?_; rintro e w2 ⟨rfl, hb2⟩))
  go_ret
  exact ⟨rfl, HR1.out.go hb2, HG1.out.below hb2⟩

set_option maxHeartbeats 1000000 in
theorem sign_any (w : World) (R : Nat) (T : TypeId) (S : Value) (X : List Value) (ts : List RT) (s : Cs) (h : Cu w R T S X ts s) (text : ByteArray) :
    Calls Tryd.prog 45 #[.pointer (some ⟨R, 0, none⟩), .string text] w fun e w' => e = .returned (tokW (sign ts s text.data.toList).1) ∧ Cu w' R T S X ts (sign ts s text.data.toList).2 ∧ Gr R w w' := by
  have h1 := h.go ((Below.refl w.heap.size w).alloc (Nat.le_refl _) (.cells #[.int .i64 0, .string ⟨#[]⟩, .int .i64 0, .int .i64 0] 51))
  have hs := seesSign_any _ R T S X ts s h1 text
  have hlt := h.lt
  cases hb : sees ts s 4 text.data.toList with
  | true =>
    have hsg : sign ts s text.data.toList = (peek ts s, next s) := by simp [sign, failUnless, hb]
    rw [hsg]
    rw [hb] at hs
    have hp : ∀ w1, Cu w1 R T S X ts s → Calls Tryd.prog 41 #[.pointer (some ⟨R, 0, none⟩)] w1 _ := fun w1 h1 => next_any w1 R T S X ts s h1
    dsimp only
    generalize peek ts s = t at hp ⊢
    unfold tokW at hp
    have HP := Lib.hid hp
    have HH := Lib.hid h
    have H1 := Lib.hid h1
    have HS := Lib.hid hs
    clear h h1 hs hp hsg hb
    go_enter Tryd.func45, Tryd.ntmps45
    go_wp2_with (first
      | (go_at_call 39; refine (HS.out).mono ?_; rintro e w1 ⟨rfl, hb1⟩; have HG1 := Lib.hid (Gr.of (R := R) hb1); have HR1 := Lib.hid (H1.out.go hb1); clear hb1)
      | (go_at_call 41; refine (HP.out _ HR1.out).mono ?_; rintro e w2 ⟨rfl, hr2, hg2⟩; have HG2 := Lib.hid (HG1.out.trans hg2); have HR2 := Lib.hid hr2; clear hr2 hg2; have hk := mine HG2.out hlt; obtain ⟨⟨d0, d1, d2, d3⟩, g0, g1, g2, g3⟩ := quad hk; have hl := heap_lt' hk; clear hk))
    have hn := ((((Nw.start ((Gr.alloc (Gr.refl R w) _).trans HG2.out)).set (p := ⟨w.heap.size, 0, none⟩) (Nat.le_refl _) (.int .i64 t.kind)).set (p := ⟨w.heap.size, 1, none⟩) (Nat.le_refl _) (.string (cbs t.text))).set (p := ⟨w.heap.size, 2, none⟩) (Nat.le_refl _) (.int .i64 t.num)).set (p := ⟨w.heap.size, 3, none⟩) (Nat.le_refl _) (.int .i64 t.at_)
    exact bodyPost_ret (v := tokW t) (by simp [tokW, results, Tryd.results45, go_sem, d0, d1, d2, d3]) rfl ⟨rfl, HH.out.fin HR2.out hn, hn.gr⟩
  | false =>
    have hsg : sign ts s text.data.toList = (peek ts (fail ts s 2), next (fail ts s 2)) := by simp [sign, failUnless, hb]
    rw [hsg]
    rw [hb] at hs
    have hp : ∀ w1, Cu w1 R T S X ts (fail ts s 2) → Calls Tryd.prog 41 #[.pointer (some ⟨R, 0, none⟩)] w1 _ := fun w1 h1 => next_any w1 R T S X ts (fail ts s 2) h1
    dsimp only
    generalize peek ts (fail ts s 2) = t at hp ⊢
    unfold tokW at hp
    have HP := Lib.hid hp
    have HH := Lib.hid h
    have H1 := Lib.hid h1
    have HS := Lib.hid hs
    clear h h1 hs hp hsg hb
    go_enter Tryd.func45, Tryd.ntmps45
    go_wp2_with (first
      | (go_at_call 39; refine (HS.out).mono ?_; rintro e w1 ⟨rfl, hb1⟩; have HG1 := Lib.hid (Gr.of (R := R) hb1); have HR1 := Lib.hid (H1.out.go hb1); clear hb1)
      | (go_at_call 40; refine (fail_any _ R T S X ts s HR1.out 2).mono ?_; rintro e wf ⟨rfl, hrf, hgf⟩; have HGF := Lib.hid (HG1.out.trans hgf); have HRF := Lib.hid hrf; clear hrf hgf)
      | (go_at_call 41; refine (HP.out _ HRF.out).mono ?_; rintro e w2 ⟨rfl, hr2, hg2⟩; have HG2 := Lib.hid (HGF.out.trans hg2); have HR2 := Lib.hid hr2; clear hr2 hg2; have hk := mine HG2.out hlt; obtain ⟨⟨d0, d1, d2, d3⟩, g0, g1, g2, g3⟩ := quad hk; have hl := heap_lt' hk; clear hk))
    have hn := ((((Nw.start ((Gr.alloc (Gr.refl R w) _).trans HG2.out)).set (p := ⟨w.heap.size, 0, none⟩) (Nat.le_refl _) (.int .i64 t.kind)).set (p := ⟨w.heap.size, 1, none⟩) (Nat.le_refl _) (.string (cbs t.text))).set (p := ⟨w.heap.size, 2, none⟩) (Nat.le_refl _) (.int .i64 t.num)).set (p := ⟨w.heap.size, 3, none⟩) (Nat.le_refl _) (.int .i64 t.at_)
    exact bodyPost_ret (v := tokW t) (by simp [tokW, results, Tryd.results45, go_sem, d0, d1, d2, d3]) rfl ⟨rfl, HH.out.fin HR2.out hn, hn.gr⟩

set_option maxHeartbeats 1000000 in
theorem name_any (w : World) (R : Nat) (T : TypeId) (S : Value) (X : List Value) (ts : List RT) (s : Cs) (h : Cu w R T S X ts s) :
    Calls Tryd.prog 44 #[.pointer (some ⟨R, 0, none⟩)] w fun e w' => e = .returned (.string (cbs (name ts s).1)) ∧ Cu w' R T S X ts (name ts s).2 ∧ Gr R w w' := by
  have hp := peek_any w R T S X ts s h
  unfold tokW at hp
  have hfd : ∀ w1 : World, (Instr.field 51 (.agg #[.int .i64 (peek ts s).kind, .string (cbs (peek ts s).text), .int .i64 (peek ts s).num, .int .i64 (peek ts s).at_]) 0).run Tryd.prog w1 = .ok (.int .i64 (peek ts s).kind) w1 := fun _ => by kernel_rfl
  by_cases hk : (peek ts s).kind = 1
  · have hsg : name ts s = ((peek ts s).text, next s) := by simp [name, failUnless, hk]
    rw [hsg]
    have ht : ∀ w1, Cu w1 R T S X ts s → Calls Tryd.prog 43 #[.pointer (some ⟨R, 0, none⟩)] w1 _ := fun w1 h1 => text_any w1 R T S X ts s h1
    dsimp only
    generalize peek ts s = t at hp hfd hk ht ⊢
    have hd : (t.kind != 1) = false := by simp [hk]
    have HP := Lib.hid hp
    have HH := Lib.hid h
    have HT := Lib.hid ht
    clear h hp hsg hk ht
    go_enter Tryd.func44, Tryd.ntmps44
    go_wp2_with (first
      | (go_at_call 59; refine (HP.out).mono ?_; rintro e w1 ⟨rfl, hb1⟩; have HR1 := Lib.hid (HH.out.go hb1); have HG1 := Lib.hid (Gr.of (R := R) hb1); clear hb1)
      | (go_at_call 43; refine (HT.out _ HR1.out).mono ?_; rintro e w2 ⟨rfl, hr2, hg2⟩; have HR2 := Lib.hid hr2; have HG2 := Lib.hid (HG1.out.trans hg2); clear hr2 hg2))
    go_ret
    exact ⟨rfl, HR2.out, HG2.out⟩
  · have hsg : name ts s = ((peek ts (fail ts s 2)).text, next (fail ts s 2)) := by simp [name, failUnless, hk]
    rw [hsg]
    dsimp only
    generalize peek ts s = t at hp hfd hk
    have hd : (t.kind != 1) = true := by simp [hk]
    have ht : ∀ w1, Cu w1 R T S X ts (fail ts s 2) → Calls Tryd.prog 43 #[.pointer (some ⟨R, 0, none⟩)] w1 _ := fun w1 h1 => text_any w1 R T S X ts (fail ts s 2) h1
    generalize (peek ts (fail ts s 2)).text = tx at ht ⊢
    have HP := Lib.hid hp
    have HH := Lib.hid h
    have HT := Lib.hid ht
    clear h hp hsg hk ht
    go_enter Tryd.func44, Tryd.ntmps44
    go_wp2_with (first
      | (go_at_call 59; refine (HP.out).mono ?_; rintro e w1 ⟨rfl, hb1⟩; have HR1 := Lib.hid (HH.out.go hb1); have HG1 := Lib.hid (Gr.of (R := R) hb1); clear hb1)
      | (go_at_call 40; refine (fail_any _ R T S X ts s HR1.out 2).mono ?_; rintro e wf ⟨rfl, hrf, hgf⟩; have HGF := Lib.hid (HG1.out.trans hgf); have HRF := Lib.hid hrf; clear hrf hgf)
      | (go_at_call 43; refine (HT.out _ HRF.out).mono ?_; rintro e w2 ⟨rfl, hr2, hg2⟩; have HR2 := Lib.hid hr2; have HG2 := Lib.hid (HGF.out.trans hg2); clear hr2 hg2))
    go_ret
    exact ⟨rfl, HR2.out, HG2.out⟩
end Go.Proofs.YtnadaedibicaaaaDoor
