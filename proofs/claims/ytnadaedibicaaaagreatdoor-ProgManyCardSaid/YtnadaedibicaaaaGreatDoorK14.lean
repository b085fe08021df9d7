/-
  The contracts of the project's reader: a variable or a call.
-/
import Derived.Test.YtnadaedibicaaaaGreatDoorK13
namespace Go.Proofs.YtnadaedibicaaaaGreatDoor
open Go.RowKit
open Px (RT tokAt)
open Pe

/-- A slice's address, and the expressions that lie there. -/
def KidsAt (w : World) (B : Nat) (p : Option Addr) (l : List Ex) : Prop := l = [] ∨ ∃ bl off, p = some ⟨bl, off, none⟩ ∧ bl < w.heap.size ∧ B ≤ bl ∧ At w B bl off l
theorem KidsAt.set {w : World} {B : Nat} {q : Option Addr} {l : List Ex} (h : KidsAt w B q l) {p : Addr} (hp : p.block < B) (u : Value) : KidsAt (w.setCell p u) B q l := by
  rcases h with h | ⟨bl, off, h1, h2, h3, h4⟩
  · exact .inl h
  · have hs := ((Below.refl 0 w).setCell (p := p) (Nat.zero_le _) u).size
    exact .inr ⟨bl, off, h1, Nat.lt_of_lt_of_le h2 hs, h3, At.keep hs (fun bl h1 _ => Below.heap_setCell w p u bl (by omega)) l off h2 h3 h4⟩
theorem KidsAt.lower {w : World} {B B2 : Nat} {q : Option Addr} {l : List Ex} (h : KidsAt w B q l) (hB : B2 ≤ B) : KidsAt w B2 q l := by
  rcases h with h | ⟨bl, off, h1, h2, h3, h4⟩
  · exact .inl h
  · exact .inr ⟨bl, off, h1, h2, Nat.le_trans hB h3, At.lower hB l off h4⟩
theorem KidsAt.put11 {w : World} {B : Nat} {q : Option Addr} {l : List Ex} (h : KidsAt w B q l) {N : Nat} (hN : N < B) {c0 c1 c2 c3 c4 c5 c6 c7 c8 c9 c10 : Value} : KidsAt (((((((((((w.setCell ⟨N, 0, none⟩ c0).setCell ⟨N, 1, none⟩ c1).setCell ⟨N, 2, none⟩ c2).setCell ⟨N, 3, none⟩ c3).setCell ⟨N, 4, none⟩ c4).setCell ⟨N, 5, none⟩ c5).setCell ⟨N, 6, none⟩ c6).setCell ⟨N, 7, none⟩ c7).setCell ⟨N, 8, none⟩ c8).setCell ⟨N, 9, none⟩ c9).setCell ⟨N, 10, none⟩ c10) B q l :=
  (((((((((((h.set (p := ⟨N, 0, none⟩) hN c0).set (p := ⟨N, 1, none⟩) hN c1).set (p := ⟨N, 2, none⟩) hN c2).set (p := ⟨N, 3, none⟩) hN c3).set (p := ⟨N, 4, none⟩) hN c4).set (p := ⟨N, 5, none⟩) hN c5).set (p := ⟨N, 6, none⟩) hN c6).set (p := ⟨N, 7, none⟩) hN c7).set (p := ⟨N, 8, none⟩) hN c8).set (p := ⟨N, 9, none⟩) hN c9).set (p := ⟨N, 10, none⟩) hN c10)
theorem KidsAt.is {w : World} {B : Nat} {p : Option Addr} {c : Nat} {l : List Ex} (h : KidsAt w B p l) (kind num : Int) (name ofn : List UInt8) (dims at_ : Int) : Is w B (Ex.of kind num name ofn dims l at_) (exCells kind num name ofn dims (.slice p l.length c) at_ 0 0 0 0) := by
  rw [Ex.of, Is]
  exact ⟨p, c, rfl, h⟩
theorem voc_no {ts : List RT} {rec : Nat → St → Out} {g : Nat} {s : St} {x : Ex × St} (h : varOrCall ts rec g s = some x) (hv : sees ts (name ts s.c).2 4 [40] = false) : x = (Ex.of 4 0 (name ts s.c).1 [] 0 [] (peek ts s.c).at_, ⟨(name ts s.c).2, s.o⟩) := by
  simp only [varOrCall, hv, Bool.false_eq_true, if_false, Option.some.injEq] at h
  exact h.symm
theorem voc_yes {ts : List RT} {rec : Nat → St → Out} {g : Nat} {s : St} {x : Ex × St} (h : varOrCall ts rec g s = some x) (hv : sees ts (name ts s.c).2 4 [40] = true) : ∃ l s2, args ts rec g ⟨(name ts s.c).2, s.o⟩ = some (l, s2) ∧ x = (Ex.of 7 0 (name ts s.c).1 [] 0 l (peek ts s.c).at_, s2) := by
  simp only [varOrCall, hv, if_true] at h
  split at h
  · cases h
  · rename_i l s2 he
    exact ⟨l, s2, he, by simpa using h.symm⟩
theorem row_set {w : World} {B : Nat} {T : TypeId} {A A2 : Array Value} (h : w.heap[B]? = some (.cells A T (0, 0))) (i : Nat) (u : Value) (hA : A.setIfInBounds i u = A2) : (w.setCell ⟨B, i, none⟩ u).heap[B]? = some (.cells A2 T (0, 0)) := by
  have := Lib.heap_setCell_same h (i := i) (v := u)
  rw [this, hA]

set_option maxRecDepth 8000 in
set_option maxHeartbeats 2000000 in
theorem voc_no_any (w : World) (R M1 M2 M3 : Nat) (S : Value) (ts : List RT) (s : St) (h : Rs w R M1 M2 M3 S ts s) (hv : sees ts (name ts s.c).2 4 [40] = false) :
    Calls Tryz.prog 178 #[.pointer (some ⟨R, 0, none⟩)] w (ExPost w.heap.size w R M1 M2 M3 S ts (Ex.of 4 0 (name ts s.c).1 [] 0 [] (peek ts s.c).at_, ⟨(name ts s.c).2, s.o⟩)) := by
  have hp := fun w1 hh => peek_any w1 R 203 S [.int .i64 s.o, .map (some M1), .map (some M2), .map (some M3)] ts s.c hh
  have hq := fun w1 hh => name_any w1 R 203 S [.int .i64 s.o, .map (some M1), .map (some M2), .map (some M3)] ts s.c hh
  generalize peek ts s.c = t at hp ⊢
  unfold tokW at hp
  generalize name ts s.c = y at hq hv ⊢
  obtain ⟨nm, c2⟩ := y
  dsimp only at hq hv ⊢
  have hfd : ∀ w1 : World, (Instr.field 66 (.agg #[.int .i64 t.kind, .string (cbs t.text), .int .i64 t.num, .int .i64 t.at_]) 3).run Tryz.prog w1 = .ok (.int .i64 t.at_) w1 := fun _ => by kernel_rfl
  have hs := fun w1 X hh => seesSign_any w1 R 203 S X ts c2 hh ⟨#[40]⟩
  have HP := Lib.hid hp
  have HQ := Lib.hid hq
  have HS := Lib.hid hs
  have HV := Lib.hid hv
  have H1 := Lib.hid (h.go ((Below.refl w.heap.size w).alloc (Nat.le_refl _) (.cells #[.int .i64 0, .int .i64 0, .string ⟨#[]⟩, .string ⟨#[]⟩, .int .i64 0, .slice none 0 0, .int .i64 0, .int .i64 0, .int .i64 0, .int .i64 0, .int .i64 0] 106)))
  clear hp hq hs hv
  have hb0 : Below w.heap.size w (w.alloc (.cells #[.int .i64 0, .int .i64 0, .string ⟨#[]⟩, .string ⟨#[]⟩, .int .i64 0, .slice none 0 0, .int .i64 0, .int .i64 0, .int .i64 0, .int .i64 0, .int .i64 0] 106)) := (Below.refl w.heap.size w).alloc (Nat.le_refl _) _
  have hlt := h.lt
  have HH := Lib.hid h
  have HR := Lib.hid (h.go hb0)
  have HG := Lib.hid (Gr.refl R (w.alloc (.cells #[.int .i64 0, .int .i64 0, .string ⟨#[]⟩, .string ⟨#[]⟩, .int .i64 0, .slice none 0 0, .int .i64 0, .int .i64 0, .int .i64 0, .int .i64 0, .int .i64 0] 106)))
  clear h hb0
  go_enter Tryz.func178, Tryz.ntmps178
  go_wp2_with fail
  refine (HP.out _ HR.out.cu).mono ?_
  rintro e w1 ⟨rfl, hb⟩
  have HGx := Lib.hid (HG.out.below hb)
  have HRx := Lib.hid (HR.out.go hb)
  clear HG HR
  have HG := HGx
  have HR := HRx
  clear HGx HRx
  clear hb
  have HNB : Hid (w.heap.size < w1.heap.size) := (Nat.lt_of_lt_of_le (by rw [size_alloc]; exact Nat.lt_succ_self _ : w.heap.size < (w.alloc (.cells #[.int .i64 0, .int .i64 0, .string ⟨#[]⟩, .string ⟨#[]⟩, .int .i64 0, .slice none 0 0, .int .i64 0, .int .i64 0, .int .i64 0, .int .i64 0, .int .i64 0] 106)).heap.size) HG.out.size)
  go_wp2_with fail
  refine (HQ.out _ (HR.out.go ((Below.refl _ _).alloc (Nat.le_refl _) _)).cu).mono ?_
  rintro e w2 ⟨rfl, hc, hg⟩
  have hr := (HR.out.go ((Below.refl _ _).alloc (Nat.le_refl _) _)).cur hg hc
  clear hc
  have hkb := mine hg HR.out.lt
  have HGx := Lib.hid ((HG.out.alloc _).trans hg)
  have HRx := Lib.hid (hr)
  clear HG HR
  have HG := HGx
  have HR := HRx
  clear HGx HRx
  clear hr hg
  have hne := Nat.ne_of_lt HNB.out
  have hne2 := Ne.symm hne
  have HK2 := Lib.hid hkb
  obtain ⟨⟨x0, x1, x2, x3, x4, x5, x6, x7, x8, x9, xX⟩, y0, y1, y2, y3, y4, y5, y6, y7, y8, y9, yX⟩ := hen hkb
  have hlb := heap_lt' hkb
  clear hkb
  go_wp2_with fail
  have HZ : Hid ((w.alloc (.cells #[.int .i64 0, .int .i64 0, .string ⟨#[]⟩, .string ⟨#[]⟩, .int .i64 0, .slice none 0 0, .int .i64 0, .int .i64 0, .int .i64 0, .int .i64 0, .int .i64 0] 106)).heap.size ≤ w1.heap.size) := by have := HNB.out; rw [size_alloc]; exact this
  clear x0 x1 x2 x3 x4 x5 x6 x7 x8 x9 xX y0 y1 y2 y3 y4 y5 y6 y7 y8 y9 yX hlb
  have HN2 := Lib.hid ((Nw.start HG.out).set (p := ⟨w1.heap.size, 2, none⟩) HZ.out (.string (cbs nm)))
  have HK3 := Lib.hid (row_set HK2.out 2 (.string (cbs nm)) rfl)
  have HRA := Lib.hid (H1.out.fin HR.out HN2.out)
  refine (HS.out _ _ HRA.out.cu).mono ?_
  rintro e w3 ⟨rfl, hb⟩
  have HG3 := Lib.hid (HN2.out.gr.trans (Gr.of hb))
  have HR3 := Lib.hid (HRA.out.go hb)
  have hkb := (Gr.of (R := R) hb).box HK3.out (Nat.ne_of_gt (Nat.lt_of_lt_of_le hlt (Nat.le_of_lt HNB.out)))
  have HK4 := Lib.hid hkb
  obtain ⟨⟨x0, x1, x2, x3, x4, x5, x6, x7, x8, x9, xX⟩, y0, y1, y2, y3, y4, y5, y6, y7, y8, y9, yX⟩ := hen hkb
  have hlb := heap_lt' hkb
  have hk := mine HG3.out hlt
  obtain ⟨⟨d0, d1, d2, d3, d4, d5, d6, d7, d8, d9, dX⟩, g0, g1, g2, g3, g4, g5, g6, g7, g8, g9, gX⟩ := hen hk
  have hl := heap_lt' hk
  clear hk hkb hb HG HR HRA HN2 HK3 HK2
  have HG := HG3
  have HR := HR3
  clear HG3 HR3
  rw [HV.out]
  go_wp2_with fail
  have hn := (Nw.start ((Gr.alloc (Gr.refl R w) _).trans HG.out)).put11 (B := w.heap.size) (Nat.le_refl _) (c0 := .int .i64 4) (c1 := .int .i64 0) (c2 := .string (cbs nm)) (c3 := .string ⟨#[]⟩) (c4 := .int .i64 0) (c5 := .slice none 0 0) (c6 := .int .i64 t.at_) (c7 := .int .i64 0) (c8 := .int .i64 0) (c9 := .int .i64 0) (c10 := .int .i64 0)
  exact bodyPost_ret (v := .agg #[.int .i64 4, .int .i64 0, .string (cbs nm), .string ⟨#[]⟩, .int .i64 0, .slice none 0 0, .int .i64 t.at_, .int .i64 0, .int .i64 0, .int .i64 0, .int .i64 0]) (by simp [results, Tryz.results178, go_sem, d0, d1, d2, d3, d4, d5, d6, d7, d8, d9, dX]) rfl ⟨_, _, _, _, _, _, _, _, _, _, _, _, _, rfl, Is.leaf 4 0 nm [] 0 t.at_, HH.out.fin HR.out hn, hn.gr⟩

set_option maxRecDepth 8000 in
set_option maxHeartbeats 2000000 in
theorem voc_yes_any (w : World) (R M1 M2 M3 : Nat) (S : Value) (ts : List RT) (s : St) (h : Rs w R M1 M2 M3 S ts s) (rec : Nat → St → Out) (hrec : RecOk ts rec) (gg : Nat) (hgg : gg ≤ 1000000000) (hv : sees ts (name ts s.c).2 4 [40] = true) (l : List Ex) (s2 : St) (ha : args ts rec gg ⟨(name ts s.c).2, s.o⟩ = some (l, s2)) :
    Calls Tryz.prog 178 #[.pointer (some ⟨R, 0, none⟩)] w (ExPost w.heap.size w R M1 M2 M3 S ts (Ex.of 7 0 (name ts s.c).1 [] 0 l (peek ts s.c).at_, s2)) := by
  have hp := fun w1 hh => peek_any w1 R 203 S [.int .i64 s.o, .map (some M1), .map (some M2), .map (some M3)] ts s.c hh
  have hq := fun w1 hh => name_any w1 R 203 S [.int .i64 s.o, .map (some M1), .map (some M2), .map (some M3)] ts s.c hh
  generalize peek ts s.c = t at hp ⊢
  unfold tokW at hp
  generalize name ts s.c = y at hq hv ha ⊢
  obtain ⟨nm, c2⟩ := y
  dsimp only at hq hv ha ⊢
  have hfd : ∀ w1 : World, (Instr.field 66 (.agg #[.int .i64 t.kind, .string (cbs t.text), .int .i64 t.num, .int .i64 t.at_]) 3).run Tryz.prog w1 = .ok (.int .i64 t.at_) w1 := fun _ => by kernel_rfl
  have hs := fun w1 X hh => seesSign_any w1 R 203 S X ts c2 hh ⟨#[40]⟩
  have HP := Lib.hid hp
  have HQ := Lib.hid hq
  have HS := Lib.hid hs
  have HV := Lib.hid hv
  have H1 := Lib.hid (h.go ((Below.refl w.heap.size w).alloc (Nat.le_refl _) (.cells #[.int .i64 0, .int .i64 0, .string ⟨#[]⟩, .string ⟨#[]⟩, .int .i64 0, .slice none 0 0, .int .i64 0, .int .i64 0, .int .i64 0, .int .i64 0, .int .i64 0] 106)))
  clear hp hq hs hv
  have HA := Lib.hid (fun w1 hh => args_any w1 R M1 M2 M3 S ts ⟨c2, s.o⟩ hh rec hrec gg hgg (l, s2) ha)
  clear hrec hgg ha
  have hb0 : Below w.heap.size w (w.alloc (.cells #[.int .i64 0, .int .i64 0, .string ⟨#[]⟩, .string ⟨#[]⟩, .int .i64 0, .slice none 0 0, .int .i64 0, .int .i64 0, .int .i64 0, .int .i64 0, .int .i64 0] 106)) := (Below.refl w.heap.size w).alloc (Nat.le_refl _) _
  have hlt := h.lt
  have HH := Lib.hid h
  have HR := Lib.hid (h.go hb0)
  have HG := Lib.hid (Gr.refl R (w.alloc (.cells #[.int .i64 0, .int .i64 0, .string ⟨#[]⟩, .string ⟨#[]⟩, .int .i64 0, .slice none 0 0, .int .i64 0, .int .i64 0, .int .i64 0, .int .i64 0, .int .i64 0] 106)))
  clear h hb0
  go_enter Tryz.func178, Tryz.ntmps178
  go_wp2_with fail
  refine (HP.out _ HR.out.cu).mono ?_
  rintro e w1 ⟨rfl, hb⟩
  have HGx := Lib.hid (HG.out.below hb)
  have HRx := Lib.hid (HR.out.go hb)
  clear HG HR
  have HG := HGx
  have HR := HRx
  clear HGx HRx
  clear hb
  have HNB : Hid (w.heap.size < w1.heap.size) := (Nat.lt_of_lt_of_le (by rw [size_alloc]; exact Nat.lt_succ_self _ : w.heap.size < (w.alloc (.cells #[.int .i64 0, .int .i64 0, .string ⟨#[]⟩, .string ⟨#[]⟩, .int .i64 0, .slice none 0 0, .int .i64 0, .int .i64 0, .int .i64 0, .int .i64 0, .int .i64 0] 106)).heap.size) HG.out.size)
  go_wp2_with fail
  refine (HQ.out _ (HR.out.go ((Below.refl _ _).alloc (Nat.le_refl _) _)).cu).mono ?_
  rintro e w2 ⟨rfl, hc, hg⟩
  have hr := (HR.out.go ((Below.refl _ _).alloc (Nat.le_refl _) _)).cur hg hc
  clear hc
  have hkb := mine hg HR.out.lt
  have HGx := Lib.hid ((HG.out.alloc _).trans hg)
  have HRx := Lib.hid (hr)
  clear HG HR
  have HG := HGx
  have HR := HRx
  clear HGx HRx
  clear hr hg
  have hne := Nat.ne_of_lt HNB.out
  have hne2 := Ne.symm hne
  have HK2 := Lib.hid hkb
  obtain ⟨⟨x0, x1, x2, x3, x4, x5, x6, x7, x8, x9, xX⟩, y0, y1, y2, y3, y4, y5, y6, y7, y8, y9, yX⟩ := hen hkb
  have hlb := heap_lt' hkb
  clear hkb
  go_wp2_with fail
  have HZ : Hid ((w.alloc (.cells #[.int .i64 0, .int .i64 0, .string ⟨#[]⟩, .string ⟨#[]⟩, .int .i64 0, .slice none 0 0, .int .i64 0, .int .i64 0, .int .i64 0, .int .i64 0, .int .i64 0] 106)).heap.size ≤ w1.heap.size) := by have := HNB.out; rw [size_alloc]; exact this
  clear x0 x1 x2 x3 x4 x5 x6 x7 x8 x9 xX y0 y1 y2 y3 y4 y5 y6 y7 y8 y9 yX hlb
  have HN2 := Lib.hid ((Nw.start HG.out).set (p := ⟨w1.heap.size, 2, none⟩) HZ.out (.string (cbs nm)))
  have HK3 := Lib.hid (row_set HK2.out 2 (.string (cbs nm)) rfl)
  have HRA := Lib.hid (H1.out.fin HR.out HN2.out)
  refine (HS.out _ _ HRA.out.cu).mono ?_
  rintro e w3 ⟨rfl, hb⟩
  have HG3 := Lib.hid (HN2.out.gr.trans (Gr.of hb))
  have HR3 := Lib.hid (HRA.out.go hb)
  have hkb := (Gr.of (R := R) hb).box HK3.out (Nat.ne_of_gt (Nat.lt_of_lt_of_le hlt (Nat.le_of_lt HNB.out)))
  have HK4 := Lib.hid hkb
  obtain ⟨⟨x0, x1, x2, x3, x4, x5, x6, x7, x8, x9, xX⟩, y0, y1, y2, y3, y4, y5, y6, y7, y8, y9, yX⟩ := hen hkb
  have hlb := heap_lt' hkb
  have hk := mine HG3.out hlt
  obtain ⟨⟨d0, d1, d2, d3, d4, d5, d6, d7, d8, d9, dX⟩, g0, g1, g2, g3, g4, g5, g6, g7, g8, g9, gX⟩ := hen hk
  have hl := heap_lt' hk
  clear hk hkb hb HG HR HRA HN2 HK3 HK2
  have HG := HG3
  have HR := HR3
  clear HG3 HR3
  rw [HV.out]
  go_wp2_with fail
  clear x0 x1 x2 x3 x4 x5 x6 x7 x8 x9 xX y0 y1 y2 y3 y4 y5 y6 y7 y8 y9 yX hlb d0 d1 d2 d3 d4 d5 d6 d7 d8 d9 dX g0 g1 g2 g3 g4 g5 g6 g7 g8 g9 gX hl
  have HN3 := Lib.hid ((Nw.start HG.out).set (p := ⟨w1.heap.size, 0, none⟩) HZ.out (.int .i64 7))
  have HK5 := Lib.hid (row_set HK4.out 0 (.int .i64 7) rfl)
  have HRB := Lib.hid (H1.out.fin HR.out HN3.out)
  have hB1 : w1.heap.size < (w3.setCell ⟨w1.heap.size, 0, none⟩ (.int .i64 7)).heap.size := heap_lt' HK5.out
  have HB1 := Lib.hid hB1
  clear hB1
  refine (HA.out _ HRB.out).mono ?_
  rintro e w4 ⟨p, c, rfl, hka, hr, hg⟩
  have HKA : Hid (KidsAt w4 _ p l) := hka
  have HG4 := Lib.hid (HN3.out.gr.trans hg)
  have HR4 := Lib.hid hr
  have hkb := hg.box HK5.out (Nat.ne_of_gt (Nat.lt_of_lt_of_le hlt (Nat.le_of_lt HNB.out)))
  obtain ⟨⟨x0, x1, x2, x3, x4, x5, x6, x7, x8, x9, xX⟩, y0, y1, y2, y3, y4, y5, y6, y7, y8, y9, yX⟩ := hen hkb
  have hlb := heap_lt' hkb
  have hk := mine HG4.out hlt
  obtain ⟨⟨d0, d1, d2, d3, d4, d5, d6, d7, d8, d9, dX⟩, g0, g1, g2, g3, g4, g5, g6, g7, g8, g9, gX⟩ := hen hk
  have hl := heap_lt' hk
  clear hk hkb hka hr hg HG HR HRB HN3 HK4 HK5
  dsimp only
  go_wp2_with fail
  have hn := ((Nw.start HG4.out).set (p := ⟨w1.heap.size, 5, none⟩) HZ.out (.slice p l.length c))
  have hn2 : Nw R w w4 _ := ⟨hn.below.mono (by rw [size_alloc]; omega), (Gr.alloc (Gr.refl R w) _).trans hn.gr⟩
  have hn3 := hn2.put11 (B := w.heap.size) (Nat.le_refl _) (c0 := .int .i64 7) (c1 := .int .i64 0) (c2 := .string (cbs nm)) (c3 := .string ⟨#[]⟩) (c4 := .int .i64 0) (c5 := .slice p l.length c) (c6 := .int .i64 t.at_) (c7 := .int .i64 0) (c8 := .int .i64 0) (c9 := .int .i64 0) (c10 := .int .i64 0)
  have hki := ((HKA.out.set (p := ⟨w1.heap.size, 5, none⟩) HB1.out (.slice p l.length c)).put11 (N := w.heap.size) (Nat.lt_trans HNB.out HB1.out) (c0 := .int .i64 7) (c1 := .int .i64 0) (c2 := .string (cbs nm)) (c3 := .string ⟨#[]⟩) (c4 := .int .i64 0) (c5 := .slice p l.length c) (c6 := .int .i64 t.at_) (c7 := .int .i64 0) (c8 := .int .i64 0) (c9 := .int .i64 0) (c10 := .int .i64 0)).lower (B2 := w.heap.size) (Nat.le_of_lt (Nat.lt_trans HNB.out HB1.out))
  exact bodyPost_ret (v := .agg #[.int .i64 7, .int .i64 0, .string (cbs nm), .string ⟨#[]⟩, .int .i64 0, .slice p l.length c, .int .i64 t.at_, .int .i64 0, .int .i64 0, .int .i64 0, .int .i64 0]) (by simp [results, Tryz.results178, go_sem, d0, d1, d2, d3, d4, d5, d6, d7, d8, d9, dX]) rfl ⟨_, _, _, _, _, _, _, _, _, _, _, _, _, rfl, hki.is 7 0 nm [] 0 t.at_, HH.out.fin HR4.out hn3, hn3.gr⟩

set_option maxRecDepth 8000 in
set_option maxHeartbeats 2000000 in
theorem voc_any (w : World) (R M1 M2 M3 : Nat) (S : Value) (ts : List RT) (s : St) (h : Rs w R M1 M2 M3 S ts s) (rec : Nat → St → Out) (hrec : RecOk ts rec) (g : Nat) (hg : g ≤ 1000000000) (x : Ex × St) (hx : varOrCall ts rec g s = some x) :
    Calls Tryz.prog 178 #[.pointer (some ⟨R, 0, none⟩)] w (ExPost w.heap.size w R M1 M2 M3 S ts x) := by
  cases hv : sees ts (name ts s.c).2 4 [40] with
  | true =>
    obtain ⟨l, s2, ha, rfl⟩ := voc_yes hx hv
    exact voc_yes_any w R M1 M2 M3 S ts s h rec hrec g hg hv l s2 ha
  | false =>
    rw [voc_no hx hv]
    exact voc_no_any w R M1 M2 M3 S ts s h hv
end Go.Proofs.YtnadaedibicaaaaGreatDoor
