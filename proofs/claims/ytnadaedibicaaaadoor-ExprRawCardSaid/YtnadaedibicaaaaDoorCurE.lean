/-
  The contracts of the project's cursor over tokens, fifth part: a new one; a type read from a place.
-/
import Derived.Test.YtnadaedibicaaaaDoorCurD
import Derived.Deep.RegionWith
namespace Go.Proofs.YtnadaedibicaaaaDoor
open Go.RowKit
open Px (RT tokAt)
open Pe

theorem Gr.fresh {R : Nat} {w w' : World} (h : Gr R w w') (hR : w.heap.size ≤ R) : Below w.heap.size w w' := ⟨h.os, h.tape, h.output, h.size, fun i hi => h.block i hi (by omega)⟩
theorem Toks.re {w : World} {R R2 : Nat} {S : Value} {ts : List RT} (h : Toks w R S ts) (hR : w.heap.size ≤ R2) : Toks w R2 S ts := by
  obtain ⟨p, n, c, hS, hn, hm⟩ := h.val
  refine ⟨⟨p, n, c, hS, hn, ?_⟩, h.short⟩
  rcases hm with h0 | ⟨b, off, hp, hb, -, hc⟩
  · exact .inl h0
  · exact .inr ⟨b, off, hp, hb, by omega, hc⟩
theorem Toks.below {w w' : World} {R : Nat} {S : Value} {ts : List RT} (h : Toks w R S ts) (hb : Below w.heap.size w w') : Toks w' R S ts := h.gr (Gr.of hb)
theorem Toks.slice {w : World} {R : Nat} {S : Value} {ts : List RT} (h : Toks w R S ts) : ∃ p n c, S = .slice p n c := by
  obtain ⟨p, n, c, hS, -, -⟩ := h.val
  exact ⟨p, n, c, hS⟩

set_option maxHeartbeats 1000000 in
theorem new_any (w : World) (p : Option Addr) (n c : Nat) (k : Int) :
    Calls Tryd.prog 21 #[.slice p n c, .int .i64 k] w fun e w' => e = .returned (.agg #[.slice p n c, .int .i64 k, .int .i64 0, .int .i64 0]) ∧ Below w.heap.size w w' := by
  go_enter Tryd.func21, Tryd.ntmps21
  go_wp2_with fail
  refine bodyPost_ret (v := .agg #[.slice p n c, .int .i64 k, .int .i64 0, .int .i64 0]) (by simp [results, Tryd.results21, go_sem]) rfl ⟨rfl, ?_⟩
  exact (Below.refl _ _).alloc (Nat.le_refl _) _

set_option maxHeartbeats 4000000 in
theorem of_any (w : World) (R0 : Nat) (S : Value) (ts : List RT) (k : Int) (h : Toks w R0 S ts) :
    Calls Tryd.prog 11 #[S, .int .i64 k] w fun e w' => e = .returned (.tuple #[.agg #[.string (cbs (ofAns ts k).1), .int .i64 (ofAns ts k).2.1], .int .i64 (ofAns ts k).2.2.1, .agg #[.int .i64 (ofAns ts k).2.2.2.1, .int .i64 (ofAns ts k).2.2.2.2]]) ∧ Below w.heap.size w w' := by
  obtain ⟨p, n, c, rfl⟩ := h.slice
  have HH := Lib.hid (h.re (Nat.le_refl _))
  clear h
  unfold ofAns
  obtain ⟨wa, hwa⟩ : ∃ wa, wa = ((w.alloc (.cells #[.string ⟨#[]⟩, .int .i64 0] 32)).alloc (.cells #[.int .i64 0, .int .i64 0] 25)) := ⟨_, rfl⟩
  have hbA : Below w.heap.size w wa := by rw [hwa]; exact ((Below.refl _ _).alloc (Nat.le_refl _) _).alloc (by rw [size_alloc]; omega) _
  have hkA : wa.heap[w.heap.size]? = some (.cells #[.string ⟨#[]⟩, .int .i64 0] 32 (0, 0)) := by rw [hwa]; exact alloc_box _ (heap_alloc_new w _)
  have hkB : wa.heap[w.heap.size + 1]? = some (.cells #[.int .i64 0, .int .i64 0] 25 (0, 0)) := by rw [hwa]; have := heap_alloc_new (w.alloc (.cells #[.string ⟨#[]⟩, .int .i64 0] 32)) (.cells #[.int .i64 0, .int .i64 0] 25); rw [size_alloc] at this; exact this
  have HBA := Lib.hid hbA
  have HKA := Lib.hid hkA
  have HKB := Lib.hid hkB
  clear hbA hkA hkB
  go_enter Tryd.func11, Tryd.ntmps11
  go_wp2_with fail
  rw [← hwa]
  refine (new_any _ p n c k).mono ?_
  rintro e w1 ⟨rfl, hb1⟩
  have HB1 := Lib.hid (below_seq HBA.out hb1 HBA.out.size)
  have HKA1 := Lib.hid ((Gr.of (R := wa.heap.size) hb1).box HKA.out (Nat.ne_of_lt (heap_lt' HKA.out)))
  have HKB1 := Lib.hid ((Gr.of (R := wa.heap.size) hb1).box HKB.out (Nat.ne_of_lt (heap_lt' HKB.out)))
  clear hb1 HKA HKB hwa HBA
  obtain ⟨nm, d, s2, hrt⟩ : ∃ nm d s2, readType ts ⟨k, 0, 0⟩ = (nm, d, s2) := ⟨_, _, _, rfl⟩
  have HRT := Lib.hid hrt
  clear hrt
  have hcu : Cu (w1.alloc (.cells #[.slice p n c, .int .i64 k, .int .i64 0, .int .i64 0] 55)) w1.heap.size 55 (.slice p n c) [] ts ⟨k, 0, 0⟩ :=
    ⟨heap_alloc_new w1 _, ((HH.out.below HB1.out).re (Nat.le_refl _)).gr (Gr.alloc (Gr.refl _ _) _)⟩
  have HCU := Lib.hid hcu
  clear hcu
  go_wp2_with fail
  refine (readType_any _ w1.heap.size 55 (.slice p n c) [] ts ⟨k, 0, 0⟩ HCU.out).mono ?_
  rw [HRT.out]
  dsimp only
  rintro e w2 ⟨rfl, hr2, hg2⟩
  have hg1 := (Gr.alloc (Gr.refl w1.heap.size w1) (.cells #[.slice p n c, .int .i64 k, .int .i64 0, .int .i64 0] 55)).trans hg2
  have HB2 := Lib.hid (below_seq HB1.out (hg1.fresh (Nat.le_refl _)) HB1.out.size)
  have HKA2 := Lib.hid (hg1.box HKA1.out (Nat.ne_of_lt (heap_lt' HKA1.out)))
  have HKB2 := Lib.hid (hg1.box HKB1.out (Nat.ne_of_lt (heap_lt' HKB1.out)))
  have HR2 := Lib.hid hr2
  clear hr2 hg2 hg1 HKA1 HKB1 HCU
  go_wp2_with fail
  refine (resultOf_any _ w1.heap.size 55 (.slice p n c) [] ts s2 HR2.out (cbs nm) (d : Nat)).mono ?_
  rintro e w3 ⟨rfl, hb3⟩
  have HB3 := Lib.hid (below_seq HB2.out hb3 HB2.out.size)
  obtain ⟨⟨a0, a1⟩, ⟨f0, f1⟩, hlA⟩ := duo ((Gr.of (R := w2.heap.size) hb3).box HKA2.out (Nat.ne_of_lt (heap_lt' HKA2.out)))
  obtain ⟨⟨b0, b1⟩, ⟨g0, g1⟩, hlB⟩ := duo ((Gr.of (R := w2.heap.size) hb3).box HKB2.out (Nat.ne_of_lt (heap_lt' HKB2.out)))
  clear hb3
  obtain ⟨k2, E2, F2⟩ := s2
  by_cases hE : E2 = 0
  · subst hE
    rw [show ends ⟨k2, 0, F2⟩ = (k2, 0, 0) from rfl]
    dsimp only
    rw [if_pos rfl]
    go_wp2_with fail
    refine bodyPost_ret (v := .tuple #[.agg #[.string (cbs nm), .int .i64 (d : Nat)], .int .i64 k2, .agg #[.int .i64 0, .int .i64 0]]) (by simp [results, Tryd.results11, go_sem, a0, a1, b0, b1]) rfl ⟨by rw [HRT.out]; rfl, ?_⟩
    repeat (refine bl_put ?_ (by omega))
    exact HB3.out
  · rw [show ends ⟨k2, E2, F2⟩ = (0, E2, F2) from if_neg hE]
    dsimp only
    rw [if_neg hE]
    have HE := Lib.hid hE
    clear hE
    go_wp2_with fail
    refine bodyPost_ret (v := .tuple #[.agg #[.string ⟨#[]⟩, .int .i64 0], .int .i64 0, .agg #[.int .i64 E2, .int .i64 F2]]) (by simp [results, Tryd.results11, go_sem, a0, a1, b0, b1]) rfl ⟨by rw [HRT.out, ofEnd, if_neg HE.out]; rfl, ?_⟩
    repeat (refine bl_put ?_ (by omega))
    exact HB3.out
end Go.Proofs.YtnadaedibicaaaaDoor
