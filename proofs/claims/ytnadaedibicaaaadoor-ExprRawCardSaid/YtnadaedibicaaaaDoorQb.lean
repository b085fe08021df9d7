/-
  The contracts of the answer's reader (runrigref3) over the plain machine: a name, a type.
-/
import Derived.Test.YtnadaedibicaaaaDoorQa
namespace Go.Proofs.YtnadaedibicaaaaDoor
open Go.RowKit
open Px (RT tokAt isT)
open Pe (inc dec)
open Qe (Q)

set_option maxHeartbeats 1000000 in
theorem qName_A (w : World) (R : Nat) (S : Value) (ts : List RT) (s : Q) (h : Qr w R S ts s) (hE : (s.E == 0) = true) (hi : (tokAt ts s.k).kind = 1) :
    Calls Tryd.prog 49 #[.pointer (some ⟨R, 0, none⟩)] w fun en w' => en = .returned (.string (cbs (tokAt ts s.k).text)) ∧ Qr w' R S ts (Qe.next s) ∧ Gr R w w' := by
  have ht := qTok_any w R S ts s h
  have hok : ∀ w1, Below w.heap.size w w1 → Calls Tryd.prog 25 #[.pointer (some ⟨R, 0, none⟩)] w1 fun e w' => e = .returned (.bool true) ∧ w1 = w' := fun w1 hb => by rw [← hE]; exact qOk_any w1 R S ts s (h.go hb)
  generalize hT : tokAt ts s.k = T at ht hi ⊢
  unfold tokW at ht
  have hd1 : (T.kind == 1) = true := by rw [hi]; rfl
  have HT := Lib.hid ht
  have HOK := Lib.hid hok
  have HH := Lib.hid h
  clear ht hok h hT hi hE
  go_enter Tryd.func49, Tryd.ntmps49
  go_wp2_with (first
    | (go_at_call 48; refine (HT.out).mono ?_; rintro e w1 ⟨rfl, hb1⟩; have hb1 := hb1)
    | (go_at_call 25; refine (HOK.out _ (hb1.alloc hb1.size _)).mono ?_; rintro e w2 ⟨rfl, he⟩; have hb2 : Below w.heap.size w w2 := (by rw [← he]; exact hb1.alloc hb1.size _); have hblk : w2.heap[w1.heap.size]? = some (.cells #[.int .i64 T.kind, .string (cbs T.text), .int .i64 T.num, .int .i64 T.at_] 51 (0, 0)) := (by rw [← he]; exact heap_alloc_new w1 _); clear he; obtain ⟨⟨d0, d1, d2, d3⟩, g0, g1, g2, g3⟩ := quad hblk; clear hblk g0 g1 g2 g3; have hr2 := HH.out.go hb2; obtain ⟨⟨c0, c1, c2, c3, c4⟩, fr, hRl⟩ := hr2.cells; have HR2 := Lib.hid hr2; clear hr2; have fr1 := fr 1; clear fr; have hne : w1.heap.size ≠ R := (by have := HH.out.lt; have := hb1.size; omega); have hne2 : R ≠ w1.heap.size := fun h => hne h.symm))
  refine bodyPost_ret (results_tmp rfl _ _ _) rfl ⟨rfl, ?_, ?_⟩
  · exact HR2.out.set_k (inc s.k)
  · exact (Gr.of hb2).set 1 _

set_option maxHeartbeats 1000000 in
theorem qName_B (w : World) (R : Nat) (S : Value) (ts : List RT) (s : Q) (h : Qr w R S ts s) (hE : (s.E == 0) = true) (hi : ¬ (tokAt ts s.k).kind = 1) :
    Calls Tryd.prog 49 #[.pointer (some ⟨R, 0, none⟩)] w fun en w' => en = .returned (.string ⟨#[]⟩) ∧ Qr w' R S ts (Qe.fail ts s 2) ∧ Gr R w w' := by
  have ht := qTok_any w R S ts s h
  have hok : ∀ w1, Below w.heap.size w w1 → Calls Tryd.prog 25 #[.pointer (some ⟨R, 0, none⟩)] w1 fun e w' => e = .returned (.bool true) ∧ w1 = w' := fun w1 hb => by rw [← hE]; exact qOk_any w1 R S ts s (h.go hb)
  have hf := fun w1 hh => qFail_any w1 R S ts s hh 2
  generalize Qe.fail ts s 2 = s2 at hf ⊢
  generalize hT : tokAt ts s.k = T at ht hi
  unfold tokW at ht
  have hd1 : (T.kind == 1) = false := beq_eq_false_iff_ne.2 hi
  have HT := Lib.hid ht
  have HOK := Lib.hid hok
  have HH := Lib.hid h
  have HF := Lib.hid hf
  clear ht hok h hT hi hE hf
  go_enter Tryd.func49, Tryd.ntmps49
  go_wp2_with (first
    | (go_at_call 48; refine (HT.out).mono ?_; rintro e w1 ⟨rfl, hb1⟩; have hb1 := hb1)
    | (go_at_call 25; refine (HOK.out _ (hb1.alloc hb1.size _)).mono ?_; rintro e w2 ⟨rfl, he⟩; have hb2 : Below w.heap.size w w2 := (by rw [← he]; exact hb1.alloc hb1.size _); have hblk : w2.heap[w1.heap.size]? = some (.cells #[.int .i64 T.kind, .string (cbs T.text), .int .i64 T.num, .int .i64 T.at_] 51 (0, 0)) := (by rw [← he]; exact heap_alloc_new w1 _); clear he; obtain ⟨⟨d0, d1, d2, d3⟩, g0, g1, g2, g3⟩ := quad hblk; clear hblk g0 g1 g2 g3; have HR2 := Lib.hid (HH.out.go hb2))
    | (go_at_call 47; refine (HF.out w2 HR2.out).mono ?_; rintro e w3 ⟨rfl, hr3, hg3⟩; have HR3 := Lib.hid hr3; clear hr3))
  refine bodyPost_ret (results_tmp rfl _ _ _) rfl ⟨rfl, HR3.out, (Gr.of hb2).trans hg3⟩

set_option maxHeartbeats 1000000 in
theorem qName_C (w : World) (R : Nat) (S : Value) (ts : List RT) (s : Q) (h : Qr w R S ts s) (hE : (s.E == 0) = false) :
    Calls Tryd.prog 49 #[.pointer (some ⟨R, 0, none⟩)] w fun en w' => en = .returned (.string ⟨#[]⟩) ∧ Qr w' R S ts (Qe.fail ts s 2) ∧ Gr R w w' := by
  have ht := qTok_any w R S ts s h
  have hok : ∀ w1, Below w.heap.size w w1 → Calls Tryd.prog 25 #[.pointer (some ⟨R, 0, none⟩)] w1 fun e w' => e = .returned (.bool false) ∧ w1 = w' := fun w1 hb => by rw [← hE]; exact qOk_any w1 R S ts s (h.go hb)
  have hf := fun w1 hh => qFail_any w1 R S ts s hh 2
  generalize Qe.fail ts s 2 = s2 at hf ⊢
  generalize hT : tokAt ts s.k = T at ht
  unfold tokW at ht
  have HT := Lib.hid ht
  have HOK := Lib.hid hok
  have HH := Lib.hid h
  have HF := Lib.hid hf
  clear ht hok h hT hE hf
  go_enter Tryd.func49, Tryd.ntmps49
  go_wp2_with (first
    | (go_at_call 48; refine (HT.out).mono ?_; rintro e w1 ⟨rfl, hb1⟩; have hb1 := hb1)
    | (go_at_call 25; refine (HOK.out _ (hb1.alloc hb1.size _)).mono ?_; rintro e w2 ⟨rfl, he⟩; have hb2 : Below w.heap.size w w2 := (by rw [← he]; exact hb1.alloc hb1.size _); clear he; have HR2 := Lib.hid (HH.out.go hb2))
    | (go_at_call 47; refine (HF.out w2 HR2.out).mono ?_; rintro e w3 ⟨rfl, hr3, hg3⟩; have HR3 := Lib.hid hr3; clear hr3))
  refine bodyPost_ret (results_tmp rfl _ _ _) rfl ⟨rfl, HR3.out, (Gr.of hb2).trans hg3⟩

theorem qName_any (w : World) (R : Nat) (S : Value) (ts : List RT) (s : Q) (h : Qr w R S ts s) :
    Calls Tryd.prog 49 #[.pointer (some ⟨R, 0, none⟩)] w fun en w' => en = .returned (.string (cbs (Qe.name ts s).1)) ∧ Qr w' R S ts (Qe.name ts s).2 ∧ Gr R w w' := by
  unfold Qe.name
  by_cases hE : s.E = 0
  · by_cases hi : (tokAt ts s.k).kind = 1
    · rw [if_pos ⟨hE, hi⟩]
      exact qName_A w R S ts s h (by rw [hE]; rfl) hi
    · rw [if_neg (fun h => hi h.2)]
      exact qName_B w R S ts s h (by rw [hE]; rfl) hi
  · rw [if_neg (fun h => hE h.1)]
    exact qName_C w R S ts s h (by simpa using hE)
end Go.Proofs.YtnadaedibicaaaaDoor
