/-
  The contracts of the answer's reader (runrigref3) over the plain machine: what is kept over a call; what a step that reads an expression ends in.
-/
import Derived.Test.YtnadaedibicaaaaDoorQo
import Derived.Test.YtnadaedibicaaaaDoorQl
namespace Go.Proofs.YtnadaedibicaaaaDoor
open Go.RowKit
open Px (RT tokAt isT)
open Pe (inc dec Ex)
open Qe (Q)

/-- The reader at a later moment of a call, the blocks that the call has made, the trees that it has read. -/
structure Fq (w wr : World) (R : Nat) (S : Value) (ts : List RT) (s : Q) (L : List (Nat × Obj)) (T : List (Nat × Ex × List Value)) : Prop where
  qr : Qr wr R S ts s
  gr : Gr R w wr
  keep : ∀ p ∈ L, wr.heap[p.1]? = some p.2 ∧ p.1 ≠ R
  trees : ∀ p ∈ T, Is wr p.1 p.2.1 p.2.2 ∧ w.heap.size < p.1 ∧ R < p.1
theorem Fq.start {w : World} {R : Nat} {S : Value} {ts : List RT} {s : Q} (h : Qr w R S ts s) : Fq w w R S ts s [] [] := ⟨h, Gr.refl _ _, fun _ hp => (List.not_mem_nil hp).elim, fun _ hp => (List.not_mem_nil hp).elim⟩
theorem Fq.go {w wr w' : World} {R : Nat} {S : Value} {ts : List RT} {s : Q} {L : List (Nat × Obj)} {T : List (Nat × Ex × List Value)} (h : Fq w wr R S ts s L T) (hb : Below wr.heap.size wr w') : Fq w w' R S ts s L T :=
  ⟨h.qr.go hb, h.gr.trans (Gr.of hb), fun p hp => ⟨(hb.block _ (heap_lt' (h.keep p hp).1)).trans (h.keep p hp).1, (h.keep p hp).2⟩, fun p hp => ⟨(h.trees p hp).1.below hb, (h.trees p hp).2⟩⟩
theorem Fq.step {w wr w' : World} {R : Nat} {S : Value} {ts : List RT} {s s2 : Q} {L : List (Nat × Obj)} {T : List (Nat × Ex × List Value)} (h : Fq w wr R S ts s L T) (hr : Qr w' R S ts s2) (hg : Gr R wr w') : Fq w w' R S ts s2 L T :=
  ⟨hr, h.gr.trans hg, fun p hp => ⟨hg.box (h.keep p hp).1 (h.keep p hp).2, (h.keep p hp).2⟩, fun p hp => ⟨(h.trees p hp).1.gr (h.trees p hp).2.2 hg, (h.trees p hp).2⟩⟩
theorem Fq.alloc {w wr : World} {R : Nat} {S : Value} {ts : List RT} {s : Q} {L : List (Nat × Obj)} {T : List (Nat × Ex × List Value)} (h : Fq w wr R S ts s L T) (o : Obj) : Fq w (wr.alloc o) R S ts s ((wr.heap.size, o) :: L) T := by
  have h1 := h.go ((Below.refl _ _).alloc (Nat.le_refl _) o)
  refine ⟨h1.qr, h1.gr, fun p hp => ?_, h1.trees⟩
  rcases List.mem_cons.1 hp with rfl | hp
  · exact ⟨heap_alloc_new _ _, Nat.ne_of_gt h.qr.lt⟩
  · exact h1.keep p hp
theorem Fq.tree {w wr : World} {R : Nat} {S : Value} {ts : List RT} {s : Q} {L : List (Nat × Obj)} {T : List (Nat × Ex × List Value)} (h : Fq w wr R S ts s L T) {B : Nat} {e : Ex} {vs : List Value} (hi : Is wr B e vs) (hB : w.heap.size < B) (hR : R < B) : Fq w wr R S ts s L ((B, e, vs) :: T) :=
  ⟨h.qr, h.gr, h.keep, fun p hp => (List.mem_cons.1 hp).elim (fun e => by subst e; exact ⟨hi, hB, hR⟩) (h.trees p)⟩
theorem Fq.set_k {w wr : World} {R : Nat} {S : Value} {ts : List RT} {s : Q} {L : List (Nat × Obj)} {T : List (Nat × Ex × List Value)} (h : Fq w wr R S ts s L T) (q : Int) : Fq w (wr.setCell ⟨R, 1, none⟩ (.int .i64 q)) R S ts ⟨q, s.o, s.E, s.F⟩ L T :=
  h.step (h.qr.set_k q) ((Gr.refl R wr).set 1 _)
theorem Fq.set_o {w wr : World} {R : Nat} {S : Value} {ts : List RT} {s : Q} {L : List (Nat × Obj)} {T : List (Nat × Ex × List Value)} (h : Fq w wr R S ts s L T) (q : Int) : Fq w (wr.setCell ⟨R, 2, none⟩ (.int .i64 q)) R S ts ⟨s.k, q, s.E, s.F⟩ L T :=
  h.step (h.qr.set_o q) ((Gr.refl R wr).set 2 _)

/-- What a step that reads an expression ends in. -/
def QPost (B : Nat) (w : World) (R : Nat) (S : Value) (ts : List RT) (x : Ex × Q) (e : Ending) (w' : World) : Prop :=
  ∃ (kind num : Int) (name ofn : List UInt8) (dims : Int) (p : Option Addr) (n c : Nat) (at_ b r d ref : Int),
    e = .returned (.agg #[.int .i64 kind, .int .i64 num, .string (cbs name), .string (cbs ofn), .int .i64 dims, .slice p n c, .int .i64 at_, .int .i64 b, .int .i64 r, .int .i64 d, .int .i64 ref]) ∧
    Is w' B x.1 (exCells kind num name ofn dims (.slice p n c) at_ b r d ref) ∧ Qr w' R S ts x.2 ∧ Gr R w w'
def QRecOk (ts : List RT) (rec : Nat → Q → Qe.Out) : Prop := ∀ (n : Nat) (s : Q) (x : Ex × Q), n ≤ 5 → rec n s = some x → ∀ (w : World) (R : Nat) (S : Value), Qr w R S ts s →
  Calls Tryd.prog 38 #[.pointer (some ⟨R, 0, none⟩), .int .i64 (n : Int)] w (QPost w.heap.size w R S ts x)

theorem qinner_some {ts : List RT} {rec : Nat → Q → Qe.Out} {s : Q} {x : Ex × Q} (h : Qe.inner ts rec s = some x) : ∃ e s2, rec 0 (Qe.opens ts s [40]) = some (e, s2) ∧ x = (e, Qe.closes ts s2 [41]) := by
  unfold Qe.inner at h
  split at h
  · cases h
  · rename_i e s2 he
    exact ⟨e, s2, he, by simpa using h.symm⟩
theorem qpre_some {ts : List RT} {rec : Nat → Q → Qe.Out} {s : Q} {t : List UInt8} {kind : Int} {x : Ex × Q} (h : Qe.prefixed ts rec s t kind = some x) : ∃ e s2, rec 5 (Qe.opens ts s t) = some (e, s2) ∧ x = (Ex.of kind 0 [] [] 0 [e] (tokAt ts s.k).at_, ⟨s2.k, dec s2.o, s2.E, s2.F⟩) := by
  unfold Qe.prefixed at h
  split at h
  · cases h
  · rename_i e s2 he
    exact ⟨e, s2, he, by simpa using h.symm⟩
theorem is_text {ts : List RT} {s : Q} {wd : Bool} {t : List UInt8} (h : Qe.is ts s wd t = true) : s.E = 0 ∧ (tokAt ts s.k).kind = (if wd then 3 else 4) ∧ (tokAt ts s.k).text = t := by
  unfold Qe.is isT at h
  simp only [Bool.and_eq_true, beq_iff_eq, decide_eq_true_eq] at h
  exact ⟨h.1, h.2.1, h.2.2⟩
end Go.Proofs.YtnadaedibicaaaaDoor
