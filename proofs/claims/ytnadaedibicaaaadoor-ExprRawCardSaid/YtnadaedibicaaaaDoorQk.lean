/-
  The contracts of the answer's reader (runrigref3) over the plain machine: a loop that holds one expression in a block of its own.
-/
import Derived.Test.YtnadaedibicaaaaDoorQf
import Derived.Test.YtnadaedibicaaaaDoorRm
import Derived.Deep.LoopGhost
import Derived.Deep.RegionHeld3
namespace Go.Proofs.YtnadaedibicaaaaDoor
open Go.RowKit
open Px (RT tokAt isT)
open Pe (inc dec Ex)
open Qe (Q)

/-- These values are this expression, whatever becomes of some blocks. -/
def IsOff (g : Nat → Prop) (w : World) (B : Nat) (e : Ex) (vs : List Value) : Prop :=
  ∀ w' : World, w.heap.size ≤ w'.heap.size → (∀ bl, B ≤ bl → bl < w.heap.size → ¬ g bl → w'.heap[bl]? = w.heap[bl]?) → Is w' B e vs
theorem IsOff.now {g : Nat → Prop} {w : World} {B : Nat} {e : Ex} {vs : List Value} (h : IsOff g w B e vs) : Is w B e vs := h w (Nat.le_refl _) fun _ _ _ _ => rfl
theorem IsOff.of {g : Nat → Prop} {w : World} {B B2 : Nat} {e : Ex} {vs : List Value} (h : Is w B2 e vs) (hB : B ≤ B2) (hg : ∀ k, g k → k < B2) : IsOff g w B e vs :=
  fun w' hs hk => Is.lower hB _ (Is.keep hs (fun bl h1 h2 => hk bl (Nat.le_trans hB h1) h2 (fun e => by have := hg _ e; omega)) _ h)
theorem IsOff.top {g : Nat → Prop} {w : World} {B : Nat} {e : Ex} {vs : List Value} (h : Is w B e vs) (hg : ∀ k, g k → w.heap.size ≤ k) : IsOff g w B e vs :=
  fun w' hs hk => Is.keep hs (fun bl h1 h2 => hk bl h1 h2 (fun e => by have := hg _ e; omega)) _ h
theorem IsOff.go {g : Nat → Prop} {w w1 : World} {B : Nat} {e : Ex} {vs : List Value} (h : IsOff g w B e vs) (hs : w.heap.size ≤ w1.heap.size) (hk : ∀ bl, B ≤ bl → bl < w.heap.size → ¬ g bl → w1.heap[bl]? = w.heap[bl]?) : IsOff g w1 B e vs :=
  fun w' hs' hk' => h w' (Nat.le_trans hs hs') fun bl h1 h2 h3 => (hk' bl h1 (Nat.lt_of_lt_of_le h2 hs) h3).trans (hk bl h1 h2 h3)
theorem IsOff.below {g : Nat → Prop} {w w1 : World} {B : Nat} {e : Ex} {vs : List Value} (h : IsOff g w B e vs) (hb : Below w.heap.size w w1) : IsOff g w1 B e vs := h.go hb.size fun bl _ h2 _ => hb.block bl h2
theorem IsOff.gr {g : Nat → Prop} {w w1 : World} {R B : Nat} {e : Ex} {vs : List Value} (h : IsOff g w B e vs) (hR : R < B) (hg : Gr R w w1) : IsOff g w1 B e vs := h.go hg.size fun bl h1 h2 _ => hg.block bl h2 (by omega)
theorem IsOff.alloc {g : Nat → Prop} {w : World} {B : Nat} {e : Ex} {vs : List Value} (h : IsOff g w B e vs) (o : Obj) : IsOff g (w.alloc o) B e vs := h.below ((Below.refl _ _).alloc (Nat.le_refl _) _)
theorem IsOff.put11 {g : Nat → Prop} {w : World} {N B : Nat} {e : Ex} {vs : List Value} (h : IsOff g w B e vs) (hN : g N) {c0 c1 c2 c3 c4 c5 c6 c7 c8 c9 c10 : Value} : IsOff g (((((((((((w.setCell ⟨N, 0, none⟩ c0).setCell ⟨N, 1, none⟩ c1).setCell ⟨N, 2, none⟩ c2).setCell ⟨N, 3, none⟩ c3).setCell ⟨N, 4, none⟩ c4).setCell ⟨N, 5, none⟩ c5).setCell ⟨N, 6, none⟩ c6).setCell ⟨N, 7, none⟩ c7).setCell ⟨N, 8, none⟩ c8).setCell ⟨N, 9, none⟩ c9).setCell ⟨N, 10, none⟩ c10) B e vs :=
  h.go (by simp only [size_set]; exact Nat.le_refl _) fun bl _ hb hne => by
    obtain ⟨o, ho⟩ : ∃ o, w.heap[bl]? = some o := ⟨_, Array.getElem?_eq_getElem hb⟩
    rw [ho]
    exact put11_other ho (fun he => hne (by rw [he]; exact hN))
theorem IsOff.node1 {g : Nat → Prop} {w : World} {B bl : Nat} {T : TypeId} {e : Ex} {vs : List Value} {A : Array Value} (hb : w.heap[bl]? = some (.cells A T (0, 0))) (hne : B ≤ bl) (hg : ¬ g bl) (hi : IsOff g w B e vs) (hA : A = ⟨vs⟩) (kind num : Int) (name ofn : List UInt8) (dims at_ : Int) (c : Nat) :
    IsOff g w B (Ex.of kind num name ofn dims [e] at_) (exCells kind num name ofn dims (.slice (some ⟨bl, 0, none⟩) 1 c) at_ 0 0 0 0) :=
  fun w' hs hk => Is.node1 ((hk bl hne (heap_lt' hb) hg).trans hb) hne (hi w' hs hk) hA kind num name ofn dims at_ c
theorem IsOff.node2 {g : Nat → Prop} {w : World} {B bl : Nat} {T : TypeId} {e e2 : Ex} {vs vs2 : List Value} {A : Array Value} (hb : w.heap[bl]? = some (.cells A T (0, 0))) (hne : B ≤ bl) (hg : ¬ g bl) (hi : IsOff g w B e vs) (hi2 : IsOff g w B e2 vs2) (hA : A = ⟨vs ++ vs2⟩) (kind num : Int) (name ofn : List UInt8) (dims at_ : Int) (c : Nat) :
    IsOff g w B (Ex.of kind num name ofn dims [e, e2] at_) (exCells kind num name ofn dims (.slice (some ⟨bl, 0, none⟩) 2 c) at_ 0 0 0 0) :=
  fun w' hs hk => Is.node2 ((hk bl hne (heap_lt' hb) hg).trans hb) hne (hi w' hs hk) (hi2 w' hs hk) hA kind num name ofn dims at_ c

/-- Two blocks of a loop's own. -/
def Own (eb rb : Nat) (k : Nat) : Prop := k = eb ∨ k = rb
/-- Where a loop stands that holds one expression in a block of its own. -/
structure Hoq (w wr : World) (R : Nat) (S : Value) (ts : List RT) (B eb rb : Nat) (kind num : Int) (name ofn : List UInt8) (dims : Int) (p : Option Addr) (ln c : Nat) (at_ b r d ref : Int) (e : Ex) (s : Q) : Prop where
  f : Fq w wr R S ts s [(eb, .cells #[.int .i64 kind, .int .i64 num, .string (cbs name), .string (cbs ofn), .int .i64 dims, .slice p ln c, .int .i64 at_, .int .i64 b, .int .i64 r, .int .i64 d, .int .i64 ref] 39), (rb, .cells #[.int .i64 0, .int .i64 0, .string ⟨#[]⟩, .string ⟨#[]⟩, .int .i64 0, .slice none 0 0, .int .i64 0, .int .i64 0, .int .i64 0, .int .i64 0, .int .i64 0] 39)] []
  is : IsOff (Own eb rb) wr B e (exCells kind num name ofn dims (.slice p ln c) at_ b r d ref)
theorem Fq.sub {w wr : World} {R : Nat} {S : Value} {ts : List RT} {s : Q} {L L2 : List (Nat × Obj)} {T : List (Nat × Ex × List Value)} (h : Fq w wr R S ts s L T) (hs : ∀ p ∈ L2, p ∈ L) : Fq w wr R S ts s L2 [] := ⟨h.qr, h.gr, fun p hp => h.keep p (hs p hp), fun _p hp => (List.not_mem_nil hp).elim⟩
/-- The block is written anew. -/
theorem Fq.write {w u : World} {R : Nat} {S : Value} {ts : List RT} {s0 s : Q} {L : List (Nat × Obj)} {T : List (Nat × Ex × List Value)} {eb rb : Nat} {ob : Obj} {o0 o1 o2 o3 o4 o5 o6 o7 o8 o9 o10 : Value} {ty : TypeId} (h : Fq w u R S ts s L T) (h0 : Qr w R S ts s0) (he : (eb, .cells #[o0, o1, o2, o3, o4, o5, o6, o7, o8, o9, o10] ty) ∈ L) (hr : (rb, ob) ∈ L) (hw : w.heap.size ≤ eb) (hne : rb ≠ eb) {c0 c1 c2 c3 c4 c5 c6 c7 c8 c9 c10 : Value} :
    Fq w (((((((((((u.setCell ⟨eb, 0, none⟩ c0).setCell ⟨eb, 1, none⟩ c1).setCell ⟨eb, 2, none⟩ c2).setCell ⟨eb, 3, none⟩ c3).setCell ⟨eb, 4, none⟩ c4).setCell ⟨eb, 5, none⟩ c5).setCell ⟨eb, 6, none⟩ c6).setCell ⟨eb, 7, none⟩ c7).setCell ⟨eb, 8, none⟩ c8).setCell ⟨eb, 9, none⟩ c9).setCell ⟨eb, 10, none⟩ c10) R S ts s [(eb, .cells #[c0, c1, c2, c3, c4, c5, c6, c7, c8, c9, c10] ty), (rb, ob)] [] := by
  have hn := (Nw.start h.gr).put11 (B := eb) hw (c0 := c0) (c1 := c1) (c2 := c2) (c3 := c3) (c4 := c4) (c5 := c5) (c6 := c6) (c7 := c7) (c8 := c8) (c9 := c9) (c10 := c10)
  refine ⟨h0.fin h.qr hn, hn.gr, fun p hp => ?_, fun p hp => (List.not_mem_nil hp).elim⟩
  rcases List.mem_cons.1 hp with rfl | hp
  · exact ⟨row11 (h.keep _ he).1, (h.keep _ he).2⟩
  · rcases List.mem_cons.1 hp with rfl | hp
    · exact ⟨put11_other (h.keep _ hr).1 hne, (h.keep _ hr).2⟩
    · exact (List.not_mem_nil hp).elim

theorem beh_zero {ts : List RT} {rec : Nat → Q → Qe.Out} {e : Ex} {s : Q} {x : Ex × Q} (h : Qe.behind ts rec 0 e s = some x) : False := by
  rw [Qe.behind] at h; cases h
theorem beh_dot {ts : List RT} {rec : Nat → Q → Qe.Out} {g : Nat} {e : Ex} {s : Q} {x : Ex × Q} (h : Qe.behind ts rec (g + 1) e s = some x) (hv : Qe.is ts s false [46] = true) : Qe.behind ts rec g (Ex.of 5 0 (Qe.name ts (Qe.next s)).1 [] 0 [e] (tokAt ts s.k).at_) (Qe.name ts (Qe.next s)).2 = some x := by
  rw [Qe.behind, if_pos hv] at h; exact h
theorem beh_item {ts : List RT} {rec : Nat → Q → Qe.Out} {g : Nat} {e : Ex} {s : Q} {x : Ex × Q} (h : Qe.behind ts rec (g + 1) e s = some x) (hv : Qe.is ts s false [46] = false) (hv2 : Qe.is ts s false [91] = true) :
    ∃ i s2, rec 0 (Qe.opens ts s [91]) = some (i, s2) ∧ Qe.behind ts rec g (Ex.of 6 0 [] [] 0 [e, i] (tokAt ts s.k).at_) (Qe.closes ts s2 [93]) = some x := by
  rw [Qe.behind, if_neg (by rw [hv]; decide), if_pos hv2] at h
  split at h
  · cases h
  · rename_i i s2 he
    exact ⟨i, s2, he, h⟩
theorem beh_end {ts : List RT} {rec : Nat → Q → Qe.Out} {g : Nat} {e : Ex} {s : Q} {x : Ex × Q} (h : Qe.behind ts rec (g + 1) e s = some x) (hv : Qe.is ts s false [46] = false) (hv2 : Qe.is ts s false [91] = false) : x = (e, s) := by
  rw [Qe.behind, if_neg (by rw [hv]; decide), if_neg (by rw [hv2]; decide)] at h
  simpa using h.symm
end Go.Proofs.YtnadaedibicaaaaDoor
