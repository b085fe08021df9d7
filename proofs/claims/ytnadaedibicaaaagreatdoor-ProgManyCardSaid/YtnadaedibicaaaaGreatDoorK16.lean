/-
  A statement in memory; what a step that reads statements keeps.
-/
import Derived.Test.YtnadaedibicaaaaGreatDoorK14
import Derived.Test.YtnadaedibicaaaaGreatDoorK15
namespace Go.Proofs.YtnadaedibicaaaaGreatDoor
open Go.RowKit
open Px (RT tokAt)
open Pe
open Ps (Sm)

/-- Blocks from B on are as they were. -/
structure Ag (B : Nat) (w w' : World) : Prop where
  size : w.heap.size ≤ w'.heap.size
  block : ∀ bl, B ≤ bl → bl < w.heap.size → w'.heap[bl]? = w.heap[bl]?
theorem Ag.refl (B : Nat) (w : World) : Ag B w w := ⟨Nat.le_refl _, fun _ _ _ => rfl⟩
theorem Ag.trans {B : Nat} {w w1 w2 : World} (h : Ag B w w1) (g : Ag B w1 w2) : Ag B w w2 :=
  ⟨Nat.le_trans h.size g.size, fun bl h1 h2 => (g.block bl h1 (Nat.lt_of_lt_of_le h2 h.size)).trans (h.block bl h1 h2)⟩
theorem Ag.gr {B R : Nat} {w w' : World} (hg : Gr R w w') (hR : R < B) : Ag B w w' := ⟨hg.size, fun bl h1 h2 => hg.block bl h2 (by omega)⟩
theorem Ag.below {B : Nat} {w w' : World} (hb : Below w.heap.size w w') : Ag B w w' := ⟨hb.size, fun bl _ h2 => hb.block bl h2⟩
theorem Ag.set {B : Nat} {w w1 : World} (h : Ag B w w1) {p : Addr} (hp : p.block < B ∨ w.heap.size ≤ p.block) (u : Value) : Ag B w (w1.setCell p u) :=
  ⟨by rw [size_set]; exact h.size, fun bl h1 h2 => (Below.heap_setCell w1 p u bl (by omega)).trans (h.block bl h1 h2)⟩

theorem Is.ag {w w' : World} {B : Nat} {e : Ex} {vs : List Value} (h : Is w B e vs) (g : Ag B w w') : Is w' B e vs := Is.keep g.size g.block e h
theorem KidsAt.ag {w w' : World} {B : Nat} {p : Option Addr} {l : List Ex} (h : KidsAt w B p l) (g : Ag B w w') : KidsAt w' B p l := by
  rcases h with h0 | ⟨bl, off, hp, hb, hne, ha⟩
  · exact .inl h0
  · exact .inr ⟨bl, off, hp, Nat.lt_of_lt_of_le hb g.size, hne, At.keep g.size g.block l off hb hne ha⟩

def smCells (kind : Int) (name ofn : List UInt8) (dims : Int) (ev bv lv : Value) (at_ ref : Int) : List Value :=
  [.int .i64 kind, .string (cbs name), .string (cbs ofn), .int .i64 dims, ev, bv, lv, .int .i64 at_, .int .i64 ref]

/-! These values are this statement; those cells hold these statements, one behind the other. -/
mutual
def SIs (w : World) (B : Nat) : Sm → List Value → Prop
  | .mk kind name ofn dims es body els at_ ref, vs => ∃ p c q d r f, vs = smCells kind name ofn dims (.slice p es.length c) (.slice q body.length d) (.slice r els.length f) at_ ref ∧ KidsAt w B p es ∧
      (body = [] ∨ ∃ bl off, q = some ⟨bl, off, none⟩ ∧ bl < w.heap.size ∧ B ≤ bl ∧ SAt w B bl off body) ∧
      (els = [] ∨ ∃ bl off, r = some ⟨bl, off, none⟩ ∧ bl < w.heap.size ∧ B ≤ bl ∧ SAt w B bl off els)
def SAt (w : World) (B bl : Nat) : Nat → List Sm → Prop
  | _, [] => True
  | off, x :: xs => (∃ vs, SIs w B x vs ∧ ∀ (i : Nat) (v : Value), vs[i]? = some v → w.cell? ⟨bl, off + i, none⟩ = some v) ∧ SAt w B bl (off + 9) xs
end
def SsAt (w : World) (B : Nat) (q : Option Addr) (l : List Sm) : Prop := l = [] ∨ ∃ bl off, q = some ⟨bl, off, none⟩ ∧ bl < w.heap.size ∧ B ≤ bl ∧ SAt w B bl off l

mutual
theorem SIs.ag {w w' : World} {B : Nat} (g : Ag B w w') : ∀ (x : Sm) {vs : List Value}, SIs w B x vs → SIs w' B x vs
  | .mk kind name ofn dims es body els at_ ref, vs, h => by
    rw [SIs] at h ⊢
    obtain ⟨p, c, q, d, r, f, hv, hk, hb, he⟩ := h
    refine ⟨p, c, q, d, r, f, hv, hk.ag g, ?_, ?_⟩
    · rcases hb with h0 | ⟨bl, off, hp, hl, hne, ha⟩
      · exact .inl h0
      · exact .inr ⟨bl, off, hp, Nat.lt_of_lt_of_le hl g.size, hne, SAt.ag g body off hl hne ha⟩
    · rcases he with h0 | ⟨bl, off, hp, hl, hne, ha⟩
      · exact .inl h0
      · exact .inr ⟨bl, off, hp, Nat.lt_of_lt_of_le hl g.size, hne, SAt.ag g els off hl hne ha⟩
theorem SAt.ag {w w' : World} {B : Nat} (g : Ag B w w') : ∀ (xs : List Sm) {bl : Nat} (off : Nat), bl < w.heap.size → B ≤ bl → SAt w B bl off xs → SAt w' B bl off xs
  | [], _, _, _, _, _ => by rw [SAt]; trivial
  | x :: xs, bl, off, hb, hne, h => by
    rw [SAt] at h ⊢
    obtain ⟨⟨vs, hi, hc⟩, hr⟩ := h
    refine ⟨⟨vs, SIs.ag g x hi, fun i v hv => ?_⟩, SAt.ag g xs (off + 9) hb hne hr⟩
    rw [cell_same (g.block bl hne hb)]
    exact hc i v hv
end
mutual
theorem SIs.lower {w : World} {B B2 : Nat} (hB : B2 ≤ B) : ∀ (x : Sm) {vs : List Value}, SIs w B x vs → SIs w B2 x vs
  | .mk kind name ofn dims es body els at_ ref, vs, h => by
    rw [SIs] at h ⊢
    obtain ⟨p, c, q, d, r, f, hv, hk, hb, he⟩ := h
    refine ⟨p, c, q, d, r, f, hv, hk.lower hB, ?_, ?_⟩
    · rcases hb with h0 | ⟨bl, off, hp, hl, hne, ha⟩
      · exact .inl h0
      · exact .inr ⟨bl, off, hp, hl, Nat.le_trans hB hne, SAt.lower hB body off ha⟩
    · rcases he with h0 | ⟨bl, off, hp, hl, hne, ha⟩
      · exact .inl h0
      · exact .inr ⟨bl, off, hp, hl, Nat.le_trans hB hne, SAt.lower hB els off ha⟩
theorem SAt.lower {w : World} {B B2 : Nat} (hB : B2 ≤ B) : ∀ (xs : List Sm) {bl : Nat} (off : Nat), SAt w B bl off xs → SAt w B2 bl off xs
  | [], _, _, _ => by rw [SAt]; trivial
  | x :: xs, bl, off, h => by
    rw [SAt] at h ⊢
    obtain ⟨⟨vs, hi, hc⟩, hr⟩ := h
    exact ⟨⟨vs, SIs.lower hB x hi, hc⟩, SAt.lower hB xs (off + 9) hr⟩
end
theorem SsAt.ag {w w' : World} {B : Nat} {p : Option Addr} {l : List Sm} (h : SsAt w B p l) (g : Ag B w w') : SsAt w' B p l := by
  rcases h with h0 | ⟨bl, off, hp, hb, hne, ha⟩
  · exact .inl h0
  · exact .inr ⟨bl, off, hp, Nat.lt_of_lt_of_le hb g.size, hne, SAt.ag g l off hb hne ha⟩
theorem SsAt.lower {w : World} {B B2 : Nat} {q : Option Addr} {l : List Sm} (h : SsAt w B q l) (hB : B2 ≤ B) : SsAt w B2 q l := by
  rcases h with h0 | ⟨bl, off, hp, hb, hne, ha⟩
  · exact .inl h0
  · exact .inr ⟨bl, off, hp, hb, Nat.le_trans hB hne, SAt.lower hB l off ha⟩
theorem SIs.mk {w : World} {B : Nat} {p q r : Option Addr} {c d f : Nat} {es : List Ex} {body els : List Sm} (he : KidsAt w B p es) (hb : SsAt w B q body) (hl : SsAt w B r els) (kind : Int) (name ofn : List UInt8) (dims at_ ref : Int) :
    SIs w B (.mk kind name ofn dims es body els at_ ref) (smCells kind name ofn dims (.slice p es.length c) (.slice q body.length d) (.slice r els.length f) at_ ref) := by
  rw [SIs]
  exact ⟨p, c, q, d, r, f, rfl, he, hb, hl⟩
theorem SIs.out {w : World} {B : Nat} {x : Sm} {vs : List Value} (h : SIs w B x vs) : ∃ kind name ofn dims ep el ec bp bl bc lp ll lc at_ ref, vs = smCells kind name ofn dims (.slice ep el ec) (.slice bp bl bc) (.slice lp ll lc) at_ ref := by
  cases x
  rw [SIs] at h
  obtain ⟨p, c, q, d, r, f, hv, -⟩ := h
  exact ⟨_, _, _, _, _, _, _, _, _, _, _, _, _, _, _, hv⟩
theorem SIs.len {w : World} {B : Nat} {x : Sm} {vs : List Value} (h : SIs w B x vs) : vs.length = 9 := by
  obtain ⟨_, _, _, _, _, _, _, _, _, _, _, _, _, _, _, rfl⟩ := h.out
  rfl
theorem SIs.put {w : World} {B : Nat} {x : Sm} {kind : Int} {name ofn : List UInt8} {dims : Int} {ev bv lv : Value} {at_ ref : Int} (h : SIs w B x (smCells kind name ofn dims ev bv lv at_ ref)) (a : Int) :
    SIs w B (x.put a) (smCells kind name ofn dims ev bv lv a ref) := by
  cases x
  rw [SIs] at h
  rw [Sm.put, SIs]
  obtain ⟨p, c, q, d, r, f, hv, h⟩ := h
  simp only [smCells, List.cons.injEq, Value.int.injEq, Value.string.injEq, true_and, and_true] at hv
  obtain ⟨rfl, hn, ho, rfl, rfl, rfl, rfl, rfl, rfl⟩ := hv
  exact ⟨p, c, q, d, r, f, by simp only [smCells, hn, ho], h⟩
theorem KidsAt.nil {w : World} {B : Nat} {p : Option Addr} : KidsAt w B p [] := .inl rfl
theorem SsAt.nil {w : World} {B : Nat} {p : Option Addr} : SsAt w B p [] := .inl rfl
theorem KidsAt.one {w : World} {B bl : Nat} {T : TypeId} {e : Ex} {vs : List Value} {A : Array Value} (hb : w.heap[bl]? = some (.cells A T (0, 0))) (hne : B ≤ bl) (hi : Is w B e vs) (hA : A = ⟨vs⟩) : KidsAt w B (some ⟨bl, 0, none⟩) [e] :=
  .inr ⟨bl, 0, rfl, heap_lt' hb, hne, At.one hb hi hA⟩

/-- The nine cells of a block. -/
theorem nen {w1 : World} {B : Nat} {T : TypeId} {c0 c1 c2 c3 c4 c5 c6 c7 c8 : Value} (h : w1.heap[B]? = some (.cells #[c0, c1, c2, c3, c4, c5, c6, c7, c8] T (0, 0))) :
    (w1.cell? ⟨B, 0, none⟩ = some c0 ∧ w1.cell? ⟨B, 1, none⟩ = some c1 ∧ w1.cell? ⟨B, 2, none⟩ = some c2 ∧ w1.cell? ⟨B, 3, none⟩ = some c3 ∧ w1.cell? ⟨B, 4, none⟩ = some c4 ∧ w1.cell? ⟨B, 5, none⟩ = some c5 ∧ w1.cell? ⟨B, 6, none⟩ = some c6 ∧ w1.cell? ⟨B, 7, none⟩ = some c7 ∧ w1.cell? ⟨B, 8, none⟩ = some c8) ∧
    w1.frozen? ⟨B, 0, none⟩ = false ∧ w1.frozen? ⟨B, 1, none⟩ = false ∧ w1.frozen? ⟨B, 2, none⟩ = false ∧ w1.frozen? ⟨B, 3, none⟩ = false ∧ w1.frozen? ⟨B, 4, none⟩ = false ∧ w1.frozen? ⟨B, 5, none⟩ = false ∧ w1.frozen? ⟨B, 6, none⟩ = false ∧ w1.frozen? ⟨B, 7, none⟩ = false ∧ w1.frozen? ⟨B, 8, none⟩ = false := by
  refine ⟨⟨?_, ?_, ?_, ?_, ?_, ?_, ?_, ?_, ?_⟩, ?_, ?_, ?_, ?_, ?_, ?_, ?_, ?_, ?_⟩ <;> first | exact frozen_of_row _ _ _ _ _ h | (rw [cell_of_row _ _ _ _ _ _ h]; rfl)

/-- Where a step stands: K is what it keeps of its reader; L its own blocks, newest first; T what was read: a bound and the world it was read in. -/
structure Fr {σ : Type} (w : World) (R : Nat) (K : σ → World → Prop) (s : σ) (L : List (Nat × Obj)) (T : List (Nat × World)) (wr : World) : Prop where
  rd : K s wr
  gr : Gr R w wr
  lt : R < w.heap.size
  held : ∀ s wA wB, Nw R w wA wB → K s wA → K s wB
  keep : ∀ p ∈ L, wr.heap[p.1]? = some p.2 ∧ w.heap.size ≤ p.1
  nd : L.Pairwise fun p q => q.1 < p.1
  ag : ∀ q ∈ T, Ag q.1 q.2 wr ∧ w.heap.size ≤ q.1
  sep : ∀ p ∈ L, ∀ q ∈ T, p.1 < q.1 ∨ q.2.heap.size ≤ p.1
section
variable {σ : Type} {w wr : World} {R : Nat} {K : σ → World → Prop} {s s2 : σ} {L : List (Nat × Obj)} {T : List (Nat × World)}
theorem Fr.start (K : σ → World → Prop) (h : K s w) (lt : R < w.heap.size) (held : ∀ s wA wB, Nw R w wA wB → K s wA → K s wB) : Fr w R K s [] [] w :=
  ⟨h, Gr.refl _ _, lt, held, fun _ h => absurd h (by simp), .nil, fun _ h => absurd h (by simp), fun _ h => absurd h (by simp)⟩
theorem Fr.go {w' : World} (h : Fr w R K s L T wr) (hb : Below wr.heap.size wr w') : Fr w R K s L T w' :=
  ⟨h.held s wr w' ⟨hb.mono h.gr.size, h.gr.below hb⟩ h.rd, h.gr.below hb, h.lt, h.held, fun p hp => ⟨(hb.block _ (heap_lt' (h.keep p hp).1)).trans (h.keep p hp).1, (h.keep p hp).2⟩, h.nd,
    fun q hq => ⟨(h.ag q hq).1.trans (Ag.below hb), (h.ag q hq).2⟩, h.sep⟩
theorem Fr.step {w' : World} (h : Fr w R K s L T wr) (hr : K s2 w') (hg : Gr R wr w') : Fr w R K s2 L T w' :=
  ⟨hr, h.gr.trans hg, h.lt, h.held, fun p hp => ⟨hg.box (h.keep p hp).1 (by have := (h.keep p hp).2; have := h.lt; omega), (h.keep p hp).2⟩, h.nd,
    fun q hq => ⟨(h.ag q hq).1.trans (Ag.gr hg (by have := (h.ag q hq).2; have := h.lt; omega)), (h.ag q hq).2⟩, h.sep⟩
theorem Fr.tree {w' : World} {B : Nat} (h : Fr w R K s L T w') (hB : w.heap.size ≤ B) (hL : ∀ p ∈ L, p.1 < B) : Fr w R K s L ((B, w') :: T) w' :=
  ⟨h.rd, h.gr, h.lt, h.held, h.keep, h.nd, fun q hq => (List.mem_cons.1 hq).elim (fun e => by subst e; exact ⟨Ag.refl _ _, hB⟩) (h.ag q),
    fun p hp q hq => (List.mem_cons.1 hq).elim (fun e => by subst e; exact .inl (hL p hp)) (h.sep p hp q)⟩
/-- A call that reads something. -/
theorem Fr.call {w' : World} (h : Fr w R K s L T wr) (hr : K s2 w') (hg : Gr R wr w') : Fr w R K s2 L ((wr.heap.size, w') :: T) w' :=
  (h.step hr hg).tree h.gr.size fun p hp => heap_lt' (h.keep p hp).1
theorem Fr.alloc (h : Fr w R K s L T wr) (o : Obj) : Fr w R K s ((wr.heap.size, o) :: L) T (wr.alloc o) := by
  have hb : Below wr.heap.size wr (wr.alloc o) := (Below.refl _ _).alloc (Nat.le_refl _) _
  have g := h.go hb
  refine ⟨g.rd, g.gr, g.lt, g.held, fun p hp => ?_, List.pairwise_cons.2 ⟨fun p hp => heap_lt' (h.keep p hp).1, h.nd⟩, g.ag, fun p hp q hq => ?_⟩
  · rcases List.mem_cons.1 hp with rfl | hp
    · exact ⟨heap_alloc_new wr o, h.gr.size⟩
    · exact g.keep p hp
  · rcases List.mem_cons.1 hp with rfl | hp
    · exact .inr (h.ag q hq).1.size
    · exact h.sep p hp q hq
/-- An own cell is written. -/
theorem Fr.set {b : Nat} {o : Obj} (h : Fr w R K s L T wr) (i : Nat) (hi : L[i]? = some (b, o)) {p : Addr} (hp : p.block = b) (u : Value) (o2 : Obj) (ho : (wr.setCell p u).heap[b]? = some o2) : Fr w R K s (L.set i (b, o2)) T (wr.setCell p u) := by
  have hm := List.mem_of_getElem? hi
  have hb := (h.keep _ hm).2
  have hn := (Nw.start h.gr).set (p := p) (by rw [hp]; exact hb) u
  have hil : i < L.length := (List.getElem?_eq_some_iff.1 hi).1
  have hne : ∀ (j : Nat) (q : Nat × Obj), L[j]? = some q → j ≠ i → q.1 ≠ b := by
    intro j q hq hji
    have hj := (List.getElem?_eq_some_iff.1 hq)
    obtain ⟨hj1, hj2⟩ := hj
    obtain ⟨hi1, hi2⟩ := List.getElem?_eq_some_iff.1 hi
    have hpw := List.pairwise_iff_getElem.1 h.nd
    rcases Nat.lt_or_gt_of_ne hji with hlt | hgt
    · have := hpw j i hj1 hi1 hlt
      rw [hj2, hi2] at this
      exact Nat.ne_of_gt this
    · have := hpw i j hi1 hj1 hgt
      rw [hj2, hi2] at this
      exact Nat.ne_of_lt this
  have hset : ∀ q, q ∈ L.set i (b, o2) → q = (b, o2) ∨ (q ∈ L ∧ q.1 ≠ b) := by
    intro q hq
    obtain ⟨j, hj⟩ := List.mem_iff_getElem?.1 hq
    by_cases hji : j = i
    · subst hji
      rw [List.getElem?_set_self hil] at hj
      exact .inl (Option.some.inj hj).symm
    · rw [List.getElem?_set_ne (Ne.symm hji)] at hj
      exact .inr ⟨List.mem_of_getElem? hj, hne j q hj hji⟩
  refine ⟨h.held s wr _ hn h.rd, hn.gr, h.lt, h.held, fun q hq => ?_, ?_, fun q hq => ⟨(h.ag q hq).1.set (by rw [hp]; exact h.sep _ hm q hq) u, (h.ag q hq).2⟩, fun q hq t ht => ?_⟩
  · rcases hset q hq with rfl | ⟨hq, hqb⟩
    · exact ⟨ho, hb⟩
    · exact ⟨(Below.heap_setCell wr p u q.1 (by rw [hp]; exact hqb)).trans (h.keep q hq).1, (h.keep q hq).2⟩
  · have hfst : (L.set i (b, o2)).map (·.1) = L.map (·.1) := by
      apply List.ext_getElem?
      intro j
      rw [List.getElem?_map, List.getElem?_map]
      by_cases hji : j = i
      · subst hji
        rw [List.getElem?_set_self hil, hi]
        rfl
      · rw [List.getElem?_set_ne (Ne.symm hji)]
    have h2 : (L.map (·.1)).Pairwise fun p q => q < p := List.pairwise_map.2 h.nd
    rw [← hfst] at h2
    exact List.pairwise_map.1 h2
  · rcases hset q hq with rfl | ⟨hq, -⟩
    · exact h.sep _ hm t ht
    · exact h.sep q hq t ht
/-- The end: results are written into own cells, nothing else of it matters. -/
theorem Fr.done (h : Fr w R K s L T wr) : K s wr ∧ Gr R w wr := ⟨h.rd, h.gr⟩
end
end Go.Proofs.YtnadaedibicaaaaGreatDoor
