/-
  The project's reader of programs in memory; a name with its type; one more on a list of these.
-/
import Derived.Test.YtnadaedibicaaaaGreatDoorK27
import Derived.Test.YtnadaedibicaaaaGreatDoorK33
import Derived.Maps.AppendAt
import Derived.Deep.LoopGhost
namespace Go.Proofs.YtnadaedibicaaaaGreatDoor
open Go.RowKit
open Px (RT tokAt)
open Pe
open Ps (Sm PX)
open Pg (BX Pm)

/-- The reader in memory. -/
structure Cg (w : World) (R : Nat) (S : Value) (ts : List RT) (s : Cs) : Prop where
  cu : Cu w R 57 S [] ts s
  ops : OpsIn w
  n0 : 6 ≠ R
section
variable {w w' : World} {R : Nat} {S : Value} {ts : List RT} {s s' : Cs}
theorem Cg.gr (h : Cg w R S ts s) (hg : Gr R w w') (hc : Cu w' R 57 S [] ts s') : Cg w' R S ts s' :=
  ⟨hc, by obtain ⟨t, fr, ho⟩ := h.ops; exact ⟨t, fr, hg.box ho h.n0⟩, h.n0⟩
theorem Cg.go (h : Cg w R S ts s) (hb : Below w.heap.size w w') : Cg w' R S ts s := h.gr (Gr.of hb) (h.cu.go hb)
theorem Cg.lt (h : Cg w R S ts s) : R < w.heap.size := h.cu.lt
end
def CgK (R : Nat) (S : Value) (ts : List RT) (s : Cs) (w : World) : Prop := Cg w R S ts s
section
variable {w wr w' : World} {R : Nat} {S : Value} {ts : List RT} {s s' : Cs} {L : List (Nat × Obj)} {T : List (Nat × World)}
theorem Fr.og (h : Cg w R S ts s) : Fr w R (CgK R S ts) s [] [] w :=
  Fr.start (CgK R S ts) h h.lt fun _ _ _ n hA => h.gr n.gr (h.cu.fin hA.cu n)
theorem Fr.cg (h : Fr w R (CgK R S ts) s L T wr) : Cg wr R S ts s := h.rd
theorem Fr.cuG (h : Fr w R (CgK R S ts) s L T wr) (hc : Cu w' R 57 S [] ts s') (hg : Gr R wr w') : Fr w R (CgK R S ts) s' L T w' := h.step (h.cg.gr hg hc) hg
end
theorem Fr.drew {σ : Type} {w wr : World} {R : Nat} {K : σ → World → Prop} {s : σ} {L : List (Nat × Obj)} {T : List (Nat × World)} (h : Fr w R K s L T wr) : Fr w R K s L T wr.drew := h.go (Below.refl _ _).drew

theorem Fr.put4 {σ : Type} {w wr : World} {R : Nat} {K : σ → World → Prop} {s : σ} {L : List (Nat × Obj)} {T : List (Nat × World)} {b : Nat} {Ty : TypeId} {c0 c1 c2 c3 x0 x1 x2 x3 : Value} (h : Fr w R K s L T wr) (i : Nat) (hi : L[i]? = some (b, .cells #[x0, x1, x2, x3] Ty (0, 0))) :
    Fr w R K s (L.set i (b, .cells #[c0, c1, c2, c3] Ty (0, 0))) T ((((wr.setCell ⟨b, 0, none⟩ c0).setCell ⟨b, 1, none⟩ c1).setCell ⟨b, 2, none⟩ c2).setCell ⟨b, 3, none⟩ c3) := by
  have h0 := h.put1 i hi 0 c0 (A2 := #[c0, x1, x2, x3]) rfl
  have h1 := h0.put1 i (set_at hi _) 1 c1 (A2 := #[c0, c1, x2, x3]) rfl
  rw [List.set_set] at h1
  have h2 := h1.put1 i (set_at hi _) 2 c2 (A2 := #[c0, c1, c2, x3]) rfl
  rw [List.set_set] at h2
  have h3 := h2.put1 i (set_at hi _) 3 c3 (A2 := #[c0, c1, c2, c3]) rfl
  rw [List.set_set] at h3
  exact h3
theorem Fr.below1 {σ : Type} {w wr : World} {R : Nat} {K : σ → World → Prop} {s : σ} {p q : Nat × Obj} {L : List (Nat × Obj)} {T : List (Nat × World)} (h : Fr w R K s (p :: q :: L) T wr) : q.1 ≠ p.1 := Nat.ne_of_lt ((List.pairwise_cons.1 h.nd).1 _ (List.Mem.head _))

def pmCells (x : Pm) : List Value := [.string (cbs x.name), .string (cbs x.ofn), .int .i64 x.dims, .int .i64 x.at_]
def pmW (x : Pm) : Value := .agg #[.string (cbs x.name), .string (cbs x.ofn), .int .i64 x.dims, .int .i64 x.at_]
theorem infoPm : (Tryz.prog.info? 71).map (fun i => (i.zero, i.size, i.bytes)) = some (some (.agg #[.string ⟨#[]⟩, .string ⟨#[]⟩, .int .i64 0, .int .i64 0]), 4, 48) := by kernel_rfl

set_option maxRecDepth 8000 in
set_option maxHeartbeats 4000000 in
theorem limit_any (w : World) (R : Nat) (S : Value) (ts : List RT) (s : Cs) (h : Cg w R S ts s) (n m : Int) :
    Calls Tryz.prog 46 #[.pointer (some ⟨R, 0, none⟩), .int .i64 n, .int .i64 m] w fun e w' => e = .returned (.tuple #[]) ∧ Cu w' R 57 S [] ts (Pg.limit ts s n m) ∧ Gr R w w' := by
  have HH := Lib.hid h
  clear h
  by_cases hE : n = m
  · have hd : (n == m) = true := by simpa using hE
    rw [show Pg.limit ts s n m = fail ts s 4 from if_pos hE]
    clear hE
    go_enter Tryz.func46, Tryz.ntmps46
    go_wp2_with fail
    refine (fail_any _ R _ S _ ts s HH.out.cu 4).mono ?_
    rintro e w1 ⟨rfl, hc, hg⟩
    go_wp2_with fail
    first
      | exact bodyPost_end (results_none rfl _ _ _) rfl ⟨rfl, hc, hg⟩
      | exact bodyPost_ret (results_none rfl _ _ _) rfl ⟨rfl, hc, hg⟩
  · have hd : (n == m) = false := by simpa using hE
    rw [show Pg.limit ts s n m = s from if_neg hE]
    clear hE
    go_enter Tryz.func46, Tryz.ntmps46
    go_wp2_with fail
    first
      | exact bodyPost_end (results_none rfl _ _ _) rfl ⟨rfl, HH.out.cu, Gr.refl _ _⟩
      | exact bodyPost_ret (results_none rfl _ _ _) rfl ⟨rfl, HH.out.cu, Gr.refl _ _⟩

theorem peekG_ok {w1 : World} {R : Nat} {S : Value} {ts : List RT} {s : Cs} {t : RT} (hT : peek ts s = t) (h : Cg w1 R S ts s) :
    Calls Tryz.prog 44 #[.pointer (some ⟨R, 0, none⟩)] w1 fun e w' => e = .returned (.agg #[.int .i64 t.kind, .string (cbs t.text), .int .i64 t.num, .int .i64 t.at_]) ∧ Below w1.heap.size w1 w' := by
  subst hT
  exact peek_any w1 R _ S _ ts s h.cu
theorem nameG_ok {w1 : World} {R : Nat} {S : Value} {ts : List RT} {s s1 : Cs} {nm : List UInt8} (hN : name ts s = (nm, s1)) (h : Cg w1 R S ts s) :
    Calls Tryz.prog 70 #[.pointer (some ⟨R, 0, none⟩)] w1 fun e w' => e = .returned (.string (cbs nm)) ∧ Cu w' R 57 S [] ts s1 ∧ Gr R w1 w' := by
  have := name_any w1 R _ S _ ts s h.cu
  rw [hN] at this
  exact this

set_option maxRecDepth 8000 in
set_option maxHeartbeats 8000000 in
theorem declared_any (w : World) (R : Nat) (S : Value) (ts : List RT) (s : Cs) (h : Cg w R S ts s) :
    Calls Tryz.prog 73 #[.pointer (some ⟨R, 0, none⟩)] w fun e w' => e = .returned (pmW (Pg.declared ts s).1) ∧ Cu w' R 57 S [] ts (Pg.declared ts s).2 ∧ Gr R w w' := by
  obtain ⟨nm, s1, hN⟩ : ∃ nm s1, name ts s = (nm, s1) := ⟨_, _, rfl⟩
  obtain ⟨on, d, s3, hO⟩ : ∃ on d s3, Pg.rdOf ts (Pg.sg ts s1 [58]) = (on, d, s3) := ⟨_, _, _, rfl⟩
  obtain ⟨t, hT⟩ : ∃ t, peek ts s = t := ⟨_, rfl⟩
  have hx : Pg.declared ts s = (⟨nm, on, d, t.at_⟩, s3) := by simp only [Pg.declared, hN, hO, hT]
  rw [hx]
  have HN := Lib.hid hN
  have HO := Lib.hid hO
  have HT := Lib.hid hT
  have HH := Lib.hid h
  have hlt := h.lt
  obtain ⟨u, hu⟩ : ∃ u, u = w.alloc (.cells #[.string ⟨#[]⟩, .string ⟨#[]⟩, .int .i64 0, .int .i64 0] 71) := ⟨_, rfl⟩
  have F := Lib.hid ((Fr.og h).alloc (.cells #[.string ⟨#[]⟩, .string ⟨#[]⟩, .int .i64 0, .int .i64 0] 71))
  rw [← hu] at F
  have hfd : ∀ w1 : World, (Instr.field 66 (.agg #[.int .i64 t.kind, .string (cbs t.text), .int .i64 t.num, .int .i64 t.at_]) 3).run Tryz.prog w1 = .ok (.int .i64 t.at_) w1 := fun _ => by kernel_rfl
  clear h hx hN hO hT
  go_enter Tryz.func73, Tryz.ntmps73
  go_wp2_with fail
  rw [← hu]
  clear hu
  go_region_held3 (fun _ => True) (trivial) (first
    | (go_at_call 44; (with_reducible refine Calls.mono (peekG_ok (w1 := u.drew) HT.out F.out.drew.cg) ?_); rintro e w3 ⟨rfl, hb⟩; have F1 := Lib.hid (F.out.drew.go hb); clear hb)
    | (go_at_call 44; (with_reducible refine Calls.mono (peekG_ok (w1 := (u.alloc (.cells #[.string ⟨#[]⟩, .string ⟨#[]⟩, .int .i64 0, .int .i64 0] 71)).drew) HT.out (F.out.alloc (.cells #[.string ⟨#[]⟩, .string ⟨#[]⟩, .int .i64 0, .int .i64 0] 71)).drew.cg) ?_); rintro e w3 ⟨rfl, hb⟩; have FA := Lib.hid ((F.out.alloc (.cells #[.string ⟨#[]⟩, .string ⟨#[]⟩, .int .i64 0, .int .i64 0] 71)).drew.go hb); clear hb)
    | (go_at_call 70; (with_reducible refine Calls.mono (nameG_ok (w1 := w3) HN.out F1.out.cg) ?_); rintro e w4 ⟨rfl, hc, hg⟩; have F2 := Lib.hid (F1.out.cuG hc hg); clear hc hg)
    | (go_at_call 70; (with_reducible refine Calls.mono (nameG_ok (w1 := w3) HN.out FA.out.cg) ?_); rintro e w4 ⟨rfl, hc, hg⟩; have FB := Lib.hid (FA.out.cuG hc hg); clear hc hg; have hk := FB.out.keep _ (List.Mem.head _); obtain ⟨⟨d0, d1, d2, d3⟩, p0, p1, p2, p3⟩ := quad hk.1; have hld := heap_lt' hk.1; have hlB := hk.2; clear hk)
    | (go_at_call 70; (with_reducible refine Calls.mono (nameG_ok (w1 := w3.alloc (.cells #[.string ⟨#[]⟩, .string ⟨#[]⟩, .int .i64 0, .int .i64 0] 71)) HN.out (F1.out.alloc (.cells #[.string ⟨#[]⟩, .string ⟨#[]⟩, .int .i64 0, .int .i64 0] 71)).cg) ?_); rintro e w4 ⟨rfl, hc, hg⟩; have FB := Lib.hid ((F1.out.alloc (.cells #[.string ⟨#[]⟩, .string ⟨#[]⟩, .int .i64 0, .int .i64 0] 71)).cuG hc hg); clear hc hg; have hk := FB.out.keep _ (List.Mem.head _); obtain ⟨⟨d0, d1, d2, d3⟩, p0, p1, p2, p3⟩ := quad hk.1; have hld := heap_lt' hk.1; have hlB := hk.2; clear hk))
  all_goals (first
    | (obtain ⟨b, w5, hb5, hw5, f5⟩ : ∃ b w5, b = w4.heap.size ∧ w5 = w4.alloc (.cells #[.string (cbs nm), .string ⟨#[]⟩, .int .i64 0, .int .i64 t.at_] 71) ∧ Fr w R (CgK R S ts) s1 [(b, .cells #[.string (cbs nm), .string ⟨#[]⟩, .int .i64 0, .int .i64 t.at_] 71 (0, 0)), (w.heap.size, .cells #[.string ⟨#[]⟩, .string ⟨#[]⟩, .int .i64 0, .int .i64 0] 71 (0, 0))] [] w5 := ⟨_, _, rfl, rfl, F2.out.alloc _⟩; rw [← hw5, ← hb5]; have G := Lib.hid f5; clear hb5 hw5 f5)
    | (obtain ⟨b, w5, hb5, hw5, f5⟩ : ∃ b w5, b = u.heap.size ∧ w5 = ((((w4.setCell ⟨u.heap.size, 0, none⟩ (.string (cbs nm))).setCell ⟨u.heap.size, 1, none⟩ (.string ⟨#[]⟩)).setCell ⟨u.heap.size, 2, none⟩ (.int .i64 0)).setCell ⟨u.heap.size, 3, none⟩ (.int .i64 t.at_)) ∧ Fr w R (CgK R S ts) s1 [(b, .cells #[.string (cbs nm), .string ⟨#[]⟩, .int .i64 0, .int .i64 t.at_] 71 (0, 0)), (w.heap.size, .cells #[.string ⟨#[]⟩, .string ⟨#[]⟩, .int .i64 0, .int .i64 0] 71 (0, 0))] [] w5 := ⟨_, _, rfl, rfl, FB.out.put4 0 rfl⟩; rw [← hw5, ← hb5]; have G := Lib.hid f5; clear hb5 hw5 f5)
    | (obtain ⟨b, w5, hb5, hw5, f5⟩ : ∃ b w5, b = w3.heap.size ∧ w5 = ((((w4.setCell ⟨w3.heap.size, 0, none⟩ (.string (cbs nm))).setCell ⟨w3.heap.size, 1, none⟩ (.string ⟨#[]⟩)).setCell ⟨w3.heap.size, 2, none⟩ (.int .i64 0)).setCell ⟨w3.heap.size, 3, none⟩ (.int .i64 t.at_)) ∧ Fr w R (CgK R S ts) s1 [(b, .cells #[.string (cbs nm), .string ⟨#[]⟩, .int .i64 0, .int .i64 t.at_] 71 (0, 0)), (w.heap.size, .cells #[.string ⟨#[]⟩, .string ⟨#[]⟩, .int .i64 0, .int .i64 0] 71 (0, 0))] [] w5 := ⟨_, _, rfl, rfl, FB.out.put4 0 rfl⟩; rw [← hw5, ← hb5]; have G := Lib.hid f5; clear hb5 hw5 f5))
  all_goals
    have hnd := G.out.below1
    have hne := Ne.symm hnd
    dsimp only at hnd hne
    try clear d0 d1 d2 d3 p0 p1 p2 p3 hld hlB
    go_wp2_with fail
    refine (sign_any _ R _ S _ ts s1 G.out.cg.cu ⟨#[58]⟩).mono ?_
    rintro e u1 ⟨rfl, hc, hg⟩
    replace G := Lib.hid (G.out.cuG hc hg)
    clear hc hg
    go_wp2_with fail
    have hO : Pg.rdOf ts (sign ts s1 [58]).2 = (on, d, s3) := HO.out
    have hro := readOfC_any _ R _ [] S ts _ G.out.cg.cu
    rw [hO] at hro
    refine hro.mono ?_
    rintro e u2 ⟨rfl, hc, hg⟩
    replace G := Lib.hid (G.out.cuG hc hg)
    clear hc hg hro hO
    have hk := G.out.keep _ (List.Mem.head _)
    obtain ⟨⟨d0, d1, d2, d3⟩, p0, p1, p2, p3⟩ := quad hk.1
    have hld := heap_lt' hk.1
    clear hk
    have hk := G.out.keep _ (List.Mem.tail _ (List.Mem.head _))
    obtain ⟨⟨a0, a1, a2, a3⟩, q0, q1, q2, q3⟩ := quad hk.1
    have hla := heap_lt' hk.1
    clear hk
    go_wp2_with fail
    replace G := Lib.hid (G.out.put1 0 rfl 1 (.string (cbs on)) rfl)
    replace G := Lib.hid (G.out.put1 0 rfl 2 (.int .i64 (d : Nat)) rfl)
    replace G := Lib.hid (G.out.put4 1 rfl (c0 := .string (cbs nm)) (c1 := .string (cbs on)) (c2 := .int .i64 (d : Nat)) (c3 := .int .i64 t.at_))
    exact bodyPost_ret (v := pmW ⟨nm, on, d, t.at_⟩) (by simp [pmW, results, Tryz.results73, go_sem, a0, a1, a2, a3]) rfl ⟨rfl, G.out.cg.cu, G.out.gr⟩

/-- All blocks below one but R are as they were. -/
structure Gb (B R : Nat) (w w' : World) : Prop where
  os : w'.os = w.os
  tape : w'.tape = w.tape
  output : w'.output = w.output
  size : w.heap.size ≤ w'.heap.size
  block : ∀ i, i < B → i ≠ R → w'.heap[i]? = w.heap[i]?
theorem Gb.of {B R : Nat} {w w' : World} (h : Gr R w w') (hB : B ≤ w.heap.size) : Gb B R w w' := ⟨h.os, h.tape, h.output, h.size, fun i hi hn => h.block i (Nat.lt_of_lt_of_le hi hB) hn⟩
theorem Gb.trans {B R : Nat} {w w1 w2 : World} (h : Gb B R w w1) (g : Gb B R w1 w2) : Gb B R w w2 :=
  ⟨g.os.trans h.os, g.tape.trans h.tape, g.output.trans h.output, Nat.le_trans h.size g.size, fun i hi hn => (g.block i hi hn).trans (h.block i hi hn)⟩
theorem Gb.grown {B R : Nat} {w w' : World} {v : Value} (h : w.grownBy w' v.ownBlock) (hv : ∀ k, v.ownBlock = some k → B ≤ k) (hB : B ≤ w.heap.size) : Gb B R w w' :=
  ⟨h.os, h.tape, h.output, h.size, fun i hi _ => h.block i (Nat.lt_of_lt_of_le hi hB) (fun e => by have := hv i e.symm; omega)⟩
theorem own_slice {w : World} {base n sz : Nat} {T : TypeId} {v : Value} {xs : List Value} (h : w.ownsRow base T sz v n xs) : ∃ p c, v = .slice p n c := by
  rcases h.2 with ⟨rfl, rfl⟩ | ⟨g, cap, cur, rfl, -⟩
  · exact ⟨none, 0, rfl⟩
  · exact ⟨_, cap, rfl⟩
theorem pm_one (x : Pm) : ∀ u ∈ pmCells x, u.oneCell' = true := by
  intro u hu
  simp [pmCells] at hu
  rcases hu with rfl | rfl | rfl | rfl <;> rfl
theorem pmCells_snoc (l : List Pm) (x : Pm) : (l ++ [x]).flatMap pmCells = l.flatMap pmCells ++ pmCells x := by simp
theorem gb_gr {B R : Nat} {wz w w' : World} (h : Gr R wz w) (g : Gb B R w w') (hB : wz.heap.size ≤ B) : Gr R wz w' :=
  ⟨g.os.trans h.os, g.tape.trans h.tape, g.output.trans h.output, Nat.le_trans h.size g.size, fun i hi hn => (g.block i (Nat.lt_of_lt_of_le hi hB) hn).trans (h.block i hi hn)⟩
/-- Where a step on a list stands: the cursor, the list, what has changed. -/
structure PmSt (wz : World) (R : Nat) (S : Value) (ts : List RT) (B : Nat) (v : Value) (l : List Pm) (s : Cs) (w : World) : Prop where
  cg : Cg w R S ts s
  gr : Gr R wz w
  le : wz.heap.size ≤ B
  leB : B ≤ w.heap.size
  own : w.ownsRow B 71 4 v l.length (l.flatMap pmCells)
  h0 : ∃ s0, Cg wz R S ts s0
section
variable {wz w w' w3 : World} {R B : Nat} {S v v' : Value} {ts : List RT} {l : List Pm} {s s' : Cs}
theorem PmSt.lt (h : PmSt wz R S ts B v l s w) : R < B := by obtain ⟨s0, h0⟩ := h.h0; exact Nat.lt_of_lt_of_le h0.lt h.le
theorem PmSt.step (h : PmSt wz R S ts B v l s w) (hc : Cu w' R 57 S [] ts s') (hg : Gr R w w') : PmSt wz R S ts B v l s' w' :=
  ⟨h.cg.gr hg hc, h.gr.trans hg, h.le, Nat.le_trans h.leB hg.size, own_gr h.own hg h.lt, h.h0⟩
theorem PmSt.go (h : PmSt wz R S ts B v l s w) (hb : Below w.heap.size w w') : PmSt wz R S ts B v l s w' := h.step (h.cg.go hb).cu (Gr.of hb)
theorem PmSt.push {x : Pm} {T : TypeId} {A : Array Value} (h : PmSt wz R S ts B v l s w) (hown : w3.ownsRow B 71 4 v' (l.length + 1) (l.flatMap pmCells ++ pmCells x)) (hgrow : (w.alloc (.cells A T)).grownBy w3 v.ownBlock) :
    PmSt wz R S ts B v' (l ++ [x]) s w3 ∧ Gb B R w w3 := by
  have hv : ∀ k, v.ownBlock = some k → B ≤ k := fun k hk => (h.own.lt k hk).1
  have ha : Gb B R w (w.alloc (.cells A T)) := Gb.of (Gr.alloc (Gr.refl R w) _) h.leB
  have hb : Gb B R w w3 := ha.trans (Gb.grown hgrow hv (Nat.le_trans h.leB ha.size))
  have hgr := gb_gr h.gr hb h.le
  obtain ⟨s0, h0⟩ := h.h0
  have hbel : Below wz.heap.size w w3 := ⟨hb.os, hb.tape, hb.output, hb.size, fun i hi => by
    have h1 := hgrow.block i (by rw [size_alloc]; have := h.gr.size; omega) (fun e => by have := hv i e.symm; have := h.le; omega)
    exact h1.trans (heap_alloc_old _ _ (Nat.lt_of_lt_of_le hi h.gr.size))⟩
  exact ⟨⟨h0.gr hgr (h0.cu.fin h.cg.cu ⟨hbel, hgr⟩), hgr, h.le, Nat.le_trans h.leB hb.size, by rw [pmCells_snoc, List.length_append]; exact hown, s0, h0⟩, hb⟩
end

set_option maxRecDepth 8000 in
set_option maxHeartbeats 8000000 in
theorem oneMore_any (wz w : World) (R : Nat) (S : Value) (ts : List RT) (B : Nat) (v : Value) (l : List Pm) (s : Cs) (h : PmSt wz R S ts B v l s w) (hl : l.length ≤ 1000000000) (m : Int) :
    Calls Tryz.prog 72 #[.pointer (some ⟨R, 0, none⟩), v, .int .i64 m] w fun e w' => ∃ v', e = .returned v' ∧ PmSt wz R S ts B v' (Pg.oneMore ts l m s).1 (Pg.oneMore ts l m s).2 w' ∧ Gb B R w w' := by
  obtain ⟨p, c, rfl⟩ := own_slice h.own
  obtain ⟨t, hT⟩ : ∃ t, peek ts s = t := ⟨_, rfl⟩
  obtain ⟨s1, hs1⟩ : ∃ s1, (if (peek ts s).kind = 1 then Pg.limit ts s l.length m else s) = s1 := ⟨_, rfl⟩
  obtain ⟨d, s3, hD⟩ : ∃ d s3, Pg.declared ts s1 = (d, s3) := ⟨_, _, rfl⟩
  have hx : Pg.oneMore ts l m s = (l ++ [d], s3) := by simp only [Pg.oneMore, hs1, hD]
  rw [hx]
  have HT := Lib.hid hT
  have HD := Lib.hid hD
  have HL := Lib.hid hl
  have G := Lib.hid h
  have HG := Lib.hid (Gb.of (Gr.refl R w) h.leB)
  obtain ⟨i0, hi0, hz0, hz1, hz2⟩ := info_parts infoPm
  have hfd : ∀ w1 : World, (Instr.field 66 (.agg #[.int .i64 t.kind, .string (cbs t.text), .int .i64 t.num, .int .i64 t.at_]) 0).run Tryz.prog w1 = .ok (.int .i64 t.kind) w1 := fun _ => by kernel_rfl
  rw [hT] at hs1
  clear h hx hT hD hl
  by_cases hK : t.kind = 1
  · have hkb : (t.kind == 1) = true := by simpa using hK
    rw [if_pos hK] at hs1
    have HS := Lib.hid hs1
    clear hs1 hK
    go_enter Tryz.func72, Tryz.ntmps72
    go_wp2_with fail
    refine (peekG_ok HT.out G.out.cg).mono ?_
    rintro e w1 ⟨rfl, hb⟩
    replace HG := Lib.hid (HG.out.trans (Gb.of (Gr.of hb) G.out.leB))
    replace G := Lib.hid (G.out.go hb)
    clear hb
    go_wp2_with fail
    refine (limit_any _ R S ts s G.out.cg l.length m).mono ?_
    rw [HS.out]
    rintro e w2 ⟨rfl, hc, hg⟩
    replace HG := Lib.hid (HG.out.trans (Gb.of hg G.out.leB))
    replace G := Lib.hid (G.out.step hc hg)
    clear hc hg HS
    go_wp2_with fail
    refine (declared_any _ R S ts s1 G.out.cg).mono ?_
    rw [HD.out]
    rintro e w3 ⟨rfl, hc, hg⟩
    replace HG := Lib.hid (HG.out.trans (Gb.of hg G.out.leB))
    replace G := Lib.hid (G.out.step hc hg)
    clear hc hg
    unfold pmW
    go_wp2_with (at_builtin; refine wpList_append_own_at _ rfl _ _ 23 rfl B 71 i0 _ 4 48 Tryz.underlying23 hi0 hz0 hz1 hz2 rfl (by decide) _ l.length _ rfl (G.out.own.alloc _) ⟨w3.heap.size, 0, none⟩ 1 1 (pmCells d) rfl rfl ?c1 ?c2 ?c3 ?c4 ?c5 ?_)
    case c1 => exact news11 rfl rfl
    case c2 => exact pm_one d
    case c3 => have := HL.out; unfold maxLen; omega
    case c4 => have := HL.out; omega
    case c5 => rw [size_alloc]; have := G.out.leB; omega
    intro v' w8 hown' hgrow _ hat
    obtain ⟨G8, g8⟩ := G.out.push hown' hgrow
    replace HG := Lib.hid (HG.out.trans g8)
    replace G := Lib.hid G8
    clear hown' hgrow hat G8 g8
    go_wp2_with fail
    exact bodyPost_ret (v := v') (by simp [results, Tryz.results72, go_sem]) rfl ⟨v', rfl, G.out, HG.out⟩
  · have hkb : (t.kind == 1) = false := by simpa using hK
    rw [if_neg hK] at hs1
    subst hs1
    clear hK
    go_enter Tryz.func72, Tryz.ntmps72
    go_wp2_with fail
    refine (peekG_ok HT.out G.out.cg).mono ?_
    rintro e w1 ⟨rfl, hb⟩
    replace HG := Lib.hid (HG.out.trans (Gb.of (Gr.of hb) G.out.leB))
    replace G := Lib.hid (G.out.go hb)
    clear hb
    go_wp2_with fail
    refine (declared_any _ R S ts s G.out.cg).mono ?_
    rw [HD.out]
    rintro e w3 ⟨rfl, hc, hg⟩
    replace HG := Lib.hid (HG.out.trans (Gb.of hg G.out.leB))
    replace G := Lib.hid (G.out.step hc hg)
    clear hc hg
    unfold pmW
    go_wp2_with (at_builtin; refine wpList_append_own_at _ rfl _ _ 23 rfl B 71 i0 _ 4 48 Tryz.underlying23 hi0 hz0 hz1 hz2 rfl (by decide) _ l.length _ rfl (G.out.own.alloc _) ⟨w3.heap.size, 0, none⟩ 1 1 (pmCells d) rfl rfl ?c1 ?c2 ?c3 ?c4 ?c5 ?_)
    case c1 => exact news11 rfl rfl
    case c2 => exact pm_one d
    case c3 => have := HL.out; unfold maxLen; omega
    case c4 => have := HL.out; omega
    case c5 => rw [size_alloc]; have := G.out.leB; omega
    intro v' w8 hown' hgrow _ hat
    obtain ⟨G8, g8⟩ := G.out.push hown' hgrow
    replace HG := Lib.hid (HG.out.trans g8)
    replace G := Lib.hid G8
    clear hown' hgrow hat G8 g8
    go_wp2_with fail
    exact bodyPost_ret (v := v') (by simp [results, Tryz.results72, go_sem]) rfl ⟨v', rfl, G.out, HG.out⟩
end Go.Proofs.YtnadaedibicaaaaGreatDoor
