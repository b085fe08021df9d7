/-
  The reader of statements in memory; an expression and a type read through its cursor.
-/
import Derived.Test.YtnadaedibicaaaaGreatDoorK16
import Derived.Test.YtnadaedibicaaaaGreatDoorK24
import Derived.Deep.RegionHeld3
namespace Go.Proofs.YtnadaedibicaaaaGreatDoor
open Go.RowKit
open Px (RT tokAt)
open Pe
open Ps (Sm PX)

def smapWord : Array MapEntry := #[⟨.string ⟨#[118, 97, 114]⟩, .func (.func 135) #[] #[], 0⟩, ⟨.string ⟨#[108, 101, 116]⟩, .func (.func 136) #[] #[], 1⟩, ⟨.string ⟨#[105, 102]⟩, .func (.func 137) #[] #[], 2⟩, ⟨.string ⟨#[119, 104, 105, 108, 101]⟩, .func (.func 138) #[] #[], 3⟩, ⟨.string ⟨#[114, 101, 116, 117, 114, 110]⟩, .func (.func 139) #[] #[], 4⟩, ⟨.string ⟨#[112, 114, 105, 110, 116]⟩, .func (.func 140) #[] #[], 5⟩]
def smapSign (R : Nat) : Array MapEntry := #[⟨.string ⟨#[59]⟩, .func (.func 141) #[.pointer (some ⟨R, 0, none⟩)] #[], 0⟩, ⟨.string ⟨#[61]⟩, .func (.func 142) #[.pointer (some ⟨R, 0, none⟩)] #[], 1⟩]

/-- The reader in memory. -/
structure Rq (w : World) (R M1 M2 : Nat) (S : Value) (ts : List RT) (s : St) : Prop where
  cu : Cu w R 151 S [.int .i64 s.o, .map (some M1), .map (some M2)] ts s.c
  m1 : w.heap[M1]? = some (.map smapWord 6)
  m2 : w.heap[M2]? = some (.map (smapSign R) 2)
  n1 : M1 ≠ R
  n2 : M2 ≠ R
  ops : OpsIn w
  n0 : 6 ≠ R
section
variable {w w' : World} {R M1 M2 : Nat} {S : Value} {ts : List RT} {s s' : St}
theorem Rq.gr (h : Rq w R M1 M2 S ts s) (hg : Gr R w w') (hc : Cu w' R 151 S [.int .i64 s'.o, .map (some M1), .map (some M2)] ts s'.c) : Rq w' R M1 M2 S ts s' :=
  ⟨hc, hg.box h.m1 h.n1, hg.box h.m2 h.n2, h.n1, h.n2, by obtain ⟨t, fr, ho⟩ := h.ops; exact ⟨t, fr, hg.box ho h.n0⟩, h.n0⟩
theorem Rq.go (h : Rq w R M1 M2 S ts s) (hb : Below w.heap.size w w') : Rq w' R M1 M2 S ts s := h.gr (Gr.of hb) (h.cu.go hb)
theorem Rq.lt (h : Rq w R M1 M2 S ts s) : R < w.heap.size := h.cu.lt
theorem Rq.held (h0 : Rq w R M1 M2 S ts s') : ∀ (s : St) (wA wB : World), Nw R w wA wB → Rq wA R M1 M2 S ts s → Rq wB R M1 M2 S ts s := fun _ _ _ n hA =>
  h0.gr n.gr (h0.cu.fin hA.cu n)
/-- The cursor has gone on. -/
theorem Rq.cur (h : Rq w R M1 M2 S ts s) {c' : Cs} {o' : Int} (hg : Gr R w w') (hc : Cu w' R 151 S [.int .i64 o', .map (some M1), .map (some M2)] ts c') : Rq w' R M1 M2 S ts ⟨c', o'⟩ :=
  h.gr (s' := ⟨c', o'⟩) hg hc
theorem Rq.nested (h : Rq w R M1 M2 S ts s) : Cu w R 151 S (.int .i64 s.o :: [.map (some M1), .map (some M2)]) ts s.c := h.cu
end

/-- What the other reader's answer is. -/
def PPost (w : World) (x : Ex × Int × Int × Int) (e : Ending) (w' : World) : Prop :=
  ∃ (kind num : Int) (name ofn : List UInt8) (dims : Int) (p : Option Addr) (n c : Nat) (at_ b r d ref : Int),
    e = .returned (.tuple #[.agg #[.int .i64 kind, .int .i64 num, .string (cbs name), .string (cbs ofn), .int .i64 dims, .slice p n c, .int .i64 at_, .int .i64 b, .int .i64 r, .int .i64 d, .int .i64 ref], .int .i64 x.2.1, .agg #[.int .i64 x.2.2.1, .int .i64 x.2.2.2]]) ∧
    Is w' w.heap.size x.1 (exCells kind num name ofn dims (.slice p n c) at_ b r d ref) ∧ Below w.heap.size w w'
def POk (ts : List RT) (P : PX) : Prop := ∀ (w : World) (R0 : Nat) (S : Value) (k o : Int), Toks w R0 S ts → OpsIn w →
  Calls Tryz.prog 157 #[S, .int .i64 k, .int .i64 o] w (PPost w (P k o))

set_option maxRecDepth 8000 in
set_option maxHeartbeats 4000000 in
theorem closure_any (w : World) (R M1 M2 N : Nat) (S : Value) (ts : List RT) (s : St) (h : Rq w R M1 M2 S ts s) (hN : w.heap[N]? = some (.cells #[.pointer (some ⟨R, 0, none⟩)] 143 (0, 0))) (P : PX) (hP : POk ts P) (k : Int) :
    Calls Tryz.prog 156 #[S, .int .i64 k, .pointer (some ⟨N, 0, none⟩)] w (PPost w (P k s.o)) := by
  obtain ⟨p, n, c, rfl⟩ := h.cu.toks.slice
  obtain ⟨w0, hw0⟩ : ∃ w0, w0 = (w.alloc (.cells #[.int .i64 0, .int .i64 0, .string ⟨#[]⟩, .string ⟨#[]⟩, .int .i64 0, .slice none 0 0, .int .i64 0, .int .i64 0, .int .i64 0, .int .i64 0, .int .i64 0] 106)).alloc (.cells #[.int .i64 0, .int .i64 0] 29) := ⟨_, rfl⟩
  have hb0 : Below w.heap.size w w0 := by rw [hw0]; exact ((Below.refl _ _).alloc (Nat.le_refl _) _).alloc (by rw [size_alloc]; omega) _
  have hk1 : w0.heap[w.heap.size]? = some (.cells #[.int .i64 0, .int .i64 0, .string ⟨#[]⟩, .string ⟨#[]⟩, .int .i64 0, .slice none 0 0, .int .i64 0, .int .i64 0, .int .i64 0, .int .i64 0, .int .i64 0] 106 (0, 0)) := by rw [hw0]; exact alloc_box _ (heap_alloc_new w _)
  have hk2 : w0.heap[w.heap.size + 1]? = some (.cells #[.int .i64 0, .int .i64 0] 29 (0, 0)) := by rw [hw0]; have := heap_alloc_new (w.alloc (.cells #[.int .i64 0, .int .i64 0, .string ⟨#[]⟩, .string ⟨#[]⟩, .int .i64 0, .slice none 0 0, .int .i64 0, .int .i64 0, .int .i64 0, .int .i64 0, .int .i64 0] 106)) (.cells #[.int .i64 0, .int .i64 0] 29); rw [size_alloc] at this; exact this
  have hs0 : w0.heap.size = w.heap.size + 2 := by rw [hw0]; simp only [size_alloc]
  have hc : w0.cell? ⟨N, 0, none⟩ = some (.pointer (some ⟨R, 0, none⟩)) := by rw [cell_of_row _ _ _ _ _ _ ((hb0.block _ (heap_lt' hN)).trans hN)]; rfl
  rw [hw0] at hc
  have HR := Lib.hid (h.go hb0)
  have HB0 := Lib.hid hb0
  have HK1 := Lib.hid hk1
  have HK2 := Lib.hid hk2
  have HS0 := Lib.hid hs0
  have HP := Lib.hid hP
  clear h hb0 hk1 hk2 hs0 hN hP
  go_enter Tryz.func156, Tryz.ntmps156
  go_wp2_with fail
  rw [← hw0]
  clear hc hw0
  refine (openC_any _ R _ _ s.o _ ts s.c HR.out.nested).mono ?_
  rintro e w1 ⟨rfl, rfl⟩
  go_wp2_with fail
  refine (HP.out w0 R (.slice p n c) k s.o HR.out.cu.toks HR.out.ops).mono ?_
  rintro e w3 ⟨qk, qn, qs, qo, qd, qp, ql, qc, qa, qb, qr, qe, qf, rfl, hi, hb⟩
  have HB3 := Lib.hid hb
  have HI3 := Lib.hid hi
  have hkd := (hb.block _ (heap_lt' HK1.out)).trans HK1.out
  obtain ⟨⟨d0, d1, d2, d3, d4, d5, d6, d7, d8, d9, dX⟩, g0, g1, g2, g3, g4, g5, g6, g7, g8, g9, gX⟩ := hen hkd
  have hld := heap_lt' hkd
  obtain ⟨⟨b0, b1⟩, ⟨h0, h1⟩, hlb⟩ := duo ((hb.block _ (heap_lt' HK2.out)).trans HK2.out)
  clear hkd hb hi
  go_wp2_with fail
  have hbw : Below w.heap.size w w3 := below_seq HB0.out HB3.out (by have := HS0.out; omega)
  have hN1 : w.heap.size < w0.heap.size := by have := HS0.out; omega
  have hN2 : w.heap.size + 1 < w0.heap.size := by have := HS0.out; omega
  exact bodyPost_ret (v := .tuple #[.agg #[.int .i64 qk, .int .i64 qn, .string (cbs qs), .string (cbs qo), .int .i64 qd, .slice qp ql qc, .int .i64 qa, .int .i64 qb, .int .i64 qr, .int .i64 qe, .int .i64 qf], .int .i64 (P k s.o).2.1, .agg #[.int .i64 (P k s.o).2.2.1, .int .i64 (P k s.o).2.2.2]]) (by simp [results, Tryz.results156, go_sem, d0, d1, d2, d3, d4, d5, d6, d7, d8, d9, dX, b0, b1]) rfl ⟨_, _, _, _, _, _, _, _, _, _, _, _, _, rfl, Is.lower (Nat.le_of_lt hN1) _ (((HI3.out.put11 (N := w.heap.size) hN1).set (p := ⟨w.heap.size + 1, 0, none⟩) hN2 _).set (p := ⟨w.heap.size + 1, 1, none⟩) hN2 _), bl_put (bl_put (bl_put11 hbw (Nat.le_refl _)) (Nat.le_succ _)) (Nat.le_succ _)⟩

/-- What a step that reads an expression ends in. -/
def ZPost (w : World) (R M1 M2 : Nat) (S : Value) (ts : List RT) (x : Ex × St) (e : Ending) (w' : World) : Prop :=
  ∃ (kind num : Int) (name ofn : List UInt8) (dims : Int) (p : Option Addr) (n c : Nat) (at_ b r d ref : Int),
    e = .returned (.agg #[.int .i64 kind, .int .i64 num, .string (cbs name), .string (cbs ofn), .int .i64 dims, .slice p n c, .int .i64 at_, .int .i64 b, .int .i64 r, .int .i64 d, .int .i64 ref]) ∧
    Is w' w.heap.size x.1 (exCells kind num name ofn dims (.slice p n c) at_ b r d ref) ∧ Rq w' R M1 M2 S ts x.2 ∧ Gr R w w'

theorem rd_dead {P : PX} {s : St} (h : ¬ s.c.E = 0) : Ps.rd P s = (Ex.zero, s) := if_neg h
theorem rd_ok {P : PX} {k F o : Int} (h : (P k o).2.2.1 = 0) : Ps.rd P ⟨⟨k, 0, F⟩, o⟩ = ((P k o).1, ⟨⟨(P k o).2.1, 0, F⟩, o⟩) := by simp only [Ps.rd, h, if_true]
theorem rd_bad {P : PX} {k F o : Int} (h : ¬ (P k o).2.2.1 = 0) : Ps.rd P ⟨⟨k, 0, F⟩, o⟩ = (Ex.zero, ⟨⟨k, (P k o).2.2.1, (P k o).2.2.2⟩, o⟩) := by simp only [Ps.rd, h, if_true, if_false]

theorem mineD {wb w3 : World} {o : Obj} (h : Below (wb.alloc o).drew.heap.size (wb.alloc o).drew w3) : w3.heap[wb.heap.size]? = some o := (h.block _ (heap_lt' (heap_alloc_new wb o))).trans (heap_alloc_new wb o)
theorem mineD1 {wb w3 : World} {o o2 : Obj} (h : Below ((wb.alloc o).alloc o2).drew.heap.size ((wb.alloc o).alloc o2).drew w3) : w3.heap[wb.heap.size]? = some o := (h.block _ (heap_lt' (alloc_box o2 (heap_alloc_new wb o)))).trans (alloc_box o2 (heap_alloc_new wb o))
theorem mineD2 {wb w3 : World} {o o2 : Obj} (h : Below ((wb.alloc o).alloc o2).drew.heap.size ((wb.alloc o).alloc o2).drew w3) : w3.heap[wb.heap.size + 1]? = some o2 := by
  have := heap_alloc_new (wb.alloc o) o2
  rw [size_alloc] at this
  exact (h.block _ (heap_lt' this)).trans this
theorem szA (wb : World) : wb.drew.heap.size = wb.heap.size := rfl
theorem szB (wb : World) (o : Obj) : (wb.alloc o).drew.heap.size = wb.heap.size + 1 := size_alloc _ _
theorem szC (wb : World) (o o2 : Obj) : ((wb.alloc o).alloc o2).drew.heap.size = wb.heap.size + 1 + 1 := (size_alloc _ _).trans (by rw [size_alloc])
theorem bwA (wb : World) : Below wb.heap.size wb wb.drew := (Below.refl _ _).drew
theorem bwB (wb : World) (o : Obj) : Below wb.heap.size wb (wb.alloc o).drew := ((Below.refl _ _).alloc (Nat.le_refl _) _).drew
theorem bwC (wb : World) (o o2 : Obj) : Below wb.heap.size wb ((wb.alloc o).alloc o2).drew := (((Below.refl _ _).alloc (Nat.le_refl _) _).alloc (by rw [size_alloc]; omega) _).drew

/-- What a drawn region holds of the cursor while it makes memory. -/
def Sk (R : Nat) (x y : Value) (w : World) : Prop := (w.cell? ⟨R, 0, none⟩ = some x ∧ w.cell? ⟨R, 1, none⟩ = some y) ∧ R < w.heap.size
theorem Sk.a {R : Nat} {x y : Value} {w : World} (h : Sk R x y w) : w.cell? ⟨R, 0, none⟩ = some x := h.1.1
theorem Sk.b {R : Nat} {x y : Value} {w : World} (h : Sk R x y w) : w.cell? ⟨R, 1, none⟩ = some y := h.1.2
theorem Sk.c {R : Nat} {x y : Value} {w : World} (h : Sk R x y w) : R < w.heap.size := h.2
theorem Sk.all {R : Nat} {x y : Value} {w : World} (h : Sk R x y w) : w.cell? ⟨R, 0, none⟩ = some x ∧ w.cell? ⟨R, 1, none⟩ = some y ∧ R < w.heap.size := ⟨h.1.1, h.1.2, h.2⟩
theorem Sk.below {R : Nat} {x y : Value} {w w' : World} (h : Sk R x y w) (hb : Below w.heap.size w w') : Sk R x y w' :=
  ⟨⟨by rw [hb.cell (p := ⟨R, 0, none⟩) h.2]; exact h.1.1, by rw [hb.cell (p := ⟨R, 1, none⟩) h.2]; exact h.1.2⟩, Nat.lt_of_lt_of_le h.2 hb.size⟩
theorem Sk.alloc {R : Nat} {x y : Value} {w : World} {o : Obj} (h : Sk R x y w) : Sk R x y (w.alloc o) := h.below ((Below.refl _ _).alloc (Nat.le_refl _) _)
theorem Sk.drew {R : Nat} {x y : Value} {w : World} (h : Sk R x y w) : Sk R x y w.drew := h.below (Below.refl _ _).drew
theorem Sk.put {R : Nat} {x y : Value} {w : World} {b i : Nat} {u : Value} (h : Sk R x y w) (hb : b ≠ R) : Sk R x y (w.setCell ⟨b, i, none⟩ u) := by
  have hc := cell_same (Below.heap_setCell w ⟨b, i, none⟩ u R (Ne.symm hb))
  exact ⟨⟨(hc 0).trans h.1.1, (hc 1).trans h.1.2⟩, by rw [size_set]; exact h.2⟩

/-- Where a step stands behind the reading of a tree: the world comes from the one of the reading by own writes. -/
structure Mr (w : World) (R M1 M2 : Nat) (S : Value) (ts : List RT) (B : Nat) (w3 : World) (s : St) (W : World) : Prop where
  rd : Rq W R M1 M2 S ts s
  gr : Gr R w W
  ag : Ag B w3 W
  lt : R < w.heap.size
  hB : w.heap.size ≤ B
  h0 : ∃ s0, Rq w R M1 M2 S ts s0
section
variable {w w3 W : World} {R M1 M2 B : Nat} {S : Value} {ts : List RT} {s : St}
theorem Mr.nw (h : Mr w R M1 M2 S ts B w3 s W) {W2 : World} (n : Nw R w W W2) (g : Ag B W W2) : Mr w R M1 M2 S ts B w3 s W2 := by
  obtain ⟨s0, h0⟩ := h.h0
  exact ⟨h0.held s W W2 n h.rd, n.gr, h.ag.trans g, h.lt, h.hB, s0, h0⟩
theorem Mr.go (h : Mr w R M1 M2 S ts B w3 s W) {W2 : World} (hb : Below W.heap.size W W2) : Mr w R M1 M2 S ts B w3 s W2 := h.nw ⟨hb.mono h.gr.size, h.gr.below hb⟩ (Ag.below hb)
theorem Mr.alloc (h : Mr w R M1 M2 S ts B w3 s W) {o : Obj} : Mr w R M1 M2 S ts B w3 s (W.alloc o) := h.go ((Below.refl _ _).alloc (Nat.le_refl _) _)
theorem Mr.drew (h : Mr w R M1 M2 S ts B w3 s W) : Mr w R M1 M2 S ts B w3 s W.drew := h.go (Below.refl _ _).drew
theorem Mr.put (h : Mr w R M1 M2 S ts B w3 s W) {b i : Nat} {u : Value} (hp : w.heap.size ≤ b) (hq : b < B ∨ w3.heap.size ≤ b) : Mr w R M1 M2 S ts B w3 s (W.setCell ⟨b, i, none⟩ u) := by
  obtain ⟨s0, h0⟩ := h.h0
  have n := (Nw.start h.gr).set (p := ⟨b, i, none⟩) hp u
  exact ⟨h0.held s W _ n h.rd, n.gr, h.ag.set hq u, h.lt, h.hB, s0, h0⟩
theorem Mr.set_k (h : Mr w R M1 M2 S ts B w3 s W) {q : Int} : Mr w R M1 M2 S ts B w3 ⟨⟨q, s.c.E, s.c.F⟩, s.o⟩ (W.setCell ⟨R, 1, none⟩ (.int .i64 q)) :=
  ⟨h.rd.cur ((Gr.refl R W).set 1 _) (h.rd.cu.set_k q), h.gr.set 1 _, h.ag.set (.inl (Nat.lt_of_lt_of_le h.lt h.hB)) _, h.lt, h.hB, h.h0⟩
theorem Mr.set_f (h : Mr w R M1 M2 S ts B w3 s W) {e a : Int} : Mr w R M1 M2 S ts B w3 ⟨⟨s.c.k, e, a⟩, s.o⟩ ((W.setCell ⟨R, 2, none⟩ (.int .i64 e)).setCell ⟨R, 3, none⟩ (.int .i64 a)) :=
  ⟨h.rd.cur (((Gr.refl R W).set 2 _).set 3 _) (h.rd.cu.set_f e a), (h.gr.set 2 _).set 3 _, (h.ag.set (.inl (Nat.lt_of_lt_of_le h.lt h.hB)) _).set (.inl (Nat.lt_of_lt_of_le h.lt h.hB)) _, h.lt, h.hB, h.h0⟩
theorem Mr.ends {P : PX} {s0 : St} {x : Ex × St} {vs : List Value} (h : Mr w R M1 M2 S ts B w3 x.2 W) (hx : Ps.rd P s0 = x) (hi : Is w3 B x.1 vs) : Is W w.heap.size (Ps.rd P s0).1 vs ∧ Rq W R M1 M2 S ts (Ps.rd P s0).2 ∧ Gr R w W := by
  rw [hx]
  exact ⟨Is.lower h.hB _ (hi.ag h.ag), h.rd, h.gr⟩
theorem Mr.endz {P : PX} {s0 : St} {x : St} {e : Ex} {us : List Value} (h : Mr w R M1 M2 S ts B w3 x W) (hx : Ps.rd P s0 = (Ex.zero, x)) (_hi : Is w3 B e us) : Is W w.heap.size (Ps.rd P s0).1 (exCells 0 0 [] [] 0 (.slice none 0 0) 0 0 0 0 0) ∧ Rq W R M1 M2 S ts (Ps.rd P s0).2 ∧ Gr R w W := by
  rw [hx]
  exact ⟨Is.zero, h.rd, h.gr⟩
end

set_option maxRecDepth 8000 in
set_option maxHeartbeats 4000000 in
theorem readEx_any (w : World) (R M1 M2 N : Nat) (S : Value) (ts : List RT) (s : St) (h : Rq w R M1 M2 S ts s) (hN : w.heap[N]? = some (.cells #[.pointer (some ⟨R, 0, none⟩)] 143 (0, 0))) (P : PX) (hP : POk ts P) :
    Calls Tryz.prog 155 #[.pointer (some ⟨R, 0, none⟩), .func (.func 156) #[] #[.pointer (some ⟨N, 0, none⟩)]] w (ZPost w R M1 M2 S ts (Ps.rd P s)) := by
  obtain ⟨p, n, c, rfl⟩ := h.cu.toks.slice
  obtain ⟨⟨k, E, F⟩, o⟩ := s
  obtain ⟨⟨c0, c1, c2, c3⟩, fr, hR⟩ := h.cu.cells
  dsimp only at c1 c2 c3
  obtain ⟨wb, hwb⟩ : ∃ wb, wb = (w.alloc (.cells #[.int .i64 0, .int .i64 0, .string ⟨#[]⟩, .string ⟨#[]⟩, .int .i64 0, .slice none 0 0, .int .i64 0, .int .i64 0, .int .i64 0, .int .i64 0, .int .i64 0] 106)).alloc (.cells #[.int .i64 0, .int .i64 0, .string ⟨#[]⟩, .string ⟨#[]⟩, .int .i64 0, .slice none 0 0, .int .i64 0, .int .i64 0, .int .i64 0, .int .i64 0, .int .i64 0] 106) := ⟨_, rfl⟩
  have hb : Below w.heap.size w wb := by rw [hwb]; exact ((Below.refl _ _).alloc (Nat.le_refl _) _).alloc (by rw [size_alloc]; omega) _
  have e2 := cell_of c2 hR hb
  rw [hwb] at e2
  by_cases hE : E = 0
  · subst hE
    have e0 := cell_of c0 hR hb
    have e1 := cell_of c1 hR hb
    have HR := Lib.hid (h.go hb)
    have HN := Lib.hid ((hb.block _ (heap_lt' hN)).trans hN)
    have hsb : wb.heap.size = w.heap.size + 2 := by rw [hwb]; simp only [size_alloc]
    have HK1 : Hid (wb.heap[w.heap.size]? = some (.cells #[.int .i64 0, .int .i64 0, .string ⟨#[]⟩, .string ⟨#[]⟩, .int .i64 0, .slice none 0 0, .int .i64 0, .int .i64 0, .int .i64 0, .int .i64 0, .int .i64 0] 106 (0, 0))) := Lib.hid (by rw [hwb]; exact alloc_box _ (heap_alloc_new w _))
    have HK2 : Hid (wb.heap[w.heap.size + 1]? = some (.cells #[.int .i64 0, .int .i64 0, .string ⟨#[]⟩, .string ⟨#[]⟩, .int .i64 0, .slice none 0 0, .int .i64 0, .int .i64 0, .int .i64 0, .int .i64 0, .int .i64 0] 106 (0, 0))) := Lib.hid (by rw [hwb]; have := heap_alloc_new (w.alloc (.cells #[.int .i64 0, .int .i64 0, .string ⟨#[]⟩, .string ⟨#[]⟩, .int .i64 0, .slice none 0 0, .int .i64 0, .int .i64 0, .int .i64 0, .int .i64 0, .int .i64 0] 106)) (.cells #[.int .i64 0, .int .i64 0, .string ⟨#[]⟩, .string ⟨#[]⟩, .int .i64 0, .slice none 0 0, .int .i64 0, .int .i64 0, .int .i64 0, .int .i64 0, .int .i64 0] 106); rw [size_alloc] at this; exact this)
    have hq1 : w.heap.size ≠ wb.heap.size := by omega
    have hq2 : w.heap.size + 1 ≠ wb.heap.size := by omega
    have hq3 : w.heap.size ≠ wb.heap.size + 1 := by omega
    have hq4 : w.heap.size + 1 ≠ wb.heap.size + 1 := by omega
    have hq5 := Ne.symm hq1
    have hq6 := Ne.symm hq2
    have hq7 := Ne.symm hq3
    have hq8 := Ne.symm hq4
    have ha1 : R ≠ w.heap.size := by omega
    have ha2 : R ≠ w.heap.size + 1 := by omega
    have ha3 : R ≠ wb.heap.size := by omega
    have ha4 : R ≠ wb.heap.size + 1 := by omega
    have ha5 := Ne.symm ha1
    have ha6 := Ne.symm ha2
    have ha7 := Ne.symm ha3
    have ha8 := Ne.symm ha4
    have HSB := Lib.hid hsb
    clear hsb
    have HP := Lib.hid hP
    have hwb2 : w.heap.size ≤ wb.heap.size := hb.size
    have hRb : R < wb.heap.size := Nat.lt_of_lt_of_le hR hwb2
    have mstart : ∀ {wc w3 : World}, Below wb.heap.size wb wc → Below wc.heap.size wc w3 → Mr w R M1 M2 (.slice p n c) ts wc.heap.size w3 ⟨⟨k, 0, F⟩, o⟩ w3 := by
      intro wc w3 hX h3
      have h3' := below_seq hb (below_seq hX h3 hX.size) hb.size
      exact ⟨h.go h3', Gr.of h3', Ag.refl _ _, h.lt, Nat.le_trans hwb2 hX.size, _, h⟩
    clear c0 c1 c2 c3 fr h hN hP
    go_enter Tryz.func155, Tryz.ntmps155
    go_wp2_with fail
    rw [← hwb]
    clear hwb e2
    have HS := Lib.hid (show Sk R (.slice p n c) (.int .i64 k) wb from ⟨⟨e0, e1⟩, hRb⟩)
    clear e0 e1
    go_region_held3 (fun w' => w'.cell? ⟨R, 0, none⟩ = some (.slice p n c) ∧ w'.cell? ⟨R, 1, none⟩ = some (.int .i64 k) ∧ R < w'.heap.size) (((with_reducible first | refine Sk.all ?_ | refine Sk.a (y := .int .i64 k) ?_ | refine Sk.b (x := .slice p n c) ?_ | refine Sk.c (x := .slice p n c) (y := .int .i64 k) ?_); (with_reducible repeat (first | exact HS.out | exact HS3.out | refine Sk.put ?_ (by omega) | refine Sk.alloc ?_ | refine Sk.drew ?_)))) (first
      | (go_at_call 156; (with_reducible refine Calls.mono (closure_any (wb.drew) R M1 M2 N _ ts _ (HR.out.go (bwA wb)) (((bwA wb).block _ (heap_lt' HN.out)).trans HN.out) P HP.out k) ?_); rintro e w3 ⟨qk, qn, qs, qo, qd, qp, ql, qc, qa, qb, qr, qe, qf, rfl, hi, hb3⟩; have HS3 := Lib.hid (HS.out.below (below_seq (bwA wb) hb3 (bwA wb).size)); have hm3 := mstart (bwA wb) hb3; have hz := hb3.size; rw [szA wb] at hi hm3 hz; have HM := Lib.hid hm3; have HI := Lib.hid hi; have hb03 := below_seq (bwA wb) hb3 (bwA wb).size; have hkd := (hb03.block _ (heap_lt' HK1.out)).trans HK1.out; obtain ⟨⟨d0, d1, d2, d3, d4, d5, d6, d7, d8, d9, dX⟩, p0, p1, p2, p3, p4, p5, p6, p7, p8, p9, pX⟩ := hen hkd; have hld := heap_lt' hkd; have hku := (hb03.block _ (heap_lt' HK2.out)).trans HK2.out; obtain ⟨⟨u0, u1, u2, u3, u4, u5, u6, u7, u8, u9, uX⟩, v0, v1, v2, v3, v4, v5, v6, v7, v8, v9, vX⟩ := hen hku; have hlu := heap_lt' hku; obtain ⟨⟨r0, r1, r2, r3⟩, fr, hR3⟩ := hm3.rd.cu.cells; have fr1 := fr 1; have fr2 := fr 2; have fr3 := fr 3; clear fr hm3 hkd hku hb03; clear hi hb3)
      | (go_at_call 156; (with_reducible refine Calls.mono (closure_any ((wb.alloc (.cells #[.int .i64 0, .int .i64 0, .string ⟨#[]⟩, .string ⟨#[]⟩, .int .i64 0, .slice none 0 0, .int .i64 0, .int .i64 0, .int .i64 0, .int .i64 0, .int .i64 0] 106)).drew) R M1 M2 N _ ts _ (HR.out.go (bwB wb (.cells #[.int .i64 0, .int .i64 0, .string ⟨#[]⟩, .string ⟨#[]⟩, .int .i64 0, .slice none 0 0, .int .i64 0, .int .i64 0, .int .i64 0, .int .i64 0, .int .i64 0] 106))) (((bwB wb (.cells #[.int .i64 0, .int .i64 0, .string ⟨#[]⟩, .string ⟨#[]⟩, .int .i64 0, .slice none 0 0, .int .i64 0, .int .i64 0, .int .i64 0, .int .i64 0, .int .i64 0] 106)).block _ (heap_lt' HN.out)).trans HN.out) P HP.out k) ?_); rintro e w3 ⟨qk, qn, qs, qo, qd, qp, ql, qc, qa, qb, qr, qe, qf, rfl, hi, hb3⟩; have HS3 := Lib.hid (HS.out.below (below_seq (bwB wb (.cells #[.int .i64 0, .int .i64 0, .string ⟨#[]⟩, .string ⟨#[]⟩, .int .i64 0, .slice none 0 0, .int .i64 0, .int .i64 0, .int .i64 0, .int .i64 0, .int .i64 0] 106)) hb3 (bwB wb (.cells #[.int .i64 0, .int .i64 0, .string ⟨#[]⟩, .string ⟨#[]⟩, .int .i64 0, .slice none 0 0, .int .i64 0, .int .i64 0, .int .i64 0, .int .i64 0, .int .i64 0] 106)).size)); have hm3 := mstart (bwB wb (.cells #[.int .i64 0, .int .i64 0, .string ⟨#[]⟩, .string ⟨#[]⟩, .int .i64 0, .slice none 0 0, .int .i64 0, .int .i64 0, .int .i64 0, .int .i64 0, .int .i64 0] 106)) hb3; have hz := hb3.size; rw [szB wb (.cells #[.int .i64 0, .int .i64 0, .string ⟨#[]⟩, .string ⟨#[]⟩, .int .i64 0, .slice none 0 0, .int .i64 0, .int .i64 0, .int .i64 0, .int .i64 0, .int .i64 0] 106)] at hi hm3 hz; have HM := Lib.hid hm3; have HI := Lib.hid hi; have hb03 := below_seq (bwB wb (.cells #[.int .i64 0, .int .i64 0, .string ⟨#[]⟩, .string ⟨#[]⟩, .int .i64 0, .slice none 0 0, .int .i64 0, .int .i64 0, .int .i64 0, .int .i64 0, .int .i64 0] 106)) hb3 (bwB wb (.cells #[.int .i64 0, .int .i64 0, .string ⟨#[]⟩, .string ⟨#[]⟩, .int .i64 0, .slice none 0 0, .int .i64 0, .int .i64 0, .int .i64 0, .int .i64 0, .int .i64 0] 106)).size; have hkd := (hb03.block _ (heap_lt' HK1.out)).trans HK1.out; obtain ⟨⟨d0, d1, d2, d3, d4, d5, d6, d7, d8, d9, dX⟩, p0, p1, p2, p3, p4, p5, p6, p7, p8, p9, pX⟩ := hen hkd; have hld := heap_lt' hkd; have hku := (hb03.block _ (heap_lt' HK2.out)).trans HK2.out; obtain ⟨⟨u0, u1, u2, u3, u4, u5, u6, u7, u8, u9, uX⟩, v0, v1, v2, v3, v4, v5, v6, v7, v8, v9, vX⟩ := hen hku; have hlu := heap_lt' hku; obtain ⟨⟨r0, r1, r2, r3⟩, fr, hR3⟩ := hm3.rd.cu.cells; have fr1 := fr 1; have fr2 := fr 2; have fr3 := fr 3; clear fr hm3 hkd hku hb03; obtain ⟨⟨x0, x1, x2, x3, x4, x5, x6, x7, x8, x9, xX⟩, y0, y1, y2, y3, y4, y5, y6, y7, y8, y9, yX⟩ := hen (mineD hb3); have hlx := heap_lt' (mineD hb3); clear hi hb3)
      | (go_at_call 156; (with_reducible refine Calls.mono (closure_any ((wb.alloc (.cells #[.int .i64 0, .int .i64 0] 29)).drew) R M1 M2 N _ ts _ (HR.out.go (bwB wb (.cells #[.int .i64 0, .int .i64 0] 29))) (((bwB wb (.cells #[.int .i64 0, .int .i64 0] 29)).block _ (heap_lt' HN.out)).trans HN.out) P HP.out k) ?_); rintro e w3 ⟨qk, qn, qs, qo, qd, qp, ql, qc, qa, qb, qr, qe, qf, rfl, hi, hb3⟩; have HS3 := Lib.hid (HS.out.below (below_seq (bwB wb (.cells #[.int .i64 0, .int .i64 0] 29)) hb3 (bwB wb (.cells #[.int .i64 0, .int .i64 0] 29)).size)); have hm3 := mstart (bwB wb (.cells #[.int .i64 0, .int .i64 0] 29)) hb3; have hz := hb3.size; rw [szB wb (.cells #[.int .i64 0, .int .i64 0] 29)] at hi hm3 hz; have HM := Lib.hid hm3; have HI := Lib.hid hi; have hb03 := below_seq (bwB wb (.cells #[.int .i64 0, .int .i64 0] 29)) hb3 (bwB wb (.cells #[.int .i64 0, .int .i64 0] 29)).size; have hkd := (hb03.block _ (heap_lt' HK1.out)).trans HK1.out; obtain ⟨⟨d0, d1, d2, d3, d4, d5, d6, d7, d8, d9, dX⟩, p0, p1, p2, p3, p4, p5, p6, p7, p8, p9, pX⟩ := hen hkd; have hld := heap_lt' hkd; have hku := (hb03.block _ (heap_lt' HK2.out)).trans HK2.out; obtain ⟨⟨u0, u1, u2, u3, u4, u5, u6, u7, u8, u9, uX⟩, v0, v1, v2, v3, v4, v5, v6, v7, v8, v9, vX⟩ := hen hku; have hlu := heap_lt' hku; obtain ⟨⟨r0, r1, r2, r3⟩, fr, hR3⟩ := hm3.rd.cu.cells; have fr1 := fr 1; have fr2 := fr 2; have fr3 := fr 3; clear fr hm3 hkd hku hb03; obtain ⟨⟨f0, f1⟩, ⟨g0, g1⟩, hlf⟩ := duo (mineD hb3); clear hi hb3)
      | (go_at_call 156; (with_reducible refine Calls.mono (closure_any (((wb.alloc (.cells #[.int .i64 0, .int .i64 0, .string ⟨#[]⟩, .string ⟨#[]⟩, .int .i64 0, .slice none 0 0, .int .i64 0, .int .i64 0, .int .i64 0, .int .i64 0, .int .i64 0] 106)).alloc (.cells #[.int .i64 0, .int .i64 0] 29)).drew) R M1 M2 N _ ts _ (HR.out.go (bwC wb (.cells #[.int .i64 0, .int .i64 0, .string ⟨#[]⟩, .string ⟨#[]⟩, .int .i64 0, .slice none 0 0, .int .i64 0, .int .i64 0, .int .i64 0, .int .i64 0, .int .i64 0] 106) (.cells #[.int .i64 0, .int .i64 0] 29))) (((bwC wb (.cells #[.int .i64 0, .int .i64 0, .string ⟨#[]⟩, .string ⟨#[]⟩, .int .i64 0, .slice none 0 0, .int .i64 0, .int .i64 0, .int .i64 0, .int .i64 0, .int .i64 0] 106) (.cells #[.int .i64 0, .int .i64 0] 29)).block _ (heap_lt' HN.out)).trans HN.out) P HP.out k) ?_); rintro e w3 ⟨qk, qn, qs, qo, qd, qp, ql, qc, qa, qb, qr, qe, qf, rfl, hi, hb3⟩; have HS3 := Lib.hid (HS.out.below (below_seq (bwC wb (.cells #[.int .i64 0, .int .i64 0, .string ⟨#[]⟩, .string ⟨#[]⟩, .int .i64 0, .slice none 0 0, .int .i64 0, .int .i64 0, .int .i64 0, .int .i64 0, .int .i64 0] 106) (.cells #[.int .i64 0, .int .i64 0] 29)) hb3 (bwC wb (.cells #[.int .i64 0, .int .i64 0, .string ⟨#[]⟩, .string ⟨#[]⟩, .int .i64 0, .slice none 0 0, .int .i64 0, .int .i64 0, .int .i64 0, .int .i64 0, .int .i64 0] 106) (.cells #[.int .i64 0, .int .i64 0] 29)).size)); have hm3 := mstart (bwC wb (.cells #[.int .i64 0, .int .i64 0, .string ⟨#[]⟩, .string ⟨#[]⟩, .int .i64 0, .slice none 0 0, .int .i64 0, .int .i64 0, .int .i64 0, .int .i64 0, .int .i64 0] 106) (.cells #[.int .i64 0, .int .i64 0] 29)) hb3; have hz := hb3.size; rw [szC wb (.cells #[.int .i64 0, .int .i64 0, .string ⟨#[]⟩, .string ⟨#[]⟩, .int .i64 0, .slice none 0 0, .int .i64 0, .int .i64 0, .int .i64 0, .int .i64 0, .int .i64 0] 106) (.cells #[.int .i64 0, .int .i64 0] 29)] at hi hm3 hz; have HM := Lib.hid hm3; have HI := Lib.hid hi; have hb03 := below_seq (bwC wb (.cells #[.int .i64 0, .int .i64 0, .string ⟨#[]⟩, .string ⟨#[]⟩, .int .i64 0, .slice none 0 0, .int .i64 0, .int .i64 0, .int .i64 0, .int .i64 0, .int .i64 0] 106) (.cells #[.int .i64 0, .int .i64 0] 29)) hb3 (bwC wb (.cells #[.int .i64 0, .int .i64 0, .string ⟨#[]⟩, .string ⟨#[]⟩, .int .i64 0, .slice none 0 0, .int .i64 0, .int .i64 0, .int .i64 0, .int .i64 0, .int .i64 0] 106) (.cells #[.int .i64 0, .int .i64 0] 29)).size; have hkd := (hb03.block _ (heap_lt' HK1.out)).trans HK1.out; obtain ⟨⟨d0, d1, d2, d3, d4, d5, d6, d7, d8, d9, dX⟩, p0, p1, p2, p3, p4, p5, p6, p7, p8, p9, pX⟩ := hen hkd; have hld := heap_lt' hkd; have hku := (hb03.block _ (heap_lt' HK2.out)).trans HK2.out; obtain ⟨⟨u0, u1, u2, u3, u4, u5, u6, u7, u8, u9, uX⟩, v0, v1, v2, v3, v4, v5, v6, v7, v8, v9, vX⟩ := hen hku; have hlu := heap_lt' hku; obtain ⟨⟨r0, r1, r2, r3⟩, fr, hR3⟩ := hm3.rd.cu.cells; have fr1 := fr 1; have fr2 := fr 2; have fr3 := fr 3; clear fr hm3 hkd hku hb03; obtain ⟨⟨x0, x1, x2, x3, x4, x5, x6, x7, x8, x9, xX⟩, y0, y1, y2, y3, y4, y5, y6, y7, y8, y9, yX⟩ := hen (mineD1 hb3); have hlx := heap_lt' (mineD1 hb3); obtain ⟨⟨f0, f1⟩, ⟨g0, g1⟩, hlf⟩ := duo (mineD2 hb3); have hne1 : wb.heap.size ≠ wb.heap.size + 1 := (by omega); have hne2 := Ne.symm hne1; clear hi hb3)
      | (go_at_call 156; (with_reducible refine Calls.mono (closure_any (((wb.alloc (.cells #[.int .i64 0, .int .i64 0] 29)).alloc (.cells #[.int .i64 0, .int .i64 0, .string ⟨#[]⟩, .string ⟨#[]⟩, .int .i64 0, .slice none 0 0, .int .i64 0, .int .i64 0, .int .i64 0, .int .i64 0, .int .i64 0] 106)).drew) R M1 M2 N _ ts _ (HR.out.go (bwC wb (.cells #[.int .i64 0, .int .i64 0] 29) (.cells #[.int .i64 0, .int .i64 0, .string ⟨#[]⟩, .string ⟨#[]⟩, .int .i64 0, .slice none 0 0, .int .i64 0, .int .i64 0, .int .i64 0, .int .i64 0, .int .i64 0] 106))) (((bwC wb (.cells #[.int .i64 0, .int .i64 0] 29) (.cells #[.int .i64 0, .int .i64 0, .string ⟨#[]⟩, .string ⟨#[]⟩, .int .i64 0, .slice none 0 0, .int .i64 0, .int .i64 0, .int .i64 0, .int .i64 0, .int .i64 0] 106)).block _ (heap_lt' HN.out)).trans HN.out) P HP.out k) ?_); rintro e w3 ⟨qk, qn, qs, qo, qd, qp, ql, qc, qa, qb, qr, qe, qf, rfl, hi, hb3⟩; have HS3 := Lib.hid (HS.out.below (below_seq (bwC wb (.cells #[.int .i64 0, .int .i64 0] 29) (.cells #[.int .i64 0, .int .i64 0, .string ⟨#[]⟩, .string ⟨#[]⟩, .int .i64 0, .slice none 0 0, .int .i64 0, .int .i64 0, .int .i64 0, .int .i64 0, .int .i64 0] 106)) hb3 (bwC wb (.cells #[.int .i64 0, .int .i64 0] 29) (.cells #[.int .i64 0, .int .i64 0, .string ⟨#[]⟩, .string ⟨#[]⟩, .int .i64 0, .slice none 0 0, .int .i64 0, .int .i64 0, .int .i64 0, .int .i64 0, .int .i64 0] 106)).size)); have hm3 := mstart (bwC wb (.cells #[.int .i64 0, .int .i64 0] 29) (.cells #[.int .i64 0, .int .i64 0, .string ⟨#[]⟩, .string ⟨#[]⟩, .int .i64 0, .slice none 0 0, .int .i64 0, .int .i64 0, .int .i64 0, .int .i64 0, .int .i64 0] 106)) hb3; have hz := hb3.size; rw [szC wb (.cells #[.int .i64 0, .int .i64 0] 29) (.cells #[.int .i64 0, .int .i64 0, .string ⟨#[]⟩, .string ⟨#[]⟩, .int .i64 0, .slice none 0 0, .int .i64 0, .int .i64 0, .int .i64 0, .int .i64 0, .int .i64 0] 106)] at hi hm3 hz; have HM := Lib.hid hm3; have HI := Lib.hid hi; have hb03 := below_seq (bwC wb (.cells #[.int .i64 0, .int .i64 0] 29) (.cells #[.int .i64 0, .int .i64 0, .string ⟨#[]⟩, .string ⟨#[]⟩, .int .i64 0, .slice none 0 0, .int .i64 0, .int .i64 0, .int .i64 0, .int .i64 0, .int .i64 0] 106)) hb3 (bwC wb (.cells #[.int .i64 0, .int .i64 0] 29) (.cells #[.int .i64 0, .int .i64 0, .string ⟨#[]⟩, .string ⟨#[]⟩, .int .i64 0, .slice none 0 0, .int .i64 0, .int .i64 0, .int .i64 0, .int .i64 0, .int .i64 0] 106)).size; have hkd := (hb03.block _ (heap_lt' HK1.out)).trans HK1.out; obtain ⟨⟨d0, d1, d2, d3, d4, d5, d6, d7, d8, d9, dX⟩, p0, p1, p2, p3, p4, p5, p6, p7, p8, p9, pX⟩ := hen hkd; have hld := heap_lt' hkd; have hku := (hb03.block _ (heap_lt' HK2.out)).trans HK2.out; obtain ⟨⟨u0, u1, u2, u3, u4, u5, u6, u7, u8, u9, uX⟩, v0, v1, v2, v3, v4, v5, v6, v7, v8, v9, vX⟩ := hen hku; have hlu := heap_lt' hku; obtain ⟨⟨r0, r1, r2, r3⟩, fr, hR3⟩ := hm3.rd.cu.cells; have fr1 := fr 1; have fr2 := fr 2; have fr3 := fr 3; clear fr hm3 hkd hku hb03; obtain ⟨⟨f0, f1⟩, ⟨g0, g1⟩, hlf⟩ := duo (mineD1 hb3); obtain ⟨⟨x0, x1, x2, x3, x4, x5, x6, x7, x8, x9, xX⟩, y0, y1, y2, y3, y4, y5, y6, y7, y8, y9, yX⟩ := hen (mineD2 hb3); have hlx := heap_lt' (mineD2 hb3); have hne1 : wb.heap.size ≠ wb.heap.size + 1 := (by omega); have hne2 := Ne.symm hne1; clear hi hb3))
    all_goals
      by_cases hB : (P k o).2.2.1 = 0
      · have hBd : ((P k o).2.2.1 != 0) = false := by simpa using hB
        go_wp2_with fail
        refine bodyPost_ret (v := .agg #[.int .i64 qk, .int .i64 qn, .string (cbs qs), .string (cbs qo), .int .i64 qd, .slice qp ql qc, .int .i64 qa, .int .i64 qb, .int .i64 qr, .int .i64 qe, .int .i64 qf]) (by simp [results, Tryz.results155, go_sem, hld, d0, d1, d2, d3, d4, d5, d6, d7, d8, d9, dX]) rfl ⟨_, _, _, _, _, _, _, _, _, _, _, _, _, rfl, Mr.ends (w := w) (w3 := w3) ?_ (rd_ok hB) HI.out⟩
        have hsb := HSB.out
        with_reducible repeat (first | exact HM.out | refine Mr.set_k (s := ⟨⟨k, 0, F⟩, o⟩) ?_ | refine Mr.put ?_ (by omega) (by omega) | refine Mr.alloc ?_ | refine Mr.drew ?_)
      · have hBd : ((P k o).2.2.1 != 0) = true := by simpa using hB
        go_wp2_with fail
        refine bodyPost_ret (v := .agg #[.int .i64 0, .int .i64 0, .string ⟨#[]⟩, .string ⟨#[]⟩, .int .i64 0, .slice none 0 0, .int .i64 0, .int .i64 0, .int .i64 0, .int .i64 0, .int .i64 0]) (by simp [results, Tryz.results155, go_sem, hld, d0, d1, d2, d3, d4, d5, d6, d7, d8, d9, dX]) rfl ⟨0, 0, [], [], 0, none, 0, 0, 0, 0, 0, 0, 0, rfl, Mr.endz (w := w) (w3 := w3) ?_ (rd_bad hB) HI.out⟩
        have hsb := HSB.out
        with_reducible repeat (first | exact HM.out | refine Mr.set_f (s := ⟨⟨k, 0, F⟩, o⟩) ?_ | refine Mr.put ?_ (by omega) (by omega) | refine Mr.alloc ?_ | refine Mr.drew ?_)
  · have hx := rd_dead (P := P) (s := ⟨⟨k, E, F⟩, o⟩) hE
    have hd : (E != 0) = true := by simpa using hE
    rw [hwb] at hb
    have HH := Lib.hid h
    have HX := Lib.hid hx
    have HB := Lib.hid hb
    clear h hx hb hN hP hE hwb c0 c1 c2 c3 fr
    go_enter Tryz.func155, Tryz.ntmps155
    go_wp2_with fail
    refine bodyPost_ret (v := .agg #[.int .i64 0, .int .i64 0, .string ⟨#[]⟩, .string ⟨#[]⟩, .int .i64 0, .slice none 0 0, .int .i64 0, .int .i64 0, .int .i64 0, .int .i64 0, .int .i64 0]) (by simp [results, Tryz.results155, go_sem]) rfl ⟨0, 0, [], [], 0, none, 0, 0, 0, 0, 0, 0, 0, rfl, ?_⟩
    rw [HX.out]
    exact ⟨Is.zero, HH.out.go HB.out, Gr.of HB.out⟩
end Go.Proofs.YtnadaedibicaaaaGreatDoor
