/-
  The contracts of the project's reader of statements: expressions, refusals, declarations, loops, choices.
-/
import Derived.Test.YtnadaedibicaaaaGreatDoorK28
namespace Go.Proofs.YtnadaedibicaaaaGreatDoor
open Go.RowKit
open Px (RT tokAt)
open Pe
open Ps (Sm PX)

section
variable {σ : Type} {w wr : World} {R : Nat} {K : σ → World → Prop} {s s2 : σ} {L : List (Nat × Obj)} {T : List (Nat × World)}
theorem Fr.put1 {b : Nat} {Ty : TypeId} {A A2 : Array Value} (h : Fr w R K s L T wr) (i : Nat) (hi : L[i]? = some (b, .cells A Ty (0, 0))) (j : Nat) (u : Value) (hA : A.setIfInBounds j u = A2) : Fr w R K s (L.set i (b, .cells A2 Ty (0, 0))) T (wr.setCell ⟨b, j, none⟩ u) :=
  h.set i hi rfl u _ (row_set (h.keep _ (List.mem_of_getElem? hi)).1 j u hA)
theorem set_at {α : Type} {L : List α} {i : Nat} {a : α} (hi : L[i]? = some a) (b : α) : (L.set i b)[i]? = some b := List.getElem?_set_self (List.getElem?_eq_some_iff.1 hi).1
theorem Fr.put9 {b : Nat} {Ty : TypeId} {c0 c1 c2 c3 c4 c5 c6 c7 c8 x0 x1 x2 x3 x4 x5 x6 x7 x8 : Value} (h : Fr w R K s L T wr) (i : Nat) (hi : L[i]? = some (b, .cells #[x0, x1, x2, x3, x4, x5, x6, x7, x8] Ty (0, 0))) : Fr w R K s (L.set i (b, .cells #[c0, c1, c2, c3, c4, c5, c6, c7, c8] Ty (0, 0))) T (((((((((wr.setCell ⟨b, 0, none⟩ c0).setCell ⟨b, 1, none⟩ c1).setCell ⟨b, 2, none⟩ c2).setCell ⟨b, 3, none⟩ c3).setCell ⟨b, 4, none⟩ c4).setCell ⟨b, 5, none⟩ c5).setCell ⟨b, 6, none⟩ c6).setCell ⟨b, 7, none⟩ c7).setCell ⟨b, 8, none⟩ c8) := by
  have h0 := h.put1 i hi 0 c0 (A2 := #[c0, x1, x2, x3, x4, x5, x6, x7, x8]) rfl
  have h1 := h0.put1 i (set_at hi _) 1 c1 (A2 := #[c0, c1, x2, x3, x4, x5, x6, x7, x8]) rfl
  rw [List.set_set] at h1
  have h2 := h1.put1 i (set_at hi _) 2 c2 (A2 := #[c0, c1, c2, x3, x4, x5, x6, x7, x8]) rfl
  rw [List.set_set] at h2
  have h3 := h2.put1 i (set_at hi _) 3 c3 (A2 := #[c0, c1, c2, c3, x4, x5, x6, x7, x8]) rfl
  rw [List.set_set] at h3
  have h4 := h3.put1 i (set_at hi _) 4 c4 (A2 := #[c0, c1, c2, c3, c4, x5, x6, x7, x8]) rfl
  rw [List.set_set] at h4
  have h5 := h4.put1 i (set_at hi _) 5 c5 (A2 := #[c0, c1, c2, c3, c4, c5, x6, x7, x8]) rfl
  rw [List.set_set] at h5
  have h6 := h5.put1 i (set_at hi _) 6 c6 (A2 := #[c0, c1, c2, c3, c4, c5, c6, x7, x8]) rfl
  rw [List.set_set] at h6
  have h7 := h6.put1 i (set_at hi _) 7 c7 (A2 := #[c0, c1, c2, c3, c4, c5, c6, c7, x8]) rfl
  rw [List.set_set] at h7
  have h8 := h7.put1 i (set_at hi _) 8 c8 (A2 := #[c0, c1, c2, c3, c4, c5, c6, c7, c8]) rfl
  rw [List.set_set] at h8
  exact h8
theorem Fr.put11 {b : Nat} {Ty : TypeId} {c0 c1 c2 c3 c4 c5 c6 c7 c8 c9 c10 x0 x1 x2 x3 x4 x5 x6 x7 x8 x9 x10 : Value} (h : Fr w R K s L T wr) (i : Nat) (hi : L[i]? = some (b, .cells #[x0, x1, x2, x3, x4, x5, x6, x7, x8, x9, x10] Ty (0, 0))) : Fr w R K s (L.set i (b, .cells #[c0, c1, c2, c3, c4, c5, c6, c7, c8, c9, c10] Ty (0, 0))) T (((((((((((wr.setCell ⟨b, 0, none⟩ c0).setCell ⟨b, 1, none⟩ c1).setCell ⟨b, 2, none⟩ c2).setCell ⟨b, 3, none⟩ c3).setCell ⟨b, 4, none⟩ c4).setCell ⟨b, 5, none⟩ c5).setCell ⟨b, 6, none⟩ c6).setCell ⟨b, 7, none⟩ c7).setCell ⟨b, 8, none⟩ c8).setCell ⟨b, 9, none⟩ c9).setCell ⟨b, 10, none⟩ c10) := by
  have h0 := h.put1 i hi 0 c0 (A2 := #[c0, x1, x2, x3, x4, x5, x6, x7, x8, x9, x10]) rfl
  have h1 := h0.put1 i (set_at hi _) 1 c1 (A2 := #[c0, c1, x2, x3, x4, x5, x6, x7, x8, x9, x10]) rfl
  rw [List.set_set] at h1
  have h2 := h1.put1 i (set_at hi _) 2 c2 (A2 := #[c0, c1, c2, x3, x4, x5, x6, x7, x8, x9, x10]) rfl
  rw [List.set_set] at h2
  have h3 := h2.put1 i (set_at hi _) 3 c3 (A2 := #[c0, c1, c2, c3, x4, x5, x6, x7, x8, x9, x10]) rfl
  rw [List.set_set] at h3
  have h4 := h3.put1 i (set_at hi _) 4 c4 (A2 := #[c0, c1, c2, c3, c4, x5, x6, x7, x8, x9, x10]) rfl
  rw [List.set_set] at h4
  have h5 := h4.put1 i (set_at hi _) 5 c5 (A2 := #[c0, c1, c2, c3, c4, c5, x6, x7, x8, x9, x10]) rfl
  rw [List.set_set] at h5
  have h6 := h5.put1 i (set_at hi _) 6 c6 (A2 := #[c0, c1, c2, c3, c4, c5, c6, x7, x8, x9, x10]) rfl
  rw [List.set_set] at h6
  have h7 := h6.put1 i (set_at hi _) 7 c7 (A2 := #[c0, c1, c2, c3, c4, c5, c6, c7, x8, x9, x10]) rfl
  rw [List.set_set] at h7
  have h8 := h7.put1 i (set_at hi _) 8 c8 (A2 := #[c0, c1, c2, c3, c4, c5, c6, c7, c8, x9, x10]) rfl
  rw [List.set_set] at h8
  have h9 := h8.put1 i (set_at hi _) 9 c9 (A2 := #[c0, c1, c2, c3, c4, c5, c6, c7, c8, c9, x10]) rfl
  rw [List.set_set] at h9
  have h10 := h9.put1 i (set_at hi _) 10 c10 (A2 := #[c0, c1, c2, c3, c4, c5, c6, c7, c8, c9, c10]) rfl
  rw [List.set_set] at h10
  exact h10
theorem Fr.alloc2 (h : Fr w R K s L T wr) (o : Obj) {b : Nat} (hb : wr.heap.size = b) : Fr w R K s ((b, o) :: L) T (wr.alloc o) := by
  subst hb
  exact h.alloc o
end
def RqK (R M1 M2 : Nat) (S : Value) (ts : List RT) (s : St) (w : World) : Prop := Rq w R M1 M2 S ts s
section
variable {w wr : World} {R M1 M2 : Nat} {S : Value} {ts : List RT} {s : St} {L : List (Nat × Obj)} {T : List (Nat × World)}
theorem Fr.of (h : Rq w R M1 M2 S ts s) : Fr w R (RqK R M1 M2 S ts) s [] [] w := Fr.start (RqK R M1 M2 S ts) h h.lt h.held
theorem Fr.rq (h : Fr w R (RqK R M1 M2 S ts) s L T wr) : Rq wr R M1 M2 S ts s := h.rd
theorem Fr.cur {w' : World} {c' : Cs} {o' : Int} (h : Fr w R (RqK R M1 M2 S ts) s L T wr) (hc : Cu w' R 151 S [.int .i64 o', .map (some M1), .map (some M2)] ts c') (hg : Gr R wr w') : Fr w R (RqK R M1 M2 S ts) ⟨c', o'⟩ L T w' :=
  h.step (h.rq.cur hg hc) hg
end

/-- What a step that reads a statement ends in. -/
def StPost (w : World) (R M1 M2 : Nat) (S : Value) (ts : List RT) (x : Sm × St) (e : Ending) (w' : World) : Prop :=
  ∃ (kind : Int) (name ofn : List UInt8) (dims : Int) (ep : Option Addr) (el ec : Nat) (bp : Option Addr) (bl bc : Nat) (lp : Option Addr) (ll lc : Nat) (at_ ref : Int),
    e = .returned (.agg #[.int .i64 kind, .string (cbs name), .string (cbs ofn), .int .i64 dims, .slice ep el ec, .slice bp bl bc, .slice lp ll lc, .int .i64 at_, .int .i64 ref]) ∧
    SIs w' w.heap.size x.1 (smCells kind name ofn dims (.slice ep el ec) (.slice bp bl bc) (.slice lp ll lc) at_ ref) ∧ Rq w' R M1 M2 S ts x.2 ∧ Gr R w w'
/-- What a step that reads a list of one expression ends in. -/
def EsPost (w : World) (R M1 M2 : Nat) (S : Value) (ts : List RT) (x : Ex × St) (e : Ending) (w' : World) : Prop :=
  ∃ (p : Option Addr) (c : Nat), e = .returned (.slice p 1 c) ∧ KidsAt w' w.heap.size p [x.1] ∧ Rq w' R M1 M2 S ts x.2 ∧ Gr R w w'
def BlPost (w : World) (R M1 M2 : Nat) (S : Value) (ts : List RT) (x : List Sm × St) (e : Ending) (w' : World) : Prop :=
  ∃ (p : Option Addr) (c : Nat), e = .returned (.slice p x.1.length c) ∧ SsAt w' w.heap.size p x.1 ∧ Rq w' R M1 M2 S ts x.2 ∧ Gr R w w'
def BlOk (ts : List RT) (recB : St → Ps.OutB) : Prop := ∀ (s : St) (x : List Sm × St), recB s = some x → ∀ (w : World) (R M1 M2 : Nat) (S : Value), Rq w R M1 M2 S ts s →
  Calls Tryz.prog 116 #[.pointer (some ⟨R, 0, none⟩)] w (BlPost w R M1 M2 S ts x)

set_option maxRecDepth 8000 in
set_option maxHeartbeats 4000000 in
theorem sexpression_any (w : World) (R M1 M2 : Nat) (S : Value) (ts : List RT) (s : St) (h : Rq w R M1 M2 S ts s) (P : PX) (hP : POk ts P) :
    Calls Tryz.prog 153 #[.pointer (some ⟨R, 0, none⟩)] w (ZPost w R M1 M2 S ts (Ps.rd P s)) := by
  have HP := Lib.hid hP
  have hlt := h.lt
  have HH := Lib.hid h
  have F := Lib.hid (((Fr.of h).alloc (.cells #[.pointer (some ⟨R, 0, none⟩)] 143)).alloc2 (.cells #[.int .i64 0, .int .i64 0, .string ⟨#[]⟩, .string ⟨#[]⟩, .int .i64 0, .slice none 0 0, .int .i64 0, .int .i64 0, .int .i64 0, .int .i64 0, .int .i64 0] 106) (size_alloc _ _))
  clear h hP
  go_enter Tryz.func153, Tryz.ntmps153
  go_wp2_with fail
  have hd1 : w.heap.size ≠ w.heap.size + 1 := by omega
  have hd2 := Ne.symm hd1
  refine (readEx_any _ R M1 M2 w.heap.size S ts s F.out.rq (F.out.keep _ (List.Mem.tail _ (List.Mem.head _))).1 P HP.out).mono ?_
  rintro e u1 ⟨qk, qn, qs, qo, qd, qp, ql, qc, qa, qb, qr, qe, qf, rfl, hi, hr, hg⟩
  have Hq := Lib.hid hi
  have F2 := Lib.hid (F.out.call hr hg)
  clear F
  have F := F2
  clear F2
  clear hi hr hg
  have hk := (F.out.keep _ (List.Mem.head _)).1
  obtain ⟨⟨d0, d1, d2, d3, d4, d5, d6, d7, d8, d9, dX⟩, g0, g1, g2, g3, g4, g5, g6, g7, g8, g9, gX⟩ := hen hk
  have hld := heap_lt' hk
  clear hk
  go_wp2_with fail
  have F2 := Lib.hid (F.out.put11 0 rfl (c0 := .int .i64 qk) (c1 := .int .i64 qn) (c2 := .string (cbs qs)) (c3 := .string (cbs qo)) (c4 := .int .i64 qd) (c5 := .slice qp ql qc) (c6 := .int .i64 qa) (c7 := .int .i64 qb) (c8 := .int .i64 qr) (c9 := .int .i64 qe) (c10 := .int .i64 qf))
  clear F
  have F := F2
  clear F2
  exact bodyPost_ret (v := .agg #[.int .i64 qk, .int .i64 qn, .string (cbs qs), .string (cbs qo), .int .i64 qd, .slice qp ql qc, .int .i64 qa, .int .i64 qb, .int .i64 qr, .int .i64 qe, .int .i64 qf]) (by simp [results, Tryz.results153, go_sem, d0, d1, d2, d3, d4, d5, d6, d7, d8, d9, dX]) rfl ⟨_, _, _, _, _, _, _, _, _, _, _, _, _, rfl, Is.lower (F.out.ag _ (List.Mem.head _)).2 _ (Hq.out.ag (F.out.ag _ (List.Mem.head _)).1), F.out.rq, F.out.gr⟩

set_option maxRecDepth 8000 in
set_option maxHeartbeats 4000000 in
theorem sexpressions_any (w : World) (R M1 M2 : Nat) (S : Value) (ts : List RT) (s : St) (h : Rq w R M1 M2 S ts s) (P : PX) (hP : POk ts P) :
    Calls Tryz.prog 151 #[.pointer (some ⟨R, 0, none⟩)] w (EsPost w R M1 M2 S ts (Ps.rd P s)) := by
  have HP := Lib.hid hP
  have hlt := h.lt
  have HH := Lib.hid h
  have F := Lib.hid (Fr.of h)
  clear h hP
  go_enter Tryz.func151, Tryz.ntmps151
  go_wp2_with fail
  refine (sexpression_any _ R M1 M2 S ts s F.out.rq P HP.out).mono ?_
  rintro e u1 ⟨qk, qn, qs, qo, qd, qp, ql, qc, qa, qb, qr, qe, qf, rfl, hi, hr, hg⟩
  have Hq := Lib.hid hi
  have F2 := Lib.hid (F.out.call hr hg)
  clear F
  have F := F2
  clear F2
  clear hi hr hg
  go_wp2_with fail
  have F2 := Lib.hid (F.out.alloc (.cells #[.int .i64 qk, .int .i64 qn, .string (cbs qs), .string (cbs qo), .int .i64 qd, .slice qp ql qc, .int .i64 qa, .int .i64 qb, .int .i64 qr, .int .i64 qe, .int .i64 qf] 106))
  clear F
  have F := F2
  clear F2
  exact bodyPost_ret (v := .slice (some ⟨u1.heap.size, 0, none⟩) 1 1) (by simp [results, Tryz.results151, go_sem]) rfl ⟨_, _, rfl, KidsAt.one (F.out.keep _ (List.Mem.head _)).1 (F.out.keep _ (List.Mem.head _)).2 (Is.lower (F.out.ag _ (List.Mem.head _)).2 _ (Hq.out.ag (F.out.ag _ (List.Mem.head _)).1)) rfl, F.out.rq, F.out.gr⟩

set_option maxRecDepth 8000 in
set_option maxHeartbeats 4000000 in
theorem srefuse_any (w : World) (R M1 M2 : Nat) (S : Value) (ts : List RT) (s : St) (h : Rq w R M1 M2 S ts s) :
    Calls Tryz.prog 152 #[.pointer (some ⟨R, 0, none⟩)] w (StPost w R M1 M2 S ts (Ps.refuse ts s)) := by
  have hlt := h.lt
  have HH := Lib.hid h
  have F := Lib.hid ((Fr.of h).alloc (.cells #[.int .i64 0, .string ⟨#[]⟩, .string ⟨#[]⟩, .int .i64 0, .slice none 0 0, .slice none 0 0, .slice none 0 0, .int .i64 0, .int .i64 0] 101))
  clear h
  go_enter Tryz.func152, Tryz.ntmps152
  go_wp2_with fail
  refine (fail_any _ R 151 S _ ts _ F.out.rq.cu 2).mono ?_
  rintro e u1 ⟨rfl, hc, hg⟩
  have F2 := Lib.hid (F.out.cur hc hg)
  clear F
  have F := F2
  clear F2
  clear hc hg
  have hk := (F.out.keep _ (List.Mem.head _)).1
  obtain ⟨⟨d0, d1, d2, d3, d4, d5, d6, d7, d8⟩, g0, g1, g2, g3, g4, g5, g6, g7, g8⟩ := nen hk
  have hld := heap_lt' hk
  clear hk
  go_wp2_with fail
  have F2 := Lib.hid (F.out.put9 0 rfl (c0 := .int .i64 0) (c1 := .string ⟨#[]⟩) (c2 := .string ⟨#[]⟩) (c3 := .int .i64 0) (c4 := .slice none 0 0) (c5 := .slice none 0 0) (c6 := .slice none 0 0) (c7 := .int .i64 0) (c8 := .int .i64 0))
  clear F
  have F := F2
  clear F2
  exact bodyPost_ret (v := .agg #[.int .i64 0, .string ⟨#[]⟩, .string ⟨#[]⟩, .int .i64 0, .slice none 0 0, .slice none 0 0, .slice none 0 0, .int .i64 0, .int .i64 0]) (by simp [results, Tryz.results152, go_sem, d0, d1, d2, d3, d4, d5, d6, d7, d8]) rfl ⟨0, [], [], 0, none, 0, 0, none, 0, 0, none, 0, 0, 0, 0, rfl, SIs.mk KidsAt.nil SsAt.nil SsAt.nil 0 [] [] 0 0 0, F.out.rq, F.out.gr⟩

def DeclPost (w : World) (R M1 M2 : Nat) (S : Value) (ts : List RT) (kind : Int) (d : List UInt8 × List UInt8 × Nat × St) (e : Ending) (w' : World) : Prop :=
  e = .returned (.agg #[.int .i64 kind, .string (cbs d.1), .string (cbs d.2.1), .int .i64 d.2.2.1, .slice none 0 0, .slice none 0 0, .slice none 0 0, .int .i64 0, .int .i64 0]) ∧ Rq w' R M1 M2 S ts d.2.2.2 ∧ Gr R w w'

set_option maxRecDepth 8000 in
set_option maxHeartbeats 4000000 in
theorem decl_any (w : World) (R M1 M2 : Nat) (S : Value) (ts : List RT) (s : St) (h : Rq w R M1 M2 S ts s) (kind : Int) :
    Calls Tryz.prog 150 #[.pointer (some ⟨R, 0, none⟩), .int .i64 kind] w (DeclPost w R M1 M2 S ts kind (Ps.decl ts s)) := by
  obtain ⟨nm, s1, hn⟩ : ∃ nm s1, name ts (next s.c) = (nm, s1) := ⟨_, _, rfl⟩
  obtain ⟨on, d, s2, ho⟩ : ∃ on d s2, Ps.rdOf ts (Ps.sgn ts ⟨s1, s.o⟩ [58]) = (on, d, s2) := ⟨_, _, _, rfl⟩
  have hD : Ps.decl ts s = (nm, on, d, s2) := by simp only [Ps.decl, hn, ho]
  rw [hD]
  have HN := Lib.hid hn
  have HO := Lib.hid ho
  clear hn ho hD
  have hlt := h.lt
  have HH := Lib.hid h
  have F := Lib.hid ((Fr.of h).alloc (.cells #[.int .i64 0, .string ⟨#[]⟩, .string ⟨#[]⟩, .int .i64 0, .slice none 0 0, .slice none 0 0, .slice none 0 0, .int .i64 0, .int .i64 0] 101))
  clear h
  go_enter Tryz.func150, Tryz.ntmps150
  go_wp2_with fail
  refine (next_any _ R 151 S _ ts _ F.out.rq.cu ).mono ?_
  rintro e u1 ⟨rfl, hc, hg⟩
  have F2 := Lib.hid (F.out.cur hc hg)
  clear F
  have F := F2
  clear F2
  clear hc hg
  go_wp2_with fail
  refine (name_any _ R 151 S _ ts _ F.out.rq.cu ).mono ?_
  rw [HN.out]
  rintro e u9 ⟨rfl, hc, hg⟩
  have F2 := Lib.hid (F.out.cur hc hg)
  clear F
  have F := F2
  clear F2
  clear hc hg
  go_wp2_with fail
  have F2 := Lib.hid (F.out.alloc (.cells #[.int .i64 kind, .string (cbs nm), .string ⟨#[]⟩, .int .i64 0, .slice none 0 0, .slice none 0 0, .slice none 0 0, .int .i64 0, .int .i64 0] 101))
  clear F
  have F := F2
  clear F2
  have hnsZ := Nat.ne_of_gt ((List.pairwise_cons.1 F.out.nd).1 _ (List.Mem.head _))
  have hnZs := Ne.symm hnsZ
  dsimp only at hnsZ hnZs
  refine (sign_any _ R 151 S _ ts _ F.out.rq.cu ⟨#[58]⟩).mono ?_
  rintro e u2 ⟨rfl, hc, hg⟩
  have F2 := Lib.hid (F.out.cur hc hg)
  clear F
  have F := F2
  clear F2
  clear hc hg
  go_wp2_with fail
  refine (readOf_any _ R M1 M2 S ts _ F.out.rq).mono ?_
  have ho : Ps.rdOf ts ⟨(sign ts s1 [58]).2, s.o⟩ = (on, d, s2) := HO.out
  rw [ho]
  rintro e u8 ⟨rfl, hr, hg⟩
  have F2 := Lib.hid (F.out.step hr hg)
  clear F
  have F := F2
  clear F2
  clear hr hg ho
  have hk := (F.out.keep _ (List.Mem.head _)).1
  obtain ⟨⟨a0, a1, a2, a3, a4, a5, a6, a7, a8⟩, b0, b1, b2, b3, b4, b5, b6, b7, b8⟩ := nen hk
  have hla := heap_lt' hk
  clear hk
  have hk := (F.out.keep _ (List.Mem.tail _ (List.Mem.head _))).1
  obtain ⟨⟨d0, d1, d2, d3, d4, d5, d6, d7, d8⟩, g0, g1, g2, g3, g4, g5, g6, g7, g8⟩ := nen hk
  have hld := heap_lt' hk
  clear hk
  go_wp2_with fail
  have F2 := Lib.hid (F.out.put1 0 rfl 2 (.string (cbs on)) rfl)
  clear F
  have F := F2
  clear F2
  have F2 := Lib.hid (F.out.put1 0 rfl 3 (.int .i64 (d : Nat)) rfl)
  clear F
  have F := F2
  clear F2
  have F2 := Lib.hid (F.out.put9 1 rfl (c0 := .int .i64 kind) (c1 := .string (cbs nm)) (c2 := .string (cbs on)) (c3 := .int .i64 (d : Nat)) (c4 := .slice none 0 0) (c5 := .slice none 0 0) (c6 := .slice none 0 0) (c7 := .int .i64 0) (c8 := .int .i64 0))
  clear F
  have F := F2
  clear F2
  exact bodyPost_ret (v := .agg #[.int .i64 kind, .string (cbs nm), .string (cbs on), .int .i64 (d : Nat), .slice none 0 0, .slice none 0 0, .slice none 0 0, .int .i64 0, .int .i64 0]) (by simp [results, Tryz.results150, go_sem, d0, d1, d2, d3, d4, d5, d6, d7, d8]) rfl ⟨rfl, F.out.rq, F.out.gr⟩
end Go.Proofs.YtnadaedibicaaaaGreatDoor
