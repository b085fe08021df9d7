/-
  The project's reader of programs: a record and a function.
-/
import Derived.Test.YtnadaedibicaaaaGreatDoorK35
import Derived.Deep.RegionHeld3
namespace Go.Proofs.YtnadaedibicaaaaGreatDoor
open Go.RowKit
open Px (RT tokAt)
open Pe
open Ps (Sm PX)
open Pg (BX Pm Rc Fc Gm)

theorem tri {w1 : World} {B : Nat} {T : TypeId} {c0 c1 c2 : Value} (h : w1.heap[B]? = some (.cells #[c0, c1, c2] T (0, 0))) :
    (w1.cell? ⟨B, 0, none⟩ = some c0 ∧ w1.cell? ⟨B, 1, none⟩ = some c1 ∧ w1.cell? ⟨B, 2, none⟩ = some c2) ∧
    w1.frozen? ⟨B, 0, none⟩ = false ∧ w1.frozen? ⟨B, 1, none⟩ = false ∧ w1.frozen? ⟨B, 2, none⟩ = false := by
  refine ⟨⟨?_, ?_, ?_⟩, ?_, ?_, ?_⟩ <;> first | exact frozen_of_row _ _ _ _ _ h | (rw [cell_of_row _ _ _ _ _ _ h]; rfl)
theorem sept {w1 : World} {B : Nat} {T : TypeId} {c0 c1 c2 c3 c4 c5 c6 : Value} (h : w1.heap[B]? = some (.cells #[c0, c1, c2, c3, c4, c5, c6] T (0, 0))) :
    (w1.cell? ⟨B, 0, none⟩ = some c0 ∧ w1.cell? ⟨B, 1, none⟩ = some c1 ∧ w1.cell? ⟨B, 2, none⟩ = some c2 ∧ w1.cell? ⟨B, 3, none⟩ = some c3 ∧ w1.cell? ⟨B, 4, none⟩ = some c4 ∧ w1.cell? ⟨B, 5, none⟩ = some c5 ∧ w1.cell? ⟨B, 6, none⟩ = some c6) ∧
    w1.frozen? ⟨B, 0, none⟩ = false ∧ w1.frozen? ⟨B, 1, none⟩ = false ∧ w1.frozen? ⟨B, 2, none⟩ = false ∧ w1.frozen? ⟨B, 3, none⟩ = false ∧ w1.frozen? ⟨B, 4, none⟩ = false ∧ w1.frozen? ⟨B, 5, none⟩ = false ∧ w1.frozen? ⟨B, 6, none⟩ = false := by
  refine ⟨⟨?_, ?_, ?_, ?_, ?_, ?_, ?_⟩, ?_, ?_, ?_, ?_, ?_, ?_, ?_⟩ <;> first | exact frozen_of_row _ _ _ _ _ h | (rw [cell_of_row _ _ _ _ _ _ h]; rfl)
theorem Fr.put3 {σ : Type} {w wr : World} {R : Nat} {K : σ → World → Prop} {s : σ} {L : List (Nat × Obj)} {T : List (Nat × World)} {b : Nat} {Ty : TypeId} {c0 c1 c2 x0 x1 x2 : Value} (h : Fr w R K s L T wr) (i : Nat) (hi : L[i]? = some (b, .cells #[x0, x1, x2] Ty (0, 0))) :
    Fr w R K s (L.set i (b, .cells #[c0, c1, c2] Ty (0, 0))) T (((wr.setCell ⟨b, 0, none⟩ c0).setCell ⟨b, 1, none⟩ c1).setCell ⟨b, 2, none⟩ c2) := by
  have h0 := h.put1 i hi 0 c0 (A2 := #[c0, x1, x2]) rfl
  have h1 := h0.put1 i (set_at hi _) 1 c1 (A2 := #[c0, c1, x2]) rfl
  rw [List.set_set] at h1
  have h2 := h1.put1 i (set_at hi _) 2 c2 (A2 := #[c0, c1, c2]) rfl
  rw [List.set_set] at h2
  exact h2
theorem Fr.put7 {σ : Type} {w wr : World} {R : Nat} {K : σ → World → Prop} {s : σ} {L : List (Nat × Obj)} {T : List (Nat × World)} {b : Nat} {Ty : TypeId} {c0 c1 c2 c3 c4 c5 c6 x0 x1 x2 x3 x4 x5 x6 : Value} (h : Fr w R K s L T wr) (i : Nat) (hi : L[i]? = some (b, .cells #[x0, x1, x2, x3, x4, x5, x6] Ty (0, 0))) :
    Fr w R K s (L.set i (b, .cells #[c0, c1, c2, c3, c4, c5, c6] Ty (0, 0))) T (((((((wr.setCell ⟨b, 0, none⟩ c0).setCell ⟨b, 1, none⟩ c1).setCell ⟨b, 2, none⟩ c2).setCell ⟨b, 3, none⟩ c3).setCell ⟨b, 4, none⟩ c4).setCell ⟨b, 5, none⟩ c5).setCell ⟨b, 6, none⟩ c6) := by
  have h0 := h.put1 i hi 0 c0 (A2 := #[c0, x1, x2, x3, x4, x5, x6]) rfl
  have h1 := h0.put1 i (set_at hi _) 1 c1 (A2 := #[c0, c1, x2, x3, x4, x5, x6]) rfl
  rw [List.set_set] at h1
  have h2 := h1.put1 i (set_at hi _) 2 c2 (A2 := #[c0, c1, c2, x3, x4, x5, x6]) rfl
  rw [List.set_set] at h2
  have h3 := h2.put1 i (set_at hi _) 3 c3 (A2 := #[c0, c1, c2, c3, x4, x5, x6]) rfl
  rw [List.set_set] at h3
  have h4 := h3.put1 i (set_at hi _) 4 c4 (A2 := #[c0, c1, c2, c3, c4, x5, x6]) rfl
  rw [List.set_set] at h4
  have h5 := h4.put1 i (set_at hi _) 5 c5 (A2 := #[c0, c1, c2, c3, c4, c5, x6]) rfl
  rw [List.set_set] at h5
  have h6 := h5.put1 i (set_at hi _) 6 c6 (A2 := #[c0, c1, c2, c3, c4, c5, c6]) rfl
  rw [List.set_set] at h6
  exact h6

/-- These values are this record; this function. -/
def RIs (w : World) (B : Nat) (x : Rc) (vs : List Value) : Prop := ∃ p c, vs = [.string (cbs x.name), .slice p x.fields.length c, .int .i64 x.at_] ∧ PsAt w B p x.fields
def FIs (w : World) (B : Nat) (x : Fc) (vs : List Value) : Prop :=
  ∃ p c q d, vs = [.string (cbs x.name), .slice p x.params.length c, .bool x.has, .string (cbs x.rn), .int .i64 x.rd, .slice q x.body.length d, .int .i64 x.at_] ∧ PsAt w B p x.params ∧ SsAt w B q x.body
def RcPost (w : World) (R : Nat) (S : Value) (ts : List RT) (x : Rc × Cs) (e : Ending) (w' : World) : Prop :=
  ∃ v0 p n c a, e = .returned (.agg #[.string v0, .slice p n c, .int .i64 a]) ∧ RIs w' w.heap.size x.1 [.string v0, .slice p n c, .int .i64 a] ∧ Cu w' R 57 S [] ts x.2 ∧ Gr R w w'
def FcPost (w : World) (R : Nat) (S : Value) (ts : List RT) (x : Fc × Cs) (e : Ending) (w' : World) : Prop :=
  ∃ v0 p n c b v3 r q m d a, e = .returned (.agg #[.string v0, .slice p n c, .bool b, .string v3, .int .i64 r, .slice q m d, .int .i64 a]) ∧ FIs w' w.heap.size x.1 [.string v0, .slice p n c, .bool b, .string v3, .int .i64 r, .slice q m d, .int .i64 a] ∧ Cu w' R 57 S [] ts x.2 ∧ Gr R w w'

/-- Where the loop over fields stands: besides the list, the record and the result in memory. -/
structure RecSt (w : World) (R : Nat) (S : Value) (ts : List RT) (B b : Nat) (nm : List UInt8) (a : Int) (v : Value) (l : List Pm) (s : Cs) (wr : World) : Prop where
  pm : PmSt w R S ts B v l s wr
  row : wr.heap[b]? = some (.cells #[.string (cbs nm), v, .int .i64 a] 41 (0, 0))
  res : wr.heap[w.heap.size]? = some (.cells #[.string ⟨#[]⟩, .slice none 0 0, .int .i64 0] 41 (0, 0))
  lt1 : w.heap.size < b
  lt2 : b < B
section
variable {w wr w' : World} {R B b : Nat} {S v v' : Value} {ts : List RT} {nm : List UInt8} {a : Int} {l l' : List Pm} {s s' : Cs}
theorem RecSt.rlt (h : RecSt w R S ts B b nm a v l s wr) : R < w.heap.size := by obtain ⟨s0, h0⟩ := h.pm.h0; exact h0.lt
theorem RecSt.step (h : RecSt w R S ts B b nm a v l s wr) (hc : Cu w' R 57 S [] ts s') (hg : Gr R wr w') : RecSt w R S ts B b nm a v l s' w' :=
  ⟨h.pm.step hc hg, hg.box h.row (by have := h.rlt; have := h.lt1; omega), hg.box h.res (by have := h.rlt; omega), h.lt1, h.lt2⟩
theorem RecSt.go (h : RecSt w R S ts B b nm a v l s wr) (hb : Below wr.heap.size wr w') : RecSt w R S ts B b nm a v l s w' := h.step (h.pm.cg.go hb).cu (Gr.of hb)
theorem RecSt.store (h : RecSt w R S ts B b nm a v l s wr) (hp : PmSt w R S ts B v' l' s' w') (hg : Gb B R wr w') : RecSt w R S ts B b nm a v' l' s' (w'.setCell ⟨b, 1, none⟩ v') := by
  have hr := h.rlt
  have h1 := h.lt1
  have h2 := h.lt2
  have hrow := (hg.block b h2 (by omega)).trans h.row
  have hset : (w'.setCell ⟨b, 1, none⟩ v').heap[b]? = some (.cells #[.string (cbs nm), v', .int .i64 a] 41 (0, 0)) := by
    have := Lib.heap_setCell_same hrow (i := 1) (v := v')
    simpa using this
  have hk : ∀ i, i ≠ b → (w'.setCell ⟨b, 1, none⟩ v').heap[i]? = w'.heap[i]? := fun i hi => Below.heap_setCell w' ⟨b, 1, none⟩ v' i hi
  have hn := (Nw.start hp.gr).set (p := ⟨b, 1, none⟩) (by show w.heap.size ≤ b; omega) v'
  obtain ⟨s0, h0⟩ := hp.h0
  refine ⟨⟨h0.gr hn.gr (h0.cu.fin hp.cg.cu hn), hn.gr, hp.le, by rw [size_set]; exact hp.leB, ?_, s0, h0⟩, hset, ?_, h1, h2⟩
  · refine ⟨hp.own.1, ?_⟩
    rcases hp.own.2 with h0 | ⟨g, cap, cur, hv, hb, hc, hr⟩
    · exact .inl h0
    · exact .inr ⟨g, cap, cur, hv, hb, (hk g (by omega)).trans hc, hr⟩
  · rw [hk _ (by omega), hg.block _ (by omega) (by omega)]
    exact h.res
end

set_option maxRecDepth 8000 in
set_option maxHeartbeats 8000000 in
theorem record_any (w : World) (R : Nat) (S : Value) (ts : List RT) (s : Cs) (h : Cg w R S ts s) (g : Nat) (hg : g ≤ 900000000) (x : Rc × Cs) (hx : Pg.record ts g s = some x) :
    Calls Tryz.prog 47 #[.pointer (some ⟨R, 0, none⟩)] w (RcPost w R S ts x) := by
  obtain ⟨nm, s1, hN⟩ : ∃ nm s1, name ts (next s) = (nm, s1) := ⟨_, _, rfl⟩
  obtain ⟨t, hT⟩ : ∃ t, peek ts (next s) = t := ⟨_, rfl⟩
  obtain ⟨l3, s3, h3, rfl⟩ : ∃ l3 s3, Pg.fieldLoop ts g [] (Pg.sg ts s1 [123]) = some (l3, s3) ∧ x = (⟨nm, l3, t.at_⟩, Pg.sg ts s3 [125]) := by
    unfold Pg.record at hx
    rw [hN, hT] at hx
    split at hx
    · cases hx
    · rename_i l s2 hl
      exact ⟨l, s2, hl, (Option.some.inj hx).symm⟩
  have HN := Lib.hid hN
  have HT := Lib.hid hT
  have H3 := Lib.hid h3
  have HH := Lib.hid h
  have HG9 := Lib.hid hg
  have hlt := h.lt
  have F0 := Lib.hid ((Fr.og h).alloc (.cells #[.string ⟨#[]⟩, .slice none 0 0, .int .i64 0] 41))
  have hfd : ∀ w1 : World, (Instr.field 66 (.agg #[.int .i64 t.kind, .string (cbs t.text), .int .i64 t.num, .int .i64 t.at_]) 3).run Tryz.prog w1 = .ok (.int .i64 t.at_) w1 := fun _ => by kernel_rfl
  have hfk : ∀ (w1 : World) (t : RT), (Instr.field 66 (.agg #[.int .i64 t.kind, .string (cbs t.text), .int .i64 t.num, .int .i64 t.at_]) 0).run Tryz.prog w1 = .ok (.int .i64 t.kind) w1 := fun _ _ => by kernel_rfl
  clear h hx hN hT h3 hg
  go_enter Tryz.func47, Tryz.ntmps47
  go_wp2_with fail
  refine (next_any _ R _ S _ ts s F0.out.cg.cu).mono ?_
  rintro e u ⟨rfl, hc, hg⟩
  have F := Lib.hid (F0.out.cuG hc hg)
  clear hc hg F0
  go_wp2_with fail
  go_region_held3 (fun _ => True) (trivial) (first
    | (go_at_call 44; (with_reducible refine Calls.mono (peekG_ok (w1 := u.drew) HT.out F.out.drew.cg) ?_); rintro e w3 ⟨rfl, hb⟩; have F1 := Lib.hid (F.out.drew.go hb); clear hb)
    | (go_at_call 44; (with_reducible refine Calls.mono (peekG_ok (w1 := (u.alloc (.cells #[.string ⟨#[]⟩, .slice none 0 0, .int .i64 0] 41)).drew) HT.out (F.out.alloc (.cells #[.string ⟨#[]⟩, .slice none 0 0, .int .i64 0] 41)).drew.cg) ?_); rintro e w3 ⟨rfl, hb⟩; have FA := Lib.hid ((F.out.alloc (.cells #[.string ⟨#[]⟩, .slice none 0 0, .int .i64 0] 41)).drew.go hb); clear hb)
    | (go_at_call 70; (with_reducible refine Calls.mono (nameG_ok (w1 := w3) HN.out F1.out.cg) ?_); rintro e w4 ⟨rfl, hc, hg⟩; have F2 := Lib.hid (F1.out.cuG hc hg); clear hc hg)
    | (go_at_call 70; (with_reducible refine Calls.mono (nameG_ok (w1 := w3) HN.out FA.out.cg) ?_); rintro e w4 ⟨rfl, hc, hg⟩; have FB := Lib.hid (FA.out.cuG hc hg); clear hc hg; have hk := FB.out.keep _ (List.Mem.head _); obtain ⟨⟨d0, d1, d2⟩, p0, p1, p2⟩ := tri hk.1; have hld := heap_lt' hk.1; have hmd := hk.2; clear hk)
    | (go_at_call 70; (with_reducible refine Calls.mono (nameG_ok (w1 := w3.alloc (.cells #[.string ⟨#[]⟩, .slice none 0 0, .int .i64 0] 41)) HN.out (F1.out.alloc (.cells #[.string ⟨#[]⟩, .slice none 0 0, .int .i64 0] 41)).cg) ?_); rintro e w4 ⟨rfl, hc, hg⟩; have FB := Lib.hid ((F1.out.alloc (.cells #[.string ⟨#[]⟩, .slice none 0 0, .int .i64 0] 41)).cuG hc hg); clear hc hg; have hk := FB.out.keep _ (List.Mem.head _); obtain ⟨⟨d0, d1, d2⟩, p0, p1, p2⟩ := tri hk.1; have hld := heap_lt' hk.1; have hmd := hk.2; clear hk))
  all_goals (first
    | (obtain ⟨b, w5, hb5, hw5, f5⟩ : ∃ b w5, b = w4.heap.size ∧ w5 = w4.alloc (.cells #[.string (cbs nm), .slice none 0 0, .int .i64 t.at_] 41) ∧ Fr w R (CgK R S ts) s1 [(b, .cells #[.string (cbs nm), .slice none 0 0, .int .i64 t.at_] 41 (0, 0)), (w.heap.size, .cells #[.string ⟨#[]⟩, .slice none 0 0, .int .i64 0] 41 (0, 0))] [] w5 := ⟨_, _, rfl, rfl, F2.out.alloc _⟩; rw [← hw5, ← hb5]; have G := Lib.hid f5; clear hb5 hw5 f5)
    | (obtain ⟨b, w5, hb5, hw5, f5⟩ : ∃ b w5, b = u.heap.size ∧ w5 = (((w4.setCell ⟨u.heap.size, 0, none⟩ (.string (cbs nm))).setCell ⟨u.heap.size, 1, none⟩ (.slice none 0 0)).setCell ⟨u.heap.size, 2, none⟩ (.int .i64 t.at_)) ∧ Fr w R (CgK R S ts) s1 [(b, .cells #[.string (cbs nm), .slice none 0 0, .int .i64 t.at_] 41 (0, 0)), (w.heap.size, .cells #[.string ⟨#[]⟩, .slice none 0 0, .int .i64 0] 41 (0, 0))] [] w5 := ⟨_, _, rfl, rfl, FB.out.put3 0 rfl⟩; rw [← hw5, ← hb5]; have G := Lib.hid f5; clear hb5 hw5 f5)
    | (obtain ⟨b, w5, hb5, hw5, f5⟩ : ∃ b w5, b = w3.heap.size ∧ w5 = (((w4.setCell ⟨w3.heap.size, 0, none⟩ (.string (cbs nm))).setCell ⟨w3.heap.size, 1, none⟩ (.slice none 0 0)).setCell ⟨w3.heap.size, 2, none⟩ (.int .i64 t.at_)) ∧ Fr w R (CgK R S ts) s1 [(b, .cells #[.string (cbs nm), .slice none 0 0, .int .i64 t.at_] 41 (0, 0)), (w.heap.size, .cells #[.string ⟨#[]⟩, .slice none 0 0, .int .i64 0] 41 (0, 0))] [] w5 := ⟨_, _, rfl, rfl, FB.out.put3 0 rfl⟩; rw [← hw5, ← hb5]; have G := Lib.hid f5; clear hb5 hw5 f5))
  all_goals
    have hnd := G.out.below1
    have hne := Ne.symm hnd
    have hbw := (G.out.keep _ (List.Mem.head _)).2
    dsimp only at hnd hne hbw
    try clear d0 d1 d2 p0 p1 p2 hld hmd
    go_wp2_with fail
    refine (sign_any _ R _ S _ ts s1 G.out.cg.cu ⟨#[123]⟩).mono ?_
    rintro e u1 ⟨rfl, hc, hg⟩
    replace G := Lib.hid (G.out.cuG hc hg)
    clear hc hg
    have hZ : RecSt w R S ts u1.heap.size b nm t.at_ (.slice none 0 0) [] (sign ts s1 [123]).2 u1 :=
      ⟨PmSt.start HH.out G.out.cg G.out.gr G.out.gr.size (Nat.le_refl _), (G.out.keep _ (List.Mem.head _)).1, (G.out.keep _ (List.Mem.tail _ (List.Mem.head _))).1, by omega, heap_lt' (G.out.keep _ (List.Mem.head _)).1⟩
    have Z := Lib.hid hZ
    obtain ⟨Bq, hBq⟩ : ∃ Bq, Bq = u1.heap.size := ⟨_, rfl⟩
    have Z2 := Z.out
    rw [← hBq] at Z2
    have Z := Lib.hid Z2
    clear hZ Z2 hBq G
    go_wp2_with fail
    go_loopg [] g (fun n wr => ∃ v l s4, RecSt w R S ts Bq b nm t.at_ v l s4 wr ∧ Pg.fieldLoop ts n l s4 = some (l3, s3) ∧ l.length + n ≤ 1000000000)
    case atStart => exact ⟨_, _, _, Z.out, H3.out, by have := HG9.out; simp; omega⟩
    case round =>
      obtain ⟨v, l, s4, ha, h3, hbd⟩ := hrel
      have GA := Lib.hid ha
      have H4 := Lib.hid h3
      have HBD := Lib.hid hbd
      clear ha h3 hbd Z H3
      cases gk with
      | zero => exact absurd H4.out (by rw [Pg.fieldLoop]; simp)
      | succ m =>
        obtain ⟨t4, hT4⟩ : ∃ t4, peek ts s4 = t4 := ⟨_, rfl⟩
        have HT4 := Lib.hid hT4
        clear hT4
        have hft := fun w1 => hfk w1 t4
        go_wp2_with fail
        refine (peekG_ok HT4.out GA.out.pm.cg).mono ?_
        rintro e w5 ⟨rfl, hb⟩
        replace GA := Lib.hid (GA.out.go hb)
        clear hb
        by_cases hv : (peek ts s4).kind = 1
        · have H5 := Lib.hid (fl_yes H4.out hv)
          have hkb : (t4.kind == 1) = true := by rw [HT4.out] at hv; simpa using hv
          obtain ⟨⟨d0, d1, d2⟩, p0, p1, p2⟩ := tri GA.out.row
          have hld := heap_lt' GA.out.row
          clear hv H4
          go_wp2_with fail
          refine (oneMore_any w _ R S ts _ _ l s4 GA.out.pm (by have := HBD.out; omega) 8).mono ?_
          rintro e w8 ⟨v8, rfl, hG, hgb⟩
          have GB := Lib.hid (GA.out.store hG hgb)
          have hrw := (hgb.block b GA.out.lt2 (by have := GA.out.rlt; have := GA.out.lt1; omega)).trans GA.out.row
          clear d0 d1 d2 p0 p1 p2 hld
          obtain ⟨⟨d0, d1, d2⟩, p0, p1, p2⟩ := tri hrw
          have hld := heap_lt' hrw
          obtain ⟨pq, cq, hpq⟩ := own_slice hG.own
          subst hpq
          clear hG hgb hrw
          go_wp2_with fail
          refine (sign_any _ R _ S _ ts _ GB.out.pm.cg.cu ⟨#[59]⟩).mono ?_
          rintro e w9 ⟨rfl, hc, hg⟩
          replace GB := Lib.hid (GB.out.step hc hg)
          clear hc hg d0 d1 d2 p0 p1 p2 hld
          go_wp2_with fail
          go_roundg m
          case measure => omega
          case rel => exact ⟨_, _, _, GB.out, H5.out, by rw [more_len]; have := HBD.out; omega⟩
        · obtain ⟨rfl, rfl⟩ := Prod.mk.inj (fl_no H4.out hv)
          have hkb : (t4.kind == 1) = false := by rw [HT4.out] at hv; simpa using hv
          clear hv
          go_wp2_with fail
          refine (sign_any _ R _ S _ ts _ GA.out.pm.cg.cu ⟨#[125]⟩).mono ?_
          rintro e w7 ⟨rfl, hc, hg⟩
          replace GA := Lib.hid (GA.out.step hc hg)
          clear hc hg
          obtain ⟨p, c, hpv⟩ := own_slice GA.out.pm.own
          subst hpv
          obtain ⟨⟨d0, d1, d2⟩, p0, p1, p2⟩ := tri GA.out.row
          have hld := heap_lt' GA.out.row
          obtain ⟨⟨a0, a1, a2⟩, q0, q1, q2⟩ := tri GA.out.res
          have hla := heap_lt' GA.out.res
          go_wp2_with fail
          have hn := (((Nw.start GA.out.pm.gr).set (p := ⟨w.heap.size, 0, none⟩) (Nat.le_refl _) (.string (cbs nm))).set (p := ⟨w.heap.size, 1, none⟩) (Nat.le_refl _) (.slice p l3.length c)).set (p := ⟨w.heap.size, 2, none⟩) (Nat.le_refl _) (.int .i64 t.at_)
          have hag : Ag Bq w7 (((w7.setCell ⟨w.heap.size, 0, none⟩ (.string (cbs nm))).setCell ⟨w.heap.size, 1, none⟩ (.slice p l3.length c)).setCell ⟨w.heap.size, 2, none⟩ (.int .i64 t.at_)) :=
            (((Ag.refl _ _).set (.inl (Nat.lt_trans GA.out.lt1 GA.out.lt2)) _).set (.inl (Nat.lt_trans GA.out.lt1 GA.out.lt2)) _).set (.inl (Nat.lt_trans GA.out.lt1 GA.out.lt2)) _
          exact bodyPost_ret (v := .agg #[.string (cbs nm), .slice p l3.length c, .int .i64 t.at_]) (by simp [results, Tryz.results47, go_sem, a0, a1, a2]) rfl
            ⟨_, p, _, c, _, rfl, ⟨p, c, rfl, ((PsAt.own GA.out.pm.own).2.ag hag).lower GA.out.pm.le⟩, HH.out.cu.fin GA.out.pm.cg.cu hn, hn.gr⟩
end Go.Proofs.YtnadaedibicaaaaGreatDoor
