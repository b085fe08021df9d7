/-
  The project's reader of programs: a function.
-/
import Derived.Test.YtnadaedibicaaaaGreatDoorK36
namespace Go.Proofs.YtnadaedibicaaaaGreatDoor
open Go.RowKit
open Px (RT tokAt)
open Pe
open Ps (Sm PX)
open Pg (BX Pm Rc Fc Gm)

theorem paramsG_ok {w1 : World} {R : Nat} {S : Value} {ts : List RT} {s s2 : Cs} {g : Nat} (hg : g ≤ 900000000) {pl : List Pm} (hP : Pg.params ts g s = some (pl, s2)) (h : Cg w1 R S ts s) :
    Calls Tryz.prog 74 #[.pointer (some ⟨R, 0, none⟩)] w1 fun e w' => ∃ p c, e = .returned (.slice p pl.length c) ∧ PsAt w' w1.heap.size p pl ∧ Cu w' R 57 S [] ts s2 ∧ Gr R w1 w' :=
  parameters_any w1 R S ts s h g hg _ hP
set_option maxRecDepth 8000 in
set_option maxHeartbeats 8000000 in
theorem function_any (w : World) (R : Nat) (S : Value) (ts : List RT) (s : Cs) (h : Cg w R S ts s) (B : BX) (hB : BOk ts B) (g : Nat) (hg : g ≤ 900000000) (x : Fc × Cs) (hx : Pg.function ts B g s = some x) :
    Calls Tryz.prog 49 #[.pointer (some ⟨R, 0, none⟩)] w (FcPost w R S ts x) := by
  obtain ⟨nm, s1, hN⟩ : ∃ nm s1, name ts (next s) = (nm, s1) := ⟨_, _, rfl⟩
  obtain ⟨t, hT⟩ : ∃ t, peek ts (next s) = t := ⟨_, rfl⟩
  obtain ⟨pl, s2, h3, hx2⟩ : ∃ pl s2, Pg.params ts g s1 = some (pl, s2) ∧ x = (⟨nm, pl, (Pg.resultOf ts s2).1, (Pg.resultOf ts s2).2.1, (Pg.resultOf ts s2).2.2.1, (Pg.rdB B (Pg.resultOf ts s2).2.2.2).1, t.at_⟩, (Pg.rdB B (Pg.resultOf ts s2).2.2.2).2) := by
    unfold Pg.function at hx
    rw [hN, hT] at hx
    split at hx
    · cases hx
    · rename_i l s2 hl
      exact ⟨l, s2, hl, (Option.some.inj hx).symm⟩
  have HN := Lib.hid hN
  have HT := Lib.hid hT
  have H3 := Lib.hid h3
  have HH := Lib.hid h
  have HG9 := Lib.hid hg
  have HBB := Lib.hid hB
  have HX := Lib.hid hx2
  have hlt := h.lt
  have F0 := Lib.hid ((Fr.og h).alloc (.cells #[.string ⟨#[]⟩, .slice none 0 0, .bool false, .string ⟨#[]⟩, .int .i64 0, .slice none 0 0, .int .i64 0] 46))
  have hfd : ∀ w1 : World, (Instr.field 66 (.agg #[.int .i64 t.kind, .string (cbs t.text), .int .i64 t.num, .int .i64 t.at_]) 3).run Tryz.prog w1 = .ok (.int .i64 t.at_) w1 := fun _ => by kernel_rfl
  clear h hx hN hT h3 hg hB hx2
  go_enter Tryz.func49, Tryz.ntmps49
  go_wp2_with fail
  refine (next_any _ R _ S _ ts s F0.out.cg.cu).mono ?_
  rintro e u ⟨rfl, hc, hg⟩
  have F := Lib.hid (F0.out.cuG hc hg)
  clear hc hg F0
  go_wp2_with fail
  go_region_held3 (fun _ => True) (trivial) (first
    | (go_at_call 44; (with_reducible refine Calls.mono (peekG_ok (w1 := u.drew) HT.out F.out.drew.cg) ?_); rintro e w3 ⟨rfl, hb⟩; have F1 := Lib.hid (F.out.drew.go hb); clear hb)
    | (go_at_call 44; (with_reducible refine Calls.mono (peekG_ok (w1 := (u.alloc (.cells #[.string ⟨#[]⟩, .slice none 0 0, .bool false, .string ⟨#[]⟩, .int .i64 0, .slice none 0 0, .int .i64 0] 46)).drew) HT.out (F.out.alloc (.cells #[.string ⟨#[]⟩, .slice none 0 0, .bool false, .string ⟨#[]⟩, .int .i64 0, .slice none 0 0, .int .i64 0] 46)).drew.cg) ?_); rintro e w3 ⟨rfl, hb⟩; have FA := Lib.hid ((F.out.alloc (.cells #[.string ⟨#[]⟩, .slice none 0 0, .bool false, .string ⟨#[]⟩, .int .i64 0, .slice none 0 0, .int .i64 0] 46)).drew.go hb); clear hb)
    | (go_at_call 70; (with_reducible refine Calls.mono (nameG_ok (w1 := w3) HN.out F1.out.cg) ?_); rintro e w4 ⟨rfl, hc, hg⟩; have F2 := Lib.hid (F1.out.cuG hc hg); clear hc hg)
    | (go_at_call 70; (with_reducible refine Calls.mono (nameG_ok (w1 := w3) HN.out FA.out.cg) ?_); rintro e w4 ⟨rfl, hc, hg⟩; have FM := Lib.hid (FA.out.cuG hc hg); clear hc hg)
    | (go_at_call 70; (with_reducible refine Calls.mono (nameG_ok (w1 := w3.alloc (.cells #[.string ⟨#[]⟩, .slice none 0 0, .bool false, .string ⟨#[]⟩, .int .i64 0, .slice none 0 0, .int .i64 0] 46)) HN.out (F1.out.alloc (.cells #[.string ⟨#[]⟩, .slice none 0 0, .bool false, .string ⟨#[]⟩, .int .i64 0, .slice none 0 0, .int .i64 0] 46)).cg) ?_); rintro e w4 ⟨rfl, hc, hg⟩; have FM := Lib.hid ((F1.out.alloc (.cells #[.string ⟨#[]⟩, .slice none 0 0, .bool false, .string ⟨#[]⟩, .int .i64 0, .slice none 0 0, .int .i64 0] 46)).cuG hc hg); clear hc hg)
    | (go_at_call 74; (with_reducible refine Calls.mono (paramsG_ok (w1 := w4) HG9.out H3.out F2.out.cg) ?_); rintro e w6 ⟨pp, pc, rfl, hp, hc, hg⟩; have HP0 := Lib.hid hp; have F3 := Lib.hid (F2.out.call (F2.out.cg.gr hg hc) hg); clear hc hg hp)
    | (go_at_call 74; (with_reducible refine Calls.mono (paramsG_ok (w1 := w4) HG9.out H3.out FM.out.cg) ?_); rintro e w6 ⟨pp, pc, rfl, hp, hc, hg⟩; have HP0 := Lib.hid hp; have FB := Lib.hid (FM.out.call (FM.out.cg.gr hg hc) hg); clear hc hg hp; have hk := FB.out.keep _ (List.Mem.head _); obtain ⟨⟨d0, d1, d2, d3, d4, d5, d6⟩, p0, p1, p2, p3, p4, p5, p6⟩ := sept hk.1; have hld := heap_lt' hk.1; have hmd := hk.2; clear hk)
    | (go_at_call 74; (with_reducible refine Calls.mono (paramsG_ok (w1 := w4.alloc (.cells #[.string ⟨#[]⟩, .slice none 0 0, .bool false, .string ⟨#[]⟩, .int .i64 0, .slice none 0 0, .int .i64 0] 46)) HG9.out H3.out (F2.out.alloc (.cells #[.string ⟨#[]⟩, .slice none 0 0, .bool false, .string ⟨#[]⟩, .int .i64 0, .slice none 0 0, .int .i64 0] 46)).cg) ?_); rintro e w6 ⟨pp, pc, rfl, hp, hc, hg⟩; have HP0 := Lib.hid hp; have FB := Lib.hid ((F2.out.alloc (.cells #[.string ⟨#[]⟩, .slice none 0 0, .bool false, .string ⟨#[]⟩, .int .i64 0, .slice none 0 0, .int .i64 0] 46)).call ((F2.out.alloc (.cells #[.string ⟨#[]⟩, .slice none 0 0, .bool false, .string ⟨#[]⟩, .int .i64 0, .slice none 0 0, .int .i64 0] 46)).cg.gr hg hc) hg); clear hc hg hp; have hk := FB.out.keep _ (List.Mem.head _); obtain ⟨⟨d0, d1, d2, d3, d4, d5, d6⟩, p0, p1, p2, p3, p4, p5, p6⟩ := sept hk.1; have hld := heap_lt' hk.1; have hmd := hk.2; clear hk))
  all_goals (first
    | (obtain ⟨b, w5, B0, hb5, hw5, hp5, f5⟩ : ∃ b w5 B0, b = w6.heap.size ∧ w5 = w6.alloc (.cells #[.string (cbs nm), .slice pp pl.length pc, .bool false, .string ⟨#[]⟩, .int .i64 0, .slice none 0 0, .int .i64 t.at_] 46) ∧ PsAt w6 B0 pp pl ∧ Fr w R (CgK R S ts) s2 [(b, .cells #[.string (cbs nm), .slice pp pl.length pc, .bool false, .string ⟨#[]⟩, .int .i64 0, .slice none 0 0, .int .i64 t.at_] 46 (0, 0)), (w.heap.size, .cells #[.string ⟨#[]⟩, .slice none 0 0, .bool false, .string ⟨#[]⟩, .int .i64 0, .slice none 0 0, .int .i64 0] 46 (0, 0))] [(B0, w6)] w5 := ⟨_, _, _, rfl, rfl, HP0.out, F3.out.alloc _⟩; rw [← hw5, ← hb5]; have G := Lib.hid f5; have HP := Lib.hid hp5; clear hb5 hw5 f5 hp5)
    | (obtain ⟨b, w5, B0, hb5, hw5, hp5, f5⟩ : ∃ b w5 B0, b = w4.heap.size ∧ w5 = (((((((w6.setCell ⟨w4.heap.size, 0, none⟩ (.string (cbs nm))).setCell ⟨w4.heap.size, 1, none⟩ (.slice pp pl.length pc)).setCell ⟨w4.heap.size, 2, none⟩ (.bool false)).setCell ⟨w4.heap.size, 3, none⟩ (.string ⟨#[]⟩)).setCell ⟨w4.heap.size, 4, none⟩ (.int .i64 0)).setCell ⟨w4.heap.size, 5, none⟩ (.slice none 0 0)).setCell ⟨w4.heap.size, 6, none⟩ (.int .i64 t.at_)) ∧ PsAt w6 B0 pp pl ∧ Fr w R (CgK R S ts) s2 [(b, .cells #[.string (cbs nm), .slice pp pl.length pc, .bool false, .string ⟨#[]⟩, .int .i64 0, .slice none 0 0, .int .i64 t.at_] 46 (0, 0)), (w.heap.size, .cells #[.string ⟨#[]⟩, .slice none 0 0, .bool false, .string ⟨#[]⟩, .int .i64 0, .slice none 0 0, .int .i64 0] 46 (0, 0))] [(B0, w6)] w5 := ⟨_, _, _, rfl, rfl, HP0.out, FB.out.put7 0 rfl⟩; rw [← hw5, ← hb5]; have G := Lib.hid f5; have HP := Lib.hid hp5; clear hb5 hw5 f5 hp5)
    | (obtain ⟨b, w5, B0, hb5, hw5, hp5, f5⟩ : ∃ b w5 B0, b = w3.heap.size ∧ w5 = (((((((w6.setCell ⟨w3.heap.size, 0, none⟩ (.string (cbs nm))).setCell ⟨w3.heap.size, 1, none⟩ (.slice pp pl.length pc)).setCell ⟨w3.heap.size, 2, none⟩ (.bool false)).setCell ⟨w3.heap.size, 3, none⟩ (.string ⟨#[]⟩)).setCell ⟨w3.heap.size, 4, none⟩ (.int .i64 0)).setCell ⟨w3.heap.size, 5, none⟩ (.slice none 0 0)).setCell ⟨w3.heap.size, 6, none⟩ (.int .i64 t.at_)) ∧ PsAt w6 B0 pp pl ∧ Fr w R (CgK R S ts) s2 [(b, .cells #[.string (cbs nm), .slice pp pl.length pc, .bool false, .string ⟨#[]⟩, .int .i64 0, .slice none 0 0, .int .i64 t.at_] 46 (0, 0)), (w.heap.size, .cells #[.string ⟨#[]⟩, .slice none 0 0, .bool false, .string ⟨#[]⟩, .int .i64 0, .slice none 0 0, .int .i64 0] 46 (0, 0))] [(B0, w6)] w5 := ⟨_, _, _, rfl, rfl, HP0.out, FB.out.put7 0 rfl⟩; rw [← hw5, ← hb5]; have G := Lib.hid f5; have HP := Lib.hid hp5; clear hb5 hw5 f5 hp5)
    | (obtain ⟨b, w5, B0, hb5, hw5, hp5, f5⟩ : ∃ b w5 B0, b = u.heap.size ∧ w5 = (((((((w6.setCell ⟨u.heap.size, 0, none⟩ (.string (cbs nm))).setCell ⟨u.heap.size, 1, none⟩ (.slice pp pl.length pc)).setCell ⟨u.heap.size, 2, none⟩ (.bool false)).setCell ⟨u.heap.size, 3, none⟩ (.string ⟨#[]⟩)).setCell ⟨u.heap.size, 4, none⟩ (.int .i64 0)).setCell ⟨u.heap.size, 5, none⟩ (.slice none 0 0)).setCell ⟨u.heap.size, 6, none⟩ (.int .i64 t.at_)) ∧ PsAt w6 B0 pp pl ∧ Fr w R (CgK R S ts) s2 [(b, .cells #[.string (cbs nm), .slice pp pl.length pc, .bool false, .string ⟨#[]⟩, .int .i64 0, .slice none 0 0, .int .i64 t.at_] 46 (0, 0)), (w.heap.size, .cells #[.string ⟨#[]⟩, .slice none 0 0, .bool false, .string ⟨#[]⟩, .int .i64 0, .slice none 0 0, .int .i64 0] 46 (0, 0))] [(B0, w6)] w5 := ⟨_, _, _, rfl, rfl, HP0.out, FB.out.put7 0 rfl⟩; rw [← hw5, ← hb5]; have G := Lib.hid f5; have HP := Lib.hid hp5; clear hb5 hw5 f5 hp5))
  all_goals
    have hnd := G.out.below1
    have hne := Ne.symm hnd
    dsimp only at hnd hne
    try clear d0 d1 d2 d3 d4 d5 d6 p0 p1 p2 p3 p4 p5 p6 hld hmd
    cases hv : sees ts s2 4 [58] with
    | true =>
      obtain ⟨on, d, s3, hO⟩ : ∃ on d s3, Pg.rdOf ts (next s2) = (on, d, s3) := ⟨_, _, _, rfl⟩
      obtain ⟨bl, s4, hBl⟩ : ∃ bl s4, Pg.rdB B s3 = (bl, s4) := ⟨_, _, rfl⟩
      have hx := HX.out
      rw [show Pg.resultOf ts s2 = (true, Pg.rdOf ts (next s2)) from if_pos hv, hO] at hx
      dsimp only at hx
      rw [hBl] at hx
      subst hx
      have HO := Lib.hid hO
      have HBl := Lib.hid hBl
      have HV := Lib.hid hv
      clear hO hBl HX hv
      go_wp2_with fail
      refine (seesSign_any _ R _ S _ ts s2 G.out.cg.cu ⟨#[58]⟩).mono ?_
      rw [show sees ts s2 4 [58] = true from HV.out]
      rintro e u1 ⟨rfl, hb⟩
      replace G := Lib.hid (G.out.go hb)
      clear hb
      go_wp2_with fail
      refine (next_any _ R _ S _ ts s2 G.out.cg.cu).mono ?_
      rintro e u2 ⟨rfl, hc, hg⟩
      replace G := Lib.hid (G.out.cuG hc hg)
      clear hc hg
      have hk := G.out.keep _ (List.Mem.head _)
      obtain ⟨⟨d0, d1, d2, d3, d4, d5, d6⟩, p0, p1, p2, p3, p4, p5, p6⟩ := sept hk.1
      have hld := heap_lt' hk.1
      clear hk
      go_wp2_with fail
      clear d0 d1 d2 d3 d4 d5 d6 p0 p1 p2 p3 p4 p5 p6 hld
      replace G := Lib.hid (G.out.put1 0 rfl 2 (.bool true) rfl)
      have hO : Pg.rdOf ts (next s2) = (on, d, s3) := HO.out
      have hro := readOfC_any _ R _ [] S ts _ G.out.cg.cu
      rw [hO] at hro
      refine hro.mono ?_
      rintro e u3 ⟨rfl, hc, hg⟩
      replace G := Lib.hid (G.out.cuG hc hg)
      clear hc hg hro hO
      have hk := G.out.keep _ (List.Mem.head _)
      obtain ⟨⟨d0, d1, d2, d3, d4, d5, d6⟩, p0, p1, p2, p3, p4, p5, p6⟩ := sept hk.1
      have hld := heap_lt' hk.1
      clear hk
      go_wp2_with fail
      clear d0 d1 d2 d3 d4 d5 d6 p0 p1 p2 p3 p4 p5 p6 hld
      replace G := Lib.hid (G.out.put1 0 rfl 3 (.string (cbs on)) rfl)
      replace G := Lib.hid (G.out.put1 0 rfl 4 (.int .i64 (d : Nat)) rfl)
      have hBl : Pg.rdB B s3 = (bl, s4) := HBl.out
      have hrb := readB_any _ R _ [] S ts _ G.out.cg.cu G.out.cg.ops B HBB.out
      rw [hBl] at hrb
      refine hrb.mono ?_
      rintro e u5 ⟨bp, bc, rfl, hat, hc, hg⟩
      replace G := Lib.hid (G.out.call (G.out.cg.gr hg hc) hg)
      have HA := Lib.hid hat
      clear hc hg hat hrb hBl
      have hk := G.out.keep _ (List.Mem.head _)
      obtain ⟨⟨d0, d1, d2, d3, d4, d5, d6⟩, p0, p1, p2, p3, p4, p5, p6⟩ := sept hk.1
      have hld := heap_lt' hk.1
      clear hk
      have hk := G.out.keep _ (List.Mem.tail _ (List.Mem.head _))
      obtain ⟨⟨a0, a1, a2, a3, a4, a5, a6⟩, q0, q1, q2, q3, q4, q5, q6⟩ := sept hk.1
      have hla := heap_lt' hk.1
      clear hk
      go_wp2_with fail
      replace G := Lib.hid (G.out.put1 0 rfl 5 (.slice bp bl.length bc) rfl)
      replace G := Lib.hid (G.out.put7 1 rfl (c0 := .string (cbs nm)) (c1 := .slice pp pl.length pc) (c2 := .bool true) (c3 := .string (cbs on)) (c4 := .int .i64 (d : Nat)) (c5 := .slice bp bl.length bc) (c6 := .int .i64 t.at_))
      exact bodyPost_ret (v := .agg #[.string (cbs nm), .slice pp pl.length pc, .bool true, .string (cbs on), .int .i64 (d : Nat), .slice bp bl.length bc, .int .i64 t.at_]) (by simp [results, Tryz.results49, go_sem, a0, a1, a2, a3, a4, a5, a6]) rfl
        ⟨_, _, _, _, _, _, _, _, _, _, _, rfl, ⟨pp, pc, bp, bc, rfl, (HP.out.ag (G.out.ag _ (List.Mem.tail _ (List.Mem.head _))).1).lower (G.out.ag _ (List.Mem.tail _ (List.Mem.head _))).2, (HA.out.ag (G.out.ag _ (List.Mem.head _)).1).lower (G.out.ag _ (List.Mem.head _)).2⟩, G.out.cg.cu, G.out.gr⟩
    | false =>
      obtain ⟨bl, s4, hBl⟩ : ∃ bl s4, Pg.rdB B s2 = (bl, s4) := ⟨_, _, rfl⟩
      have hx := HX.out
      rw [show Pg.resultOf ts s2 = (false, [], 0, s2) from if_neg (by rw [hv]; decide)] at hx
      dsimp only at hx
      rw [hBl] at hx
      subst hx
      have HBl := Lib.hid hBl
      have HV := Lib.hid hv
      clear hBl HX hv
      go_wp2_with fail
      refine (seesSign_any _ R _ S _ ts s2 G.out.cg.cu ⟨#[58]⟩).mono ?_
      rw [show sees ts s2 4 [58] = false from HV.out]
      rintro e u1 ⟨rfl, hb⟩
      replace G := Lib.hid (G.out.go hb)
      clear hb
      go_wp2_with fail
      have hBl : Pg.rdB B s2 = (bl, s4) := HBl.out
      have hrb := readB_any _ R _ [] S ts _ G.out.cg.cu G.out.cg.ops B HBB.out
      rw [hBl] at hrb
      refine hrb.mono ?_
      rintro e u5 ⟨bp, bc, rfl, hat, hc, hg⟩
      replace G := Lib.hid (G.out.call (G.out.cg.gr hg hc) hg)
      have HA := Lib.hid hat
      clear hc hg hat hrb hBl
      have hk := G.out.keep _ (List.Mem.head _)
      obtain ⟨⟨d0, d1, d2, d3, d4, d5, d6⟩, p0, p1, p2, p3, p4, p5, p6⟩ := sept hk.1
      have hld := heap_lt' hk.1
      clear hk
      have hk := G.out.keep _ (List.Mem.tail _ (List.Mem.head _))
      obtain ⟨⟨a0, a1, a2, a3, a4, a5, a6⟩, q0, q1, q2, q3, q4, q5, q6⟩ := sept hk.1
      have hla := heap_lt' hk.1
      clear hk
      go_wp2_with fail
      replace G := Lib.hid (G.out.put1 0 rfl 5 (.slice bp bl.length bc) rfl)
      replace G := Lib.hid (G.out.put7 1 rfl (c0 := .string (cbs nm)) (c1 := .slice pp pl.length pc) (c2 := .bool false) (c3 := .string ⟨#[]⟩) (c4 := .int .i64 0) (c5 := .slice bp bl.length bc) (c6 := .int .i64 t.at_))
      exact bodyPost_ret (v := .agg #[.string (cbs nm), .slice pp pl.length pc, .bool false, .string ⟨#[]⟩, .int .i64 0, .slice bp bl.length bc, .int .i64 t.at_]) (by simp [results, Tryz.results49, go_sem, a0, a1, a2, a3, a4, a5, a6]) rfl
        ⟨_, _, _, _, _, _, _, _, _, _, _, rfl, ⟨pp, pc, bp, bc, rfl, (HP.out.ag (G.out.ag _ (List.Mem.tail _ (List.Mem.head _))).1).lower (G.out.ag _ (List.Mem.tail _ (List.Mem.head _))).2, (HA.out.ag (G.out.ag _ (List.Mem.head _)).1).lower (G.out.ag _ (List.Mem.head _)).2⟩, G.out.cg.cu, G.out.gr⟩
end Go.Proofs.YtnadaedibicaaaaGreatDoor
