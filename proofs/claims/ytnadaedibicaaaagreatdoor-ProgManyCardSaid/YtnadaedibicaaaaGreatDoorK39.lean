/-
  The project's reader of programs: the loop over declarations.
-/
import Derived.Test.YtnadaedibicaaaaGreatDoorK38
namespace Go.Proofs.YtnadaedibicaaaaGreatDoor
open Go.RowKit
open Px (RT tokAt)
open Pe
open Ps (Sm PX)
open Pg (BX Pm Rc Fc Gm)

theorem lp_end {ts : List RT} {B : BX} {g : Nat} {p : Gm} {s : Cs} {x : Gm × Cs} (h : Pg.loop ts B (g + 1) p s = some x) (hk : (peek ts s).kind = 0) : x = (p, s) := by
  rw [Pg.loop, if_pos hk] at h
  exact (Option.some.inj h).symm
theorem lp_R {ts : List RT} {B : BX} {g : Nat} {p : Gm} {s : Cs} {x : Gm × Cs} (h : Pg.loop ts B (g + 1) p s = some x) (hk : ¬ (peek ts s).kind = 0) (h1 : sees ts s 3 [114, 101, 99, 111, 114, 100] = true) :
    ∃ y s2, Pg.record ts g (Pg.limit ts s p.recs.length 12) = some (y, s2) ∧ Pg.loop ts B g (p.addR y) s2 = some x := by
  rw [Pg.loop, if_neg hk, if_pos h1] at h
  split at h
  · cases h
  · rename_i y s2 hy
    exact ⟨y, s2, hy, h⟩
theorem lp_G {ts : List RT} {B : BX} {g : Nat} {p : Gm} {s : Cs} {x : Gm × Cs} (h : Pg.loop ts B (g + 1) p s = some x) (hk : ¬ (peek ts s).kind = 0) (h1 : sees ts s 3 [114, 101, 99, 111, 114, 100] = false) (h2 : sees ts s 3 [103, 108, 111, 98, 97, 108] = true) :
    ∃ y s2, Pg.global ts (Pg.limit ts s p.globals.length 8) = (y, s2) ∧ Pg.loop ts B g (p.addG y) s2 = some x := by
  rw [Pg.loop, if_neg hk, if_neg (by rw [h1]; decide), if_pos h2] at h
  exact ⟨_, _, rfl, h⟩
theorem lp_F {ts : List RT} {B : BX} {g : Nat} {p : Gm} {s : Cs} {x : Gm × Cs} (h : Pg.loop ts B (g + 1) p s = some x) (hk : ¬ (peek ts s).kind = 0) (h1 : sees ts s 3 [114, 101, 99, 111, 114, 100] = false) (h2 : sees ts s 3 [103, 108, 111, 98, 97, 108] = false) (h3 : sees ts s 3 [102, 117, 110, 99] = true) :
    ∃ y s2, Pg.function ts B g (Pg.limit ts s p.funcs.length 16) = some (y, s2) ∧ Pg.loop ts B g (p.addF y) s2 = some x := by
  rw [Pg.loop, if_neg hk, if_neg (by rw [h1]; decide), if_neg (by rw [h2]; decide), if_pos h3] at h
  split at h
  · cases h
  · rename_i y s2 hy
    exact ⟨y, s2, hy, h⟩
theorem lp_bad {ts : List RT} {B : BX} {g : Nat} {p : Gm} {s : Cs} {x : Gm × Cs} (h : Pg.loop ts B (g + 1) p s = some x) (hk : ¬ (peek ts s).kind = 0) (h1 : sees ts s 3 [114, 101, 99, 111, 114, 100] = false) (h2 : sees ts s 3 [103, 108, 111, 98, 97, 108] = false) (h3 : sees ts s 3 [102, 117, 110, 99] = false) :
    Pg.loop ts B g p (fail ts s 2) = some x := by
  rw [Pg.loop, if_neg hk, if_neg (by rw [h1]; decide), if_neg (by rw [h2]; decide), if_neg (by rw [h3]; decide)] at h
  exact h
theorem globalG_ok {w1 : World} {R : Nat} {S : Value} {ts : List RT} {s s2 : Cs} {y : Pm} (hy : Pg.global ts s = (y, s2)) (h : Cg w1 R S ts s) :
    Calls Tryz.prog 48 #[.pointer (some ⟨R, 0, none⟩)] w1 fun e w' => e = .returned (.agg #[.string (cbs y.name), .string (cbs y.ofn), .int .i64 y.dims, .int .i64 y.at_]) ∧ Cu w' R 57 S [] ts s2 ∧ Gr R w1 w' := by
  have := global_any w1 R S ts s h
  rw [hy] at this
  exact this
theorem add_len (p : Gm) : (∀ x, (p.addR x).recs.length = p.recs.length + 1 ∧ (p.addR x).globals = p.globals ∧ (p.addR x).funcs = p.funcs) ∧ (∀ x, (p.addG x).globals.length = p.globals.length + 1 ∧ (p.addG x).recs = p.recs ∧ (p.addG x).funcs = p.funcs) ∧
    (∀ x, (p.addF x).funcs.length = p.funcs.length + 1 ∧ (p.addF x).recs = p.recs ∧ (p.addF x).globals = p.globals) :=
  ⟨fun _ => ⟨by simp [Gm.addR], rfl, rfl⟩, fun _ => ⟨by simp [Gm.addG], rfl, rfl⟩, fun _ => ⟨by simp [Gm.addF], rfl, rfl⟩⟩
theorem RIs.one {w : World} {B : Nat} {x : Rc} {vs : List Value} (h : RIs w B x vs) : ∀ u ∈ vs, u.oneCell' = true := by
  obtain ⟨p, c, rfl, -⟩ := h
  intro u hu
  simp at hu
  rcases hu with rfl | rfl | rfl <;> rfl
theorem FIs.one {w : World} {B : Nat} {x : Fc} {vs : List Value} (h : FIs w B x vs) : ∀ u ∈ vs, u.oneCell' = true := by
  obtain ⟨p, c, q, d, rfl, -⟩ := h
  intro u hu
  simp at hu
  rcases hu with rfl | rfl | rfl | rfl | rfl | rfl | rfl <;> rfl
/-- These values are this program. -/
def GIs (w : World) (B : Nat) (x : Gm) (vs : List Value) : Prop :=
  ∃ p c q d r f, vs = [.slice p x.recs.length c, .slice q x.globals.length d, .slice r x.funcs.length f] ∧ LAt RIs 3 w B p x.recs ∧ LAt PIs 4 w B q x.globals ∧ LAt FIs 7 w B r x.funcs
theorem GIs.ag {w w1 : World} {B : Nat} {x : Gm} {vs : List Value} (h : GIs w B x vs) (g : Ag B w w1) : GIs w1 B x vs := by
  obtain ⟨p, c, q, d, r, f, hv, h1, h2, h3⟩ := h
  exact ⟨p, c, q, d, r, f, hv, h1.ag (fun _ _ h => h.ag g) g, LAt.ag (w := w) (w1 := w1) (fun _ _ h => h) h2 g, h3.ag (fun _ _ h => h.ag g) g⟩
theorem GIs.lower {w : World} {B B2 : Nat} {x : Gm} {vs : List Value} (h : GIs w B x vs) (hB : B2 ≤ B) : GIs w B2 x vs := by
  obtain ⟨p, c, q, d, r, f, hv, h1, h2, h3⟩ := h
  exact ⟨p, c, q, d, r, f, hv, h1.lower (fun _ _ h => h.lower hB) hB, LAt.lower (B := B) (B2 := B2) (fun _ _ h => h) h2 hB, h3.lower (fun _ _ h => h.lower hB) hB⟩
theorem GIs.zero {w : World} {B : Nat} : GIs w B Gm.zero [.slice none 0 0, .slice none 0 0, .slice none 0 0] := ⟨none, 0, none, 0, none, 0, rfl, .inl rfl, .inl rfl, .inl rfl⟩
def GmPost (w : World) (R : Nat) (S : Value) (ts : List RT) (x : Gm × Cs) (e : Ending) (w' : World) : Prop :=
  ∃ p n c q m d r k f, e = .returned (.agg #[.slice p n c, .slice q m d, .slice r k f]) ∧ GIs w' w.heap.size x.1 [.slice p n c, .slice q m d, .slice r k f] ∧ Cu w' R 57 S [] ts x.2 ∧ Gr R w w'

set_option maxRecDepth 8000 in
set_option maxHeartbeats 16000000 in
theorem program_any (w : World) (R : Nat) (S : Value) (ts : List RT) (s : Cs) (h : Cg w R S ts s) (B0 : BX) (hB : BOk ts B0) (g : Nat) (hg : g ≤ 900000000) (x : Gm × Cs) (hx : Pg.loop ts B0 g Gm.zero s = some x) :
    Calls Tryz.prog 19 #[.pointer (some ⟨R, 0, none⟩)] w (GmPost w R S ts x) := by
  obtain ⟨p3, s3⟩ := x
  have HX := Lib.hid hx
  have HG9 := Lib.hid hg
  have HBB := Lib.hid hB
  have hlt := h.lt
  obtain ⟨wa, hwa⟩ : ∃ wa, wa = (w.alloc (.cells #[.slice none 0 0, .slice none 0 0, .slice none 0 0] 26)).alloc (.cells #[.slice none 0 0, .slice none 0 0, .slice none 0 0] 26) := ⟨_, rfl⟩
  have hF := (((Fr.og h).alloc (.cells #[.slice none 0 0, .slice none 0 0, .slice none 0 0] 26)).alloc2 (.cells #[.slice none 0 0, .slice none 0 0, .slice none 0 0] 26) (b := w.heap.size + 1) (size_alloc _ _))
  rw [← hwa] at hF
  have hsz : wa.heap.size = w.heap.size + 1 + 1 := by rw [hwa]; simp only [size_alloc]
  have hG : GSt w R S ts (w.heap.size + 2) (w.heap.size + 1) (.slice none 0 0) (.slice none 0 0) (.slice none 0 0) (.slice none 0 0) (.slice none 0 0) (.slice none 0 0) Gm.zero s wa :=
    ⟨hF.cg, hF.gr, (hF.keep _ (List.Mem.head _)).1, (hF.keep _ (List.Mem.tail _ (List.Mem.head _))).1, by omega, by omega, by omega, OwnL.nil _, OwnL.nil _, OwnL.nil _, (fun k e => by cases e), (fun k e => by cases e), (fun k e => by cases e), s, h⟩
  have G := Lib.hid hG
  have hne1 : w.heap.size ≠ w.heap.size + 1 := by omega
  have hne2 := Ne.symm hne1
  have hfk : ∀ (w1 : World) (t : RT), (Instr.field 66 (.agg #[.int .i64 t.kind, .string (cbs t.text), .int .i64 t.num, .int .i64 t.at_]) 0).run Tryz.prog w1 = .ok (.int .i64 t.kind) w1 := fun _ _ => by kernel_rfl
  clear h hx hg hB hF hG hsz
  go_enter Tryz.func19, Tryz.ntmps19
  go_wp2_with fail
  rw [← hwa]
  clear hwa
  go_loopg [] g (fun n wr => ∃ vr vg vf p s4, GSt w R S ts (w.heap.size + 2) (w.heap.size + 1) vr vg vf vr vg vf p s4 wr ∧ Pg.loop ts B0 n p s4 = some (p3, s3) ∧ p.recs.length + n ≤ 900000000 ∧ p.globals.length + n ≤ 900000000 ∧ p.funcs.length + n ≤ 900000000)
  case atStart => exact ⟨_, _, _, _, _, G.out, HX.out, by have := HG9.out; simp [Gm.zero]; omega, by have := HG9.out; simp [Gm.zero]; omega, by have := HG9.out; simp [Gm.zero]; omega⟩
  case round =>
    obtain ⟨vr, vg, vf, p, s4, ha, h3, hb1, hb2, hb3⟩ := hrel
    have GA := Lib.hid ha
    have H4 := Lib.hid h3
    have HBD := Lib.hid (show p.recs.length + gk ≤ 900000000 ∧ p.globals.length + gk ≤ 900000000 ∧ p.funcs.length + gk ≤ 900000000 from ⟨hb1, hb2, hb3⟩)
    clear ha h3 hb1 hb2 hb3 G HX
    cases gk with
    | zero => exact absurd H4.out (by rw [Pg.loop]; simp)
    | succ m =>
      have HM := Lib.hid (show m ≤ 900000000 by have := HBD.out.1; omega)
      obtain ⟨t4, hT4⟩ : ∃ t4, peek ts s4 = t4 := ⟨_, rfl⟩
      have HT4 := Lib.hid hT4
      have hft := fun w1 => hfk w1 t4
      go_wp2_with fail
      refine (peekG_ok HT4.out GA.out.cg).mono ?_
      rintro e w5 ⟨rfl, hb⟩
      replace GA := Lib.hid (GA.out.go hb)
      clear hb
      by_cases hk0 : t4.kind = 0
      · have hkb : (t4.kind != 0) = false := by simp [hk0]
        obtain ⟨rfl, rfl⟩ := Prod.mk.inj (lp_end H4.out (by rw [hT4]; exact hk0))
        clear hT4
        obtain ⟨p1, c1, rfl⟩ := GA.out.rs.slice
        obtain ⟨p2, c2, rfl⟩ := GA.out.gs.slice
        obtain ⟨p4, c4, rfl⟩ := GA.out.fs.slice
        have hk := GA.out.row
        obtain ⟨⟨a0, a1, a2⟩, b0, b1, b2⟩ := tri hk
        have hla := heap_lt' hk
        clear hk
        obtain ⟨⟨d0, d1, d2⟩, f0, f1, f2⟩ := tri GA.out.res
        have hld := heap_lt' GA.out.res
        clear hk0
        go_wp2_with fail
        have hn := (((Nw.start GA.out.gr).set (p := ⟨w.heap.size, 0, none⟩) (Nat.le_refl _) (.slice p1 p3.recs.length c1)).set (p := ⟨w.heap.size, 1, none⟩) (Nat.le_refl _) (.slice p2 p3.globals.length c2)).set (p := ⟨w.heap.size, 2, none⟩) (Nat.le_refl _) (.slice p4 p3.funcs.length c4)
        have hag : Ag (w.heap.size + 2) w5 (((w5.setCell ⟨w.heap.size, 0, none⟩ (.slice p1 p3.recs.length c1)).setCell ⟨w.heap.size, 1, none⟩ (.slice p2 p3.globals.length c2)).setCell ⟨w.heap.size, 2, none⟩ (.slice p4 p3.funcs.length c4)) :=
          (((Ag.refl _ _).set (.inl (by show w.heap.size < _; omega)) _).set (.inl (by show w.heap.size < _; omega)) _).set (.inl (by show w.heap.size < _; omega)) _
        obtain ⟨q1, e1, hv1, a1'⟩ := GA.out.rs.done RIs.len
        obtain ⟨q2, e2, hv2, a2'⟩ := GA.out.gs.done PIs.len
        obtain ⟨q4, e4, hv4, a4'⟩ := GA.out.fs.done FIs.len
        injection hv1 with hp1 _ hc1
        injection hv2 with hp2 _ hc2
        injection hv4 with hp4 _ hc4
        subst hp1 hc1 hp2 hc2 hp4 hc4
        have hgis : GIs w5 (w.heap.size + 2) p3 [.slice p1 p3.recs.length c1, .slice p2 p3.globals.length c2, .slice p4 p3.funcs.length c4] := ⟨p1, c1, p2, c2, p4, c4, rfl, a1', a2', a4'⟩
        obtain ⟨s0, h0⟩ := GA.out.h0
        exact bodyPost_ret (v := .agg #[.slice p1 p3.recs.length c1, .slice p2 p3.globals.length c2, .slice p4 p3.funcs.length c4]) (by simp [results, Tryz.results19, go_sem, d0, d1, d2]) rfl
          ⟨p1, _, c1, p2, _, c2, p4, _, c4, rfl, (hgis.ag hag).lower (by omega), h0.cu.fin GA.out.cg.cu hn, hn.gr⟩
      · have hkb : (t4.kind != 0) = true := by simpa using hk0
        have HK := Lib.hid (show ¬ (peek ts s4).kind = 0 by rw [hT4]; exact hk0)
        clear hT4 hk0
        go_wp2_with fail
        refine (sees_any _ R _ S _ ts s4 GA.out.cg.cu 3 ⟨#[114, 101, 99, 111, 114, 100]⟩).mono ?_
        rintro e uR ⟨rfl, hb⟩
        replace GA := Lib.hid (GA.out.go hb)
        clear hb
        cases hvR : sees ts s4 3 [114, 101, 99, 111, 114, 100] with
        | true =>
          obtain ⟨y, s5, hy, h5⟩ := lp_R H4.out HK.out hvR
          have HY := Lib.hid hy
          have H5 := Lib.hid h5
          obtain ⟨lp, lc, hls⟩ := GA.out.rs.slice
          subst hls
          clear hy h5 H4
          try rw [hvR]
          clear hvR
          have hk := GA.out.row
          obtain ⟨⟨a0, a1, a2⟩, b0, b1, b2⟩ := tri hk
          have hla := heap_lt' hk
          clear hk
          go_wp2_with fail
          refine (limit_any _ R S ts s4 GA.out.cg p.recs.length 12).mono ?_
          rintro e u6 ⟨rfl, hc, hg⟩
          replace GA := Lib.hid (GA.out.step hc hg)
          clear hc hg
          clear a0 a1 a2 b0 b1 b2 hla
          go_wp2_with fail
          replace GA := Lib.hid GA.out.drew
          have GL := Lib.hid (show w.heap.size + 2 ≤ u6.drew.heap.size ∧ ∀ k, ex3 (.slice lp p.recs.length lc) vg vf k → k < u6.drew.heap.size from ⟨GA.out.l3, fun k hk => (GA.out.exlt k hk).2⟩)
          have hk := GA.out.row
          obtain ⟨⟨a0, a1, a2⟩, b0, b1, b2⟩ := tri hk
          have hla := heap_lt' hk
          clear hk
          obtain ⟨i0, hi0, hz0, hz1, hz2⟩ := info_parts infoRc
          go_region_law (first
            | (refine step_append_own rfl (.tmp 25) (.tmp 28) 22 rfl (w.heap.size + 2) 41 i0 _ 3 48 Tryz.underlying22 hi0 hz0 hz1 hz2 rfl (by decide) (.slice lp p.recs.length lc) p.recs.length vss.flatten (by simp [Act.eval]) (HO.out.alloc _) ⟨wq.heap.size, 0, none⟩ 1 1 [.string v0, .slice ep en ec, .int .i64 ea] (by simp [Act.eval]) rfl (news11 rfl rfl) (HI.out.one) (by have := HBD.out; unfold maxLen; omega) (by have := HBD.out; omega) (by rw [size_alloc]; have := GQ.out.l3; omega) ?_; intro v' w8 hown hgrow hat; have G8 := Lib.hid (GQ.out.pushR HL.out HK3.out (But.of (I := fun w => RIs w _ y _) (fun w' g => (HI.out.ag g).lower (Nat.le_trans GL.out.1 (Nat.le_refl _))) GL.out.1 GL.out.2) hown hgrow (by rw [size_alloc] at hat; exact hat)); obtain ⟨np, nc, hnv⟩ := own_slice hown; subst hnv; clear hown hgrow hat; clear a0 a1 a2 b0 b1 b2 hla; have hk := G8.out.row; obtain ⟨⟨a0, a1, a2⟩, b0, b1, b2⟩ := tri hk; have hla := heap_lt' hk; clear hk)
            | (go_simp; go_wp2_with (go_at_call 47; (with_reducible refine Calls.mono (record_any _ R S ts _ GA.out.cg m HM.out _ HY.out) ?_); rintro e wq ⟨v0, ep, en, ec, ea, rfl, hi, hc, hg⟩; have HI := Lib.hid hi; clear hi; have GQ := Lib.hid (GA.out.step hc hg); clear hc hg; obtain ⟨vss, hl1, hl2, hl3⟩ := GQ.out.rs; have HL := Lib.hid hl1; have HO := Lib.hid hl2; have HK3 := Lib.hid hl3; clear hl1 hl2 hl3; clear a0 a1 a2 b0 b1 b2 hla; have hk := GQ.out.row; obtain ⟨⟨a0, a1, a2⟩, b0, b1, b2⟩ := tri hk; have hla := heap_lt' hk; clear hk)))
          all_goals
            go_wp2_with fail
            clear a0 a1 a2 b0 b1 b2 hla
            have G9 := Lib.hid (G8.out.put 0 (.slice np (p.recs.length + 1) nc) rfl)
            go_roundg m
            case measure => omega
            case rel => exact ⟨_, _, _, _, _, G9.out, H5.out, by have := HBD.out; have := (add_len p).1 y; simp only [this]; omega, by have := HBD.out; have := (add_len p).1 y; simp only [this]; omega, by have := HBD.out; have := (add_len p).1 y; simp only [this]; omega⟩
        | false =>
          have HVR := Lib.hid hvR
          try rw [hvR]
          clear hvR
          go_wp2_with fail
          refine (sees_any _ R _ S _ ts s4 GA.out.cg.cu 3 ⟨#[103, 108, 111, 98, 97, 108]⟩).mono ?_
          rintro e uG ⟨rfl, hb⟩
          replace GA := Lib.hid (GA.out.go hb)
          clear hb
          cases hvG : sees ts s4 3 [103, 108, 111, 98, 97, 108] with
          | true =>
            obtain ⟨y, s5, hy, h5⟩ := lp_G H4.out HK.out HVR.out hvG
            have HY := Lib.hid hy
            have H5 := Lib.hid h5
            obtain ⟨lp, lc, hls⟩ := GA.out.gs.slice
            subst hls
            clear hy h5 H4
            try rw [hvG]
            clear hvG
            have hk := GA.out.row
            obtain ⟨⟨a0, a1, a2⟩, b0, b1, b2⟩ := tri hk
            have hla := heap_lt' hk
            clear hk
            go_wp2_with fail
            refine (limit_any _ R S ts s4 GA.out.cg p.globals.length 8).mono ?_
            rintro e u6 ⟨rfl, hc, hg⟩
            replace GA := Lib.hid (GA.out.step hc hg)
            clear hc hg
            clear a0 a1 a2 b0 b1 b2 hla
            go_wp2_with fail
            replace GA := Lib.hid GA.out.drew
            have GL := Lib.hid (show w.heap.size + 2 ≤ u6.drew.heap.size ∧ ∀ k, ex3 vr (.slice lp p.globals.length lc) vf k → k < u6.drew.heap.size from ⟨GA.out.l3, fun k hk => (GA.out.exlt k hk).2⟩)
            have hk := GA.out.row
            obtain ⟨⟨a0, a1, a2⟩, b0, b1, b2⟩ := tri hk
            have hla := heap_lt' hk
            clear hk
            obtain ⟨i0, hi0, hz0, hz1, hz2⟩ := info_parts infoPm
            go_region_law (first
              | (refine step_append_own rfl (.tmp 42) (.tmp 45) 23 rfl (w.heap.size + 2) 71 i0 _ 4 48 Tryz.underlying23 hi0 hz0 hz1 hz2 rfl (by decide) (.slice lp p.globals.length lc) p.globals.length vss.flatten (by simp [Act.eval]) (HO.out.alloc _) ⟨wq.heap.size, 0, none⟩ 1 1 [.string (cbs y.name), .string (cbs y.ofn), .int .i64 y.dims, .int .i64 y.at_] (by simp [Act.eval]) rfl (news11 rfl rfl) (pm_one y) (by have := HBD.out; unfold maxLen; omega) (by have := HBD.out; omega) (by rw [size_alloc]; have := GQ.out.l3; omega) ?_; intro v' w8 hown hgrow hat; have G8 := Lib.hid (GQ.out.pushG HL.out HK3.out (But.of (B2 := u6.drew.heap.size) (I := fun w => PIs w 0 y (pmCells y)) (fun w' g => rfl) GL.out.1 GL.out.2) hown hgrow (by rw [size_alloc] at hat; exact hat)); obtain ⟨np, nc, hnv⟩ := own_slice hown; subst hnv; clear hown hgrow hat; clear a0 a1 a2 b0 b1 b2 hla; have hk := G8.out.row; obtain ⟨⟨a0, a1, a2⟩, b0, b1, b2⟩ := tri hk; have hla := heap_lt' hk; clear hk)
              | (go_simp; go_wp2_with (go_at_call 48; (with_reducible refine Calls.mono (globalG_ok HY.out GA.out.cg) ?_); rintro e wq ⟨rfl, hc, hg⟩; have GQ := Lib.hid (GA.out.step hc hg); clear hc hg; obtain ⟨vss, hl1, hl2, hl3⟩ := GQ.out.gs; have HL := Lib.hid hl1; have HO := Lib.hid hl2; have HK3 := Lib.hid hl3; clear hl1 hl2 hl3; clear a0 a1 a2 b0 b1 b2 hla; have hk := GQ.out.row; obtain ⟨⟨a0, a1, a2⟩, b0, b1, b2⟩ := tri hk; have hla := heap_lt' hk; clear hk)))
            all_goals
              go_wp2_with fail
              clear a0 a1 a2 b0 b1 b2 hla
              have G9 := Lib.hid (G8.out.put 1 (.slice np (p.globals.length + 1) nc) rfl)
              go_roundg m
              case measure => omega
              case rel => exact ⟨_, _, _, _, _, G9.out, H5.out, by have := HBD.out; have := (add_len p).2.1 y; simp only [this]; omega, by have := HBD.out; have := (add_len p).2.1 y; simp only [this]; omega, by have := HBD.out; have := (add_len p).2.1 y; simp only [this]; omega⟩
          | false =>
            have HVG := Lib.hid hvG
            try rw [hvG]
            clear hvG
            go_wp2_with fail
            refine (sees_any _ R _ S _ ts s4 GA.out.cg.cu 3 ⟨#[102, 117, 110, 99]⟩).mono ?_
            rintro e uF ⟨rfl, hb⟩
            replace GA := Lib.hid (GA.out.go hb)
            clear hb
            cases hvF : sees ts s4 3 [102, 117, 110, 99] with
            | true =>
              obtain ⟨y, s5, hy, h5⟩ := lp_F H4.out HK.out HVR.out HVG.out hvF
              have HY := Lib.hid hy
              have H5 := Lib.hid h5
              obtain ⟨lp, lc, hls⟩ := GA.out.fs.slice
              subst hls
              clear hy h5 H4
              try rw [hvF]
              clear hvF
              have hk := GA.out.row
              obtain ⟨⟨a0, a1, a2⟩, b0, b1, b2⟩ := tri hk
              have hla := heap_lt' hk
              clear hk
              go_wp2_with fail
              refine (limit_any _ R S ts s4 GA.out.cg p.funcs.length 16).mono ?_
              rintro e u6 ⟨rfl, hc, hg⟩
              replace GA := Lib.hid (GA.out.step hc hg)
              clear hc hg
              clear a0 a1 a2 b0 b1 b2 hla
              go_wp2_with fail
              replace GA := Lib.hid GA.out.drew
              have GL := Lib.hid (show w.heap.size + 2 ≤ u6.drew.heap.size ∧ ∀ k, ex3 vr vg (.slice lp p.funcs.length lc) k → k < u6.drew.heap.size from ⟨GA.out.l3, fun k hk => (GA.out.exlt k hk).2⟩)
              have hk := GA.out.row
              obtain ⟨⟨a0, a1, a2⟩, b0, b1, b2⟩ := tri hk
              have hla := heap_lt' hk
              clear hk
              obtain ⟨i0, hi0, hz0, hz1, hz2⟩ := info_parts infoFc
              go_region_law (first
                | (refine step_append_own rfl (.tmp 59) (.tmp 62) 24 rfl (w.heap.size + 2) 46 i0 _ 7 104 Tryz.underlying24 hi0 hz0 hz1 hz2 rfl (by decide) (.slice lp p.funcs.length lc) p.funcs.length vss.flatten (by simp [Act.eval]) (HO.out.alloc _) ⟨wq.heap.size, 0, none⟩ 1 1 [.string v0, .slice ep en ec, .bool eb, .string v3, .int .i64 er, .slice eq em ed, .int .i64 ea] (by simp [Act.eval]) rfl (news11 rfl rfl) (HI.out.one) (by have := HBD.out; unfold maxLen; omega) (by have := HBD.out; omega) (by rw [size_alloc]; have := GQ.out.l3; omega) ?_; intro v' w8 hown hgrow hat; have G8 := Lib.hid (GQ.out.pushF HL.out HK3.out (But.of (I := fun w => FIs w _ y _) (fun w' g => (HI.out.ag g).lower GL.out.1) GL.out.1 GL.out.2) hown hgrow (by rw [size_alloc] at hat; exact hat)); obtain ⟨np, nc, hnv⟩ := own_slice hown; subst hnv; clear hown hgrow hat; clear a0 a1 a2 b0 b1 b2 hla; have hk := G8.out.row; obtain ⟨⟨a0, a1, a2⟩, b0, b1, b2⟩ := tri hk; have hla := heap_lt' hk; clear hk)
                | (go_simp; go_wp2_with (go_at_call 49; (with_reducible refine Calls.mono (function_any _ R S ts _ GA.out.cg B0 HBB.out m HM.out _ HY.out) ?_); rintro e wq ⟨v0, ep, en, ec, eb, v3, er, eq, em, ed, ea, rfl, hi, hc, hg⟩; have HI := Lib.hid hi; clear hi; have GQ := Lib.hid (GA.out.step hc hg); clear hc hg; obtain ⟨vss, hl1, hl2, hl3⟩ := GQ.out.fs; have HL := Lib.hid hl1; have HO := Lib.hid hl2; have HK3 := Lib.hid hl3; clear hl1 hl2 hl3; clear a0 a1 a2 b0 b1 b2 hla; have hk := GQ.out.row; obtain ⟨⟨a0, a1, a2⟩, b0, b1, b2⟩ := tri hk; have hla := heap_lt' hk; clear hk)))
              all_goals
                go_wp2_with fail
                clear a0 a1 a2 b0 b1 b2 hla
                have G9 := Lib.hid (G8.out.put 2 (.slice np (p.funcs.length + 1) nc) rfl)
                go_roundg m
                case measure => omega
                case rel => exact ⟨_, _, _, _, _, G9.out, H5.out, by have := HBD.out; have := (add_len p).2.2 y; simp only [this]; omega, by have := HBD.out; have := (add_len p).2.2 y; simp only [this]; omega, by have := HBD.out; have := (add_len p).2.2 y; simp only [this]; omega⟩
            | false =>
              have H5 := Lib.hid (lp_bad H4.out HK.out HVR.out HVG.out hvF)
              try rw [hvF]
              clear hvF H4
              go_wp2_with fail
              refine (fail_any _ R _ S _ ts s4 GA.out.cg.cu 2).mono ?_
              rintro e u6 ⟨rfl, hc, hg⟩
              replace GA := Lib.hid (GA.out.step hc hg)
              clear hc hg
              go_wp2_with fail
              go_roundg m
              case measure => omega
              case rel => exact ⟨_, _, _, _, _, GA.out, H5.out, by have := HBD.out; omega, by have := HBD.out; omega, by have := HBD.out; omega⟩
end Go.Proofs.YtnadaedibicaaaaGreatDoor
