/-
  Law 4's own one and held: what is read from a place of some tokens is the same, a statement as a block.
-/
import Derived.Test.YtnnbdidefgghjaaGreatDoorK35
import Derived.Test.YtnnbdidefgghjaaGreatDoorK43
import Derived.Test.YtnnbdidefgghjaaGreatDoorK44
namespace Go.Proofs.YtnnbdidefgghjaaGreatDoor
open Go.RowKit
open Px (RT tokAt)
open Pe
open Ps (Sm PX)

theorem ops_below {w w' : World} (h : OpsIn w) (hb : Below w.heap.size w w') : OpsIn w' := by obtain ⟨gt, gfr, hg⟩ := h; exact ⟨gt, gfr, (hb.block _ (heap_lt' hg)).trans hg⟩
theorem eqGuardF4 : Tryz.prog.eqGuardType Tryz.prog.depth 25 = false := by kernel_rfl
def oneL (E : Int) (x : Sm) : List Sm := if E = 0 then [x] else []
theorem oneL_fit {E : Int} {x : Sm} (h : fitM x = true) : fitML (oneL E x) = true := by
  unfold oneL
  split
  · rw [fitML, h, fitML]; rfl
  · rw [fitML]
theorem oneL_len {E : Int} {x : Sm} : (oneL E x).length ≤ 9000000000 := by
  unfold oneL
  split
  · show 1 ≤ 9000000000; decide
  · show 0 ≤ 9000000000; decide
set_option maxRecDepth 8000 in
set_option maxHeartbeats 4000000 in
theorem one_any (w : World) (x : Sm) (sk : Int) (sn so : List UInt8) (sd : Int) (sep : Option Addr) (sel sec : Nat) (sbp : Option Addr) (sbl sbc : Nat) (slp : Option Addr) (sll slc : Nat) (sa sr : Int) (hi : SIs w 0 x (smCells sk sn so sd (.slice sep sel sec) (.slice sbp sbl sbc) (.slice slp sll slc) sa sr)) (E F : Int) :
    Calls Tryz.prog 19 #[.agg #[.int .i64 sk, .string (cbs sn), .string (cbs so), .int .i64 sd, .slice sep sel sec, .slice sbp sbl sbc, .slice slp sll slc, .int .i64 sa, .int .i64 sr], .agg #[.int .i64 E, .int .i64 F]] w fun e w' => ∃ (p : Option Addr) (c : Nat), e = .returned (.slice p (oneL E x).length c) ∧ SsAt w' 0 p (oneL E x) ∧ Below w.heap.size w w' := by
  have HI := Lib.hid hi
  clear hi
  have hb0 : Below w.heap.size w ((w.alloc (.cells #[.int .i64 sk, .string (cbs sn), .string (cbs so), .int .i64 sd, .slice sep sel sec, .slice sbp sbl sbc, .slice slp sll slc, .int .i64 sa, .int .i64 sr] 38)).alloc (.cells #[.int .i64 E, .int .i64 F] 25)) := bl_alloc (bl_alloc (Below.refl _ _))
  by_cases hE : E = 0
  · subst hE
    have hx : oneL 0 x = [x] := if_pos rfl
    rw [hx]
    have hrow := heap_alloc_new ((w.alloc (.cells #[.int .i64 sk, .string (cbs sn), .string (cbs so), .int .i64 sd, .slice sep sel sec, .slice sbp sbl sbc, .slice slp sll slc, .int .i64 sa, .int .i64 sr] 38)).alloc (.cells #[.int .i64 0, .int .i64 F] 25)) (.cells #[.int .i64 sk, .string (cbs sn), .string (cbs so), .int .i64 sd, .slice sep sel sec, .slice sbp sbl sbc, .slice slp sll slc, .int .i64 sa, .int .i64 sr] 38)
    have hib := SIs.below (SIs.below HI.out hb0) ((Below.refl _ _).alloc (Nat.le_refl _) (.cells #[.int .i64 sk, .string (cbs sn), .string (cbs so), .int .i64 sd, .slice sep sel sec, .slice sbp sbl sbc, .slice slp sll slc, .int .i64 sa, .int .i64 sr] 38))
    have HB := Lib.hid (bl_alloc (o := .cells #[.int .i64 sk, .string (cbs sn), .string (cbs so), .int .i64 sd, .slice sep sel sec, .slice sbp sbl sbc, .slice slp sll slc, .int .i64 sa, .int .i64 sr] 38) hb0)
    have HS : Hid (SsAt (((w.alloc (.cells #[.int .i64 sk, .string (cbs sn), .string (cbs so), .int .i64 sd, .slice sep sel sec, .slice sbp sbl sbc, .slice slp sll slc, .int .i64 sa, .int .i64 sr] 38)).alloc (.cells #[.int .i64 0, .int .i64 F] 25)).alloc (.cells #[.int .i64 sk, .string (cbs sn), .string (cbs so), .int .i64 sd, .slice sep sel sec, .slice sbp sbl sbc, .slice slp sll slc, .int .i64 sa, .int .i64 sr] 38)) 0 (some ⟨w.heap.size + 1 + 1, 0, none⟩) [x]) := Lib.hid (by
      simp only [size_alloc] at hrow
      refine .inr ⟨_, 0, rfl, heap_lt' hrow, Nat.zero_le _, SAt.of_row hrow [x] 0 [(smCells sk sn so sd (.slice sep sel sec) (.slice sbp sbl sbc) (.slice slp sll slc) sa sr)] rfl ?_ ?_⟩
      · intro i e vs he hv
        match i with
        | 0 =>
          simp at he hv
          subst he hv
          exact hib
        | i + 1 => simp at he
      · intro i _
        simp [smCells])
    clear hrow hib hb0 HI
    go_enter Tryz.func19, Tryz.ntmps19
    go_wp2_with fail
    go_ret
    exact ⟨_, _, rfl, HS.out, HB.out⟩
  · have hx : oneL E x = [] := if_neg hE
    have hE2 : (E != 0) = true := by simpa using hE
    rw [hx]
    have HB := Lib.hid hb0
    clear hb0 hE HI
    go_enter Tryz.func19, Tryz.ntmps19
    go_wp2_with fail
    go_ret
    exact ⟨none, 0, rfl, .inl rfl, HB.out⟩

set_option maxRecDepth 8000 in
set_option maxHeartbeats 16000000 in
theorem held4_any (w : World) (R0 : Nat) (S : Value) (ts : List RT) (k o : Int) (h : Toks w R0 S ts) (hops : OpsIn w) (hl : ts.length ≤ 90000000) :
    Calls Tryz.prog 8 #[S, .int .i64 k, .int .i64 o] w fun e w' => e = .returned (.bool true) ∧ Below w.heap.size w w' := by
  have hP := isP_of (ts := ts) (by omega)
  have hPO := pok_of hl hP
  have hX : QXOk ts (Sim.rx ts) := qx_ok ts _ (by unfold Sim.enough; omega)
  have hen : Sim.enough ts ≤ 1000000000 := by unfold Sim.enough; omega
  obtain ⟨⟨x, to, E, F⟩, hp, hq⟩ := Sim.stmt_same (by omega) hP k o
  obtain ⟨⟨b, en, E2, F2⟩, hpb, hqb⟩ := Sim.block_same (by omega) hP k o
  have hfit := Sim.fit_parse (by omega) hq
  have hfitB := Sim.fit_parseB (by omega) hqb
  have HP := Lib.hid (fun w1 (hb : Below w.heap.size w w1) => stParse_any w1 R0 S ts _ hPO k o (h.below hb) (ops_below hops hb) _ hen _ hp)
  have HQ := Lib.hid (fun w1 (hb : Below w.heap.size w w1) => qStmt_entry w1 R0 S ts _ hX k o (h.below hb) _ hen _ hq)
  have HPB := Lib.hid (fun w1 (hb : Below w.heap.size w w1) => blParse_any w1 R0 S ts _ hPO k o (h.below hb) (ops_below hops hb) _ hen _ hpb)
  have HQB := Lib.hid (fun w1 (hb : Below w.heap.size w w1) => qBlock_entry w1 R0 S ts _ hX k o (h.below hb) _ hen _ hqb)
  dsimp only at HP HQ HPB HQB hfit hfitB
  have HF1 := Lib.hid hfit
  have HF2 := Lib.hid hfitB
  clear h hops hl hP hPO hX hen hp hq hpb hqb hfit hfitB
  go_enter Tryz.func8, Tryz.ntmps8
  go_wp2_with fail
  refine (HP.out _ (Below.refl _ _)).mono ?_
  rintro e u1 ⟨sk, sn, so, sd, sep, sel, sec, sbp, sbl, sbc, slp, sll, slc, sa, sr, rfl, hi, hb⟩
  obtain ⟨v1, hv1⟩ : ∃ v1, v1 = (u1.alloc (.cells #[.int .i64 sk, .string (cbs sn), .string (cbs so), .int .i64 sd, .slice sep sel sec, .slice sbp sbl sbc, .slice slp sll slc, .int .i64 sa, .int .i64 sr] 38)).alloc (.cells #[.int .i64 E, .int .i64 F] 25) := ⟨_, rfl⟩
  have hb2 : Below u1.heap.size u1 v1 := by rw [hv1]; exact bl_alloc (bl_alloc (Below.refl _ _))
  have HV1 : Hid (Below w.heap.size w v1) := Lib.hid (below_seq hb hb2 hb.size)
  have HK1a : Hid (v1.heap[u1.heap.size]? = some (.cells #[.int .i64 sk, .string (cbs sn), .string (cbs so), .int .i64 sd, .slice sep sel sec, .slice sbp sbl sbc, .slice slp sll slc, .int .i64 sa, .int .i64 sr] 38 (0, 0))) := Lib.hid (by rw [hv1]; exact alloc_box _ (heap_alloc_new u1 _))
  have HK1b : Hid (v1.heap[u1.heap.size + 1]? = some (.cells #[.int .i64 E, .int .i64 F] 25 (0, 0))) := Lib.hid (by rw [hv1]; have := heap_alloc_new (u1.alloc (.cells #[.int .i64 sk, .string (cbs sn), .string (cbs so), .int .i64 sd, .slice sep sel sec, .slice sbp sbl sbc, .slice slp sll slc, .int .i64 sa, .int .i64 sr] 38)) (.cells #[.int .i64 E, .int .i64 F] 25); rw [size_alloc] at this; exact this)
  have HT1 := Lib.hid (SIs.lower (Nat.zero_le _) _ (SIs.below hi hb2))
  clear hb hb2 hi
  go_wp2_with fail
  rw [← hv1]
  clear hv1
  refine (HQ.out _ HV1.out).mono ?_
  rintro e u2 ⟨tk, tn, to, td, tep, tel, tec, tbp, tbl, tbc, tlp, tll, tlc, ta, tr, rfl, hi, hb⟩
  obtain ⟨v2, hv2⟩ : ∃ v2, v2 = (u2.alloc (.cells #[.int .i64 tk, .string (cbs tn), .string (cbs to), .int .i64 td, .slice tep tel tec, .slice tbp tbl tbc, .slice tlp tll tlc, .int .i64 ta, .int .i64 tr] 38)).alloc (.cells #[.int .i64 E, .int .i64 F] 25) := ⟨_, rfl⟩
  have hb2 : Below u2.heap.size u2 v2 := by rw [hv2]; exact bl_alloc (bl_alloc (Below.refl _ _))
  have HV2 : Hid (Below w.heap.size w v2) := Lib.hid (below_seq (below_seq HV1.out hb HV1.out.size) hb2 (below_seq HV1.out hb HV1.out.size).size)
  have HK2a : Hid (v2.heap[u2.heap.size]? = some (.cells #[.int .i64 tk, .string (cbs tn), .string (cbs to), .int .i64 td, .slice tep tel tec, .slice tbp tbl tbc, .slice tlp tll tlc, .int .i64 ta, .int .i64 tr] 38 (0, 0))) := Lib.hid (by rw [hv2]; exact alloc_box _ (heap_alloc_new u2 _))
  have HK2b : Hid (v2.heap[u2.heap.size + 1]? = some (.cells #[.int .i64 E, .int .i64 F] 25 (0, 0))) := Lib.hid (by rw [hv2]; have := heap_alloc_new (u2.alloc (.cells #[.int .i64 tk, .string (cbs tn), .string (cbs to), .int .i64 td, .slice tep tel tec, .slice tbp tbl tbc, .slice tlp tll tlc, .int .i64 ta, .int .i64 tr] 38)) (.cells #[.int .i64 E, .int .i64 F] 25); rw [size_alloc] at this; exact this)
  have HT2 := Lib.hid (SIs.lower (Nat.zero_le _) _ (SIs.below hi hb2))
  have hb3 : Below v1.heap.size v1 v2 := below_seq hb hb2 hb.size
  have Hx := Lib.hid ((hb3.block _ (heap_lt' HK1a.out)).trans HK1a.out)
  clear HK1a
  have HK1a := Hx
  clear Hx
  have Hx := Lib.hid ((hb3.block _ (heap_lt' HK1b.out)).trans HK1b.out)
  clear HK1b
  have HK1b := Hx
  clear Hx
  have Hx := Lib.hid (SIs.below HT1.out hb3)
  clear HT1
  have HT1 := Hx
  clear Hx
  clear hb3
  clear hb hb2 hi
  go_wp2_with fail
  rw [← hv2]
  clear hv2
  refine (HPB.out _ HV2.out).mono ?_
  rintro e u3 ⟨xp, xc, rfl, hi, hb⟩
  obtain ⟨v3, hv3⟩ : ∃ v3, v3 = u3.alloc (.cells #[.int .i64 E2, .int .i64 F2] 25) := ⟨_, rfl⟩
  have hb2 : Below u3.heap.size u3 v3 := by rw [hv3]; exact bl_alloc (Below.refl _ _)
  have HV3 : Hid (Below w.heap.size w v3) := Lib.hid (below_seq (below_seq HV2.out hb HV2.out.size) hb2 (below_seq HV2.out hb HV2.out.size).size)
  have HK3b : Hid (v3.heap[u3.heap.size]? = some (.cells #[.int .i64 E2, .int .i64 F2] 25 (0, 0))) := Lib.hid (by rw [hv3]; exact heap_alloc_new u3 _)
  have HT3 := Lib.hid ((hi.below hb2).lower (Nat.zero_le _))
  have hb3 : Below v2.heap.size v2 v3 := below_seq hb hb2 hb.size
  have Hx := Lib.hid ((hb3.block _ (heap_lt' HK1a.out)).trans HK1a.out)
  clear HK1a
  have HK1a := Hx
  clear Hx
  have Hx := Lib.hid ((hb3.block _ (heap_lt' HK1b.out)).trans HK1b.out)
  clear HK1b
  have HK1b := Hx
  clear Hx
  have Hx := Lib.hid (SIs.below HT1.out hb3)
  clear HT1
  have HT1 := Hx
  clear Hx
  have Hx := Lib.hid ((hb3.block _ (heap_lt' HK2a.out)).trans HK2a.out)
  clear HK2a
  have HK2a := Hx
  clear Hx
  have Hx := Lib.hid ((hb3.block _ (heap_lt' HK2b.out)).trans HK2b.out)
  clear HK2b
  have HK2b := Hx
  clear Hx
  have Hx := Lib.hid (SIs.below HT2.out hb3)
  clear HT2
  have HT2 := Hx
  clear Hx
  clear hb3
  clear hb hb2 hi
  go_wp2_with fail
  rw [← hv3]
  clear hv3
  refine (HQB.out _ HV3.out).mono ?_
  rintro e u4 ⟨yp, yc, rfl, hi, hb⟩
  obtain ⟨v4, hv4⟩ : ∃ v4, v4 = u4.alloc (.cells #[.int .i64 E2, .int .i64 F2] 25) := ⟨_, rfl⟩
  have hb2 : Below u4.heap.size u4 v4 := by rw [hv4]; exact bl_alloc (Below.refl _ _)
  have HV4 : Hid (Below w.heap.size w v4) := Lib.hid (below_seq (below_seq HV3.out hb HV3.out.size) hb2 (below_seq HV3.out hb HV3.out.size).size)
  have HK4b : Hid (v4.heap[u4.heap.size]? = some (.cells #[.int .i64 E2, .int .i64 F2] 25 (0, 0))) := Lib.hid (by rw [hv4]; exact heap_alloc_new u4 _)
  have HT4 := Lib.hid ((hi.below hb2).lower (Nat.zero_le _))
  have hb3 : Below v3.heap.size v3 v4 := below_seq hb hb2 hb.size
  have Hx := Lib.hid ((hb3.block _ (heap_lt' HK1a.out)).trans HK1a.out)
  clear HK1a
  have HK1a := Hx
  clear Hx
  have Hx := Lib.hid ((hb3.block _ (heap_lt' HK1b.out)).trans HK1b.out)
  clear HK1b
  have HK1b := Hx
  clear Hx
  have Hx := Lib.hid (SIs.below HT1.out hb3)
  clear HT1
  have HT1 := Hx
  clear Hx
  have Hx := Lib.hid ((hb3.block _ (heap_lt' HK2a.out)).trans HK2a.out)
  clear HK2a
  have HK2a := Hx
  clear Hx
  have Hx := Lib.hid ((hb3.block _ (heap_lt' HK2b.out)).trans HK2b.out)
  clear HK2b
  have HK2b := Hx
  clear Hx
  have Hx := Lib.hid (SIs.below HT2.out hb3)
  clear HT2
  have HT2 := Hx
  clear Hx
  have Hx := Lib.hid ((hb3.block _ (heap_lt' HK3b.out)).trans HK3b.out)
  clear HK3b
  have HK3b := Hx
  clear Hx
  have Hx := Lib.hid (HT3.out.below hb3)
  clear HT3
  have HT3 := Hx
  clear Hx
  clear hb3
  clear hb hb2 hi
  go_wp2_with fail
  rw [← hv4]
  clear hv4
  obtain ⟨⟨a0, a1, a2, a3, a4, a5, a6, a7, a8⟩, -⟩ := nen HK1a.out
  obtain ⟨⟨b0, b1, b2, b3, b4, b5, b6, b7, b8⟩, -⟩ := nen HK2a.out
  obtain ⟨⟨f0, f1⟩, -, lf⟩ := duo HK1b.out
  obtain ⟨⟨g0, g1⟩, -, lg⟩ := duo HK2b.out
  obtain ⟨⟨m0, m1⟩, -, lm⟩ := duo HK3b.out
  obtain ⟨⟨n0, n1⟩, -, ln⟩ := duo HK4b.out
  have la := heap_lt' HK1a.out
  have lb := heap_lt' HK2a.out
  have hG := eqGuardF4
  have HGO := Lib.hid (show ∀ w' : World, Below v4.heap.size v4 w' → (w'.cell? ⟨u1.heap.size, 0, none⟩ = some (.int .i64 sk) ∧ w'.cell? ⟨u1.heap.size, 1, none⟩ = some (.string (cbs sn)) ∧ w'.cell? ⟨u1.heap.size, 2, none⟩ = some (.string (cbs so)) ∧ w'.cell? ⟨u1.heap.size, 3, none⟩ = some (.int .i64 sd) ∧ w'.cell? ⟨u1.heap.size, 4, none⟩ = some (.slice sep sel sec) ∧ w'.cell? ⟨u1.heap.size, 5, none⟩ = some (.slice sbp sbl sbc) ∧ w'.cell? ⟨u1.heap.size, 6, none⟩ = some (.slice slp sll slc) ∧ w'.cell? ⟨u1.heap.size, 7, none⟩ = some (.int .i64 sa) ∧ w'.cell? ⟨u1.heap.size, 8, none⟩ = some (.int .i64 sr) ∧ w'.cell? ⟨u2.heap.size, 0, none⟩ = some (.int .i64 tk) ∧ w'.cell? ⟨u2.heap.size, 1, none⟩ = some (.string (cbs tn)) ∧ w'.cell? ⟨u2.heap.size, 2, none⟩ = some (.string (cbs to)) ∧ w'.cell? ⟨u2.heap.size, 3, none⟩ = some (.int .i64 td) ∧ w'.cell? ⟨u2.heap.size, 4, none⟩ = some (.slice tep tel tec) ∧ w'.cell? ⟨u2.heap.size, 5, none⟩ = some (.slice tbp tbl tbc) ∧ w'.cell? ⟨u2.heap.size, 6, none⟩ = some (.slice tlp tll tlc) ∧ w'.cell? ⟨u2.heap.size, 7, none⟩ = some (.int .i64 ta) ∧ w'.cell? ⟨u2.heap.size, 8, none⟩ = some (.int .i64 tr) ∧ w'.cell? ⟨u1.heap.size + 1, 0, none⟩ = some (.int .i64 E) ∧ w'.cell? ⟨u1.heap.size + 1, 1, none⟩ = some (.int .i64 F) ∧ w'.cell? ⟨u2.heap.size + 1, 0, none⟩ = some (.int .i64 E) ∧ w'.cell? ⟨u2.heap.size + 1, 1, none⟩ = some (.int .i64 F) ∧ w'.cell? ⟨u3.heap.size, 0, none⟩ = some (.int .i64 E2) ∧ w'.cell? ⟨u3.heap.size, 1, none⟩ = some (.int .i64 F2) ∧ w'.cell? ⟨u4.heap.size, 0, none⟩ = some (.int .i64 E2) ∧ w'.cell? ⟨u4.heap.size, 1, none⟩ = some (.int .i64 F2)) from fun w' hb => ⟨(hb.cell (p := ⟨u1.heap.size, 0, none⟩) la).trans a0, (hb.cell (p := ⟨u1.heap.size, 1, none⟩) la).trans a1, (hb.cell (p := ⟨u1.heap.size, 2, none⟩) la).trans a2, (hb.cell (p := ⟨u1.heap.size, 3, none⟩) la).trans a3, (hb.cell (p := ⟨u1.heap.size, 4, none⟩) la).trans a4, (hb.cell (p := ⟨u1.heap.size, 5, none⟩) la).trans a5, (hb.cell (p := ⟨u1.heap.size, 6, none⟩) la).trans a6, (hb.cell (p := ⟨u1.heap.size, 7, none⟩) la).trans a7, (hb.cell (p := ⟨u1.heap.size, 8, none⟩) la).trans a8, (hb.cell (p := ⟨u2.heap.size, 0, none⟩) lb).trans b0, (hb.cell (p := ⟨u2.heap.size, 1, none⟩) lb).trans b1, (hb.cell (p := ⟨u2.heap.size, 2, none⟩) lb).trans b2, (hb.cell (p := ⟨u2.heap.size, 3, none⟩) lb).trans b3, (hb.cell (p := ⟨u2.heap.size, 4, none⟩) lb).trans b4, (hb.cell (p := ⟨u2.heap.size, 5, none⟩) lb).trans b5, (hb.cell (p := ⟨u2.heap.size, 6, none⟩) lb).trans b6, (hb.cell (p := ⟨u2.heap.size, 7, none⟩) lb).trans b7, (hb.cell (p := ⟨u2.heap.size, 8, none⟩) lb).trans b8, (hb.cell (p := ⟨u1.heap.size + 1, 0, none⟩) lf).trans f0, (hb.cell (p := ⟨u1.heap.size + 1, 1, none⟩) lf).trans f1, (hb.cell (p := ⟨u2.heap.size + 1, 0, none⟩) lg).trans g0, (hb.cell (p := ⟨u2.heap.size + 1, 1, none⟩) lg).trans g1, (hb.cell (p := ⟨u3.heap.size, 0, none⟩) lm).trans m0, (hb.cell (p := ⟨u3.heap.size, 1, none⟩) lm).trans m1, (hb.cell (p := ⟨u4.heap.size, 0, none⟩) ln).trans n0, (hb.cell (p := ⟨u4.heap.size, 1, none⟩) ln).trans n1⟩)
  have HB0 : Hid (Below v4.heap.size v4 v4.drew) := (Below.refl _ _).drew
  go_region_held3 (fun w' => w'.cell? ⟨u1.heap.size, 0, none⟩ = some (.int .i64 sk) ∧ w'.cell? ⟨u1.heap.size, 1, none⟩ = some (.string (cbs sn)) ∧ w'.cell? ⟨u1.heap.size, 2, none⟩ = some (.string (cbs so)) ∧ w'.cell? ⟨u1.heap.size, 3, none⟩ = some (.int .i64 sd) ∧ w'.cell? ⟨u1.heap.size, 4, none⟩ = some (.slice sep sel sec) ∧ w'.cell? ⟨u1.heap.size, 5, none⟩ = some (.slice sbp sbl sbc) ∧ w'.cell? ⟨u1.heap.size, 6, none⟩ = some (.slice slp sll slc) ∧ w'.cell? ⟨u1.heap.size, 7, none⟩ = some (.int .i64 sa) ∧ w'.cell? ⟨u1.heap.size, 8, none⟩ = some (.int .i64 sr) ∧ w'.cell? ⟨u2.heap.size, 0, none⟩ = some (.int .i64 tk) ∧ w'.cell? ⟨u2.heap.size, 1, none⟩ = some (.string (cbs tn)) ∧ w'.cell? ⟨u2.heap.size, 2, none⟩ = some (.string (cbs to)) ∧ w'.cell? ⟨u2.heap.size, 3, none⟩ = some (.int .i64 td) ∧ w'.cell? ⟨u2.heap.size, 4, none⟩ = some (.slice tep tel tec) ∧ w'.cell? ⟨u2.heap.size, 5, none⟩ = some (.slice tbp tbl tbc) ∧ w'.cell? ⟨u2.heap.size, 6, none⟩ = some (.slice tlp tll tlc) ∧ w'.cell? ⟨u2.heap.size, 7, none⟩ = some (.int .i64 ta) ∧ w'.cell? ⟨u2.heap.size, 8, none⟩ = some (.int .i64 tr) ∧ w'.cell? ⟨u1.heap.size + 1, 0, none⟩ = some (.int .i64 E) ∧ w'.cell? ⟨u1.heap.size + 1, 1, none⟩ = some (.int .i64 F) ∧ w'.cell? ⟨u2.heap.size + 1, 0, none⟩ = some (.int .i64 E) ∧ w'.cell? ⟨u2.heap.size + 1, 1, none⟩ = some (.int .i64 F) ∧ w'.cell? ⟨u3.heap.size, 0, none⟩ = some (.int .i64 E2) ∧ w'.cell? ⟨u3.heap.size, 1, none⟩ = some (.int .i64 F2) ∧ w'.cell? ⟨u4.heap.size, 0, none⟩ = some (.int .i64 E2) ∧ w'.cell? ⟨u4.heap.size, 1, none⟩ = some (.int .i64 F2)) (first | exact HGO.out _ HB0.out | exact HGO.out _ HB1.out | exact HGO.out _ HB2.out | exact HGO.out _ HB3.out | exact HGO.out _ HB4.out) (first
    | (go_at_call 12; (with_reducible refine Calls.mono (alike_any _ b xp yp xc (b.length + yc) (HT3.out.below HB3.out) (HT4.out.below HB3.out) HF2.out.1 (by have := HF2.out.2; omega)) ?_); rintro e z4 ⟨rfl, hb⟩; have HB4 := Lib.hid (below_seq HB3.out hb HB3.out.size); clear hb)
    | (go_at_call 12; (with_reducible refine Calls.mono (alike_any _ (oneL E x) p1 p2 c1 c2 HS1x.out HS2.out (oneL_fit HF1.out) (by have := oneL_len (E := E) (x := x); omega)) ?_); rintro e z3 ⟨rfl, hb⟩; have HB3 := Lib.hid (below_seq HB2.out hb HB2.out.size); clear hb)
    | (go_at_call 19; (with_reducible refine Calls.mono (one_any _ x tk tn to td tep tel tec tbp tbl tbc tlp tll tlc ta tr (SIs.below HT2.out HB1.out) E F) ?_); rintro e z2 ⟨p2, c2, rfl, hs, hb⟩; have HS2 := Lib.hid hs; have HS1x := Lib.hid (HS1.out.below hb); clear hs HS1; have HB2 := Lib.hid (below_seq HB1.out hb HB1.out.size); clear hb)
    | (go_at_call 19; (with_reducible refine Calls.mono (one_any _ x sk sn so sd sep sel sec sbp sbl sbc slp sll slc sa sr (SIs.below HT1.out HB0.out) E F) ?_); rintro e z1 ⟨p1, c1, rfl, hs, hb⟩; have HS1 := Lib.hid hs; clear hs; have HB1 := Lib.hid (below_seq HB0.out hb HB0.out.size); clear hb))
  go_wp2_with fail
  go_ret
  exact ⟨rfl, below_seq HV4.out HB4.out HV4.out.size⟩
end Go.Proofs.YtnnbdidefgghjaaGreatDoor
