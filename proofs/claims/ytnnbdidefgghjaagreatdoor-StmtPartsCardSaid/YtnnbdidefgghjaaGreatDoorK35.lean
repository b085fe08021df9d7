/-
  The answer's reader of statements (runrigref3), its contracts over the plain machine: a block; all steps by their fuel; a statement and a block from a place of some tokens.
-/
import Derived.Test.YtnnbdidefgghjaaGreatDoorK32
import Derived.Test.YtnnbdidefgghjaaGreatDoorK34
import Derived.RegionTactic
namespace Go.Proofs.YtnnbdidefgghjaaGreatDoor
open Go.RowKit
open Px (RT tokAt isT)
open Pe (inc dec Ex)
open Qe (Q)
open Ps (Sm kindOf nameOf)

theorem qblock_some {ts : List RT} {recS : Q → Qs.Out} {g : Nat} {s : Q} {x : List Sm × Q} (h : Qs.block ts recS g s = some x) : ∃ l s2, Qs.stLoop ts recS g [] (Qe.opens ts s [123]) = some (l, s2) ∧ x = (l, Qe.closes ts s2 [125]) := by
  unfold Qs.block at h
  split at h
  · cases h
  · rename_i l s2 hl
    exact ⟨l, s2, hl, (Option.some.inj h).symm⟩
theorem qsl_zero {ts : List RT} {recS : Q → Qs.Out} {l : List Sm} {s : Q} {x : List Sm × Q} (h : Qs.stLoop ts recS 0 l s = some x) : False := by
  rw [Qs.stLoop] at h; cases h
theorem qsl_end {ts : List RT} {recS : Q → Qs.Out} {g : Nat} {l : List Sm} {s : Q} {x : List Sm × Q} (h : Qs.stLoop ts recS (g + 1) l s = some x) (hv : ¬ (s.E = 0 ∧ Qe.is ts s false [125] = false)) : x = (l, s) := by
  rw [Qs.stLoop, if_neg hv] at h
  exact (Option.some.inj h).symm
theorem qsl_more {ts : List RT} {recS : Q → Qs.Out} {g : Nat} {l : List Sm} {s : Q} {x : List Sm × Q} (h : Qs.stLoop ts recS (g + 1) l s = some x) (hE : s.E = 0) (hv : Qe.is ts s false [125] = false) : ∃ y s2, recS s = some (y, s2) ∧ Qs.stLoop ts recS g (l ++ [y]) s2 = some x := by
  rw [Qs.stLoop, if_pos ⟨hE, hv⟩] at h
  split at h
  · cases h
  · rename_i y s2 hy
    exact ⟨y, s2, hy, h⟩
/-- Where the loop of a block stands. -/
structure LqSt (w wr : World) (R : Nat) (S : Value) (ts : List RT) (v : Value) (l : List Sm) (s : Q) : Prop where
  rq : Qr wr R S ts s
  sm : SmSt w wr R v l
theorem SmSt.done2 {w wr : World} {R : Nat} {v : Value} {l : List Sm} (h : SmSt w wr R v l) : ∃ p c, v = .slice p l.length c ∧ SsAt wr w.heap.size p l ∧ l.length ≤ c := by
  obtain ⟨p, c, hv, hs⟩ := h.done
  refine ⟨p, c, hv, hs, ?_⟩
  obtain ⟨vss, h1, h2, h3⟩ := h.own
  rcases h2.2 with ⟨hv2, h0⟩ | ⟨g, cap, cur, hv2, hb, hc, hn, hcap, hsize, htake⟩
  · omega
  · rw [hv] at hv2
    injection hv2 with e1 e2 e3
    omega
theorem LqSt.go {w wr w' : World} {R : Nat} {S : Value} {ts : List RT} {v : Value} {l : List Sm} {s s2 : Q} (h : LqSt w wr R S ts v l s) (hlt : R < w.heap.size) (hr : Qr w' R S ts s2) (hg : Gr R wr w') : LqSt w w' R S ts v l s2 := ⟨hr, h.sm.go hlt hg⟩

set_option maxRecDepth 8000 in
set_option maxHeartbeats 4000000 in
theorem qblock_any (w : World) (R : Nat) (S : Value) (ts : List RT) (s : Q) (h : Qr w R S ts s) (recS : Q → Qs.Out) (hS : QStOk ts recS) (g : Nat) (hg : g ≤ 1000000000) (x : List Sm × Q) (hx : Qs.block ts recS g s = some x) :
    Calls Tryz.prog 20 #[.pointer (some ⟨R, 0, none⟩)] w (QBlPost w R S ts x) := by
  obtain ⟨l3, s3, h3, rfl⟩ := qblock_some hx
  have hlt := h.lt
  have HH := Lib.hid h
  have HS := Lib.hid hS
  have H3 := Lib.hid h3
  have HG9 := Lib.hid hg
  obtain ⟨i0, hi0, hz0, hz1, hz2⟩ := info_parts infoSt
  clear h hS hx h3 hg
  go_enter Tryz.func20, Tryz.ntmps20
  go_wp2_with fail
  refine (qOpens_any _ R S ts s HH.out ⟨#[123]⟩ (noLetter _ (by decide))).mono ?_
  rintro e w1 ⟨rfl, hr, hg1⟩
  have HA : Hid (LqSt w w1 R S ts (.slice none 0 0) [] (Qe.opens ts s [123])) := Lib.hid ⟨hr, SmSt.start hg1⟩
  clear hr hg1
  go_wp2_with fail
  go_loopg [3] g (fun n v wr => ∃ l s4, LqSt w wr R S ts v l s4 ∧ Qs.stLoop ts recS n l s4 = some (l3, s3) ∧ l.length + n ≤ 1000000001)
  case atStart => exact ⟨_, _, HA.out, H3.out, by have := HG9.out; simp; omega⟩
  case round =>
    obtain ⟨l, s4, ha, h3, hbd⟩ := hrel
    have HA4 := Lib.hid ha
    have H34 := Lib.hid h3
    clear ha h3 HA
    cases gk with
    | zero => exact (qsl_zero H34.out).elim
    | succ m =>
      have HBD := Lib.hid (show l.length + 1 ≤ 1000000001 by omega)
      have HBM := Lib.hid hbd
      clear hbd
      go_wp2_with fail
      refine (qOk_any _ R S ts s4 HA4.out.rq).mono ?_
      rintro e w5 ⟨rfl, hw5⟩
      subst hw5
      cases hE : (s4.E == 0) with
      | false =>
        have hx := qsl_end H34.out (fun hh => by simp [hh.1] at hE)
        injection hx with hx1 hx2
        subst hx1 hx2
        try rw [hE]
        clear hE
        go_wp2_with fail
        refine (qCloses_any _ R S ts s3 HA4.out.rq ⟨#[125]⟩ (noLetter _ (by decide))).mono ?_
        rintro e w7 ⟨rfl, hr, hg⟩
        have HA7 := Lib.hid (HA4.out.go hlt hr hg)
        clear hr hg HA4
        go_wp2_with fail
        obtain ⟨p, c, hpv, hat, hcap⟩ := HA7.out.sm.done2
        exact bodyPost_ret (v := u3) (by simp [results, Tryz.results20, go_sem]) rfl ⟨p, c - l3.length, by rw [hpv, Nat.add_sub_of_le hcap], hat, HA7.out.rq, HA7.out.sm.gr⟩
      | true =>
        have hE0 : s4.E = 0 := by simpa using hE
        have HE0 := Lib.hid hE0
        try rw [hE]
        clear hE hE0
        go_wp2_with fail
        refine (qIs_any _ R S ts s4 HA4.out.rq ⟨#[125]⟩ (by decide) false (by decide)).mono ?_
        rintro e w6 ⟨rfl, hb⟩
        have HA6 := Lib.hid (HA4.out.go hlt (HA4.out.rq.go hb) (Gr.of hb))
        clear hb HA4
        cases hv : Qe.is ts s4 false [125] with
        | true =>
          have hx := qsl_end H34.out (fun hh => by rw [hv] at hh; cases hh.2)
          injection hx with hx1 hx2
          subst hx1 hx2
          try rw [hv]
          clear hv
          go_wp2_with fail
          refine (qCloses_any _ R S ts s3 HA6.out.rq ⟨#[125]⟩ (noLetter _ (by decide))).mono ?_
          rintro e w7 ⟨rfl, hr, hg⟩
          have HA7 := Lib.hid (HA6.out.go hlt hr hg)
          clear hr hg HA6
          go_wp2_with fail
          obtain ⟨p, c, hpv, hat, hcap⟩ := HA7.out.sm.done2
          exact bodyPost_ret (v := u3) (by simp [results, Tryz.results20, go_sem]) rfl ⟨p, c - l3.length, by rw [hpv, Nat.add_sub_of_le hcap], hat, HA7.out.rq, HA7.out.sm.gr⟩
        | false =>
          obtain ⟨y, s5, he, h5⟩ := qsl_more H34.out HE0.out hv
          have HREC := Lib.hid he
          have H5 := Lib.hid h5
          try rw [hv]
          clear hv he h5 H34
          go_wp2_with fail
          have hwr : ∀ k, Value.ownBlock (u3) = some k → k < w6.heap.size := fun k hk => (HA6.out.sm.own_lt k hk).2
          have HWR := Lib.hid hwr
          clear hwr
          have hsB : w.heap.size ≤ w6.heap.size := HA6.out.sm.gr.size
          refine (HS.out _ _ HREC.out _ R S HA6.out.rq).mono ?_
          rintro e w7 ⟨sk, sn, so, sd, sep, sel, sec, sbp, sbl, sbc, slp, sll, slc, sa, sr, rfl, hi, hr, hg⟩
          have HIQ := Lib.hid hi
          have HX := Lib.hid (HA6.out.go hlt hr hg)
          clear hi hr hg
          obtain ⟨vss, hv1, hown, hkid⟩ := HX.out.sm.own
          have HO := Lib.hid hown
          have HK := Lib.hid hkid
          have HV1 := Lib.hid hv1
          have hsX : w.heap.size ≤ w7.heap.size := HX.out.sm.gr.size
          clear hown hkid hv1
          go_wp2_with (at_builtin; refine wpList_append_own_at _ rfl _ _ 31 rfl w.heap.size 38 i0 _ 9 136 Tryz.underlying31 hi0 hz0 hz1 hz2 rfl (by decide) _ l.length _ rfl (HO.out.alloc _) ⟨w7.heap.size, 0, none⟩ 1 1 (smCells sk sn so sd (.slice sep sel sec) (.slice sbp sbl sbc) (.slice slp sll slc) sa sr) rfl rfl ?c1 ?c2 ?c3 ?c4 ?c5 ?_)
          case c1 => exact news11 rfl rfl
          case c2 => exact sm_one _ _ _ _ _ _ _ _ _ _ _ _ _ _ _
          case c3 => have := HBD.out; unfold maxLen; omega
          case c4 => have := HBD.out; omega
          case c5 => rw [size_alloc]; omega
          intro v' w8 hown' hgrow _ hat
          have hpush := SmSt.push hlt HX.out.sm HWR.out hsB HIQ.out HV1.out HK.out hown' hgrow hat
          have HA8 : Hid (LqSt w w8 R S ts v' (l ++ [y]) s5) := Lib.hid ⟨Qr.fin HH.out HX.out.rq hpush.2, hpush.1⟩
          clear hown' hgrow hat HO HK HV1 HX HIQ HWR hsX hsB hpush
          go_wp2_with fail
          go_roundg m
          case measure => omega
          case rel => exact ⟨_, _, HA8.out, H5.out, by have := HBM.out; simp; omega⟩

theorem qrun_st {ts : List RT} {rx : Qs.RX} (hX : QXOk ts rx) : ∀ f : Nat, f ≤ 1000000000 → QStOk ts (Qs.run ts rx f).1 ∧ QBlOk ts (Qs.run ts rx f).2
  | 0, _ => ⟨fun s x hx => by simp [Qs.run] at hx, fun s x hx => by simp [Qs.run] at hx⟩
  | f + 1, hf => by
    obtain ⟨h1, h2⟩ := qrun_st hX f (by omega)
    exact ⟨qstmt_any hX h2, fun s x hx w R S h => qblock_any w R S ts s h _ h1 f (by omega) x hx⟩
theorem Ag.drewn {B : Nat} {w w1 : World} (h : Ag B w w1) (n : Nat) : Ag B w (w1.drewN n) := ⟨h.size, h.block⟩

set_option maxRecDepth 8000 in
set_option maxHeartbeats 4000000 in
theorem qStmt_entry (w : World) (R0 : Nat) (S : Value) (ts : List RT) (rx : Qs.RX) (hX : QXOk ts rx) (k o : Int) (h : Toks w R0 S ts) (f : Nat) (hf : f ≤ 1000000000) (x : Sm × Int × Int × Int) (hx : Qs.parse ts rx f k o = some x) :
    Calls Tryz.prog 17 #[S, .int .i64 k, .int .i64 o] w fun e w' => ∃ (kind : Int) (name ofn : List UInt8) (dims : Int) (ep : Option Addr) (el ec : Nat) (bp : Option Addr) (bl bc : Nat) (lp : Option Addr) (ll lc : Nat) (at_ ref : Int),
      e = .returned (.tuple #[.agg #[.int .i64 kind, .string (cbs name), .string (cbs ofn), .int .i64 dims, .slice ep el ec, .slice bp bl bc, .slice lp ll lc, .int .i64 at_, .int .i64 ref], .int .i64 x.2.1, .agg #[.int .i64 x.2.2.1, .int .i64 x.2.2.2]]) ∧
      SIs w' w.heap.size x.1 (smCells kind name ofn dims (.slice ep el ec) (.slice bp bl bc) (.slice lp ll lc) at_ ref) ∧ Below w.heap.size w w' := by
  obtain ⟨p, n, c, rfl⟩ := h.slice
  obtain ⟨e0, s1, he, rfl⟩ : ∃ e0 s1, (Qs.run ts rx f).1 ⟨k, max o 0, 0, 0⟩ = some (e0, s1) ∧ x = Qs.stEnd e0 s1 := by
    unfold Qs.parse at hx
    split at hx
    · cases hx
    · rename_i e0 s1 he
      exact ⟨e0, s1, he, (Option.some.inj hx).symm⟩
  obtain ⟨w0, hw0⟩ : ∃ w0, w0 = ((w.alloc (.cells #[.int .i64 0, .string ⟨#[]⟩, .string ⟨#[]⟩, .int .i64 0, .slice none 0 0, .slice none 0 0, .slice none 0 0, .int .i64 0, .int .i64 0] 38)).alloc (.cells #[.int .i64 0, .int .i64 0] 25)).alloc (.cells #[.slice p n c, .int .i64 k, .int .i64 (max o 0), .int .i64 0, .int .i64 0] 53) := ⟨_, rfl⟩
  have hb0 : Below w.heap.size w w0 := by rw [hw0]; exact bl_alloc (bl_alloc (bl_alloc (Below.refl _ _)))
  have hk1 : w0.heap[w.heap.size]? = some (.cells #[.int .i64 0, .string ⟨#[]⟩, .string ⟨#[]⟩, .int .i64 0, .slice none 0 0, .slice none 0 0, .slice none 0 0, .int .i64 0, .int .i64 0] 38 (0, 0)) := by rw [hw0]; exact alloc_box _ (alloc_box _ (heap_alloc_new w _))
  have hk2 : w0.heap[w.heap.size + 1]? = some (.cells #[.int .i64 0, .int .i64 0] 25 (0, 0)) := by rw [hw0]; have := alloc_box (.cells #[.slice p n c, .int .i64 k, .int .i64 (max o 0), .int .i64 0, .int .i64 0] 53) (heap_alloc_new (w.alloc (.cells #[.int .i64 0, .string ⟨#[]⟩, .string ⟨#[]⟩, .int .i64 0, .slice none 0 0, .slice none 0 0, .slice none 0 0, .int .i64 0, .int .i64 0] 38)) (.cells #[.int .i64 0, .int .i64 0] 25)); rw [size_alloc] at this; exact this
  have hk3 : w0.heap[w.heap.size + 1 + 1]? = some (.cells #[.slice p n c, .int .i64 k, .int .i64 (max o 0), .int .i64 0, .int .i64 0] 53 (0, 0)) := by rw [hw0]; have := heap_alloc_new ((w.alloc (.cells #[.int .i64 0, .string ⟨#[]⟩, .string ⟨#[]⟩, .int .i64 0, .slice none 0 0, .slice none 0 0, .slice none 0 0, .int .i64 0, .int .i64 0] 38)).alloc (.cells #[.int .i64 0, .int .i64 0] 25)) (.cells #[.slice p n c, .int .i64 k, .int .i64 (max o 0), .int .i64 0, .int .i64 0] 53); simp only [size_alloc] at this; exact this
  have hq : Qr w0 (w.heap.size + 1 + 1) (.slice p n c) ts ⟨k, max o 0, 0, 0⟩ := ⟨hk3, (h.re (by omega)).below hb0⟩
  have HRUN := Lib.hid ((qrun_st hX f hf).1 _ _ he)
  have HQ := Lib.hid hq
  have HB0 := Lib.hid hb0
  have HK1 := Lib.hid hk1
  have HK2 := Lib.hid hk2
  clear h he hx hb0 hk1 hk2 hk3 hq hX
  go_enter Tryz.func17, Tryz.ntmps17
  go_wp2_with fail
  rw [← hw0]
  refine (HRUN.out w0 _ _ HQ.out).mono ?_
  rintro e w1 ⟨sk, sn, so, sd, sep, sel, sec, sbp, sbl, sbc, slp, sll, slc, sa, sr, rfl, hi, hr, hg⟩
  have HR1 := Lib.hid (hr.go ((Below.refl _ _).alloc (Nat.le_refl _) (.cells #[.int .i64 sk, .string (cbs sn), .string (cbs so), .int .i64 sd, .slice sep sel sec, .slice sbp sbl sbc, .slice slp sll slc, .int .i64 sa, .int .i64 sr] 38)))
  have HI := Lib.hid (SIs.ag (Ag.below ((Below.refl _ _).alloc (Nat.le_refl _) (.cells #[.int .i64 sk, .string (cbs sn), .string (cbs so), .int .i64 sd, .slice sep sel sec, .slice sbp sbl sbc, .slice slp sll slc, .int .i64 sa, .int .i64 sr] 38))) _ hi)
  have hg2 := hg.alloc (.cells #[.int .i64 sk, .string (cbs sn), .string (cbs so), .int .i64 sd, .slice sep sel sec, .slice sbp sbl sbc, .slice slp sll slc, .int .i64 sa, .int .i64 sr] 38)
  have HX := Lib.hid (heap_alloc_new w1 (.cells #[.int .i64 sk, .string (cbs sn), .string (cbs so), .int .i64 sd, .slice sep sel sec, .slice sbp sbl sbc, .slice slp sll slc, .int .i64 sa, .int .i64 sr] 38))
  have HA1 := Lib.hid (hg2.box HK1.out (by omega))
  have HA2 := Lib.hid (hg2.box HK2.out (by omega))
  have HSZ : Hid (w.heap.size + 1 + 1 < w1.heap.size) := hr.lt
  have HSZ0 : Hid (w.heap.size + 1 + 1 < w0.heap.size) := HQ.out.lt
  have HB1 : Hid (Below w.heap.size w (w1.alloc (.cells #[.int .i64 sk, .string (cbs sn), .string (cbs so), .int .i64 sd, .slice sep sel sec, .slice sbp sbl sbc, .slice slp sll slc, .int .i64 sa, .int .i64 sr] 38))) := below_gr HB0.out hg2 (by omega) HB0.out.size
  clear hi hr hg hg2 HRUN HQ HB0 HK1 HK2 hw0
  obtain ⟨⟨k2, o2, E2, F2⟩, hs1⟩ : ∃ q, q = s1 := ⟨_, rfl⟩
  subst hs1
  go_wp2_with fail
  refine (qOk_any _ _ _ ts _ HR1.out).mono ?_
  rintro e w2 ⟨rfl, hw2⟩
  rw [hw2] at HR1 HI HX HA1 HA2 HB1
  clear hw2
  obtain ⟨⟨c0, c1, c2, c3, c4⟩, fr, hRl⟩ := HR1.out.cells
  obtain ⟨⟨x0, x1, x2, x3, x4, x5, x6, x7, x8⟩, y0, y1, y2, y3, y4, y5, y6, y7, y8⟩ := nen HX.out
  have hlx := heap_lt' HX.out
  obtain ⟨⟨d0, d1, d2, d3, d4, d5, d6, d7, d8⟩, g0, g1, g2, g3, g4, g5, g6, g7, g8⟩ := nen HA1.out
  have hld := heap_lt' HA1.out
  obtain ⟨⟨b0, b1⟩, ⟨h0, h1⟩, hlb⟩ := duo HA2.out
  have hd1 : w.heap.size ≠ w1.heap.size := by have := HSZ.out; omega
  have hd2 : w.heap.size + 1 ≠ w1.heap.size := by have := HSZ.out; omega
  have hd3 := Ne.symm hd1
  have hd4 := Ne.symm hd2
  have hd5 : w.heap.size + 1 + 1 ≠ w1.heap.size := by have := HSZ.out; omega
  have hd6 := Ne.symm hd5
  dsimp only at c1 c2 c3 c4
  have hN1 : w.heap.size < w0.heap.size := by have := HSZ0.out; omega
  have hN2 : w.heap.size + 1 < w0.heap.size := by have := HSZ0.out; omega
  by_cases hE : E2 = 0
  · subst hE
    go_wp2_with fail
    go_region
    all_goals go_wp2_with fail
    have hx : Qs.stEnd e0 ⟨k2, o2, 0, F2⟩ = (e0, k2, 0, 0) := if_pos rfl
    exact bodyPost_ret (v := .tuple #[.agg #[.int .i64 sk, .string (cbs sn), .string (cbs so), .int .i64 sd, .slice sep sel sec, .slice sbp sbl sbc, .slice slp sll slc, .int .i64 sa, .int .i64 sr], .int .i64 k2, .agg #[.int .i64 0, .int .i64 0]]) (by simp [results, Tryz.results17, go_sem, d0, d1, d2, d3, d4, d5, d6, d7, d8, b0, b1]) rfl ⟨sk, sn, so, sd, sep, sel, sec, sbp, sbl, sbc, slp, sll, slc, sa, sr, by rw [hx], by rw [hx]; exact SIs.lower (Nat.le_of_lt hN1) _ (SIs.ag ((own9 hN1 hN2).drewn 1) _ HI.out), bl_drew (bl_put (bl_put (bl_put9 HB1.out (Nat.le_refl _)) (Nat.le_succ _)) (Nat.le_succ _))⟩
  · have hd : (E2 == 0) = false := by simpa using hE
    have HE2 := Lib.hid hE
    clear hE
    dsimp only
    rw [hd]
    go_wp2_with fail
    go_region
    all_goals go_wp2_with fail
    have hx : Qs.stEnd e0 ⟨k2, o2, E2, F2⟩ = (Ps.Sm.zero, 0, E2, F2) := if_neg HE2.out
    exact bodyPost_ret (v := .tuple #[.agg #[.int .i64 0, .string ⟨#[]⟩, .string ⟨#[]⟩, .int .i64 0, .slice none 0 0, .slice none 0 0, .slice none 0 0, .int .i64 0, .int .i64 0], .int .i64 0, .agg #[.int .i64 E2, .int .i64 F2]]) (by simp [results, Tryz.results17, go_sem, d0, d1, d2, d3, d4, d5, d6, d7, d8, b0, b1]) rfl ⟨0, [], [], 0, none, 0, 0, none, 0, 0, none, 0, 0, 0, 0, by rw [hx]; rfl, by rw [hx]; exact SIs.mk KidsAt.nil SsAt.nil SsAt.nil 0 [] [] 0 0 0, bl_drew (bl_put (bl_put (bl_put9 HB1.out (Nat.le_refl _)) (Nat.le_succ _)) (Nat.le_succ _))⟩

set_option maxRecDepth 8000 in
set_option maxHeartbeats 4000000 in
theorem qBlock_entry (w : World) (R0 : Nat) (S : Value) (ts : List RT) (rx : Qs.RX) (hX : QXOk ts rx) (k o : Int) (h : Toks w R0 S ts) (f : Nat) (hf : f ≤ 1000000000) (x : List Sm × Int × Int × Int) (hx : Qs.parseB ts rx f k o = some x) :
    Calls Tryz.prog 10 #[S, .int .i64 k, .int .i64 o] w fun e w' => ∃ (p : Option Addr) (c : Nat), e = .returned (.tuple #[.slice p x.1.length (x.1.length + c), .int .i64 x.2.1, .agg #[.int .i64 x.2.2.1, .int .i64 x.2.2.2]]) ∧ SsAt w' w.heap.size p x.1 ∧ Below w.heap.size w w' := by
  obtain ⟨p, n, c, rfl⟩ := h.slice
  obtain ⟨e0, s1, he, rfl⟩ : ∃ e0 s1, (Qs.run ts rx f).2 ⟨k, max o 0, 0, 0⟩ = some (e0, s1) ∧ x = Qs.blEnd e0 s1 := by
    unfold Qs.parseB at hx
    split at hx
    · cases hx
    · rename_i e0 s1 he
      exact ⟨e0, s1, he, (Option.some.inj hx).symm⟩
  obtain ⟨w0, hw0⟩ : ∃ w0, w0 = (w.alloc (.cells #[.int .i64 0, .int .i64 0] 25)).alloc (.cells #[.slice p n c, .int .i64 k, .int .i64 (max o 0), .int .i64 0, .int .i64 0] 53) := ⟨_, rfl⟩
  have hb0 : Below w.heap.size w w0 := by rw [hw0]; exact bl_alloc (bl_alloc (Below.refl _ _))
  have hk2 : w0.heap[w.heap.size]? = some (.cells #[.int .i64 0, .int .i64 0] 25 (0, 0)) := by rw [hw0]; exact alloc_box _ (heap_alloc_new w _)
  have hk3 : w0.heap[w.heap.size + 1]? = some (.cells #[.slice p n c, .int .i64 k, .int .i64 (max o 0), .int .i64 0, .int .i64 0] 53 (0, 0)) := by rw [hw0]; have := heap_alloc_new (w.alloc (.cells #[.int .i64 0, .int .i64 0] 25)) (.cells #[.slice p n c, .int .i64 k, .int .i64 (max o 0), .int .i64 0, .int .i64 0] 53); simp only [size_alloc] at this; exact this
  have hq : Qr w0 (w.heap.size + 1) (.slice p n c) ts ⟨k, max o 0, 0, 0⟩ := ⟨hk3, (h.re (by omega)).below hb0⟩
  have HRUN := Lib.hid ((qrun_st hX f hf).2 _ _ he)
  have HQ := Lib.hid hq
  have HB0 := Lib.hid hb0
  have HK2 := Lib.hid hk2
  clear h he hx hb0 hk2 hk3 hq hX
  go_enter Tryz.func10, Tryz.ntmps10
  go_wp2_with fail
  rw [← hw0]
  refine (HRUN.out w0 _ _ HQ.out).mono ?_
  rintro e w1 ⟨qp, qc, rfl, hi, hr, hg⟩
  have HR1 := Lib.hid hr
  have HI := Lib.hid hi
  have HA2 := Lib.hid (hg.box HK2.out (by omega))
  have HSZ0 : Hid (w.heap.size + 1 < w0.heap.size) := HQ.out.lt
  have HB1 : Hid (Below w.heap.size w w1) := below_gr HB0.out hg (by omega) HB0.out.size
  clear hi hr hg HRUN HQ HB0 HK2 hw0
  obtain ⟨⟨k2, o2, E2, F2⟩, hs1⟩ : ∃ q, q = s1 := ⟨_, rfl⟩
  subst hs1
  go_wp2_with fail
  refine (qOk_any _ _ _ ts _ HR1.out).mono ?_
  rintro e w2 ⟨rfl, hw2⟩
  rw [hw2] at HR1 HI HA2 HB1
  clear hw2
  obtain ⟨⟨c0, c1, c2, c3, c4⟩, fr, hRl⟩ := HR1.out.cells
  obtain ⟨⟨b0, b1⟩, ⟨h0, h1⟩, hlb⟩ := duo HA2.out
  dsimp only at c1 c2 c3 c4
  have hN2 : w.heap.size < w0.heap.size := by have := HSZ0.out; omega
  by_cases hE : E2 = 0
  · subst hE
    go_wp2_with fail
    go_region
    all_goals go_wp2_with fail
    have hx : Qs.blEnd e0 ⟨k2, o2, 0, F2⟩ = (e0, k2, 0, 0) := if_pos rfl
    exact bodyPost_ret (v := .tuple #[.slice qp e0.length (e0.length + qc), .int .i64 k2, .agg #[.int .i64 0, .int .i64 0]]) (by simp [results, Tryz.results10, go_sem, b0, b1]) rfl ⟨qp, qc, by rw [hx], by rw [hx]; exact SsAt.lower (SsAt.ag HI.out ((own2 hN2).drewn 1)) (Nat.le_of_lt hN2), bl_drew (bl_put (bl_put HB1.out (Nat.le_refl _)) (Nat.le_refl _))⟩
  · have hd : (E2 == 0) = false := by simpa using hE
    have HE2 := Lib.hid hE
    clear hE
    dsimp only
    rw [hd]
    go_wp2_with fail
    go_region
    all_goals go_wp2_with fail
    have hx : Qs.blEnd e0 ⟨k2, o2, E2, F2⟩ = ([], 0, E2, F2) := if_neg HE2.out
    exact bodyPost_ret (v := .tuple #[.slice none 0 0, .int .i64 0, .agg #[.int .i64 E2, .int .i64 F2]]) (by simp [results, Tryz.results10, go_sem, b0, b1]) rfl ⟨none, 0, by rw [hx]; rfl, by rw [hx]; exact SsAt.nil, bl_drew (bl_put (bl_put HB1.out (Nat.le_refl _)) (Nat.le_refl _))⟩
end Go.Proofs.YtnnbdidefgghjaaGreatDoor
