/-
  The contracts of the answer's reader (runrigref3) over the plain machine: fields and items behind a first one.
-/
import Derived.Test.YtnadaedibicaaaaDoorQk
import Derived.Deep.RegionWith
namespace Go.Proofs.YtnadaedibicaaaaDoor
open Go.RowKit
open Px (RT tokAt isT)
open Pe (inc dec Ex)
open Qe (Q)
theorem Fq.two {w wr : World} {R : Nat} {S : Value} {ts : List RT} {s : Q} {L : List (Nat × Obj)} {T : List (Nat × Ex × List Value)} (h : Fq w wr R S ts s L T) {a b : Nat × Obj} (ha : a ∈ L) (hb : b ∈ L) : Fq w wr R S ts s [a, b] [] :=
  h.sub fun _p hp => (List.mem_cons.1 hp).elim (fun e => e ▸ ha) fun hp => (List.mem_cons.1 hp).elim (fun e => e ▸ hb) fun hp => (List.not_mem_nil hp).elim

set_option maxRecDepth 8000 in
set_option maxHeartbeats 8000000 in
theorem qBehind_any (w : World) (R : Nat) (S : Value) (ts : List RT) (s : Q) (h : Qr w R S ts s) (rec : Nat → Q → Qe.Out) (hrec : QRecOk ts rec) (B : Nat) (hB : R < B) (hBw : B ≤ w.heap.size) (gg : Nat) (e0 : Ex) (zk zn : Int) (zs zo : List UInt8) (zd : Int) (zp : Option Addr) (zl zc : Nat) (za zb zr ze zf : Int) (hof : Is w B e0 (exCells zk zn zs zo zd (.slice zp zl zc) za zb zr ze zf)) (x : Ex × Q) (hx : Qe.behind ts rec gg e0 s = some x) :
    Calls Tryd.prog 74 #[.pointer (some ⟨R, 0, none⟩), .agg #[.int .i64 zk, .int .i64 zn, .string (cbs zs), .string (cbs zo), .int .i64 zd, .slice zp zl zc, .int .i64 za, .int .i64 zb, .int .i64 zr, .int .i64 ze, .int .i64 zf]] w (QPost B w R S ts x) := by
  have HX := Lib.hid hx
  have HREC := Lib.hid (fun (s2 : Q) (y : Ex × Q) (hy : rec 0 s2 = some y) w1 hh => hrec 0 s2 y (by decide) hy w1 R S hh)
  have HRB := Lib.hid hB
  have HBW := Lib.hid hBw
  have hlt := h.lt
  have HH := Lib.hid h
  have f0 := ((Fq.start h).alloc (.cells #[.int .i64 zk, .int .i64 zn, .string (cbs zs), .string (cbs zo), .int .i64 zd, .slice zp zl zc, .int .i64 za, .int .i64 zb, .int .i64 zr, .int .i64 ze, .int .i64 zf] 39)).alloc (.cells #[.int .i64 0, .int .i64 0, .string ⟨#[]⟩, .string ⟨#[]⟩, .int .i64 0, .slice none 0 0, .int .i64 0, .int .i64 0, .int .i64 0, .int .i64 0, .int .i64 0] 39)
  rw [size_alloc] at f0
  have HO := Lib.hid (show Hoq w ((w.alloc (.cells #[.int .i64 zk, .int .i64 zn, .string (cbs zs), .string (cbs zo), .int .i64 zd, .slice zp zl zc, .int .i64 za, .int .i64 zb, .int .i64 zr, .int .i64 ze, .int .i64 zf] 39)).alloc (.cells #[.int .i64 0, .int .i64 0, .string ⟨#[]⟩, .string ⟨#[]⟩, .int .i64 0, .slice none 0 0, .int .i64 0, .int .i64 0, .int .i64 0, .int .i64 0, .int .i64 0] 39)) R S ts B w.heap.size (w.heap.size + 1) zk zn zs zo zd zp zl zc za zb zr ze zf e0 s from ⟨f0.two (List.Mem.tail _ (List.Mem.head _)) (List.Mem.head _), ((IsOff.top hof (fun k hk => by rcases hk with rfl | rfl <;> omega)).alloc _).alloc _⟩)
  clear f0 hof h hx hrec hB hBw
  go_enter Tryd.func74, Tryd.ntmps74
  go_wp2_with fail
  go_loopg [] gg (fun m wr => ∃ e s4 kind num name ofn dims p ln c at_ b r d ref, Hoq w wr R S ts B w.heap.size (w.heap.size + 1) kind num name ofn dims p ln c at_ b r d ref e s4 ∧ Qe.behind ts rec m e s4 = some x)
  case atStart => exact ⟨_, _, _, _, _, _, _, _, _, _, _, _, _, _, _, HO.out, HX.out⟩
  case round =>
    obtain ⟨e, s4, kind, num, name, ofn, dims, p, ln, c, at_, b, r, d, ref, ho, hx⟩ := hrel
    have F := Lib.hid ho.f
    have I := Lib.hid ho.is
    have HX1 := Lib.hid hx
    clear ho hx HO HX
    cases gk with
    | zero => exact (beh_zero HX1.out).elim
    | succ m =>
      have htk := fun w1 hh => qTok_any w1 R S ts s4 hh
      cases hv : Qe.is ts s4 false [46] with
      | true =>
        have h5 := beh_dot HX1.out hv
        have hp := fun w1 hh => qName_any w1 R S ts (Qe.next s4) hh
        generalize Qe.name ts (Qe.next s4) = y at hp h5
        obtain ⟨nm, s5⟩ := y
        dsimp only at hp h5
        generalize tokAt ts s4.k = t at htk h5
        unfold tokW at htk
        have HTK := Lib.hid htk
        have HP := Lib.hid hp
        have H5 := Lib.hid h5
        have HV := Lib.hid hv
        clear htk hp h5 hv HX1
        go_wp2_with fail
        refine (qIs_any _ R S ts _ F.out.qr ⟨#[46]⟩ (by decide) false (by decide)).mono ?_
        rintro e' wl1 ⟨rfl, hb⟩
        have F2 := Lib.hid (F.out.go hb)
        clear F
        have F := F2
        clear F2
        have I2 := Lib.hid (I.out.below hb)
        clear I
        have I := I2
        clear I2
        clear hb
        try rw [HV.out]
        go_wp2_with fail
        refine (HTK.out _ F.out.qr).mono ?_
        rintro e' wl2 ⟨rfl, hb⟩
        have F2 := Lib.hid (F.out.go hb)
        clear F
        have F := F2
        clear F2
        have I2 := Lib.hid (I.out.below hb)
        clear I
        have I := I2
        clear I2
        clear hb
        go_wp2_with fail
        have HNT := Lib.hid (Nat.ne_of_gt (heap_lt' (F.out.keep _ (List.Mem.head _)).1))
        have F2 := Lib.hid (F.out.alloc (.cells #[.int .i64 t.kind, .string (cbs t.text), .int .i64 t.num, .int .i64 t.at_] 51))
        clear F
        have F := F2
        clear F2
        have I2 := Lib.hid (I.out.alloc (.cells #[.int .i64 t.kind, .string (cbs t.text), .int .i64 t.num, .int .i64 t.at_] 51))
        clear I
        have I := I2
        clear I2
        refine (qIs_any _ R S ts _ F.out.qr ⟨#[46]⟩ (by decide) false (by decide)).mono ?_
        rintro e' wl3 ⟨rfl, hb⟩
        have F2 := Lib.hid (F.out.go hb)
        clear F
        have F := F2
        clear F2
        have I2 := Lib.hid (I.out.below hb)
        clear I
        have I := I2
        clear I2
        clear hb
        try rw [HV.out]
        obtain ⟨⟨c0, c1, c2, c3, c4⟩, fr, hRl⟩ := F.out.qr.cells
        have fr1 := fr 1
        have fr2 := fr 2
        clear fr
        go_wp2_with fail
        clear c0 c1 c2 c3 c4 fr1 fr2 hRl
        have F2 := Lib.hid (F.out.set_k (inc s4.k))
        change Hid (Fq _ _ _ _ _ (Qe.next s4) _ _) at F2
        clear F
        have F := F2
        clear F2
        have I2 := Lib.hid (I.out.gr HRB.out ((Gr.refl R _).set 1 (.int .i64 (inc s4.k))))
        clear I
        have I := I2
        clear I2
        obtain ⟨wn, hwn⟩ : ∃ wn, wn = wl3.setCell ⟨R, 1, none⟩ (.int .i64 (inc s4.k)) := ⟨_, rfl⟩
        rw [← hwn] at F I
        change Code.wp _ _ _ _ (wl3.setCell ⟨R, 1, none⟩ (.int .i64 (inc s4.k)))
        rw [← hwn]
        clear hwn
        have HWN := Lib.hid (show w.heap.size + 1 < wn.heap.size from heap_lt' (F.out.keep _ (List.Mem.tail _ (List.Mem.tail _ (List.Mem.head _)))).1)
        clear HTK
        have hk := (F.out.keep _ (List.Mem.tail _ (List.Mem.head _)))
        obtain ⟨⟨x0, x1, x2, x3, x4, x5, x6, x7, x8, x9, xX⟩, y0, y1, y2, y3, y4, y5, y6, y7, y8, y9, yX⟩ := hen hk.1
        have hlx := heap_lt' hk.1
        have hnx := hk.2
        clear hk
        have hmx := Ne.symm hnx
        have hk := (F.out.keep _ (List.Mem.head _))
        obtain ⟨⟨t0, t1, t2, t3⟩, q0, q1, q2, q3⟩ := quad hk.1
        have hlt := heap_lt' hk.1
        have hnt := hk.2
        have hmt := Ne.symm hnt
        clear hk q0 q1 q2 q3
        have HB1 := Lib.hid ((Below.refl wn.heap.size wn).drew)
        have HB2 := Lib.hid (fun o : Obj => ((Below.refl wn.heap.size wn).alloc (Nat.le_refl _) o).drew)
        have F1 := Lib.hid (F.out.go HB1.out)
        have F2 := Lib.hid (fun o : Obj => F.out.go (HB2.out o))
        have I1 := Lib.hid (I.out.below HB1.out)
        have I2 := Lib.hid (fun o : Obj => I.out.below (HB2.out o))
        have HKA : Hid (∀ (o : Obj) (w2 : World), Gr R (wn.alloc o).drew w2 → w2.heap[wn.heap.size]? = some o) := fun o w2 hg => mine (w := wn) (hg := ⟨hg.os, hg.tape, hg.output, hg.size, hg.block⟩) F.out.qr.lt
        have HK1 := Lib.hid (F1.out.keep _ (List.Mem.tail _ (List.Mem.head _))).1
        have HT1 := Lib.hid (F1.out.keep _ (List.Mem.head _)).1
        have HK1a := Lib.hid (fun o => ((F2.out o).keep _ (List.Mem.tail _ (List.Mem.head _))).1)
        have HT1a := Lib.hid (fun o => ((F2.out o).keep _ (List.Mem.head _)).1)
        skip
        go_region_with (first
          | (go_at_call 49; with_reducible refine Calls.mono (HP.out _ F1.out.qr) ?_; rintro e' w2 ⟨rfl, hr, hg⟩; clear x0 x1 x2 x3 x4 x5 x6 x7 x8 x9 xX y0 y1 y2 y3 y4 y5 y6 y7 y8 y9 yX hlx hnx hmx; clear t0 t1 t2 t3 hnt hmt; have F4 := Lib.hid ((F1.out).step hr hg); have I4 := Lib.hid ((I1.out).gr HRB.out hg); have HK2 := Lib.hid (F4.out.keep _ (List.Mem.tail _ (List.Mem.head _))).1; have HT2 := Lib.hid (F4.out.keep _ (List.Mem.head _)).1; obtain ⟨⟨v0, v1, v2, v3, v4, v5, v6, v7, v8, v9, vX⟩, p0, p1, p2, p3, p4, p5, p6, p7, p8, p9, pX⟩ := hen HK2.out; have hlv := heap_lt' HK2.out; obtain ⟨⟨s0, s1, s2, s3⟩, r0, r1, r2, r3⟩ := quad HT2.out; have hls := heap_lt' HT2.out; clear hr hg)
          | (go_at_call 49; with_reducible refine Calls.mono (HP.out _ (F2.out _).qr) ?_; rintro e' w2 ⟨rfl, hr, hg⟩; clear x0 x1 x2 x3 x4 x5 x6 x7 x8 x9 xX y0 y1 y2 y3 y4 y5 y6 y7 y8 y9 yX hlx hnx hmx; clear t0 t1 t2 t3 hnt hmt; have F4 := Lib.hid ((F2.out _).step hr hg); have I4 := Lib.hid ((I2.out _).gr HRB.out hg); have HK2 := Lib.hid (F4.out.keep _ (List.Mem.tail _ (List.Mem.head _))).1; have HT2 := Lib.hid (F4.out.keep _ (List.Mem.head _)).1; obtain ⟨⟨v0, v1, v2, v3, v4, v5, v6, v7, v8, v9, vX⟩, p0, p1, p2, p3, p4, p5, p6, p7, p8, p9, pX⟩ := hen HK2.out; have hlv := heap_lt' HK2.out; obtain ⟨⟨s0, s1, s2, s3⟩, r0, r1, r2, r3⟩ := quad HT2.out; have hls := heap_lt' HT2.out; have HKID := Lib.hid (HKA.out _ _ hg); clear hr hg))
        all_goals (clear HT1 HT1a HK1 HK1a F1 F2 I1 I2 HB1 HB2)
        all_goals first
          | (have hk9 := HKID.out; clear hk9; go_wp2_with fail
             go_roundg m
             case measure => omega
             case rel =>
               have hz2 : w.heap.size + 1 < w2.heap.size := heap_lt' (F4.out.keep _ (List.Mem.tail _ (List.Mem.tail _ (List.Mem.head _)))).1
               have hbx := put11_other (N := w.heap.size) HKID.out (by have := HWN.out; omega) (c0 := .int .i64 5) (c1 := .int .i64 0) (c2 := .string (cbs nm)) (c3 := .string ⟨#[]⟩) (c4 := .int .i64 0) (c5 := .slice (some ⟨wn.heap.size, 0, none⟩) 1 1) (c6 := .int .i64 t.at_) (c7 := .int .i64 0) (c8 := .int .i64 0) (c9 := .int .i64 0) (c10 := .int .i64 0)
               exact ⟨_, s5, _, _, _, _, _, _, _, _, _, _, _, _, _, ⟨(F4.out.write HH.out (List.Mem.tail _ (List.Mem.head _)) (List.Mem.tail _ (List.Mem.tail _ (List.Mem.head _))) (Nat.le_refl _) (by omega) (c0 := .int .i64 5) (c1 := .int .i64 0) (c2 := .string (cbs nm)) (c3 := .string ⟨#[]⟩) (c4 := .int .i64 0) (c5 := .slice (some ⟨wn.heap.size, 0, none⟩) 1 1) (c6 := .int .i64 t.at_) (c7 := .int .i64 0) (c8 := .int .i64 0) (c9 := .int .i64 0) (c10 := .int .i64 0)), IsOff.node1 hbx (by have := HBW.out; have := HWN.out; omega) (fun hh => by have := HWN.out; rcases hh with hh | hh <;> omega) (I4.out.put11 (.inl rfl)) rfl 5 0 nm [] 0 t.at_ 1⟩, H5.out⟩)
          | (go_wp2_with fail
             go_roundg m
             case measure => omega
             case rel =>
               have hz2 : w.heap.size + 1 < w2.heap.size := heap_lt' (F4.out.keep _ (List.Mem.tail _ (List.Mem.tail _ (List.Mem.head _)))).1
               have hbx := box_put11 (w := w2) (N := w.heap.size) (o := .cells #[.int .i64 kind, .int .i64 num, .string (cbs name), .string (cbs ofn), .int .i64 dims, .slice p ln c, .int .i64 at_, .int .i64 b, .int .i64 r, .int .i64 d, .int .i64 ref] 39) (c0 := .int .i64 5) (c1 := .int .i64 0) (c2 := .string (cbs nm)) (c3 := .string ⟨#[]⟩) (c4 := .int .i64 0) (c5 := .slice (some ⟨w2.heap.size, 0, none⟩) 1 1) (c6 := .int .i64 t.at_) (c7 := .int .i64 0) (c8 := .int .i64 0) (c9 := .int .i64 0) (c10 := .int .i64 0)
               exact ⟨_, s5, _, _, _, _, _, _, _, _, _, _, _, _, _, ⟨((F4.out.write HH.out (List.Mem.tail _ (List.Mem.head _)) (List.Mem.tail _ (List.Mem.tail _ (List.Mem.head _))) (Nat.le_refl _) (by omega) (c0 := .int .i64 5) (c1 := .int .i64 0) (c2 := .string (cbs nm)) (c3 := .string ⟨#[]⟩) (c4 := .int .i64 0) (c5 := .slice (some ⟨w2.heap.size, 0, none⟩) 1 1) (c6 := .int .i64 t.at_) (c7 := .int .i64 0) (c8 := .int .i64 0) (c9 := .int .i64 0) (c10 := .int .i64 0)).alloc _).sub (fun p hp => List.Mem.tail _ hp), IsOff.node1 hbx (by have := HBW.out; omega) (fun hh => by rcases hh with hh | hh <;> omega) ((I4.out.put11 (.inl rfl)).alloc _) rfl 5 0 nm [] 0 t.at_ 1⟩, H5.out⟩)
      | false =>
        have HV := Lib.hid hv
        clear hv
        cases hv2 : Qe.is ts s4 false [91] with
        | true =>
          obtain ⟨i0, s5, he, h5⟩ := beh_item HX1.out HV.out hv2
          generalize tokAt ts s4.k = t at htk h5
          unfold tokW at htk
          have HTK := Lib.hid htk
          have HE := Lib.hid he
          have H5 := Lib.hid h5
          have HV2 := Lib.hid hv2
          clear htk he h5 hv2 HX1
          go_wp2_with fail
          refine (qIs_any _ R S ts _ F.out.qr ⟨#[46]⟩ (by decide) false (by decide)).mono ?_
          rintro e' wl1 ⟨rfl, hb⟩
          have F2 := Lib.hid (F.out.go hb)
          clear F
          have F := F2
          clear F2
          have I2 := Lib.hid (I.out.below hb)
          clear I
          have I := I2
          clear I2
          clear hb
          try rw [HV.out]
          go_wp2_with fail
          refine (qIs_any _ R S ts _ F.out.qr ⟨#[91]⟩ (by decide) false (by decide)).mono ?_
          rintro e' wl2 ⟨rfl, hb⟩
          have F2 := Lib.hid (F.out.go hb)
          clear F
          have F := F2
          clear F2
          have I2 := Lib.hid (I.out.below hb)
          clear I
          have I := I2
          clear I2
          clear hb
          try rw [HV2.out]
          go_wp2_with fail
          refine (HTK.out _ F.out.qr).mono ?_
          rintro e' wl3 ⟨rfl, hb⟩
          have F2 := Lib.hid (F.out.go hb)
          clear F
          have F := F2
          clear F2
          have I2 := Lib.hid (I.out.below hb)
          clear I
          have I := I2
          clear I2
          clear hb
          go_wp2_with fail
          have HNT := Lib.hid (Nat.ne_of_gt (heap_lt' (F.out.keep _ (List.Mem.head _)).1))
          have F2 := Lib.hid (F.out.alloc (.cells #[.int .i64 t.kind, .string (cbs t.text), .int .i64 t.num, .int .i64 t.at_] 51))
          clear F
          have F := F2
          clear F2
          have I2 := Lib.hid (I.out.alloc (.cells #[.int .i64 t.kind, .string (cbs t.text), .int .i64 t.num, .int .i64 t.at_] 51))
          clear I
          have I := I2
          clear I2
          refine (qIs_any _ R S ts _ F.out.qr ⟨#[46]⟩ (by decide) false (by decide)).mono ?_
          rintro e' wl4 ⟨rfl, hb⟩
          have F2 := Lib.hid (F.out.go hb)
          clear F
          have F := F2
          clear F2
          have I2 := Lib.hid (I.out.below hb)
          clear I
          have I := I2
          clear I2
          clear hb
          try rw [HV.out]
          go_wp2_with fail
          refine (qOpens_any _ R S ts _ F.out.qr ⟨#[91]⟩ (noLetter _ (by decide))).mono ?_
          rintro e' wl5 ⟨rfl, hr, hg⟩
          have F2 := Lib.hid (F.out.step hr hg)
          clear F
          have F := F2
          clear F2
          have I2 := Lib.hid (I.out.gr HRB.out hg)
          clear I
          have I := I2
          clear I2
          clear hr hg
          go_wp2_with fail
          have HNZ := Lib.hid (heap_lt' (F.out.keep _ (List.Mem.tail _ (List.Mem.tail _ (List.Mem.head _)))).1)
          have hRB := F.out.qr.lt
          have hNB := heap_lt' (F.out.keep _ (List.Mem.tail _ (List.Mem.head _))).1
          refine (HREC.out _ _ HE.out _ F.out.qr).mono ?_
          rintro e' wl6 ⟨zk, zn, zs, zo, zd, zp, zl, zc, za, zb, zr, ze, zf, rfl, hi, hr, hg⟩
          have F2 := Lib.hid ((F.out.step hr hg).tree hi hNB hRB)
          clear F
          have F := F2
          clear F2
          have I2 := Lib.hid (I.out.gr HRB.out hg)
          clear I
          have I := I2
          clear I2
          clear hi hr hg hRB hNB
          go_wp2_with fail
          have HIZ := Lib.hid (F.out.trees _ (List.Mem.head _))
          have F2 := Lib.hid (F.out.alloc (.cells #[.int .i64 zk, .int .i64 zn, .string (cbs zs), .string (cbs zo), .int .i64 zd, .slice zp zl zc, .int .i64 za, .int .i64 zb, .int .i64 zr, .int .i64 ze, .int .i64 zf] 39))
          clear F
          have F := F2
          clear F2
          have I2 := Lib.hid (I.out.alloc (.cells #[.int .i64 zk, .int .i64 zn, .string (cbs zs), .string (cbs zo), .int .i64 zd, .slice zp zl zc, .int .i64 za, .int .i64 zb, .int .i64 zr, .int .i64 ze, .int .i64 zf] 39))
          clear I
          have I := I2
          clear I2
          refine (qCloses_any _ R S ts _ F.out.qr ⟨#[93]⟩ (noLetter _ (by decide))).mono ?_
          rintro e' wl7 ⟨rfl, hr, hg⟩
          have F2 := Lib.hid (F.out.step hr hg)
          clear F
          have F := F2
          clear F2
          have I2 := Lib.hid (I.out.gr HRB.out hg)
          clear I
          have I := I2
          clear I2
          clear hr hg
          have HIZ2 := Lib.hid (F.out.trees _ (List.Mem.head _))
          clear HIZ
          have hk := (F.out.keep _ (List.Mem.tail _ (List.Mem.tail _ (List.Mem.head _))))
          obtain ⟨⟨x0, x1, x2, x3, x4, x5, x6, x7, x8, x9, xX⟩, y0, y1, y2, y3, y4, y5, y6, y7, y8, y9, yX⟩ := hen hk.1
          have hlx := heap_lt' hk.1
          have hnx := hk.2
          clear hk
          have hmx := Ne.symm hnx
          have hk := (F.out.keep _ (List.Mem.tail _ (List.Mem.head _)))
          obtain ⟨⟨t0, t1, t2, t3⟩, q0, q1, q2, q3⟩ := quad hk.1
          have hlt := heap_lt' hk.1
          have hnt := hk.2
          have hmt := Ne.symm hnt
          clear hk q0 q1 q2 q3
          have hk := (F.out.keep _ (List.Mem.head _))
          obtain ⟨⟨d0, d1, d2, d3, d4, d5, d6, d7, d8, d9, dX⟩, g0, g1, g2, g3, g4, g5, g6, g7, g8, g9, gX⟩ := hen hk.1
          have hld := heap_lt' hk.1
          have hnd := hk.2
          clear hk
          go_wp2_with fail
          go_roundg m
          case measure => omega
          case rel =>
            have hz2 : w.heap.size + 1 < wl7.heap.size := heap_lt' (F.out.keep _ (List.Mem.tail _ (List.Mem.tail _ (List.Mem.tail _ (List.Mem.head _))))).1
            have hbx := box_put11 (w := wl7) (N := w.heap.size) (o := .cells #[.int .i64 kind, .int .i64 num, .string (cbs name), .string (cbs ofn), .int .i64 dims, .slice p ln c, .int .i64 at_, .int .i64 b, .int .i64 r, .int .i64 d, .int .i64 ref, .int .i64 zk, .int .i64 zn, .string (cbs zs), .string (cbs zo), .int .i64 zd, .slice zp zl zc, .int .i64 za, .int .i64 zb, .int .i64 zr, .int .i64 ze, .int .i64 zf] 39) (c0 := .int .i64 6) (c1 := .int .i64 0) (c2 := .string ⟨#[]⟩) (c3 := .string ⟨#[]⟩) (c4 := .int .i64 0) (c5 := .slice (some ⟨wl7.heap.size, 0, none⟩) 2 2) (c6 := .int .i64 t.at_) (c7 := .int .i64 0) (c8 := .int .i64 0) (c9 := .int .i64 0) (c10 := .int .i64 0)
            exact ⟨_, _, _, _, _, _, _, _, _, _, _, _, _, _, _, ⟨((F.out.write HH.out (List.Mem.tail _ (List.Mem.tail _ (List.Mem.head _))) (List.Mem.tail _ (List.Mem.tail _ (List.Mem.tail _ (List.Mem.head _)))) (Nat.le_refl _) (by omega) (c0 := .int .i64 6) (c1 := .int .i64 0) (c2 := .string ⟨#[]⟩) (c3 := .string ⟨#[]⟩) (c4 := .int .i64 0) (c5 := .slice (some ⟨wl7.heap.size, 0, none⟩) 2 2) (c6 := .int .i64 t.at_) (c7 := .int .i64 0) (c8 := .int .i64 0) (c9 := .int .i64 0) (c10 := .int .i64 0)).alloc _).sub (fun p hp => List.Mem.tail _ hp), IsOff.node2 hbx (by have := HBW.out; omega) (fun hh => by rcases hh with hh | hh <;> omega) ((I.out.put11 (.inl rfl)).alloc _) (IsOff.of ((HIZ2.out.1.put11 (N := w.heap.size) HIZ2.out.2.1).alloc _) (by have := HBW.out; have := HIZ2.out.2.1; omega) (fun q hq => by have := HNZ.out; rcases hq with rfl | rfl <;> omega)) rfl 6 0 [] [] 0 t.at_ 2⟩, H5.out⟩
        | false =>
          have hx := beh_end HX1.out HV.out hv2
          subst hx
          have HV2 := Lib.hid hv2
          clear hv2 HX1
          go_wp2_with fail
          refine (qIs_any _ R S ts _ F.out.qr ⟨#[46]⟩ (by decide) false (by decide)).mono ?_
          rintro e' wl1 ⟨rfl, hb⟩
          have F2 := Lib.hid (F.out.go hb)
          clear F
          have F := F2
          clear F2
          have I2 := Lib.hid (I.out.below hb)
          clear I
          have I := I2
          clear I2
          clear hb
          try rw [HV.out]
          go_wp2_with fail
          refine (qIs_any _ R S ts _ F.out.qr ⟨#[91]⟩ (by decide) false (by decide)).mono ?_
          rintro e' wl2 ⟨rfl, hb⟩
          have F2 := Lib.hid (F.out.go hb)
          clear F
          have F := F2
          clear F2
          have I2 := Lib.hid (I.out.below hb)
          clear I
          have I := I2
          clear I2
          clear hb
          try rw [HV2.out]
          have hk := (F.out.keep _ (List.Mem.head _))
          obtain ⟨⟨x0, x1, x2, x3, x4, x5, x6, x7, x8, x9, xX⟩, y0, y1, y2, y3, y4, y5, y6, y7, y8, y9, yX⟩ := hen hk.1
          have hlx := heap_lt' hk.1
          have hnx := hk.2
          clear hk
          have hmx := Ne.symm hnx
          have hk := (F.out.keep _ (List.Mem.tail _ (List.Mem.head _)))
          obtain ⟨⟨d0, d1, d2, d3, d4, d5, d6, d7, d8, d9, dX⟩, g0, g1, g2, g3, g4, g5, g6, g7, g8, g9, gX⟩ := hen hk.1
          have hld := heap_lt' hk.1
          have hnd := hk.2
          clear hk
          go_wp2_with fail
          have hn := (Nw.start F.out.gr).put11 (B := w.heap.size + 1) (Nat.le_succ _) (c0 := .int .i64 kind) (c1 := .int .i64 num) (c2 := .string (cbs name)) (c3 := .string (cbs ofn)) (c4 := .int .i64 dims) (c5 := .slice p ln c) (c6 := .int .i64 at_) (c7 := .int .i64 b) (c8 := .int .i64 r) (c9 := .int .i64 d) (c10 := .int .i64 ref)
          exact bodyPost_ret (v := .agg #[.int .i64 kind, .int .i64 num, .string (cbs name), .string (cbs ofn), .int .i64 dims, .slice p ln c, .int .i64 at_, .int .i64 b, .int .i64 r, .int .i64 d, .int .i64 ref]) (by simp [results, Tryd.results74, go_sem, d0, d1, d2, d3, d4, d5, d6, d7, d8, d9, dX]) rfl ⟨_, _, _, _, _, _, _, _, _, _, _, _, _, rfl, (I.out.put11 (.inr rfl)).now, HH.out.fin F.out.qr hn, hn.gr⟩
end Go.Proofs.YtnadaedibicaaaaDoor
