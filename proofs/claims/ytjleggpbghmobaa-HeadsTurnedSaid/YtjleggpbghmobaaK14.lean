/-
  The contracts of the answer's reader (runrigref3) over the p
-/
import Derived.Test.YtjleggpbghmobaaK01
import Derived.Test.YtjleggpbghmobaaK11
import Derived.Deep.RegionWith
set_option maxRecDepth 8000
set_option maxHeartbeats 8000000
namespace Go.Proofs.Ytjleggpbghmobaa
open Go.RowKit
open Px (RT tokAt isT)
open Pe (inc dec Ex)
open Qe (Q)
theorem Fq.two {w wr:World}{R:Nat}{S:Value}{ts:List RT}{s:Q}{L:List (Nat × Obj)}{T:List (Nat × Ex × List Value)}(h:Fq w wr R S ts s L T){a b:Nat × Obj}(ha:a ∈ L)(hb:b ∈ L):Fq w wr R S ts s [a,b] []:=
 h.sub fun _p hp => (List.mem_cons.1 hp).elim (fun e => e ▸ ha) fun hp => (List.mem_cons.1 hp).elim (fun e => e ▸ hb) fun hp => (List.not_mem_nil hp).elim
theorem zDL (w:World)(R:Nat)(S:Value)(ts:List RT)(s:Q)(h:Qr w R S ts s)(rec:Nat → Q → Qe.Out)(hrec:QRecOk ts rec)(B:Nat)(hB:R < B)(hBw:B ≤ w.heap.size)(gg:Nat)(e0:Ex)(zk zn:Int)(zs zo:List UInt8)(zd:Int)(zp:Option Addr)(zl zc:Nat)(za zb zr ze zf:Int)(hof:Is w B e0 (exCells zk zn zs zo zd (.slice zp zl zc) za zb zr ze zf))(x:Ex × Q)(hx:Qe.behind ts rec gg e0 s = some x) :
 Calls Try.prog 66 #[.pointer (some ⟨R,0,none⟩),.agg #[.int .i64 zk,.int .i64 zn,.string (cbs zs),.string (cbs zo),.int .i64 zd,.slice zp zl zc,.int .i64 za,.int .i64 zb,.int .i64 zr,.int .i64 ze,.int .i64 zf]] w (QPost B w R S ts x):=by
 have HX:=vH hx
 have HREC:=vH (fun (s2:Q) (y:Ex × Q) (hy:rec 0 s2 = some y) w1 hh => hrec 0 s2 y (by decide) hy w1 R S hh)
 have HRB:=vH hB
 have HBW:=vH hBw
 have hlt:=h.lt
 have HH:=vH h
 have f0:=((Fq.start h).alloc (.cells #[.int .i64 zk,.int .i64 zn,.string (cbs zs),.string (cbs zo),.int .i64 zd,.slice zp zl zc,.int .i64 za,.int .i64 zb,.int .i64 zr,.int .i64 ze,.int .i64 zf] 120)).alloc (.cells vE 120)
 rw [zB] at f0
 have HO:=vH (show Hoq w ((w.alloc (.cells #[.int .i64 zk,.int .i64 zn,.string (cbs zs),.string (cbs zo),.int .i64 zd,.slice zp zl zc,.int .i64 za,.int .i64 zb,.int .i64 zr,.int .i64 ze,.int .i64 zf] 120)).alloc (.cells vE 120)) R S ts B w.heap.size (w.heap.size + 1) zk zn zs zo zd zp zl zc za zb zr ze zf e0 s from ⟨f0.two vB vA,((IsOff.top hof (fun k hk => by rcases hk with rfl | rfl <;> omega)).alloc _).alloc _⟩)
 clear f0 hof h hx hrec hB hBw
 go_in
 go_wp2_with fail
 go_loopg [] gg (fun m wr => ∃ e s4 kind num name ofn dims p ln c at_ b r d ref,Hoq w wr R S ts B w.heap.size (w.heap.size + 1) kind num name ofn dims p ln c at_ b r d ref e s4 ∧ Qe.behind ts rec m e s4 = some x)
 case atStart => exact ⟨_,_,_,_,_,_,_,_,_,_,_,_,_,_,_,HO.out,HX.out⟩
 case round =>
  obtain ⟨e,s4,kind,num,name,ofn,dims,p,ln,c,at_,b,r,d,ref,ho,hx⟩:=hrel
  have F:=vH ho.f
  have I:=vH ho.is
  have HX1:=vH hx
  clear ho hx HO HX
  cases gk with
  | zero => exact (zHz HX1.out).elim
  | succ m =>
    have htk:=fun w1 hh => zAa w1 R S ts s4 hh
    cases hv:Qe.is ts s4 false [46] with
    | true =>
      have h5:=zIR HX1.out hv
      have hp:=fun w1 hh => zAj w1 R S ts (Qe.next s4) hh
      generalize Qe.name ts (Qe.next s4) = y at hp h5
      obtain ⟨nm,s5⟩:=y
      dsimp only at hp h5
      generalize tokAt ts s4.k = t at htk h5
      unfold tokW at htk
      have HTK:=vH htk
      have HP:=vH hp
      have H5:=vH h5
      have HV:=vH hv
      clear htk hp h5 hv HX1
      go_wp2_with fail
      refine (zG _ R S ts _ F.out.qr ⟨#[46]⟩ (by decide) false (by decide)).mono ?_
      rintro e' wl1 ⟨rfl,hb⟩
      replace F:=vH (F.out.go hb)
      replace I:=vH (I.out.below hb)
      clear hb
      try rw [HV.out]
      go_wp2_with fail
      refine (HTK.out _ F.out.qr).mono ?_
      rintro e' wl2 ⟨rfl,hb⟩
      replace F:=vH (F.out.go hb)
      replace I:=vH (I.out.below hb)
      clear hb
      go_wp2_with fail
      have HNT:=vH (Nat.ne_of_gt (zA (F.out.keep _ vA).1))
      replace F:=vH (F.out.alloc (.cells (vT t) 71))
      replace I:=vH (I.out.alloc (.cells (vT t) 71))
      refine (zG _ R S ts _ F.out.qr ⟨#[46]⟩ (by decide) false (by decide)).mono ?_
      rintro e' wl3 ⟨rfl,hb⟩
      replace F:=vH (F.out.go hb)
      replace I:=vH (I.out.below hb)
      clear hb
      try rw [HV.out]
      obtain ⟨⟨c0,c1,c2,c3,c4⟩,fr,hRl⟩:=F.out.qr.cells
      have fr1:=fr 1
      have fr2:=fr 2
      clear fr
      go_wp2_with fail
      clear c0 c1 c2 c3 c4 fr1 fr2 hRl
      have F2:=vH (F.out.set_k (inc s4.k))
      change Hid (Fq _ _ _ _ _ (Qe.next s4) _ _) at F2
      clear F
      have F:=F2
      clear F2
      replace I:=vH (I.out.gr HRB.out ((Gr.refl R _).set 1 (.int .i64 (inc s4.k))))
      obtain ⟨wn,hwn⟩:∃ wn,wn = wl3.setCell ⟨R,1,none⟩ (.int .i64 (inc s4.k)):=⟨_,rfl⟩
      rw [← hwn] at F I
      change Code.wp _ _ _ _ (wl3.setCell ⟨R,1,none⟩ (.int .i64 (inc s4.k)))
      rw [← hwn]
      clear hwn
      have HWN:=vH (show w.heap.size + 1 < wn.heap.size from zA (F.out.keep _ vC).1)
      clear HTK
      have hk:=(F.out.keep _ vB)
      obtain ⟨⟨x0,x1,x2,x3,x4,x5,x6,x7,x8,x9,xX⟩,y0,y1,y2,y3,y4,y5,y6,y7,y8,y9,yX⟩:=hen hk.1
      have hlx:=zA hk.1
      have hnx:=hk.2
      clear hk
      have hmx:=Ne.symm hnx
      have hk:=(F.out.keep _ vA)
      obtain ⟨⟨t0,t1,t2,t3⟩,q0,q1,q2,q3⟩:=quad hk.1
      have hlt:=zA hk.1
      have hnt:=hk.2
      have hmt:=Ne.symm hnt
      clear hk q0 q1 q2 q3
      have HB1:=vH ((Below.refl wn.heap.size wn).drew)
      have HB2:=vH (fun o:Obj => ((Below.refl wn.heap.size wn).alloc (Nat.le_refl _) o).drew)
      have F1:=vH (F.out.go HB1.out)
      have F2:=vH (fun o:Obj => F.out.go (HB2.out o))
      have I1:=vH (I.out.below HB1.out)
      have I2:=vH (fun o:Obj => I.out.below (HB2.out o))
      have HKA:Hid (∀ (o:Obj) (w2:World),Gr R (wn.alloc o).drew w2 → w2.heap[wn.heap.size]? = some o):=fun o w2 hg => mine (w:=wn) (hg:=⟨hg.os,hg.tape,hg.output,hg.size,hg.block⟩) F.out.qr.lt
      have HK1:=vH (F1.out.keep _ vB).1
      have HT1:=vH (F1.out.keep _ vA).1
      have HK1a:=vH (fun o => ((F2.out o).keep _ vB).1)
      have HT1a:=vH (fun o => ((F2.out o).keep _ vA).1)
      skip
      go_region_with (first
       | (go_at_call 39; with_reducible refine Calls.mono (HP.out _ F1.out.qr) ?_; rintro e' w2 ⟨rfl,hr,hg⟩; clear x0 x1 x2 x3 x4 x5 x6 x7 x8 x9 xX y0 y1 y2 y3 y4 y5 y6 y7 y8 y9 yX hlx hnx hmx; clear t0 t1 t2 t3 hnt hmt; have F4:=vH ((F1.out).step hr hg); have I4:=vH ((I1.out).gr HRB.out hg); have HK2:=vH (F4.out.keep _ vB).1; have HT2:=vH (F4.out.keep _ vA).1; obtain ⟨⟨v0,v1,v2,v3,v4,v5,v6,v7,v8,v9,vX⟩,p0,p1,p2,p3,p4,p5,p6,p7,p8,p9,pX⟩:=hen HK2.out; have hlv:=zA HK2.out; obtain ⟨⟨s0,s1,s2,s3⟩,r0,r1,r2,r3⟩:=quad HT2.out; have hls:=zA HT2.out; clear hr hg)
       | (go_at_call 39; with_reducible refine Calls.mono (HP.out _ (F2.out _).qr) ?_; rintro e' w2 ⟨rfl,hr,hg⟩; clear x0 x1 x2 x3 x4 x5 x6 x7 x8 x9 xX y0 y1 y2 y3 y4 y5 y6 y7 y8 y9 yX hlx hnx hmx; clear t0 t1 t2 t3 hnt hmt; have F4:=vH ((F2.out _).step hr hg); have I4:=vH ((I2.out _).gr HRB.out hg); have HK2:=vH (F4.out.keep _ vB).1; have HT2:=vH (F4.out.keep _ vA).1; obtain ⟨⟨v0,v1,v2,v3,v4,v5,v6,v7,v8,v9,vX⟩,p0,p1,p2,p3,p4,p5,p6,p7,p8,p9,pX⟩:=hen HK2.out; have hlv:=zA HK2.out; obtain ⟨⟨s0,s1,s2,s3⟩,r0,r1,r2,r3⟩:=quad HT2.out; have hls:=zA HT2.out; have HKID:=vH (HKA.out _ _ hg); clear hr hg))
      all_goals (clear HT1 HT1a HK1 HK1a F1 F2 I1 I2 HB1 HB2)
      all_goals first
       | (have hk9:=HKID.out; clear hk9; go_wp2_with fail
          go_roundg m
          case measure => omega
          case rel =>
           have hz2:w.heap.size + 1 < w2.heap.size:=zA (F4.out.keep _ vC).1
           have hbx:=zO (N:=w.heap.size) HKID.out (by have:=HWN.out; omega) (c0:=.int .i64 5) (c1:=.int .i64 0) (c2:=.string (cbs nm)) (c3:=.string ⟨#[]⟩) (c4:=.int .i64 0) (c5:=.slice (some ⟨wn.heap.size,0,none⟩) 1 1) (c6:=.int .i64 t.at_) (c7:=.int .i64 0) (c8:=.int .i64 0) (c9:=.int .i64 0) (c10:=.int .i64 0)
           exact ⟨_,s5,_,_,_,_,_,_,_,_,_,_,_,_,_,⟨(F4.out.write HH.out vB vC (Nat.le_refl _) (by omega) (c0:=.int .i64 5) (c1:=.int .i64 0) (c2:=.string (cbs nm)) (c3:=.string ⟨#[]⟩) (c4:=.int .i64 0) (c5:=.slice (some ⟨wn.heap.size,0,none⟩) 1 1) (c6:=.int .i64 t.at_) (c7:=.int .i64 0) (c8:=.int .i64 0) (c9:=.int .i64 0) (c10:=.int .i64 0)),IsOff.node1 hbx (by have:=HBW.out; have:=HWN.out; omega) (fun hh => by have:=HWN.out; rcases hh with hh | hh <;> omega) (I4.out.put11 (.inl rfl)) rfl 5 0 nm [] 0 t.at_ 1⟩,H5.out⟩)
       | (go_wp2_with fail
          go_roundg m
          case measure => omega
          case rel =>
           have hz2:w.heap.size + 1 < w2.heap.size:=zA (F4.out.keep _ vC).1
           have hbx:=zBv (w:=w2) (N:=w.heap.size) (o:=.cells #[.int .i64 kind,.int .i64 num,.string (cbs name),.string (cbs ofn),.int .i64 dims,.slice p ln c,.int .i64 at_,.int .i64 b,.int .i64 r,.int .i64 d,.int .i64 ref] 120) (c0:=.int .i64 5) (c1:=.int .i64 0) (c2:=.string (cbs nm)) (c3:=.string ⟨#[]⟩) (c4:=.int .i64 0) (c5:=.slice (some ⟨w2.heap.size,0,none⟩) 1 1) (c6:=.int .i64 t.at_) (c7:=.int .i64 0) (c8:=.int .i64 0) (c9:=.int .i64 0) (c10:=.int .i64 0)
           exact ⟨_,s5,_,_,_,_,_,_,_,_,_,_,_,_,_,⟨((F4.out.write HH.out vB vC (Nat.le_refl _) (by omega) (c0:=.int .i64 5) (c1:=.int .i64 0) (c2:=.string (cbs nm)) (c3:=.string ⟨#[]⟩) (c4:=.int .i64 0) (c5:=.slice (some ⟨w2.heap.size,0,none⟩) 1 1) (c6:=.int .i64 t.at_) (c7:=.int .i64 0) (c8:=.int .i64 0) (c9:=.int .i64 0) (c10:=.int .i64 0)).alloc _).sub (fun p hp => List.Mem.tail _ hp),IsOff.node1 hbx (by have:=HBW.out; omega) (fun hh => by rcases hh with hh | hh <;> omega) ((I4.out.put11 (.inl rfl)).alloc _) rfl 5 0 nm [] 0 t.at_ 1⟩,H5.out⟩)
    | false =>
      have HV:=vH hv
      clear hv
      cases hv2:Qe.is ts s4 false [91] with
      | true =>
        obtain ⟨i0,s5,he,h5⟩:=zHA HX1.out HV.out hv2
        generalize tokAt ts s4.k = t at htk h5
        unfold tokW at htk
        have HTK:=vH htk
        have HE:=vH he
        have H5:=vH h5
        have HV2:=vH hv2
        clear htk he h5 hv2 HX1
        go_wp2_with fail
        refine (zG _ R S ts _ F.out.qr ⟨#[46]⟩ (by decide) false (by decide)).mono ?_
        rintro e' wl1 ⟨rfl,hb⟩
        replace F:=vH (F.out.go hb)
        replace I:=vH (I.out.below hb)
        clear hb
        try rw [HV.out]
        go_wp2_with fail
        refine (zG _ R S ts _ F.out.qr ⟨#[91]⟩ (by decide) false (by decide)).mono ?_
        rintro e' wl2 ⟨rfl,hb⟩
        replace F:=vH (F.out.go hb)
        replace I:=vH (I.out.below hb)
        clear hb
        try rw [HV2.out]
        go_wp2_with fail
        refine (HTK.out _ F.out.qr).mono ?_
        rintro e' wl3 ⟨rfl,hb⟩
        replace F:=vH (F.out.go hb)
        replace I:=vH (I.out.below hb)
        clear hb
        go_wp2_with fail
        have HNT:=vH (Nat.ne_of_gt (zA (F.out.keep _ vA).1))
        replace F:=vH (F.out.alloc (.cells (vT t) 71))
        replace I:=vH (I.out.alloc (.cells (vT t) 71))
        refine (zG _ R S ts _ F.out.qr ⟨#[46]⟩ (by decide) false (by decide)).mono ?_
        rintro e' wl4 ⟨rfl,hb⟩
        replace F:=vH (F.out.go hb)
        replace I:=vH (I.out.below hb)
        clear hb
        try rw [HV.out]
        go_wp2_with fail
        refine (zAm _ R S ts _ F.out.qr ⟨#[91]⟩ (zAb _ (by decide))).mono ?_
        rintro e' wl5 ⟨rfl,hr,hg⟩
        replace F:=vH (F.out.step hr hg)
        replace I:=vH (I.out.gr HRB.out hg)
        clear hr hg
        go_wp2_with fail
        have HNZ:=vH (zA (F.out.keep _ vC).1)
        have hRB:=F.out.qr.lt
        have hNB:=zA (F.out.keep _ vB).1
        refine (HREC.out _ _ HE.out _ F.out.qr).mono ?_
        rintro e' wl6 ⟨zk,zn,zs,zo,zd,zp,zl,zc,za,zb,zr,ze,zf,rfl,hi,hr,hg⟩
        replace F:=vH ((F.out.step hr hg).tree hi hNB hRB)
        replace I:=vH (I.out.gr HRB.out hg)
        clear hi hr hg hRB hNB
        go_wp2_with fail
        have HIZ:=vH (F.out.trees _ vA)
        replace F:=vH (F.out.alloc (.cells #[.int .i64 zk,.int .i64 zn,.string (cbs zs),.string (cbs zo),.int .i64 zd,.slice zp zl zc,.int .i64 za,.int .i64 zb,.int .i64 zr,.int .i64 ze,.int .i64 zf] 120))
        replace I:=vH (I.out.alloc (.cells #[.int .i64 zk,.int .i64 zn,.string (cbs zs),.string (cbs zo),.int .i64 zd,.slice zp zl zc,.int .i64 za,.int .i64 zb,.int .i64 zr,.int .i64 ze,.int .i64 zf] 120))
        refine (zAk _ R S ts _ F.out.qr ⟨#[93]⟩ (zAb _ (by decide))).mono ?_
        rintro e' wl7 ⟨rfl,hr,hg⟩
        replace F:=vH (F.out.step hr hg)
        replace I:=vH (I.out.gr HRB.out hg)
        clear hr hg
        have HIZ2:=vH (F.out.trees _ vA)
        clear HIZ
        have hk:=(F.out.keep _ vC)
        obtain ⟨⟨x0,x1,x2,x3,x4,x5,x6,x7,x8,x9,xX⟩,y0,y1,y2,y3,y4,y5,y6,y7,y8,y9,yX⟩:=hen hk.1
        have hlx:=zA hk.1
        have hnx:=hk.2
        clear hk
        have hmx:=Ne.symm hnx
        have hk:=(F.out.keep _ vB)
        obtain ⟨⟨t0,t1,t2,t3⟩,q0,q1,q2,q3⟩:=quad hk.1
        have hlt:=zA hk.1
        have hnt:=hk.2
        have hmt:=Ne.symm hnt
        clear hk q0 q1 q2 q3
        have hk:=(F.out.keep _ vA)
        obtain ⟨⟨d0,d1,d2,d3,d4,d5,d6,d7,d8,d9,dX⟩,g0,g1,g2,g3,g4,g5,g6,g7,g8,g9,gX⟩:=hen hk.1
        have hld:=zA hk.1
        have hnd:=hk.2
        clear hk
        go_wp2_with fail
        go_roundg m
        case measure => omega
        case rel =>
         have hz2:w.heap.size + 1 < wl7.heap.size:=zA (F.out.keep _ vD).1
         have hbx:=zBv (w:=wl7) (N:=w.heap.size) (o:=.cells #[.int .i64 kind,.int .i64 num,.string (cbs name),.string (cbs ofn),.int .i64 dims,.slice p ln c,.int .i64 at_,.int .i64 b,.int .i64 r,.int .i64 d,.int .i64 ref,.int .i64 zk,.int .i64 zn,.string (cbs zs),.string (cbs zo),.int .i64 zd,.slice zp zl zc,.int .i64 za,.int .i64 zb,.int .i64 zr,.int .i64 ze,.int .i64 zf] 120) (c0:=.int .i64 6) (c1:=.int .i64 0) (c2:=.string ⟨#[]⟩) (c3:=.string ⟨#[]⟩) (c4:=.int .i64 0) (c5:=.slice (some ⟨wl7.heap.size,0,none⟩) 2 2) (c6:=.int .i64 t.at_) (c7:=.int .i64 0) (c8:=.int .i64 0) (c9:=.int .i64 0) (c10:=.int .i64 0)
         exact ⟨_,_,_,_,_,_,_,_,_,_,_,_,_,_,_,⟨((F.out.write HH.out vC vD (Nat.le_refl _) (by omega) (c0:=.int .i64 6) (c1:=.int .i64 0) (c2:=.string ⟨#[]⟩) (c3:=.string ⟨#[]⟩) (c4:=.int .i64 0) (c5:=.slice (some ⟨wl7.heap.size,0,none⟩) 2 2) (c6:=.int .i64 t.at_) (c7:=.int .i64 0) (c8:=.int .i64 0) (c9:=.int .i64 0) (c10:=.int .i64 0)).alloc _).sub (fun p hp => List.Mem.tail _ hp),IsOff.node2 hbx (by have:=HBW.out; omega) (fun hh => by rcases hh with hh | hh <;> omega) ((I.out.put11 (.inl rfl)).alloc _) (IsOff.of ((HIZ2.out.1.put11 (N:=w.heap.size) HIZ2.out.2.1).alloc _) (by have:=HBW.out; have:=HIZ2.out.2.1; omega) (fun q hq => by have:=HNZ.out; rcases hq with rfl | rfl <;> omega)) rfl 6 0 [] [] 0 t.at_ 2⟩,H5.out⟩
      | false =>
        have hx:=zIQ HX1.out HV.out hv2
        subst hx
        have HV2:=vH hv2
        clear hv2 HX1
        go_wp2_with fail
        refine (zG _ R S ts _ F.out.qr ⟨#[46]⟩ (by decide) false (by decide)).mono ?_
        rintro e' wl1 ⟨rfl,hb⟩
        replace F:=vH (F.out.go hb)
        replace I:=vH (I.out.below hb)
        clear hb
        try rw [HV.out]
        go_wp2_with fail
        refine (zG _ R S ts _ F.out.qr ⟨#[91]⟩ (by decide) false (by decide)).mono ?_
        rintro e' wl2 ⟨rfl,hb⟩
        replace F:=vH (F.out.go hb)
        replace I:=vH (I.out.below hb)
        clear hb
        try rw [HV2.out]
        have hk:=(F.out.keep _ vA)
        obtain ⟨⟨x0,x1,x2,x3,x4,x5,x6,x7,x8,x9,xX⟩,y0,y1,y2,y3,y4,y5,y6,y7,y8,y9,yX⟩:=hen hk.1
        have hlx:=zA hk.1
        have hnx:=hk.2
        clear hk
        have hmx:=Ne.symm hnx
        have hk:=(F.out.keep _ vB)
        obtain ⟨⟨d0,d1,d2,d3,d4,d5,d6,d7,d8,d9,dX⟩,g0,g1,g2,g3,g4,g5,g6,g7,g8,g9,gX⟩:=hen hk.1
        have hld:=zA hk.1
        have hnd:=hk.2
        clear hk
        go_wp2_with fail
        have hn:=(Nw.start F.out.gr).put11 (B:=w.heap.size + 1) (Nat.le_succ _) (c0:=.int .i64 kind) (c1:=.int .i64 num) (c2:=.string (cbs name)) (c3:=.string (cbs ofn)) (c4:=.int .i64 dims) (c5:=.slice p ln c) (c6:=.int .i64 at_) (c7:=.int .i64 b) (c8:=.int .i64 r) (c9:=.int .i64 d) (c10:=.int .i64 ref)
        exact bodyPost_ret (v:=.agg #[.int .i64 kind,.int .i64 num,.string (cbs name),.string (cbs ofn),.int .i64 dims,.slice p ln c,.int .i64 at_,.int .i64 b,.int .i64 r,.int .i64 d,.int .i64 ref]) (by simp [results,Try.results66,go_sem,d0,d1,d2,d3,d4,d5,d6,d7,d8,d9,dX]) rfl ⟨_,_,_,_,_,_,_,_,_,_,_,_,_,rfl,(I.out.put11 (.inr rfl)).now,HH.out.fin F.out.qr hn,hn.gr⟩
end Go.Proofs.Ytjleggpbghmobaa
