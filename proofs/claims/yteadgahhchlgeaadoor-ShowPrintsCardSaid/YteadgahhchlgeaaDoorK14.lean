/-
  The contracts of the answer's reader (runrigref3) over the p
-/
import Derived.Test.YteadgahhchlgeaaDoorK11
import Derived.Test.YteadgahhchlgeaaDoorK12
import Derived.Test.YteadgahhchlgeaaDoorK13
import Derived.Test.YteadgahhchlgeaaDoorK02
import Derived.Deep.RegionHeld3
import Derived.Deep.RegionWith
set_option maxRecDepth 8000
set_option maxHeartbeats 8000000
namespace Go.Proofs.YteadgahhchlgeaaDoor
open Go.RowKit
open Px (RT tokAt isT)
open Pe (inc dec Ex)
open Qe (Q)
theorem zJN (w:World)(R:Nat)(S:Value)(ts:List RT)(s:Q)(h:Qr w R S ts s)(rec:Nat → Q → Qe.Out)(hrec:QRecOk ts rec)(hv1:Qe.is ts s false [45] = true)(e0:Ex)(s2:Q)(he:rec 5 (Qe.opens ts s [45]) = some (e0,s2)) :
 Calls Tryd.prog 54 #[.pointer (some ⟨R,0,none⟩)] w (QPost w.heap.size w R S ts (Ex.of 12 0 [] [] 0 [e0] (tokAt ts s.k).at_,⟨s2.k,dec s2.o,s2.E,s2.F⟩)):=by
 have HE:=vH (fun w1 hh => hrec 5 _ (e0,s2) (by decide) he w1 R S hh)
 have HV1:=vH hv1
 have htx:=(is_text hv1).2.2
 have htk:=fun w1 hh => zAt w1 R S ts s hh
 generalize tokAt ts s.k = t at htk htx ⊢
 obtain ⟨tk,tx,tn,ta⟩:=t
 dsimp only at htx ⊢
 subst htx
 unfold tokW at htk
 dsimp only at htk
 have HTK:=vH htk
 clear htk hrec he hv1
 have hlt:=h.lt
 have HH:=vH h
 have F:=vH ((Fq.start h).alloc (.cells vE 45))
 clear h
 go_in
 go_wp2_with fail
 refine (HTK.out _ F.out.qr).mono ?_
 rintro e u1 ⟨rfl,hb⟩
 replace F:=vH (F.out.go hb)
 clear hb
 have hNB0:=zA (F.out.keep _ vA).1
 go_wp2_with fail
 replace F:=vH (F.out.alloc (.cells #[.int .i64 tk,.string (cbs [45]),.int .i64 tn,.int .i64 ta] 71))
 refine (zI _ R S ts _ F.out.qr ⟨#[45]⟩ (by decide) false (by decide)).mono ?_
 rintro e u2 ⟨rfl,hb⟩
 replace F:=vH (F.out.go hb)
 clear hb
 try rw [HV1.out]
 have hk:=(F.out.keep _ vA)
 obtain ⟨⟨t0,t1,t2,t3⟩,q0,q1,q2,q3⟩:=quad hk.1
 have hlt:=zA hk.1
 have hnt:=hk.2
 have hmt:=Ne.symm hnt
 clear hk q0 q1 q2 q3
 go_wp2_with fail
 clear t0 t1 t2 t3 hlt hnt hmt
 refine (zAM _ R S ts _ F.out.qr ⟨#[45]⟩ (zAu _ (by decide))).mono ?_
 rintro e u3 ⟨rfl,hr,hg⟩
 replace F:=vH (F.out.step hr hg)
 clear hr hg
 go_wp2_with fail
 have hRB:=F.out.qr.lt
 have hNB:=zA (F.out.keep _ vB).1
 refine (HE.out _ F.out.qr).mono ?_
 rintro e u4 ⟨qk,qn,qs,qo,qd,qp,ql,qc,qa,qb,qr,qe,qf,rfl,hi,hr,hg⟩
 replace F:=vH ((F.out.step hr hg).tree hi hNB hRB)
 clear hi hr hg hRB hNB
 obtain ⟨⟨c0,c1,c2,c3,c4⟩,fr,hRl⟩:=F.out.qr.cells
 have fr1:=fr 1
 have fr2:=fr 2
 clear fr
 have hk:=(F.out.keep _ vA)
 obtain ⟨⟨t0,t1,t2,t3⟩,q0,q1,q2,q3⟩:=quad hk.1
 have hlt:=zA hk.1
 have hnt:=hk.2
 have hmt:=Ne.symm hnt
 clear hk q0 q1 q2 q3
 have hk:=(F.out.keep _ vB)
 obtain ⟨⟨d0,d1,d2,d3,d4,d5,d6,d7,d8,d9,dX⟩,g0,g1,g2,g3,g4,g5,g6,g7,g8,g9,gX⟩:=hen hk.1
 have hld:=zA hk.1
 have hnd:=hk.2
 clear hk
 go_wp2_with fail
 replace F:=vH (F.out.set_o (dec s2.o))
 have hn:=(((Nw.start F.out.gr).pv (.int .i64 12) (.int .i64 0) (.string ⟨#[]⟩) (.string ⟨#[]⟩) (.int .i64 0) (.slice (some ⟨u4.heap.size + 1,0,none⟩) 1 1) (.int .i64 ta) (.int .i64 0) (.int .i64 0) (.int .i64 0) (.int .i64 0)).alloc (.cells #[.int .i64 qk,.int .i64 qn,.string (cbs qs),.string (cbs qo),.int .i64 qd,.slice qp ql qc,.int .i64 qa,.int .i64 qb,.int .i64 qr,.int .i64 qe,.int .i64 qf] 45)).alloc (.cells #[.int .i64 qk,.int .i64 qn,.string (cbs qs),.string (cbs qo),.int .i64 qd,.slice qp ql qc,.int .i64 qa,.int .i64 qb,.int .i64 qr,.int .i64 qe,.int .i64 qf] 45)
 have hbx:=zEH (w:=u4.setCell ⟨R,2,none⟩ (.int .i64 (dec s2.o))) (N:=w.heap.size) (o:=.cells #[.int .i64 qk,.int .i64 qn,.string (cbs qs),.string (cbs qo),.int .i64 qd,.slice qp ql qc,.int .i64 qa,.int .i64 qb,.int .i64 qr,.int .i64 qe,.int .i64 qf] 45) (o2:=.cells #[.int .i64 qk,.int .i64 qn,.string (cbs qs),.string (cbs qo),.int .i64 qd,.slice qp ql qc,.int .i64 qa,.int .i64 qb,.int .i64 qr,.int .i64 qe,.int .i64 qf] 45) (c0:=.int .i64 12) (c1:=.int .i64 0) (c2:=.string ⟨#[]⟩) (c3:=.string ⟨#[]⟩) (c4:=.int .i64 0) (c5:=.slice (some ⟨u4.heap.size + 1,0,none⟩) 1 1) (c6:=.int .i64 ta) (c7:=.int .i64 0) (c8:=.int .i64 0) (c9:=.int .i64 0) (c10:=.int .i64 0)
 rw [zY] at hbx
 have hle:w.heap.size ≤ u4.heap.size + 1:=by omega
 exact bodyPost_ret (v:=.agg #[.int .i64 12,.int .i64 0,.string ⟨#[]⟩,.string ⟨#[]⟩,.int .i64 0,.slice (some ⟨u4.heap.size + 1,0,none⟩) 1 1,.int .i64 ta,.int .i64 0,.int .i64 0,.int .i64 0,.int .i64 0]) (by simp [results,Tryd.results54,go_sem,hld,d0,d1,d2,d3,d4,d5,d6,d7,d8,d9,dX]) rfl ⟨_,_,_,_,_,_,_,_,_,_,_,_,_,rfl,Is.node1 hbx hle (Is.lower (Nat.le_of_lt (F.out.trees _ vA).2.1) _ ((((F.out.trees _ vA).1.put11 (F.out.trees _ vA).2.1).alloc _).alloc _)) rfl 12 0 [] [] 0 ta 1,HH.out.fin F.out.qr hn,hn.gr⟩
theorem zJO (w:World)(R:Nat)(S:Value)(ts:List RT)(s:Q)(h:Qr w R S ts s)(rec:Nat → Q → Qe.Out)(hrec:QRecOk ts rec)(hv0:Qe.is ts s false [45] = false)(hv1:Qe.is ts s false [33] = true)(e0:Ex)(s2:Q)(he:rec 5 (Qe.opens ts s [33]) = some (e0,s2)) :
 Calls Tryd.prog 54 #[.pointer (some ⟨R,0,none⟩)] w (QPost w.heap.size w R S ts (Ex.of 13 0 [] [] 0 [e0] (tokAt ts s.k).at_,⟨s2.k,dec s2.o,s2.E,s2.F⟩)):=by
 have HE:=vH (fun w1 hh => hrec 5 _ (e0,s2) (by decide) he w1 R S hh)
 have HV1:=vH hv1
 have HV0:=vH hv0
 have htx:=(is_text hv1).2.2
 have htk:=fun w1 hh => zAt w1 R S ts s hh
 generalize tokAt ts s.k = t at htk htx ⊢
 obtain ⟨tk,tx,tn,ta⟩:=t
 dsimp only at htx ⊢
 subst htx
 unfold tokW at htk
 dsimp only at htk
 have HTK:=vH htk
 clear htk hrec he hv1 hv0
 have hlt:=h.lt
 have HH:=vH h
 have F:=vH ((Fq.start h).alloc (.cells vE 45))
 clear h
 go_in
 go_wp2_with fail
 refine (HTK.out _ F.out.qr).mono ?_
 rintro e u1 ⟨rfl,hb⟩
 replace F:=vH (F.out.go hb)
 clear hb
 have hNB0:=zA (F.out.keep _ vA).1
 go_wp2_with fail
 replace F:=vH (F.out.alloc (.cells #[.int .i64 tk,.string (cbs [33]),.int .i64 tn,.int .i64 ta] 71))
 refine (zI _ R S ts _ F.out.qr ⟨#[45]⟩ (by decide) false (by decide)).mono ?_
 rintro e u2 ⟨rfl,hb⟩
 replace F:=vH (F.out.go hb)
 clear hb
 try rw [HV0.out]
 go_wp2_with fail
 refine (zI _ R S ts _ F.out.qr ⟨#[33]⟩ (by decide) false (by decide)).mono ?_
 rintro e u3 ⟨rfl,hb⟩
 replace F:=vH (F.out.go hb)
 clear hb
 try rw [HV1.out]
 have hk:=(F.out.keep _ vA)
 obtain ⟨⟨t0,t1,t2,t3⟩,q0,q1,q2,q3⟩:=quad hk.1
 have hlt:=zA hk.1
 have hnt:=hk.2
 have hmt:=Ne.symm hnt
 clear hk q0 q1 q2 q3
 go_wp2_with fail
 clear t0 t1 t2 t3 hlt hnt hmt
 refine (zAM _ R S ts _ F.out.qr ⟨#[33]⟩ (zAu _ (by decide))).mono ?_
 rintro e u4 ⟨rfl,hr,hg⟩
 replace F:=vH (F.out.step hr hg)
 clear hr hg
 go_wp2_with fail
 have hRB:=F.out.qr.lt
 have hNB:=zA (F.out.keep _ vB).1
 refine (HE.out _ F.out.qr).mono ?_
 rintro e u5 ⟨qk,qn,qs,qo,qd,qp,ql,qc,qa,qb,qr,qe,qf,rfl,hi,hr,hg⟩
 replace F:=vH ((F.out.step hr hg).tree hi hNB hRB)
 clear hi hr hg hRB hNB
 obtain ⟨⟨c0,c1,c2,c3,c4⟩,fr,hRl⟩:=F.out.qr.cells
 have fr1:=fr 1
 have fr2:=fr 2
 clear fr
 have hk:=(F.out.keep _ vA)
 obtain ⟨⟨t0,t1,t2,t3⟩,q0,q1,q2,q3⟩:=quad hk.1
 have hlt:=zA hk.1
 have hnt:=hk.2
 have hmt:=Ne.symm hnt
 clear hk q0 q1 q2 q3
 have hk:=(F.out.keep _ vB)
 obtain ⟨⟨d0,d1,d2,d3,d4,d5,d6,d7,d8,d9,dX⟩,g0,g1,g2,g3,g4,g5,g6,g7,g8,g9,gX⟩:=hen hk.1
 have hld:=zA hk.1
 have hnd:=hk.2
 clear hk
 go_wp2_with fail
 replace F:=vH (F.out.set_o (dec s2.o))
 have hn:=(((Nw.start F.out.gr).pv (.int .i64 13) (.int .i64 0) (.string ⟨#[]⟩) (.string ⟨#[]⟩) (.int .i64 0) (.slice (some ⟨u5.heap.size + 1,0,none⟩) 1 1) (.int .i64 ta) (.int .i64 0) (.int .i64 0) (.int .i64 0) (.int .i64 0)).alloc (.cells #[.int .i64 qk,.int .i64 qn,.string (cbs qs),.string (cbs qo),.int .i64 qd,.slice qp ql qc,.int .i64 qa,.int .i64 qb,.int .i64 qr,.int .i64 qe,.int .i64 qf] 45)).alloc (.cells #[.int .i64 qk,.int .i64 qn,.string (cbs qs),.string (cbs qo),.int .i64 qd,.slice qp ql qc,.int .i64 qa,.int .i64 qb,.int .i64 qr,.int .i64 qe,.int .i64 qf] 45)
 have hbx:=zEH (w:=u5.setCell ⟨R,2,none⟩ (.int .i64 (dec s2.o))) (N:=w.heap.size) (o:=.cells #[.int .i64 qk,.int .i64 qn,.string (cbs qs),.string (cbs qo),.int .i64 qd,.slice qp ql qc,.int .i64 qa,.int .i64 qb,.int .i64 qr,.int .i64 qe,.int .i64 qf] 45) (o2:=.cells #[.int .i64 qk,.int .i64 qn,.string (cbs qs),.string (cbs qo),.int .i64 qd,.slice qp ql qc,.int .i64 qa,.int .i64 qb,.int .i64 qr,.int .i64 qe,.int .i64 qf] 45) (c0:=.int .i64 13) (c1:=.int .i64 0) (c2:=.string ⟨#[]⟩) (c3:=.string ⟨#[]⟩) (c4:=.int .i64 0) (c5:=.slice (some ⟨u5.heap.size + 1,0,none⟩) 1 1) (c6:=.int .i64 ta) (c7:=.int .i64 0) (c8:=.int .i64 0) (c9:=.int .i64 0) (c10:=.int .i64 0)
 rw [zY] at hbx
 have hle:w.heap.size ≤ u5.heap.size + 1:=by omega
 exact bodyPost_ret (v:=.agg #[.int .i64 13,.int .i64 0,.string ⟨#[]⟩,.string ⟨#[]⟩,.int .i64 0,.slice (some ⟨u5.heap.size + 1,0,none⟩) 1 1,.int .i64 ta,.int .i64 0,.int .i64 0,.int .i64 0,.int .i64 0]) (by simp [results,Tryd.results54,go_sem,hld,d0,d1,d2,d3,d4,d5,d6,d7,d8,d9,dX]) rfl ⟨_,_,_,_,_,_,_,_,_,_,_,_,_,rfl,Is.node1 hbx hle (Is.lower (Nat.le_of_lt (F.out.trees _ vA).2.1) _ ((((F.out.trees _ vA).1.put11 (F.out.trees _ vA).2.1).alloc _).alloc _)) rfl 13 0 [] [] 0 ta 1,HH.out.fin F.out.qr hn,hn.gr⟩
theorem Fq.two {w wr:World}{R:Nat}{S:Value}{ts:List RT}{s:Q}{L:List (Nat × Obj)}{T:List (Nat × Ex × List Value)}(h:Fq w wr R S ts s L T){a b:Nat × Obj}(ha:a ∈ L)(hb:b ∈ L):Fq w wr R S ts s [a,b] []:=
 h.sub fun _p hp => (List.mem_cons.1 hp).elim (fun e => e ▸ ha) fun hp => (List.mem_cons.1 hp).elim (fun e => e ▸ hb) fun hp => (List.not_mem_nil hp).elim
theorem zGA (w:World)(R:Nat)(S:Value)(ts:List RT)(s:Q)(h:Qr w R S ts s)(rec:Nat → Q → Qe.Out)(hrec:QRecOk ts rec)(B:Nat)(hB:R < B)(hBw:B ≤ w.heap.size)(gg:Nat)(e0:Ex)(zk zn:Int)(zs zo:List UInt8)(zd:Int)(zp:Option Addr)(zl zc:Nat)(za zb zr ze zf:Int)(hof:Is w B e0 (exCells zk zn zs zo zd (.slice zp zl zc) za zb zr ze zf))(x:Ex × Q)(hx:Qe.behind ts rec gg e0 s = some x) :
 Calls Tryd.prog 82 #[.pointer (some ⟨R,0,none⟩),.agg #[.int .i64 zk,.int .i64 zn,.string (cbs zs),.string (cbs zo),.int .i64 zd,.slice zp zl zc,.int .i64 za,.int .i64 zb,.int .i64 zr,.int .i64 ze,.int .i64 zf]] w (QPost B w R S ts x):=by
 have HX:=vH hx
 have HREC:=vH (fun (s2:Q) (y:Ex × Q) (hy:rec 0 s2 = some y) w1 hh => hrec 0 s2 y (by decide) hy w1 R S hh)
 have HRB:=vH hB
 have HBW:=vH hBw
 have hlt:=h.lt
 have HH:=vH h
 have f0:=((Fq.start h).alloc (.cells #[.int .i64 zk,.int .i64 zn,.string (cbs zs),.string (cbs zo),.int .i64 zd,.slice zp zl zc,.int .i64 za,.int .i64 zb,.int .i64 zr,.int .i64 ze,.int .i64 zf] 45)).alloc (.cells vE 45)
 rw [zC] at f0
 have HO:=vH (show Hoq w ((w.alloc (.cells #[.int .i64 zk,.int .i64 zn,.string (cbs zs),.string (cbs zo),.int .i64 zd,.slice zp zl zc,.int .i64 za,.int .i64 zb,.int .i64 zr,.int .i64 ze,.int .i64 zf] 45)).alloc (.cells vE 45)) R S ts B w.heap.size (w.heap.size + 1) zk zn zs zo zd zp zl zc za zb zr ze zf e0 s from ⟨f0.two vB vA,((IsOff.top hof (fun k hk => by rcases hk with rfl | rfl <;> omega)).alloc _).alloc _⟩)
 clear f0 hof h hx hrec hB hBw
 go_in
 go_wp2_with fail
 go_loopg [] gg (fun m wr => ∃ e s4 kind num name ofn dims p ln c at_ b r d ref,Hoq w wr R S ts B w.heap.size (w.heap.size + 1) kind num name ofn dims p ln c at_ b r d ref e s4 ∧ Qe.behind ts rec m e s4 = some x)
 case atStart => exact ⟨_,_,_,_,_,_,_,_,_,_,_,_,_,_,_,HO.out,HX.out⟩
 case round =>
  obtain ⟨e,s4,kind,num,name,ofn,dims,p,ln,c,at_,b,r,d,ref,ho,hx⟩:=hrel
  have F:=vH ho.f
  have I:=vH ho.is
  have HX1:=vH hx
  clear ho hx HO HX
  cases gk with
  | zero => exact (zMK HX1.out).elim
  | succ m =>
    have htk:=fun w1 hh => zAt w1 R S ts s4 hh
    cases hv:Qe.is ts s4 false [46] with
    | true =>
      have h5:=zOV HX1.out hv
      have hp:=fun w1 hh => zAG w1 R S ts (Qe.next s4) hh
      generalize Qe.name ts (Qe.next s4) = y at hp h5
      obtain ⟨nm,s5⟩:=y
      dsimp only at hp h5
      generalize tokAt ts s4.k = t at htk h5
      unfold tokW at htk
      have HTK:=vH htk
      have HP:=vH hp
      have H5:=vH h5
      have HV:=vH hv
      clear htk hp h5 hv HX1
      go_wp2_with fail
      refine (zI _ R S ts _ F.out.qr ⟨#[46]⟩ (by decide) false (by decide)).mono ?_
      rintro e' wl1 ⟨rfl,hb⟩
      replace F:=vH (F.out.go hb)
      replace I:=vH (I.out.below hb)
      clear hb
      try rw [HV.out]
      go_wp2_with fail
      refine (HTK.out _ F.out.qr).mono ?_
      rintro e' wl2 ⟨rfl,hb⟩
      replace F:=vH (F.out.go hb)
      replace I:=vH (I.out.below hb)
      clear hb
      go_wp2_with fail
      have HNT:=vH (Nat.ne_of_gt (zA (F.out.keep _ vA).1))
      replace F:=vH (F.out.alloc (.cells (vT t) 71))
      replace I:=vH (I.out.alloc (.cells (vT t) 71))
      refine (zI _ R S ts _ F.out.qr ⟨#[46]⟩ (by decide) false (by decide)).mono ?_
      rintro e' wl3 ⟨rfl,hb⟩
      replace F:=vH (F.out.go hb)
      replace I:=vH (I.out.below hb)
      clear hb
      try rw [HV.out]
      obtain ⟨⟨c0,c1,c2,c3,c4⟩,fr,hRl⟩:=F.out.qr.cells
      have fr1:=fr 1
      have fr2:=fr 2
      clear fr
      go_wp2_with fail
      clear c0 c1 c2 c3 c4 fr1 fr2 hRl
      have F2:=vH (F.out.set_k (inc s4.k))
      change Hid (Fq _ _ _ _ _ (Qe.next s4) _ _) at F2
      clear F
      have F:=F2
      clear F2
      replace I:=vH (I.out.gr HRB.out ((Gr.refl R _).set 1 (.int .i64 (inc s4.k))))
      obtain ⟨wn,hwn⟩:∃ wn,wn = wl3.setCell ⟨R,1,none⟩ (.int .i64 (inc s4.k)):=⟨_,rfl⟩
      rw [← hwn] at F I
      change Code.wp _ _ _ _ (wl3.setCell ⟨R,1,none⟩ (.int .i64 (inc s4.k)))
      rw [← hwn]
      clear hwn
      have HWN:=vH (show w.heap.size + 1 < wn.heap.size from zA (F.out.keep _ vC).1)
      clear HTK
      have hk:=(F.out.keep _ vB)
      obtain ⟨⟨x0,x1,x2,x3,x4,x5,x6,x7,x8,x9,xX⟩,y0,y1,y2,y3,y4,y5,y6,y7,y8,y9,yX⟩:=hen hk.1
      have hlx:=zA hk.1
      have hnx:=hk.2
      clear hk
      have hmx:=Ne.symm hnx
      have hk:=(F.out.keep _ vA)
      obtain ⟨⟨t0,t1,t2,t3⟩,q0,q1,q2,q3⟩:=quad hk.1
      have hlt:=zA hk.1
      have hnt:=hk.2
      have hmt:=Ne.symm hnt
      clear hk q0 q1 q2 q3
      have HB1:=vH ((Below.refl wn.heap.size wn).drew)
      have HB2:=vH (fun o:Obj => ((Below.refl wn.heap.size wn).alloc (Nat.le_refl _) o).drew)
      have F1:=vH (F.out.go HB1.out)
      have F2:=vH (fun o:Obj => F.out.go (HB2.out o))
      have I1:=vH (I.out.below HB1.out)
      have I2:=vH (fun o:Obj => I.out.below (HB2.out o))
      have HKA:Hid (∀ (o:Obj) (w2:World),Gr R (wn.alloc o).drew w2 → w2.heap[wn.heap.size]? = some o):=fun o w2 hg => mine (w:=wn) (hg:=⟨hg.os,hg.tape,hg.output,hg.size,hg.block⟩) F.out.qr.lt
      have HK1:=vH (F1.out.keep _ vB).1
      have HT1:=vH (F1.out.keep _ vA).1
      have HK1a:=vH (fun o => ((F2.out o).keep _ vB).1)
      have HT1a:=vH (fun o => ((F2.out o).keep _ vA).1)
      skip
      go_region_with (first
       | (go_at_call 38; with_reducible refine Calls.mono (HP.out _ F1.out.qr) ?_; rintro e' w2 ⟨rfl,hr,hg⟩; clear x0 x1 x2 x3 x4 x5 x6 x7 x8 x9 xX y0 y1 y2 y3 y4 y5 y6 y7 y8 y9 yX hlx hnx hmx; clear t0 t1 t2 t3 hnt hmt; have F4:=vH ((F1.out).step hr hg); have I4:=vH ((I1.out).gr HRB.out hg); have HK2:=vH (F4.out.keep _ vB).1; have HT2:=vH (F4.out.keep _ vA).1; obtain ⟨⟨v0,v1,v2,v3,v4,v5,v6,v7,v8,v9,vX⟩,p0,p1,p2,p3,p4,p5,p6,p7,p8,p9,pX⟩:=hen HK2.out; have hlv:=zA HK2.out; obtain ⟨⟨s0,s1,s2,s3⟩,r0,r1,r2,r3⟩:=quad HT2.out; have hls:=zA HT2.out; clear hr hg)
       | (go_at_call 38; with_reducible refine Calls.mono (HP.out _ (F2.out _).qr) ?_; rintro e' w2 ⟨rfl,hr,hg⟩; clear x0 x1 x2 x3 x4 x5 x6 x7 x8 x9 xX y0 y1 y2 y3 y4 y5 y6 y7 y8 y9 yX hlx hnx hmx; clear t0 t1 t2 t3 hnt hmt; have F4:=vH ((F2.out _).step hr hg); have I4:=vH ((I2.out _).gr HRB.out hg); have HK2:=vH (F4.out.keep _ vB).1; have HT2:=vH (F4.out.keep _ vA).1; obtain ⟨⟨v0,v1,v2,v3,v4,v5,v6,v7,v8,v9,vX⟩,p0,p1,p2,p3,p4,p5,p6,p7,p8,p9,pX⟩:=hen HK2.out; have hlv:=zA HK2.out; obtain ⟨⟨s0,s1,s2,s3⟩,r0,r1,r2,r3⟩:=quad HT2.out; have hls:=zA HT2.out; have HKID:=vH (HKA.out _ _ hg); clear hr hg))
      all_goals (clear HT1 HT1a HK1 HK1a F1 F2 I1 I2 HB1 HB2)
      all_goals first
       | (have hk9:=HKID.out; clear hk9; go_wp2_with fail
          go_roundg m
          case measure => omega
          case rel =>
           have hz2:w.heap.size + 1 < w2.heap.size:=zA (F4.out.keep _ vC).1
           have hbx:=zQ (N:=w.heap.size) HKID.out (by have:=HWN.out; omega) (c0:=.int .i64 5) (c1:=.int .i64 0) (c2:=.string (cbs nm)) (c3:=.string ⟨#[]⟩) (c4:=.int .i64 0) (c5:=.slice (some ⟨wn.heap.size,0,none⟩) 1 1) (c6:=.int .i64 t.at_) (c7:=.int .i64 0) (c8:=.int .i64 0) (c9:=.int .i64 0) (c10:=.int .i64 0)
           exact ⟨_,s5,_,_,_,_,_,_,_,_,_,_,_,_,_,⟨(F4.out.write HH.out vB vC (Nat.le_refl _) (by omega) (c0:=.int .i64 5) (c1:=.int .i64 0) (c2:=.string (cbs nm)) (c3:=.string ⟨#[]⟩) (c4:=.int .i64 0) (c5:=.slice (some ⟨wn.heap.size,0,none⟩) 1 1) (c6:=.int .i64 t.at_) (c7:=.int .i64 0) (c8:=.int .i64 0) (c9:=.int .i64 0) (c10:=.int .i64 0)),IsOff.node1 hbx (by have:=HBW.out; have:=HWN.out; omega) (fun hh => by have:=HWN.out; rcases hh with hh | hh <;> omega) (I4.out.put11 (.inl rfl)) rfl 5 0 nm [] 0 t.at_ 1⟩,H5.out⟩)
       | (go_wp2_with fail
          go_roundg m
          case measure => omega
          case rel =>
           have hz2:w.heap.size + 1 < w2.heap.size:=zA (F4.out.keep _ vC).1
           have hbx:=zCJ (w:=w2) (N:=w.heap.size) (o:=.cells #[.int .i64 kind,.int .i64 num,.string (cbs name),.string (cbs ofn),.int .i64 dims,.slice p ln c,.int .i64 at_,.int .i64 b,.int .i64 r,.int .i64 d,.int .i64 ref] 45) (c0:=.int .i64 5) (c1:=.int .i64 0) (c2:=.string (cbs nm)) (c3:=.string ⟨#[]⟩) (c4:=.int .i64 0) (c5:=.slice (some ⟨w2.heap.size,0,none⟩) 1 1) (c6:=.int .i64 t.at_) (c7:=.int .i64 0) (c8:=.int .i64 0) (c9:=.int .i64 0) (c10:=.int .i64 0)
           exact ⟨_,s5,_,_,_,_,_,_,_,_,_,_,_,_,_,⟨((F4.out.write HH.out vB vC (Nat.le_refl _) (by omega) (c0:=.int .i64 5) (c1:=.int .i64 0) (c2:=.string (cbs nm)) (c3:=.string ⟨#[]⟩) (c4:=.int .i64 0) (c5:=.slice (some ⟨w2.heap.size,0,none⟩) 1 1) (c6:=.int .i64 t.at_) (c7:=.int .i64 0) (c8:=.int .i64 0) (c9:=.int .i64 0) (c10:=.int .i64 0)).alloc _).sub (fun p hp => List.Mem.tail _ hp),IsOff.node1 hbx (by have:=HBW.out; omega) (fun hh => by rcases hh with hh | hh <;> omega) ((I4.out.put11 (.inl rfl)).alloc _) rfl 5 0 nm [] 0 t.at_ 1⟩,H5.out⟩)
    | false =>
      have HV:=vH hv
      clear hv
      cases hv2:Qe.is ts s4 false [91] with
      | true =>
        obtain ⟨i0,s5,he,h5⟩:=zML HX1.out HV.out hv2
        generalize tokAt ts s4.k = t at htk h5
        unfold tokW at htk
        have HTK:=vH htk
        have HE:=vH he
        have H5:=vH h5
        have HV2:=vH hv2
        clear htk he h5 hv2 HX1
        go_wp2_with fail
        refine (zI _ R S ts _ F.out.qr ⟨#[46]⟩ (by decide) false (by decide)).mono ?_
        rintro e' wl1 ⟨rfl,hb⟩
        replace F:=vH (F.out.go hb)
        replace I:=vH (I.out.below hb)
        clear hb
        try rw [HV.out]
        go_wp2_with fail
        refine (zI _ R S ts _ F.out.qr ⟨#[91]⟩ (by decide) false (by decide)).mono ?_
        rintro e' wl2 ⟨rfl,hb⟩
        replace F:=vH (F.out.go hb)
        replace I:=vH (I.out.below hb)
        clear hb
        try rw [HV2.out]
        go_wp2_with fail
        refine (HTK.out _ F.out.qr).mono ?_
        rintro e' wl3 ⟨rfl,hb⟩
        replace F:=vH (F.out.go hb)
        replace I:=vH (I.out.below hb)
        clear hb
        go_wp2_with fail
        have HNT:=vH (Nat.ne_of_gt (zA (F.out.keep _ vA).1))
        replace F:=vH (F.out.alloc (.cells (vT t) 71))
        replace I:=vH (I.out.alloc (.cells (vT t) 71))
        refine (zI _ R S ts _ F.out.qr ⟨#[46]⟩ (by decide) false (by decide)).mono ?_
        rintro e' wl4 ⟨rfl,hb⟩
        replace F:=vH (F.out.go hb)
        replace I:=vH (I.out.below hb)
        clear hb
        try rw [HV.out]
        go_wp2_with fail
        refine (zAM _ R S ts _ F.out.qr ⟨#[91]⟩ (zAu _ (by decide))).mono ?_
        rintro e' wl5 ⟨rfl,hr,hg⟩
        replace F:=vH (F.out.step hr hg)
        replace I:=vH (I.out.gr HRB.out hg)
        clear hr hg
        go_wp2_with fail
        have HNZ:=vH (zA (F.out.keep _ vC).1)
        have hRB:=F.out.qr.lt
        have hNB:=zA (F.out.keep _ vB).1
        refine (HREC.out _ _ HE.out _ F.out.qr).mono ?_
        rintro e' wl6 ⟨zk,zn,zs,zo,zd,zp,zl,zc,za,zb,zr,ze,zf,rfl,hi,hr,hg⟩
        replace F:=vH ((F.out.step hr hg).tree hi hNB hRB)
        replace I:=vH (I.out.gr HRB.out hg)
        clear hi hr hg hRB hNB
        go_wp2_with fail
        have HIZ:=vH (F.out.trees _ vA)
        replace F:=vH (F.out.alloc (.cells #[.int .i64 zk,.int .i64 zn,.string (cbs zs),.string (cbs zo),.int .i64 zd,.slice zp zl zc,.int .i64 za,.int .i64 zb,.int .i64 zr,.int .i64 ze,.int .i64 zf] 45))
        replace I:=vH (I.out.alloc (.cells #[.int .i64 zk,.int .i64 zn,.string (cbs zs),.string (cbs zo),.int .i64 zd,.slice zp zl zc,.int .i64 za,.int .i64 zb,.int .i64 zr,.int .i64 ze,.int .i64 zf] 45))
        refine (zAK _ R S ts _ F.out.qr ⟨#[93]⟩ (zAu _ (by decide))).mono ?_
        rintro e' wl7 ⟨rfl,hr,hg⟩
        replace F:=vH (F.out.step hr hg)
        replace I:=vH (I.out.gr HRB.out hg)
        clear hr hg
        have HIZ2:=vH (F.out.trees _ vA)
        clear HIZ
        have hk:=(F.out.keep _ vC)
        obtain ⟨⟨x0,x1,x2,x3,x4,x5,x6,x7,x8,x9,xX⟩,y0,y1,y2,y3,y4,y5,y6,y7,y8,y9,yX⟩:=hen hk.1
        have hlx:=zA hk.1
        have hnx:=hk.2
        clear hk
        have hmx:=Ne.symm hnx
        have hk:=(F.out.keep _ vB)
        obtain ⟨⟨t0,t1,t2,t3⟩,q0,q1,q2,q3⟩:=quad hk.1
        have hlt:=zA hk.1
        have hnt:=hk.2
        have hmt:=Ne.symm hnt
        clear hk q0 q1 q2 q3
        have hk:=(F.out.keep _ vA)
        obtain ⟨⟨d0,d1,d2,d3,d4,d5,d6,d7,d8,d9,dX⟩,g0,g1,g2,g3,g4,g5,g6,g7,g8,g9,gX⟩:=hen hk.1
        have hld:=zA hk.1
        have hnd:=hk.2
        clear hk
        go_wp2_with fail
        go_roundg m
        case measure => omega
        case rel =>
         have hz2:w.heap.size + 1 < wl7.heap.size:=zA (F.out.keep _ vD).1
         have hbx:=zCJ (w:=wl7) (N:=w.heap.size) (o:=.cells #[.int .i64 kind,.int .i64 num,.string (cbs name),.string (cbs ofn),.int .i64 dims,.slice p ln c,.int .i64 at_,.int .i64 b,.int .i64 r,.int .i64 d,.int .i64 ref,.int .i64 zk,.int .i64 zn,.string (cbs zs),.string (cbs zo),.int .i64 zd,.slice zp zl zc,.int .i64 za,.int .i64 zb,.int .i64 zr,.int .i64 ze,.int .i64 zf] 45) (c0:=.int .i64 6) (c1:=.int .i64 0) (c2:=.string ⟨#[]⟩) (c3:=.string ⟨#[]⟩) (c4:=.int .i64 0) (c5:=.slice (some ⟨wl7.heap.size,0,none⟩) 2 2) (c6:=.int .i64 t.at_) (c7:=.int .i64 0) (c8:=.int .i64 0) (c9:=.int .i64 0) (c10:=.int .i64 0)
         exact ⟨_,_,_,_,_,_,_,_,_,_,_,_,_,_,_,⟨((F.out.write HH.out vC vD (Nat.le_refl _) (by omega) (c0:=.int .i64 6) (c1:=.int .i64 0) (c2:=.string ⟨#[]⟩) (c3:=.string ⟨#[]⟩) (c4:=.int .i64 0) (c5:=.slice (some ⟨wl7.heap.size,0,none⟩) 2 2) (c6:=.int .i64 t.at_) (c7:=.int .i64 0) (c8:=.int .i64 0) (c9:=.int .i64 0) (c10:=.int .i64 0)).alloc _).sub (fun p hp => List.Mem.tail _ hp),IsOff.node2 hbx (by have:=HBW.out; omega) (fun hh => by rcases hh with hh | hh <;> omega) ((I.out.put11 (.inl rfl)).alloc _) (IsOff.of ((HIZ2.out.1.put11 (N:=w.heap.size) HIZ2.out.2.1).alloc _) (by have:=HBW.out; have:=HIZ2.out.2.1; omega) (fun q hq => by have:=HNZ.out; rcases hq with rfl | rfl <;> omega)) rfl 6 0 [] [] 0 t.at_ 2⟩,H5.out⟩
      | false =>
        have hx:=zOU HX1.out HV.out hv2
        subst hx
        have HV2:=vH hv2
        clear hv2 HX1
        go_wp2_with fail
        refine (zI _ R S ts _ F.out.qr ⟨#[46]⟩ (by decide) false (by decide)).mono ?_
        rintro e' wl1 ⟨rfl,hb⟩
        replace F:=vH (F.out.go hb)
        replace I:=vH (I.out.below hb)
        clear hb
        try rw [HV.out]
        go_wp2_with fail
        refine (zI _ R S ts _ F.out.qr ⟨#[91]⟩ (by decide) false (by decide)).mono ?_
        rintro e' wl2 ⟨rfl,hb⟩
        replace F:=vH (F.out.go hb)
        replace I:=vH (I.out.below hb)
        clear hb
        try rw [HV2.out]
        have hk:=(F.out.keep _ vA)
        obtain ⟨⟨x0,x1,x2,x3,x4,x5,x6,x7,x8,x9,xX⟩,y0,y1,y2,y3,y4,y5,y6,y7,y8,y9,yX⟩:=hen hk.1
        have hlx:=zA hk.1
        have hnx:=hk.2
        clear hk
        have hmx:=Ne.symm hnx
        have hk:=(F.out.keep _ vB)
        obtain ⟨⟨d0,d1,d2,d3,d4,d5,d6,d7,d8,d9,dX⟩,g0,g1,g2,g3,g4,g5,g6,g7,g8,g9,gX⟩:=hen hk.1
        have hld:=zA hk.1
        have hnd:=hk.2
        clear hk
        go_wp2_with fail
        have hn:=(Nw.start F.out.gr).put11 (B:=w.heap.size + 1) (Nat.le_succ _) (c0:=.int .i64 kind) (c1:=.int .i64 num) (c2:=.string (cbs name)) (c3:=.string (cbs ofn)) (c4:=.int .i64 dims) (c5:=.slice p ln c) (c6:=.int .i64 at_) (c7:=.int .i64 b) (c8:=.int .i64 r) (c9:=.int .i64 d) (c10:=.int .i64 ref)
        exact bodyPost_ret (v:=.agg #[.int .i64 kind,.int .i64 num,.string (cbs name),.string (cbs ofn),.int .i64 dims,.slice p ln c,.int .i64 at_,.int .i64 b,.int .i64 r,.int .i64 d,.int .i64 ref]) (by simp [results,Tryd.results82,go_sem,d0,d1,d2,d3,d4,d5,d6,d7,d8,d9,dX]) rfl ⟨_,_,_,_,_,_,_,_,_,_,_,_,_,rfl,(I.out.put11 (.inr rfl)).now,HH.out.fin F.out.qr hn,hn.gr⟩
theorem zLl {ts:List RT}{rec:Nat → Q → Qe.Out}{g:Nat}{s:Q}{x:Ex × Q}(h:Qe.unary ts rec g s = some x)(hv:Qe.is ts s false [45] = false)(hv2:Qe.is ts s false [33] = false):∃ e s2,Qe.first ts rec g s = some (e,s2) ∧ Qe.behind ts rec g e s2 = some x:=by
 rw [Qe.unary,if_neg (by rw [hv]; decide),if_neg (by rw [hv2]; decide)] at h
 split at h
 ·cases h
 ·rename_i e s2 he
  exact ⟨e,s2,he,h⟩
theorem zGy (w:World)(R:Nat)(S:Value)(ts:List RT)(s:Q)(h:Qr w R S ts s)(rec:Nat → Q → Qe.Out)(hrec:QRecOk ts rec)(hv0:Qe.is ts s false [45] = false)(hv1:Qe.is ts s false [33] = false)(gg:Nat)(hgg:gg ≤ 1000000000)(e0:Ex)(s1:Q)(he:Qe.first ts rec gg s = some (e0,s1))(x:Ex × Q)(hx:Qe.behind ts rec gg e0 s1 = some x) :
 Calls Tryd.prog 54 #[.pointer (some ⟨R,0,none⟩)] w (QPost w.heap.size w R S ts x):=by
 have HE:=vH (fun w1 hh => zIy w1 R S ts s hh rec hrec gg hgg (e0,s1) he)
 have HX:=vH hx
 have HREC:=vH hrec
 have HV0:=vH hv0
 have HV1:=vH hv1
 have htk:=fun w1 hh => zAt w1 R S ts s hh
 generalize tokAt ts s.k = t at htk
 unfold tokW at htk
 have HTK:=vH htk
 clear htk hrec he hx hv0 hv1 hgg
 have hlt:=h.lt
 have HH:=vH h
 have F:=vH ((Fq.start h).alloc (.cells vE 45))
 clear h
 go_in
 go_wp2_with fail
 refine (HTK.out _ F.out.qr).mono ?_
 rintro e u1 ⟨rfl,hb⟩
 replace F:=vH (F.out.go hb)
 clear hb
 go_wp2_with fail
 replace F:=vH (F.out.alloc (.cells (vT t) 71))
 refine (zI _ R S ts _ F.out.qr ⟨#[45]⟩ (by decide) false (by decide)).mono ?_
 rintro e u2 ⟨rfl,hb⟩
 replace F:=vH (F.out.go hb)
 clear hb
 try rw [HV0.out]
 go_wp2_with fail
 refine (zI _ R S ts _ F.out.qr ⟨#[33]⟩ (by decide) false (by decide)).mono ?_
 rintro e u3 ⟨rfl,hb⟩
 replace F:=vH (F.out.go hb)
 clear hb
 try rw [HV1.out]
 go_wp2_with fail
 have hRB:=F.out.qr.lt
 have hNB:=zA (F.out.keep _ vB).1
 refine (HE.out _ F.out.qr).mono ?_
 rintro e u4 ⟨qk,qn,qs,qo,qd,qp,ql,qc,qa,qb,qr,qe,qf,rfl,hi,hr,hg⟩
 replace F:=vH ((F.out.step hr hg).tree hi hNB hRB)
 clear hi hr hg hRB hNB
 go_wp2_with fail
 have HTR:=vH (F.out.trees _ vA)
 refine (zGA _ R S ts s1 F.out.qr rec HREC.out (w.heap.size + 1) (by omega) (Nat.succ_le_of_lt (zA (F.out.keep _ vB).1)) gg e0 qk qn qs qo qd qp ql qc qa qb qr qe qf (Is.lower HTR.out.2.1 _ HTR.out.1) x HX.out).mono ?_
 rintro e u9 ⟨zk,zn,zs,zo,zd,zp,zl,zc,za,zb,zr,ze,zf,rfl,hi,hr,hg⟩
 replace F:=vH ((F.out.step hr hg).tree hi (Nat.lt_succ_self _) (by omega))
 clear hi hr hg HTR
 have hk:=(F.out.keep _ vB)
 obtain ⟨⟨d0,d1,d2,d3,d4,d5,d6,d7,d8,d9,dX⟩,g0,g1,g2,g3,g4,g5,g6,g7,g8,g9,gX⟩:=hen hk.1
 have hld:=zA hk.1
 have hnd:=hk.2
 clear hk
 go_wp2_with fail
 have hn:=(Nw.start F.out.gr).pv (.int .i64 zk) (.int .i64 zn) (.string (cbs zs)) (.string (cbs zo)) (.int .i64 zd) (.slice zp zl zc) (.int .i64 za) (.int .i64 zb) (.int .i64 zr) (.int .i64 ze) (.int .i64 zf)
 exact bodyPost_ret (v:=.agg #[.int .i64 zk,.int .i64 zn,.string (cbs zs),.string (cbs zo),.int .i64 zd,.slice zp zl zc,.int .i64 za,.int .i64 zb,.int .i64 zr,.int .i64 ze,.int .i64 zf]) (by simp [results,Tryd.results54,go_sem,d0,d1,d2,d3,d4,d5,d6,d7,d8,d9,dX]) rfl ⟨_,_,_,_,_,_,_,_,_,_,_,_,_,rfl,Is.lower (Nat.le_of_lt (F.out.trees _ vA).2.1) _ ((F.out.trees _ vA).1.put11 (F.out.trees _ vA).2.1),HH.out.fin F.out.qr hn,hn.gr⟩
theorem zIt (w:World)(R:Nat)(S:Value)(ts:List RT)(s:Q)(h:Qr w R S ts s)(rec:Nat → Q → Qe.Out)(hrec:QRecOk ts rec)(gg:Nat)(hgg:gg ≤ 1000000000)(x:Ex × Q)(hx:Qe.unary ts rec gg s = some x) :
 Calls Tryd.prog 54 #[.pointer (some ⟨R,0,none⟩)] w (QPost w.heap.size w R S ts x):=by
 cases hv:Qe.is ts s false [45] with
 | true =>
   rw [Qe.unary,if_pos hv] at hx
   obtain ⟨e0,s2,he,rfl⟩:=zFO hx
   exact zJN w R S ts s h rec hrec hv e0 s2 he
 | false =>
   cases hv2:Qe.is ts s false [33] with
   | true =>
     rw [Qe.unary,if_neg (by rw [hv]; decide),if_pos hv2] at hx
     obtain ⟨e0,s2,he,rfl⟩:=zFO hx
     exact zJO w R S ts s h rec hrec hv hv2 e0 s2 he
   | false =>
     obtain ⟨e0,s1,he,hb⟩:=zLl hx hv hv2
     exact zGy w R S ts s h rec hrec hv hv2 gg hgg e0 s1 he x hb
theorem zJQ (w:World)(R:Nat)(S:Value)(ts:List RT)(s:Q)(h:Qr w R S ts s)(rec:Nat → Q → Qe.Out)(hrec:QRecOk ts rec)(gg:Nat)(hgg:gg ≤ 1000000000)(x:Ex × Q)(hx:Qe.unary ts rec gg s = some x) :
 Calls Tryd.prog 32 #[.pointer (some ⟨R,0,none⟩),.int .i64 5] w (QPost w.heap.size w R S ts x):=by
 have HE:=vH (fun w1 hh => zIt w1 R S ts s hh rec hrec gg hgg x hx)
 clear hrec hx hgg
 have hlt:=h.lt
 have HH:=vH h
 have F:=vH ((Fq.start h).alloc (.cells vE 45))
 clear h
 go_in
 go_wp2_with fail
 have hRB:=F.out.qr.lt
 have hNB:=zA (F.out.keep _ vA).1
 refine (HE.out _ F.out.qr).mono ?_
 rintro e u1 ⟨qk,qn,qs,qo,qd,qp,ql,qc,qa,qb,qr,qe,qf,rfl,hi,hr,hg⟩
 replace F:=vH ((F.out.step hr hg).tree hi hNB hRB)
 clear hi hr hg hRB hNB
 have hk:=(F.out.keep _ vA)
 obtain ⟨⟨d0,d1,d2,d3,d4,d5,d6,d7,d8,d9,dX⟩,g0,g1,g2,g3,g4,g5,g6,g7,g8,g9,gX⟩:=hen hk.1
 have hld:=zA hk.1
 have hnd:=hk.2
 clear hk
 go_wp2_with fail
 have hn:=(Nw.start F.out.gr).pv (.int .i64 qk) (.int .i64 qn) (.string (cbs qs)) (.string (cbs qo)) (.int .i64 qd) (.slice qp ql qc) (.int .i64 qa) (.int .i64 qb) (.int .i64 qr) (.int .i64 qe) (.int .i64 qf)
 exact bodyPost_ret (v:=.agg #[.int .i64 qk,.int .i64 qn,.string (cbs qs),.string (cbs qo),.int .i64 qd,.slice qp ql qc,.int .i64 qa,.int .i64 qb,.int .i64 qr,.int .i64 qe,.int .i64 qf]) (by simp [results,Tryd.results32,go_sem,d0,d1,d2,d3,d4,d5,d6,d7,d8,d9,dX]) rfl ⟨_,_,_,_,_,_,_,_,_,_,_,_,_,rfl,Is.lower (Nat.le_of_lt (F.out.trees _ vA).2.1) _ ((F.out.trees _ vA).1.put11 (F.out.trees _ vA).2.1),HH.out.fin F.out.qr hn,hn.gr⟩
theorem zJF (ts:List RT):∀ f,f ≤ 1000000000 → QRecOk ts (Qe.run ts f):=by
 intro f
 induction f with
 | zero => intro _ n s x _ hx; cases hx
 | succ f ih =>
   intro hf n s x hn hx w R S h
   have hrec:=ih (by omega)
   rw [Qe.run] at hx
   dsimp only at hx
   by_cases h5:n = 5
   ·subst h5
    rw [if_pos rfl] at hx
    exact zJQ w R S ts s h _ hrec f (by omega) x hx
   ·rw [if_neg h5] at hx
    split at hx
    ·cases hx
    ·rename_i e0 s1 he
     exact zJR w R S ts s h _ hrec n (by omega) f e0 s1 he x hx
end Go.Proofs.YteadgahhchlgeaaDoor
