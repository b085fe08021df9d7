/-
  Law 5's own comparison of two programs' places: of one progr
-/
import Derived.Test.YtipmjjfknhblnaaGreatDoorK02
import Derived.Test.YtipmjjfknhblnaaGreatDoorK45
import Derived.Laws.StructEq
set_option maxRecDepth 8000
set_option maxHeartbeats 8000000
namespace Go.Proofs.YtipmjjfknhblnaaGreatDoor
open Go.RowKit
open Pe
open Ps (Sm PX)
open Pg (BX Pm Rc Fc Gm)
theorem zNK (w:World)(ks:List Pm)(p q:Option Addr)(c d:Nat)(hp:LAt PIs 4 w 0 p ks)(hq:LAt PIs 4 w 0 q ks)(hl:ks.length ≤ 9223372036854775807) :
 Calls Tryz.prog 26 #[.slice p ks.length c,.slice q ks.length d] w fun e w' => e = .returned (.bool true) ∧ Below w.heap.size w w':=by
 have HP:=vH hp
 have HQ:=vH hq
 have HL:=vH hl
 clear hp hq hl
 go_in
 go_wp2_with fail
 go_loopg [5] ks.length (fun m v wr => ∃ j:Nat,m + j = ks.length ∧ v = .int .i64 (j:Int) ∧ Below w.heap.size w wr)
 case atStart => exact ⟨0,rfl,rfl,Below.refl _ _⟩
 case round =>
  obtain ⟨j,hj,rfl,hb⟩:=hrel
  have HBE:=vH hb
  have HJ:=vH hj
  clear hb hj
  cases gk with
  | zero =>
    obtain rfl:j = ks.length:=by have:=HJ.out; omega
    have hd1:decide ((ks.length:Int) < (ks.length:Int)) = false:=decide_eq_false (by omega)
    go_wp2_with fail
    go_ret
    exact ⟨rfl,HBE.out⟩
  | succ m =>
    have hjl:j < ks.length:=by have:=HJ.out; omega
    have hd1:decide ((j:Int) < (ks.length:Int)) = true:=decide_eq_true (by omega)
    have hi1:(j:Int) < (ks.length:Int):=by omega
    have hi3:(0:Int) ≤ (j:Int):=by omega
    have hd2:decide (ks.length ≤ j) = false:=decide_eq_false (by omega)
    have hdw:wrap64 ((j:Int) + 1) = ((j + 1:Nat):Int):=by have:=HL.out; simp [wrap64]; omega
    have he1:=List.getElem?_eq_getElem hjl
    generalize ks[j] = e1 at he1
    obtain ⟨bl,off,vs,rfl,hbl,hi,hc⟩:=(LAt.ag (w:=w) (w1:=wr) (fun _ _ h => h) HP.out (Ag.below HBE.out)).get he1
    obtain ⟨bl2,off2,vs2,rfl,hbl2,hi',hc2⟩:=(LAt.ag (w:=w) (w1:=wr) (fun _ _ h => h) HQ.out (Ag.below HBE.out)).get he1
    obtain ⟨xs,xo,xd,xa⟩:=e1
    rw [PIs] at hi hi'
    subst hi hi'
    have x3:=hc 3 _ (by decide) rfl
    have y3:=hc2 3 _ (by decide) rfl
    have hba:(xa != xa) = false:=bne_self_eq_false _
    clear hc hc2 he1
    go_wp2_with fail
    go_quiet (fail)
    go_wp2_with fail
    go_roundg m
    case measure => omega
    case rel => exact ⟨j + 1,by have:=HJ.out; omega,by first | rfl | simp [hdw],zEa HBE.out nq⟩
def StsOk (w:World)(ks:List Sm):Prop:=∀ (w1:World)(p q:Option Addr)(c d:Nat),Below w.heap.size w w1 → SsAt w1 0 p ks → SsAt w1 0 q ks → Calls Tryz.prog 27 #[.slice p ks.length c,.slice q ks.length d] w1 fun en w' => en = .returned (.bool true) ∧ Below w1.heap.size w1 w'
def body5:Sm → List Sm
 | .mk _ _ _ _ _ bs _ _ _ => bs
def else5:Sm → List Sm
 | .mk _ _ _ _ _ _ ls _ _ => ls
theorem zNM (w:World)(ks:List Sm)(p q:Option Addr)(c d:Nat)(hp:SsAt w 0 p ks)(hq:SsAt w 0 q ks)(hl:ks.length ≤ 9223372036854775807)(hel:∀ e ∈ ks,StsOk w (body5 e) ∧ StsOk w (else5 e)) :
 Calls Tryz.prog 27 #[.slice p ks.length c,.slice q ks.length d] w fun en w' => en = .returned (.bool true) ∧ Below w.heap.size w w':=by
 have HP:=vH hp
 have HQ:=vH hq
 have HEL:=vH hel
 have HL:=vH hl
 clear hp hq hel hl
 go_in
 go_wp2_with fail
 go_loopg [5] ks.length (fun m v wr => ∃ j:Nat,m + j = ks.length ∧ v = .int .i64 (j:Int) ∧ Below w.heap.size w wr)
 case atStart => exact ⟨0,rfl,rfl,Below.refl _ _⟩
 case round =>
  obtain ⟨j,hj,rfl,hb⟩:=hrel
  have HBE:=vH hb
  have HJ:=vH hj
  clear hb hj
  cases gk with
  | zero =>
    obtain rfl:j = ks.length:=by have:=HJ.out; omega
    have hd1:decide ((ks.length:Int) < (ks.length:Int)) = false:=decide_eq_false (by omega)
    go_wp2_with fail
    go_ret
    exact ⟨rfl,HBE.out⟩
  | succ m =>
    have hjl:j < ks.length:=by have:=HJ.out; omega
    have hd1:decide ((j:Int) < (ks.length:Int)) = true:=decide_eq_true (by omega)
    have hi1:(j:Int) < (ks.length:Int):=by omega
    have hi3:(0:Int) ≤ (j:Int):=by omega
    have hd2:decide (ks.length ≤ j) = false:=decide_eq_false (by omega)
    have hdw:wrap64 ((j:Int) + 1) = ((j + 1:Nat):Int):=by have:=HL.out; simp [wrap64]; omega
    have he1:=List.getElem?_eq_getElem hjl
    have HE:=vH (HEL.out _ (List.getElem_mem hjl))
    generalize ks[j] = e1 at he1 HE
    obtain ⟨bl,off,vs,rfl,hbl,hi,hc⟩:=(HP.out.below HBE.out).get he1
    obtain ⟨bl2,off2,vs2,rfl,hbl2,hi',hc2⟩:=(HQ.out.below HBE.out).get he1
    obtain ⟨ek,en,eo,ed,es,bs,ls,ea,er⟩:=e1
    obtain ⟨xep,xec,xbp,xbc,xlp,xlc,rfl,hxe,hxb,hxl⟩:=hi.parts
    obtain ⟨yep,yec,ybp,ybc,ylp,ylc,rfl,hye,hyb,hyl⟩:=hi'.parts
    obtain ⟨x0,x1,x2,x3,x4,x5,x6,x7,x8⟩:=zDZ hc
    obtain ⟨y0,y1,y2,y3,y4,y5,y6,y7,y8⟩:=zDZ hc2
    have HE1:=vH (show ∀ w1:World,Below wr.heap.size wr w1 → Calls Tryz.prog 27 #[.slice xbp bs.length xbc,.slice ybp bs.length ybc] w1 (fun en w' => en = .returned (.bool true) ∧ Below w1.heap.size w1 w') from fun w1 hb => HE.out.1 w1 xbp ybp xbc ybc (zC HBE.out hb HBE.out.size) (hxb.below hb) (hyb.below hb))
    have HE2:=vH (show ∀ w1:World,Below wr.heap.size wr w1 → Calls Tryz.prog 27 #[.slice xlp ls.length xlc,.slice ylp ls.length ylc] w1 (fun en w' => en = .returned (.bool true) ∧ Below w1.heap.size w1 w') from fun w1 hb => HE.out.2 w1 xlp ylp xlc ylc (zC HBE.out hb HBE.out.size) (hxl.below hb) (hyl.below hb))
    have hba:(ea != ea) = false:=bne_self_eq_false _
    clear hc hc2 hi hi' he1 hxe hxb hxl hye hyb hyl HE x0 x1 x2 x3 x4 x8 y0 y1 y2 y3 y4 y8
    have HGO:=vH (show ∀ w':World,Below wr.heap.size wr w' → (w'.cell? ⟨bl,off + j * 9 + 5,none⟩ = some (.slice xbp bs.length xbc) ∧ w'.cell? ⟨bl,off + j * 9 + 6,none⟩ = some (.slice xlp ls.length xlc) ∧ w'.cell? ⟨bl,off + j * 9 + 7,none⟩ = some (.int .i64 ea) ∧ w'.cell? ⟨bl2,off2 + j * 9 + 5,none⟩ = some (.slice ybp bs.length ybc) ∧ w'.cell? ⟨bl2,off2 + j * 9 + 6,none⟩ = some (.slice ylp ls.length ylc) ∧ w'.cell? ⟨bl2,off2 + j * 9 + 7,none⟩ = some (.int .i64 ea)) from fun w' hb => ⟨(hb.cell (p:=⟨bl,off + j * 9 + 5,none⟩) hbl).trans x5,(hb.cell (p:=⟨bl,off + j * 9 + 6,none⟩) hbl).trans x6,(hb.cell (p:=⟨bl,off + j * 9 + 7,none⟩) hbl).trans x7,(hb.cell (p:=⟨bl2,off2 + j * 9 + 5,none⟩) hbl2).trans y5,(hb.cell (p:=⟨bl2,off2 + j * 9 + 6,none⟩) hbl2).trans y6,(hb.cell (p:=⟨bl2,off2 + j * 9 + 7,none⟩) hbl2).trans y7⟩)
    have HB0:Hid (Below wr.heap.size wr wr.drew):=(Below.refl _ _).drew
    go_wp2_with fail
    go_region_held3 (fun w' => w'.cell? ⟨bl,off + j * 9 + 5,none⟩ = some (.slice xbp bs.length xbc) ∧ w'.cell? ⟨bl,off + j * 9 + 6,none⟩ = some (.slice xlp ls.length xlc) ∧ w'.cell? ⟨bl,off + j * 9 + 7,none⟩ = some (.int .i64 ea) ∧ w'.cell? ⟨bl2,off2 + j * 9 + 5,none⟩ = some (.slice ybp bs.length ybc) ∧ w'.cell? ⟨bl2,off2 + j * 9 + 6,none⟩ = some (.slice ylp ls.length ylc) ∧ w'.cell? ⟨bl2,off2 + j * 9 + 7,none⟩ = some (.int .i64 ea)) (first | exact HGO.out _ HB0.out | exact HGO.out _ HB1.out | exact HGO.out _ HB2.out) (first
        | (go_at_call 27; (with_reducible refine Calls.mono (HE2.out _ HB1.out) ?_); rintro en w2 ⟨rfl,hb⟩; have HB2:=vH (zC HB1.out hb HB1.out.size); clear hb)
        | (go_at_call 27; (with_reducible refine Calls.mono (HE1.out _ HB0.out) ?_); rintro en w1 ⟨rfl,hb⟩; have HB1:=vH (zC HB0.out hb HB0.out.size); clear hb))
    go_wp2_with fail
    go_roundg m
    case measure => omega
    case rel => exact ⟨j + 1,by have:=HJ.out; omega,by first | rfl | simp [hdw],zC HBE.out HB2.out HBE.out.size⟩
theorem zNP:∀ (n:Nat)(ks:List Sm),SizeOf.sizeOf ks ≤ n → fitML ks = true → ks.length ≤ 9000000000 → ∀ w,StsOk w ks:=by
 intro n
 induction n with
 | zero => intro ks h; cases ks <;> simp at h
 | succ n ih =>
   intro ks hs hf hl w w1 p q c d _ hp hq
   refine zNM w1 ks p q c d hp hq (by omega) fun e he => ?_
   have h1:=List.sizeOf_lt_of_mem he
   have h2:=zAX hf he
   obtain ⟨ek,en,eo,ed,es,bs,ls,ea,er⟩:=e
   obtain ⟨-,-,f3,f4,f5,f6⟩:=zGl h2
   simp only [Sm.mk.sizeOf_spec] at h1
   exact ⟨ih bs (by omega) f3 f4 w1,ih ls (by omega) f5 f6 w1⟩
theorem zNN (w:World)(x:Gm){vs vs2:List Value}{B B2:Nat}(hx:GIs w B x vs)(hy:GIs w B2 x vs2)(hf:fitG x) :
 Calls Tryz.prog 8 #[.agg ⟨vs⟩,.agg ⟨vs2⟩] w fun e w' => e = .returned (.bool true) ∧ Below w.heap.size w w':=by
 obtain ⟨p,c,p2,c2,p3,c3,rfl,hp,hp2,hp3⟩:=hx.lower (Nat.zero_le _)
 obtain ⟨q,d,q2,d2,q3,d3,rfl,hq,hq2,hq3⟩:=hy.lower (Nat.zero_le _)
 obtain ⟨hf1,hf2,hf3,hf4,hf5⟩:=hf
 obtain ⟨xr,xg,xf⟩:=x
 dsimp only at hf1 hf2 hf3 hf4 hf5 hp hp2 hp3 hq hq2 hq3 ⊢
 obtain ⟨wa,hwa⟩:∃ wa,wa = (w.alloc (.cells #[.slice p xr.length c,.slice p2 xg.length c2,.slice p3 xf.length c3] 26)).alloc (.cells #[.slice q xr.length d,.slice q2 xg.length d2,.slice q3 xf.length d3] 26):=⟨_,rfl⟩
 have hbb:Below w.heap.size w wa:=by rw [hwa]; exact zA6 (zA6 (Below.refl _ _))
 have HBB:=vH hbb
 have HK2:=vH (zNK wa xg p2 q2 c2 d2 (LAt.ag (w:=w) (w1:=wa) (fun _ _ h => h) hp2 (Ag.below hbb)) (LAt.ag (w:=w) (w1:=wa) (fun _ _ h => h) hq2 (Ag.below hbb)) (by omega))
 have HX:=vH (show wa.heap[w.heap.size]? = some (.cells #[.slice p xr.length c,.slice p2 xg.length c2,.slice p3 xf.length c3] 26 (0,0)) by rw [hwa]; exact zE _ (heap_alloc_new w _))
 have HY:=vH (show wa.heap[w.heap.size + 1]? = some (.cells #[.slice q xr.length d,.slice q2 xg.length d2,.slice q3 xf.length d3] 26 (0,0)) by rw [hwa]; have:=heap_alloc_new (w.alloc (.cells #[.slice p xr.length c,.slice p2 xg.length c2,.slice p3 xf.length c3] 26)) (.cells #[.slice q xr.length d,.slice q2 xg.length d2,.slice q3 xf.length d3] 26); rw [zB] at this; exact this)
 have HF1:=vH hf1
 have HF3:=vH hf3
 have HE1:=vH hf4
 have HE3:=vH hf5
 have HP1:=vH hp
 have HQ1:=vH hq
 have HP3:=vH hp3
 have HQ3:=vH hq3
 show Calls Tryz.prog _ #[.agg #[.slice p xr.length c,.slice p2 xg.length c2,.slice p3 xf.length c3],.agg #[.slice q xr.length d,.slice q2 xg.length d2,.slice q3 xf.length d3]] w fun e w' => e = .returned (.bool true) ∧ Below w.heap.size w w'
 obtain ⟨⟨x0,x1,x2⟩,-⟩:=tri HX.out
 obtain ⟨⟨y0,y1,y2⟩,-⟩:=tri HY.out
 have hnb:w.heap.size ≠ w.heap.size + 1:=by omega
 have hnb2:=Ne.symm hnb
 clear hx hy hp hp2 hp3 hq hq2 hq3 hf1 hf2 hf3 hf4 hf5 hbb
 go_in
 go_upto_region 1 with fail
 rw [← hwa]
 clear hwa
 obtain ⟨bY,hbY⟩:∃ bY,bY = w.heap.size + 1:=⟨_,rfl⟩
 rw [← hbY]
 rw [← hbY] at HY y0 y1 y2 hnb hnb2
 clear hbY
 go_wp2_with fail
 refine HK2.out.mono ?_
 rintro e w1 ⟨rfl,hb⟩
 have HB1:=vH hb
 clear hb x0 x1 x2 y0 y1 y2
 go_wp2_with fail
 go_loopg [5] xr.length (fun m v wr => ∃ j:Nat,m + j = xr.length ∧ v = .int .i64 (j:Int) ∧ Below wa.heap.size wa wr)
 case atStart => exact ⟨0,rfl,rfl,HB1.out⟩
 case round =>
  obtain ⟨j,hj,rfl,hb⟩:=hrel
  have HB:=vH hb
  have HJ:=vH hj
  clear hb hj
  have HXj:=vH ((HB.out.block _ (zA HX.out)).trans HX.out)
  have HYj:=vH ((HB.out.block _ (zA HY.out)).trans HY.out)
  obtain ⟨⟨x0,x1,x2⟩,-⟩:=tri HXj.out
  obtain ⟨⟨y0,y1,y2⟩,-⟩:=tri HYj.out
  cases gk with
  | zero =>
    obtain rfl:j = xr.length:=by have:=HJ.out; omega
    have hd1:decide ((xr.length:Int) < (xr.length:Int)) = false:=decide_eq_false (by omega)
    have HB2:=HB
    go_wp2_with fail
    clear x0 x1 x2 y0 y1 y2 HJ HXj HYj HB
    go_loopg [6] xf.length (fun m v wr => ∃ j:Nat,m + j = xf.length ∧ v = .int .i64 (j:Int) ∧ Below wa.heap.size wa wr)
    case atStart => exact ⟨0,rfl,rfl,HB2.out⟩
    case round =>
        obtain ⟨j,hj,rfl,hb⟩:=hrel
        have HB:=vH hb
        have HJ:=vH hj
        clear hb hj
        have HXj:=vH ((HB.out.block _ (zA HX.out)).trans HX.out)
        have HYj:=vH ((HB.out.block _ (zA HY.out)).trans HY.out)
        obtain ⟨⟨x0,x1,x2⟩,-⟩:=tri HXj.out
        obtain ⟨⟨y0,y1,y2⟩,-⟩:=tri HYj.out
        cases gk with
        | zero =>
          obtain rfl:j = xf.length:=by have:=HJ.out; omega
          have hd1:decide ((xf.length:Int) < (xf.length:Int)) = false:=decide_eq_false (by omega)
          go_wp2_with fail
          go_ret
          exact ⟨rfl,zC HBB.out HB.out HBB.out.size⟩
        | succ m =>
          have hjl:j < xf.length:=by have:=HJ.out; omega
          have hd1:decide ((j:Int) < (xf.length:Int)) = true:=decide_eq_true (by omega)
          have hi1:(j:Int) < (xf.length:Int):=by omega
          have hi3:(0:Int) ≤ (j:Int):=by omega
          have hd2:decide (xf.length ≤ j) = false:=decide_eq_false (by omega)
          have hdw:wrap64 ((j:Int) + 1) = ((j + 1:Nat):Int):=by have:=HF3.out; simp [wrap64]; omega
          have he1:=List.getElem?_eq_getElem hjl
          have hfe:=HE3.out _ (List.getElem_mem hjl)
          generalize xf[j] = e1 at he1 hfe
          have HBW:=vH (zC HBB.out HB.out HBB.out.size)
          obtain ⟨bl,off,vs,rfl,hbl,hi,hc⟩:=(LAt.ag (w:=w) (w1:=wr) (fun _ _ h => h.ag (Ag.below HBW.out)) HP3.out (Ag.below HBW.out)).get he1
          obtain ⟨bl2,off2,vs2,rfl,hbl2,hi',hc2⟩:=(LAt.ag (w:=w) (w1:=wr) (fun _ _ h => h.ag (Ag.below HBW.out)) HQ3.out (Ag.below HBW.out)).get he1
          clear he1
          obtain ⟨xs,xfs,xh,xo,xd,xbs,xa⟩:=e1
          obtain ⟨xp,xc,xq,xe,rfl,hxp,hxq⟩:=hi
          obtain ⟨yp,yc,yq,ye,rfl,hyp,hyq⟩:=hi'
          dsimp only at hxp hxq hyp hyq hc hc2
          have z1:=hc 1 _ (by decide) rfl
          have t1:=hc2 1 _ (by decide) rfl
          have z5:=hc 5 _ (by decide) rfl
          have t5:=hc2 5 _ (by decide) rfl
          have z6:=hc 6 _ (by decide) rfl
          have t6:=hc2 6 _ (by decide) rfl
          obtain ⟨hg1,hg2,hg3⟩:=hfe
          dsimp only at hg1 hg2 hg3
          have hls:xfs.length ≤ 9223372036854775807:=Nat.le_trans hg1 (by decide)
          have HSP:=vH (show ∀ w1:World,Below wr.heap.size wr w1 → Calls Tryz.prog 26 #[.slice xp xfs.length xc,.slice yp xfs.length yc] w1 (fun en w' => en = .returned (.bool true) ∧ Below w1.heap.size w1 w') from
           fun w1 hb => zNK w1 xfs xp yp xc yc (hxp.ag (Ag.below hb)).lat (hyp.ag (Ag.below hb)).lat hls)
          have HSS:=vH (show ∀ w1:World,Below wr.heap.size wr w1 → Calls Tryz.prog 27 #[.slice xq xbs.length xe,.slice yq xbs.length ye] w1 (fun en w' => en = .returned (.bool true) ∧ Below w1.heap.size w1 w') from
           fun w1 hb => zNP _ xbs (Nat.le_refl _) hg3 hg2 wr w1 xq yq xe ye hb (SsAt.lower (hxq.ag (Ag.below hb)) (Nat.zero_le _)) (SsAt.lower (hyq.ag (Ag.below hb)) (Nat.zero_le _)))
          have hba:(xa != xa) = false:=bne_self_eq_false _
          have HGO:=vH (show ∀ w':World,Below wr.heap.size wr w' → (w'.cell? ⟨w.heap.size,2,none⟩ = some (.slice (some ⟨bl,off,none⟩) xf.length c3) ∧ w'.cell? ⟨bY,2,none⟩ = some (.slice (some ⟨bl2,off2,none⟩) xf.length d3) ∧ w'.cell? ⟨bl,off + j * 7 + 1,none⟩ = some (.slice xp xfs.length xc) ∧ w'.cell? ⟨bl,off + j * 7 + 5,none⟩ = some (.slice xq xbs.length xe) ∧ w'.cell? ⟨bl,off + j * 7 + 6,none⟩ = some (.int .i64 xa) ∧ w'.cell? ⟨bl2,off2 + j * 7 + 1,none⟩ = some (.slice yp xfs.length yc) ∧ w'.cell? ⟨bl2,off2 + j * 7 + 5,none⟩ = some (.slice yq xbs.length ye) ∧ w'.cell? ⟨bl2,off2 + j * 7 + 6,none⟩ = some (.int .i64 xa)) from
           fun w' hb => ⟨(hb.cell (p:=⟨w.heap.size,2,none⟩) (zA HXj.out)).trans x2,(hb.cell (p:=⟨bY,2,none⟩) (zA HYj.out)).trans y2,(hb.cell (p:=⟨bl,off + j * 7 + 1,none⟩) hbl).trans z1,(hb.cell (p:=⟨bl,off + j * 7 + 5,none⟩) hbl).trans z5,(hb.cell (p:=⟨bl,off + j * 7 + 6,none⟩) hbl).trans z6,(hb.cell (p:=⟨bl2,off2 + j * 7 + 1,none⟩) hbl2).trans t1,(hb.cell (p:=⟨bl2,off2 + j * 7 + 5,none⟩) hbl2).trans t5,(hb.cell (p:=⟨bl2,off2 + j * 7 + 6,none⟩) hbl2).trans t6⟩)
          have HB0:Hid (Below wr.heap.size wr wr.drew):=(Below.refl _ _).drew
          clear hxp hyp hxq hyq hc hc2 hls hg1 hg2 hg3
          go_wp2_with fail
          go_region_held3 (fun w' => w'.cell? ⟨w.heap.size,2,none⟩ = some (.slice (some ⟨bl,off,none⟩) xf.length c3) ∧ w'.cell? ⟨bY,2,none⟩ = some (.slice (some ⟨bl2,off2,none⟩) xf.length d3) ∧ w'.cell? ⟨bl,off + j * 7 + 1,none⟩ = some (.slice xp xfs.length xc) ∧ w'.cell? ⟨bl,off + j * 7 + 5,none⟩ = some (.slice xq xbs.length xe) ∧ w'.cell? ⟨bl,off + j * 7 + 6,none⟩ = some (.int .i64 xa) ∧ w'.cell? ⟨bl2,off2 + j * 7 + 1,none⟩ = some (.slice yp xfs.length yc) ∧ w'.cell? ⟨bl2,off2 + j * 7 + 5,none⟩ = some (.slice yq xbs.length ye) ∧ w'.cell? ⟨bl2,off2 + j * 7 + 6,none⟩ = some (.int .i64 xa)) (first | exact HGO.out _ HB0.out | exact HGO.out _ HB1.out | exact HGO.out _ HB3.out) (first
           | (go_at_call 26; (with_reducible refine Calls.mono (HSP.out _ HB0.out) ?_); rintro en w3 ⟨rfl,hb⟩; have HB1:=vH (zC HB0.out hb HB0.out.size); clear hb)
           | (go_at_call 27; (with_reducible refine Calls.mono (HSS.out _ HB1.out) ?_); rintro en w4 ⟨rfl,hb⟩; have HB3:=vH (zC HB1.out hb HB1.out.size); clear hb))
          go_wp2_with fail
          go_roundg m
          case measure => omega
          case rel => exact ⟨j + 1,by have:=HJ.out; omega,by first | rfl | simp [hdw],zC HB.out HB3.out HB.out.size⟩
  | succ m =>
    have hjl:j < xr.length:=by have:=HJ.out; omega
    have hd1:decide ((j:Int) < (xr.length:Int)) = true:=decide_eq_true (by omega)
    have hi1:(j:Int) < (xr.length:Int):=by omega
    have hi3:(0:Int) ≤ (j:Int):=by omega
    have hd2:decide (xr.length ≤ j) = false:=decide_eq_false (by omega)
    have hdw:wrap64 ((j:Int) + 1) = ((j + 1:Nat):Int):=by have:=HF1.out; simp [wrap64]; omega
    have he1:=List.getElem?_eq_getElem hjl
    have hfe:=HE1.out _ (List.getElem_mem hjl)
    generalize xr[j] = e1 at he1 hfe
    have HBW:=vH (zC HBB.out HB.out HBB.out.size)
    obtain ⟨bl,off,vs,rfl,hbl,hi,hc⟩:=(LAt.ag (w:=w) (w1:=wr) (fun _ _ h => h.ag (Ag.below HBW.out)) HP1.out (Ag.below HBW.out)).get he1
    obtain ⟨bl2,off2,vs2,rfl,hbl2,hi',hc2⟩:=(LAt.ag (w:=w) (w1:=wr) (fun _ _ h => h.ag (Ag.below HBW.out)) HQ1.out (Ag.below HBW.out)).get he1
    clear he1
    obtain ⟨xs,xfs,xa⟩:=e1
    obtain ⟨xp,xc,rfl,hxp⟩:=hi
    obtain ⟨yp,yc,rfl,hyp⟩:=hi'
    dsimp only at hxp hyp hc hc2
    have z1:=hc 1 _ (by decide) rfl
    have t1:=hc2 1 _ (by decide) rfl
    have z2:=hc 2 _ (by decide) rfl
    have t2:=hc2 2 _ (by decide) rfl
    have hls:xfs.length ≤ 9223372036854775807:=Nat.le_trans hfe (by decide)
    have HSP:=vH (show ∀ w1:World,Below wr.heap.size wr w1 → Calls Tryz.prog 26 #[.slice xp xfs.length xc,.slice yp xfs.length yc] w1 (fun en w' => en = .returned (.bool true) ∧ Below w1.heap.size w1 w') from
        fun w1 hb => zNK w1 xfs xp yp xc yc (hxp.ag (Ag.below hb)).lat (hyp.ag (Ag.below hb)).lat hls)
    have hba:(xa != xa) = false:=bne_self_eq_false _
    have HGO:=vH (show ∀ w':World,Below wr.heap.size wr w' → (w'.cell? ⟨w.heap.size,0,none⟩ = some (.slice (some ⟨bl,off,none⟩) xr.length c) ∧ w'.cell? ⟨bY,0,none⟩ = some (.slice (some ⟨bl2,off2,none⟩) xr.length d) ∧ w'.cell? ⟨bl,off + j * 3 + 1,none⟩ = some (.slice xp xfs.length xc) ∧ w'.cell? ⟨bl,off + j * 3 + 2,none⟩ = some (.int .i64 xa) ∧ w'.cell? ⟨bl2,off2 + j * 3 + 1,none⟩ = some (.slice yp xfs.length yc) ∧ w'.cell? ⟨bl2,off2 + j * 3 + 2,none⟩ = some (.int .i64 xa)) from
        fun w' hb => ⟨(hb.cell (p:=⟨w.heap.size,0,none⟩) (zA HXj.out)).trans x0,(hb.cell (p:=⟨bY,0,none⟩) (zA HYj.out)).trans y0,(hb.cell (p:=⟨bl,off + j * 3 + 1,none⟩) hbl).trans z1,(hb.cell (p:=⟨bl,off + j * 3 + 2,none⟩) hbl).trans z2,(hb.cell (p:=⟨bl2,off2 + j * 3 + 1,none⟩) hbl2).trans t1,(hb.cell (p:=⟨bl2,off2 + j * 3 + 2,none⟩) hbl2).trans t2⟩)
    have HB0:Hid (Below wr.heap.size wr wr.drew):=(Below.refl _ _).drew
    clear hxp hyp hc hc2 hls hfe
    go_wp2_with fail
    go_region_held3 (fun w' => w'.cell? ⟨w.heap.size,0,none⟩ = some (.slice (some ⟨bl,off,none⟩) xr.length c) ∧ w'.cell? ⟨bY,0,none⟩ = some (.slice (some ⟨bl2,off2,none⟩) xr.length d) ∧ w'.cell? ⟨bl,off + j * 3 + 1,none⟩ = some (.slice xp xfs.length xc) ∧ w'.cell? ⟨bl,off + j * 3 + 2,none⟩ = some (.int .i64 xa) ∧ w'.cell? ⟨bl2,off2 + j * 3 + 1,none⟩ = some (.slice yp xfs.length yc) ∧ w'.cell? ⟨bl2,off2 + j * 3 + 2,none⟩ = some (.int .i64 xa)) (first | exact HGO.out _ HB0.out | exact HGO.out _ HB1.out) (first
        | (go_at_call 26; (with_reducible refine Calls.mono (HSP.out _ HB0.out) ?_); rintro en w3 ⟨rfl,hb⟩; have HB1:=vH (zC HB0.out hb HB0.out.size); clear hb))
    go_wp2_with fail
    go_roundg m
    case measure => omega
    case rel => exact ⟨j + 1,by have:=HJ.out; omega,by first | rfl | simp [hdw],zC HB.out HB1.out HB.out.size⟩
theorem zNQ:Tryz.prog.stoodInHeld 29 = false:=by kernel_rfl
theorem zNR (a b:Int)(w:World):(binOp .eql 29 (.agg #[.int .i64 a,.int .i64 b]) (.agg #[.int .i64 a,.int .i64 b])).run Tryz.prog w = .ok (.bool true) w:=by
 rw [run_eql_struct,run_equalIn_agg w 9999 _ _ _ (by kernel_rfl) zNQ]
 simp [go_sem]
theorem zNL (s:ByteArray)(hs:s.size ≤ 7000)(w:World)(he:EnvG w) :
 Calls Tryz.prog 3 #[.string s] w fun e w' => e = .returned (.bool true) ∧ Below w.heap.size w w':=by
 have hm:s.size ≤ maxLen:=Nat.le_trans hs (by decide)
 have hp:=zKd s hm w he
 have hq:=fun w1 => zMU s hm w1
 have hf:=zMB s.data.toList
 generalize answer s.data.toList = y at hp hq hf
 obtain ⟨x,E,K⟩:=y
 have HP:=vH hp
 have HQ:=vH hq
 have HFI:=vH hf
 have HE:=vH he
 have hd1:decide ((7000:Int) < (s.size:Int)) = false:=decide_eq_false (by omega)
 clear hp hq hf he hm hs
 go_in
 go_wp2_with fail
 refine HP.out.mono ?_
 rintro e w1 ⟨p1,n1,c1,p2,n2,c2,p3,n3,c3,rfl,hgi,hb⟩
 have HG1:=vH hgi
 have HB1:=vH hb
 clear hgi hb HP
 go_wp2_with fail
 obtain ⟨wa,hwa⟩:∃ wa,wa = (w1.alloc (.cells #[.slice p1 n1 c1,.slice p2 n2 c2,.slice p3 n3 c3] 26)).alloc (.cells #[.int .i64 E,.int .i64 K] 29):=⟨_,rfl⟩
 rw [← hwa]
 have hbwa:Below w1.heap.size w1 wa:=by rw [hwa]; exact zA6 (zA6 (Below.refl _ _))
 have HK1:=vH (show wa.heap[w1.heap.size]? = some (.cells #[.slice p1 n1 c1,.slice p2 n2 c2,.slice p3 n3 c3] 26 (0,0)) by rw [hwa]; exact zE _ (heap_alloc_new w1 _))
 have HF1:=vH (show wa.heap[w1.heap.size + 1]? = some (.cells #[.int .i64 E,.int .i64 K] 29 (0,0)) by rw [hwa]; have:=heap_alloc_new (w1.alloc (.cells #[.slice p1 n1 c1,.slice p2 n2 c2,.slice p3 n3 c3] 26)) (.cells #[.int .i64 E,.int .i64 K] 29); rw [zB] at this; exact this)
 have HBA:=vH hbwa
 clear hwa hbwa
 refine (HQ.out wa).mono ?_
 rintro e w2 ⟨q1,m1,d1,q2,m2,d2,q3,m3,d3,rfl,hgi,hb⟩
 have HG2:=vH hgi
 have HB2:=vH hb
 clear hgi hb HQ
 go_upto_region 5 with fail
 obtain ⟨wb,hwb⟩:∃ wb,wb = (w2.alloc (.cells #[.slice q1 m1 d1,.slice q2 m2 d2,.slice q3 m3 d3] 26)).alloc (.cells #[.int .i64 E,.int .i64 K] 29):=⟨_,rfl⟩
 rw [← hwb]
 have hbwb:Below w2.heap.size w2 wb:=by rw [hwb]; exact zA6 (zA6 (Below.refl _ _))
 have HK2:=vH (show wb.heap[w2.heap.size]? = some (.cells #[.slice q1 m1 d1,.slice q2 m2 d2,.slice q3 m3 d3] 26 (0,0)) by rw [hwb]; exact zE _ (heap_alloc_new w2 _))
 have HF2:=vH (show wb.heap[w2.heap.size + 1]? = some (.cells #[.int .i64 E,.int .i64 K] 29 (0,0)) by rw [hwb]; have:=heap_alloc_new (w2.alloc (.cells #[.slice q1 m1 d1,.slice q2 m2 d2,.slice q3 m3 d3] 26)) (.cells #[.int .i64 E,.int .i64 K] 29); rw [zB] at this; exact this)
 have HBB:=vH hbwb
 have hbl:Below wa.heap.size wa wb:=zC HB2.out hbwb HB2.out.size
 have HBL:=vH hbl
 have HB0:=vH (zC (zC HB1.out HBA.out HB1.out.size) hbl (zC HB1.out HBA.out HB1.out.size).size)
 have HK3:=vH ((hbl.block _ (zA HK1.out)).trans HK1.out)
 have HF3:=vH ((hbl.block _ (zA HF1.out)).trans HF1.out)
 have hga:GIs wb w.heap.size x [.slice p1 n1 c1,.slice p2 n2 c2,.slice p3 n3 c3]:=HG1.out.ag (Ag.below (zC HBA.out hbl HBA.out.size))
 have hgb:GIs wb wa.heap.size x [.slice q1 m1 d1,.slice q2 m2 d2,.slice q3 m3 d3]:=HG2.out.ag (Ag.below hbwb)
 have HGA:=vH hga
 have HGB:=vH hgb
 clear hwb hbwb hbl hga hgb HK1 HF1 HG1 HG2
 obtain ⟨⟨x0,x1,x2⟩,-⟩:=tri HK3.out
 obtain ⟨⟨y0,y1,y2⟩,-⟩:=tri HK2.out
 obtain ⟨⟨f0,f1⟩,-⟩:=duo HF3.out
 obtain ⟨⟨g0,g1⟩,-⟩:=duo HF2.out
 have hEq:=fun w1 => zNR E K w1
 go_wp2_with fail
 refine (zMx wb x HGA.out HGB.out HFI.out).mono ?_
 rintro e w3 ⟨rfl,hb⟩
 clear x0 x1 x2 y0 y1 y2 f0 f1 g0 g1 hEq
 obtain ⟨⟨x0,x1,x2⟩,-⟩:=tri ((hb.block _ (zA HK3.out)).trans HK3.out)
 obtain ⟨⟨y0,y1,y2⟩,-⟩:=tri ((hb.block _ (zA HK2.out)).trans HK2.out)
 have HB3:=vH hb
 have HB4:=vH (zC HB0.out hb HB0.out.size)
 clear hb
 go_wp2_with fail
 refine (zNN w3 x (HGA.out.ag (Ag.below HB3.out)) (HGB.out.ag (Ag.below HB3.out)) HFI.out).mono ?_
 rintro e w4 ⟨rfl,hb⟩
 clear x0 x1 x2 y0 y1 y2
 have HB5:=vH (zC HB4.out hb HB4.out.size)
 clear hb
 go_wp2_with fail
 refine (zMy w4 (HE.out.below HB5.out)).mono ?_
 rintro e w5 ⟨rfl,hb⟩
 have HB6:=vH (zC HB5.out hb HB5.out.size)
 clear hb
 go_wp2_with fail
 go_ret
 exact ⟨rfl,HB6.out⟩
theorem progParses_walk (s:ByteArray)(_:s.size ≤ maxLen)(w:World)(he:EnvG w) :
 Calls Tryz.prog 3 #[.string s] w fun e w' => e = .returned (.bool true) ∧ Below w.heap.size w w':=by
 by_cases h:s.size ≤ 7000
 ·exact zNL s h w he
 ·have hd1:decide ((7000:Int) < (s.size:Int)) = true:=decide_eq_true (by omega)
  clear h he
  go_in
  go_wp2_with fail
  go_ret
  exact ⟨rfl,Below.refl _ _⟩
end Go.Proofs.YtipmjjfknhblnaaGreatDoor
