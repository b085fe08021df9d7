/-
  Whether two programs are alike: the answer's SameProg.
-/
import Derived.Test.YtmiiplefgkcklaaDoorK04
import Derived.Test.YtmiiplefgkcklaaDoorK22
import Derived.Deep.RegionHeld3
import Derived.Deep.CutBlock
set_option maxRecDepth 8000
set_option maxHeartbeats 8000000
namespace Go.Proofs.YtmiiplefgkcklaaDoor
open Go.RowKit
open Pe
open Ps (Sm PX)
open Pg (BX Pm Rc Fc Gm)
theorem zL8 (w:World)(x y:Gm){vs vs2:List Value}{B B2:Nat}(hx:GIs w B x vs)(hy:GIs w B2 y vs2)(hf:fitG x) :
 Calls Tryd.prog 12 #[.agg ⟨vs⟩,.agg ⟨vs2⟩] w fun e w' => e = .returned (.bool (sameG x y)) ∧ Below w.heap.size w w':=by
 obtain ⟨p,c,p2,c2,p3,c3,rfl,hp,hp2,hp3⟩:=hx.lower (Nat.zero_le _)
 obtain ⟨q,d,q2,d2,q3,d3,rfl,hq,hq2,hq3⟩:=hy.lower (Nat.zero_le _)
 obtain ⟨hf1,hf2,hf3,hf4,hf5⟩:=hf
 obtain ⟨xr,xg,xf⟩:=x
 obtain ⟨yr,yg,yf⟩:=y
 dsimp only at hf1 hf2 hf3 hf4 hf5 hp hp2 hp3 hq hq2 hq3 ⊢
 obtain ⟨wa,hwa⟩:∃ wa,wa = (w.alloc (.cells #[.slice p xr.length c,.slice p2 xg.length c2,.slice p3 xf.length c3] 26)).alloc (.cells #[.slice q yr.length d,.slice q2 yg.length d2,.slice q3 yf.length d3] 26):=⟨_,rfl⟩
 have hbb:Below w.heap.size w wa:=by rw [hwa]; exact ((Below.refl _ _).alloc (Nat.le_refl _) _).alloc (by rw [zB]; omega) _
 have HBB:=vH hbb
 have HK2:=vH (zAZ wa xg yg p2 q2 c2 d2 (LAt.ag (w:=w) (w1:=wa) (fun _ _ h => h) hp2 (Ag.below hbb)) (LAt.ag (w:=w) (w1:=wa) (fun _ _ h => h) hq2 (Ag.below hbb)) (by omega))
 have HX:=vH (show wa.heap[w.heap.size]? = some (.cells #[.slice p xr.length c,.slice p2 xg.length c2,.slice p3 xf.length c3] 26 (0,0)) by rw [hwa]; exact zK _ (heap_alloc_new w _))
 have HY:=vH (show wa.heap[w.heap.size + 1]? = some (.cells #[.slice q yr.length d,.slice q2 yg.length d2,.slice q3 yf.length d3] 26 (0,0)) by rw [hwa]; have:=heap_alloc_new (w.alloc (.cells #[.slice p xr.length c,.slice p2 xg.length c2,.slice p3 xf.length c3] 26)) (.cells #[.slice q yr.length d,.slice q2 yg.length d2,.slice q3 yf.length d3] 26); rw [zB] at this; exact this)
 have hsz:wa.heap.size = w.heap.size + 2:=by rw [hwa]; simp only [zB]
 have HSZ:=vH hsz
 have HF1:=vH hf1
 have HF3:=vH hf3
 have HE1:=vH hf4
 have HE3:=vH hf5
 have HP1:=vH hp
 have HQ1:=vH hq
 have HP3:=vH hp3
 have HQ3:=vH hq3
 have hsg:sameG ⟨xr,xg,xf⟩ ⟨yr,yg,yf⟩ = (sameLs sameR xr yr && sameLs sameP xg yg && sameLs sameF xf yf):=rfl
 rw [hsg]
 show Calls Tryd.prog _ #[.agg #[.slice p xr.length c,.slice p2 xg.length c2,.slice p3 xf.length c3],.agg #[.slice q yr.length d,.slice q2 yg.length d2,.slice q3 yf.length d3]] w fun e w' => e = .returned (.bool (sameLs sameR xr yr && sameLs sameP xg yg && sameLs sameF xf yf)) ∧ Below w.heap.size w w'
 obtain ⟨⟨x0,x1,x2⟩,-⟩:=tri HX.out
 obtain ⟨⟨y0,y1,y2⟩,-⟩:=tri HY.out
 have hnb:w.heap.size ≠ w.heap.size + 1:=by omega
 have hnb2:=Ne.symm hnb
 clear hx hy hp hp2 hp3 hq hq2 hq3 hf1 hf2 hf3 hf4 hf5 hbb hsz hsg
 by_cases hl1:xr.length = yr.length
 ·have hlb1:((xr.length:Int) != (yr.length:Int)) = false:=by rw [hl1]; exact bne_self_eq_false _
  have HL1:=vH hl1
  clear hl1
  by_cases hl3:xf.length = yf.length
  ·have hlb3:((xf.length:Int) != (yf.length:Int)) = false:=by rw [hl3]; exact bne_self_eq_false _
   have HL3:=vH hl3
   clear hl3
   generalize sameLs sameP xg yg = v2 at HK2 ⊢
   go_in
   go_upto_region 1 with fail
   rw [← hwa]
   clear hwa
   obtain ⟨bY,hbY⟩:∃ bY,bY = w.heap.size + 1:=⟨_,rfl⟩
   rw [← hbY]
   rw [← hbY] at HY y0 y1 y2 hnb hnb2
   clear hbY
   go_wp2_with fail
   refine HK2.out.mono ?_
   rintro e w1 ⟨rfl,hb⟩
   have hb0:=zF HBB.out hb HBB.out.size
   have HB1:=vH hb
   clear hb x0 x1 x2 y0 y1 y2
   cases v2 with
   | false =>
     go_wp2_with fail
     go_ret
     exact ⟨by simp,hb0⟩
   | true =>
     clear hb0
     go_wp2_with fail
     go_loopg [5] xr.length (fun n v wr => ∃ j:Nat,n + j = xr.length ∧ v = .int .i64 (j:Int) ∧ Below wa.heap.size wa wr ∧ sameLs sameR (xr.drop j) (yr.drop j) = sameLs sameR xr yr)
     case atStart => exact ⟨0,rfl,rfl,HB1.out,rfl⟩
     case round =>
      obtain ⟨j,hj,rfl,hb,hs⟩:=hrel
      have HB:=vH hb
      have HS:=vH hs
      have HJ:=vH hj
      clear hb hs hj
      have HXj:=vH ((HB.out.block _ (zA HX.out)).trans HX.out)
      have HYj:=vH ((HB.out.block _ (zA HY.out)).trans HY.out)
      obtain ⟨⟨x0,x1,x2⟩,-⟩:=tri HXj.out
      obtain ⟨⟨y0,y1,y2⟩,-⟩:=tri HYj.out
      cases gk with
      | zero =>
        obtain rfl:j = xr.length:=by have:=HJ.out; omega
        have hd1:decide ((xr.length:Int) < (xr.length:Int)) = false:=decide_eq_false (by omega)
        have hsr:sameLs sameR xr yr = true:=by
           rw [← HS.out,List.drop_of_length_le (Nat.le_refl _),List.drop_of_length_le (by rw [HL1.out]; exact Nat.le_refl _),sameLs]
        have HSR1:=vH hsr
        have HB2:=HB
        clear hsr
        go_wp2_with fail
        clear x0 x1 x2 y0 y1 y2 HS HJ HXj HYj
        go_loopg [6] xf.length (fun n v wr => ∃ j:Nat,n + j = xf.length ∧ v = .int .i64 (j:Int) ∧ Below wa.heap.size wa wr ∧ sameLs sameF (xf.drop j) (yf.drop j) = sameLs sameF xf yf)
        case atStart => exact ⟨0,rfl,rfl,HB2.out,rfl⟩
        case round =>
           clear HB
           obtain ⟨j,hj,rfl,hb,hs⟩:=hrel
           have HB:=vH hb
           have HS:=vH hs
           have HJ:=vH hj
           clear hb hs hj
           have HXj:=vH ((HB.out.block _ (zA HX.out)).trans HX.out)
           have HYj:=vH ((HB.out.block _ (zA HY.out)).trans HY.out)
           obtain ⟨⟨x0,x1,x2⟩,-⟩:=tri HXj.out
           obtain ⟨⟨y0,y1,y2⟩,-⟩:=tri HYj.out
           cases gk with
           | zero =>
             obtain rfl:j = xf.length:=by have:=HJ.out; omega
             have hd1:decide ((xf.length:Int) < (xf.length:Int)) = false:=decide_eq_false (by omega)
             have hsf:sameLs sameF xf yf = true:=by
              rw [← HS.out,List.drop_of_length_le (Nat.le_refl _),List.drop_of_length_le (by rw [HL3.out]; exact Nat.le_refl _),sameLs]
             have HSF:=vH hsf
             clear hsf
             go_wp2_with fail
             go_ret
             refine ⟨zS ?_,zF HBB.out HB.out HBB.out.size⟩
             rw [HSR1.out,HSF.out]
             rfl
           | succ m =>
             have hjl:j < xf.length:=by have:=HJ.out; omega
             have hjl2:j < yf.length:=by have:=HL3.out; omega
             have hd1:decide ((j:Int) < (xf.length:Int)) = true:=decide_eq_true (by omega)
             have hi1:(j:Int) < (xf.length:Int):=by omega
             have hi2:(j:Int) < (yf.length:Int):=by omega
             have hi3:(0:Int) ≤ (j:Int):=by omega
             have hd2:decide (xf.length ≤ j) = false:=decide_eq_false (by omega)
             have hd3:decide (yf.length ≤ j) = false:=decide_eq_false (by omega)
             have hdw:wrap64 ((j:Int) + 1) = ((j + 1:Nat):Int):=by have:=HF3.out; simp [wrap64]; omega
             have he1:=List.getElem?_eq_getElem hjl
             have he2:=List.getElem?_eq_getElem hjl2
             have hd4:xf.drop j = xf[j] :: xf.drop (j + 1):=List.drop_eq_getElem_cons hjl
             have hd5:yf.drop j = yf[j] :: yf.drop (j + 1):=List.drop_eq_getElem_cons hjl2
             have hfe:=HE3.out _ (List.getElem_mem hjl)
             generalize xf[j] = e1 at he1 hd4 hfe
             generalize yf[j] = e2 at he2 hd5
             have HD4:=vH hd4
             have HD5:=vH hd5
             have HBW:=vH (zF HBB.out HB.out HBB.out.size)
             obtain ⟨bl,off,vs,rfl,hbl,hi,hc⟩:=(LAt.ag (w:=w) (w1:=wr) (fun _ _ h => h.ag (Ag.below HBW.out)) HP3.out (Ag.below HBW.out)).get he1
             obtain ⟨bl2,off2,vs2,rfl,hbl2,hi',hc2⟩:=(LAt.ag (w:=w) (w1:=wr) (fun _ _ h => h.ag (Ag.below HBW.out)) HQ3.out (Ag.below HBW.out)).get he2
             clear he1 he2 hd4 hd5
             obtain ⟨xs,xfs,xh,xo,xd,xbs,xa⟩:=e1
             obtain ⟨ys,yfs,yh,yo,yd,ybs,ya⟩:=e2
             obtain ⟨xp,xc,xq,xe,rfl,hxp,hxq⟩:=hi
             obtain ⟨yp,yc,yq,ye,rfl,hyp,hyq⟩:=hi'
             dsimp only at hxp hxq hyp hyq hc hc2
             have z0:=hc 0 _ (by decide) rfl
             have z1:=hc 1 _ (by decide) rfl
             have z2:=hc 2 _ (by decide) rfl
             have z3:=hc 3 _ (by decide) rfl
             have z4:=hc 4 _ (by decide) rfl
             have z5:=hc 5 _ (by decide) rfl
             have z6:=hc 6 _ (by decide) rfl
             have t0:=hc2 0 _ (by decide) rfl
             have t1:=hc2 1 _ (by decide) rfl
             have t2:=hc2 2 _ (by decide) rfl
             have t3:=hc2 3 _ (by decide) rfl
             have t4:=hc2 4 _ (by decide) rfl
             have t5:=hc2 5 _ (by decide) rfl
             have t6:=hc2 6 _ (by decide) rfl
             simp only [Nat.add_zero] at z0 t0
             obtain ⟨hg1,hg2,hg3⟩:=hfe
             dsimp only at hg1 hg2 hg3
             have HG1:=vH (show xfs.length ≤ 9223372036854775807 by omega)
             have HG2:=vH (show xbs.length ≤ 9223372036854775807 by omega)
             have HG3:=vH hg3
             have hsr:sameLs sameF (xf.drop j) (yf.drop j) = ((xs == ys) && (xh == yh) && (xo == yo && xd == yd) && sameLs sameP xfs yfs && sameML xbs ybs && sameLs sameF (xf.drop (j + 1)) (yf.drop (j + 1))):=by rw [HD4.out,HD5.out,sameLs]; rfl
             have HSR:=vH hsr
             have HXP:=vH hxp
             have HYP:=vH hyp
             have HXQ:=vH hxq
             have HYQ:=vH hyq
             clear hc hc2 hg1 hg2 hg3 hsr hxp hyp hxq hyq
             have hn1:bl ≠ wr.heap.size:=Nat.ne_of_lt hbl
             have hn2:bl2 ≠ wr.heap.size:=Nat.ne_of_lt hbl2
             have hn3:bl ≠ wr.heap.size + 1:=by omega
             have hn4:bl2 ≠ wr.heap.size + 1:=by omega
             have hn5:w.heap.size ≠ wr.heap.size:=Nat.ne_of_lt (zA HXj.out)
             have hn6:bY ≠ wr.heap.size:=Nat.ne_of_lt (zA HYj.out)
             have hn7:w.heap.size ≠ wr.heap.size + 1:=by have:=zA HXj.out; omega
             have hn8:bY ≠ wr.heap.size + 1:=by have:=zA HYj.out; omega
             have hm5:=Ne.symm hn5
             have hm6:=Ne.symm hn6
             have hm7:=Ne.symm hn7
             have hm8:=Ne.symm hn8
             have hk5:w.heap.size < wr.heap.size:=zA HXj.out
             have hk6:bY < wr.heap.size:=zA HYj.out
             have hm1:=Ne.symm hn1
             have hm2:=Ne.symm hn2
             have hm3:=Ne.symm hn3
             have hm4:=Ne.symm hn4
             go_wp2_with fail
             go_region
             all_goals clear z0 z1 z2 z3 z4 z5 z6 t0 t1 t2 t3 t4 t5 t6 hn1 hn2 hn3 hn4 hn5 hn6 hn7 hn8 hm1 hm2 hm3 hm4 hm5 hm6 hm7 hm8 hk5 hk6 x0 x1 x2 y0 y1 y2
             all_goals (first
              | (obtain ⟨b7,b8,wq,h7,h8,hq,hX7,hY8⟩:∃ b7 b8 wq,b7 = wr.heap.size ∧ b8 = wr.heap.size + 1 ∧ wq = ((wr.alloc (.cells #[.string (cbs xs),.slice xp xfs.length xc,.bool xh,.string (cbs xo),.int .i64 xd,.slice xq xbs.length xe,.int .i64 xa] 72)).alloc (.cells #[.string (cbs ys),.slice yp yfs.length yc,.bool yh,.string (cbs yo),.int .i64 yd,.slice yq ybs.length ye,.int .i64 ya] 72)).drew ∧ wq.heap[b7]? = some (.cells #[.string (cbs xs),.slice xp xfs.length xc,.bool xh,.string (cbs xo),.int .i64 xd,.slice xq xbs.length xe,.int .i64 xa] 72 (0,0)) ∧ wq.heap[b8]? = some (.cells #[.string (cbs ys),.slice yp yfs.length yc,.bool yh,.string (cbs yo),.int .i64 yd,.slice yq ybs.length ye,.int .i64 ya] 72 (0,0)):=⟨_,_,_,rfl,rfl,rfl,zK _ (heap_alloc_new wr _),(by have:=heap_alloc_new (wr.alloc (.cells #[.string (cbs xs),.slice xp xfs.length xc,.bool xh,.string (cbs xo),.int .i64 xd,.slice xq xbs.length xe,.int .i64 xa] 72)) (.cells #[.string (cbs ys),.slice yp yfs.length yc,.bool yh,.string (cbs yo),.int .i64 yd,.slice yq ybs.length ye,.int .i64 ya] 72); rw [zB] at this; exact this)⟩; have hbq:Below wr.heap.size wr wq:=(by rw [hq]; exact (zCB (zCB (Below.refl _ _))).drew); rw [← hq,← h8,← h7]; have HX7:=vH hX7; have HY8:=vH hY8; have HBQ:=vH hbq; have hne:b7 ≠ b8:=(by omega); clear h7 h8 hq hX7 hY8 hbq)
              | (obtain ⟨b8,b7,wq,h7,h8,hq,hX7,hY8⟩:∃ b8 b7 wq,b8 = wr.heap.size ∧ b7 = wr.heap.size + 1 ∧ wq = ((wr.alloc (.cells #[.string (cbs ys),.slice yp yfs.length yc,.bool yh,.string (cbs yo),.int .i64 yd,.slice yq ybs.length ye,.int .i64 ya] 72)).alloc (.cells #[.string (cbs xs),.slice xp xfs.length xc,.bool xh,.string (cbs xo),.int .i64 xd,.slice xq xbs.length xe,.int .i64 xa] 72)).drew ∧ wq.heap[b7]? = some (.cells #[.string (cbs xs),.slice xp xfs.length xc,.bool xh,.string (cbs xo),.int .i64 xd,.slice xq xbs.length xe,.int .i64 xa] 72 (0,0)) ∧ wq.heap[b8]? = some (.cells #[.string (cbs ys),.slice yp yfs.length yc,.bool yh,.string (cbs yo),.int .i64 yd,.slice yq ybs.length ye,.int .i64 ya] 72 (0,0)):=⟨_,_,_,rfl,rfl,rfl,(by have:=heap_alloc_new (wr.alloc (.cells #[.string (cbs ys),.slice yp yfs.length yc,.bool yh,.string (cbs yo),.int .i64 yd,.slice yq ybs.length ye,.int .i64 ya] 72)) (.cells #[.string (cbs xs),.slice xp xfs.length xc,.bool xh,.string (cbs xo),.int .i64 xd,.slice xq xbs.length xe,.int .i64 xa] 72); rw [zB] at this; exact this),zK _ (heap_alloc_new wr _)⟩; have hbq:Below wr.heap.size wr wq:=(by rw [hq]; exact (zCB (zCB (Below.refl _ _))).drew); rw [← hq,← h8,← h7]; have HX7:=vH hX7; have HY8:=vH hY8; have HBQ:=vH hbq; have hne:b7 ≠ b8:=(by omega); clear h7 h8 hq hX7 hY8 hbq))
             all_goals
              have hnr:=Ne.symm hne
              have HBR:=vH (zF HBW.out HBQ.out HBW.out.size)
              have HSP:=vH (zAZ wq xfs yfs xp yp xc yc (HXP.out.ag (Ag.below HBQ.out)).lat (HYP.out.ag (Ag.below HBQ.out)).lat HG1.out)
              have hsx:=zCh xs ys
              have hsy:=zFx xs ys
              have hN:=zKo xo yo xd yd
              have hxb:(xh != yh) = !(xh == yh):=rfl
              generalize (xs == ys) = g1 at hsx hsy HSR
              generalize (xo == yo && xd == yd) = g3 at hN HSR
              obtain ⟨⟨x0,x1,x2,x3,x4,x5,x6⟩,-⟩:=sept HX7.out
              obtain ⟨⟨y0,y1,y2,y3,y4,y5,y6⟩,-⟩:=sept HY8.out
              cases g1 with
              | false =>
                simp only [Bool.not_false] at hsy
                go_wp2_with fail
                go_ret
                refine ⟨zS ?_,HBR.out⟩
                rw [HSR1.out,← HS.out,HSR.out]
                simp
              | true =>
                simp only [Bool.not_true] at hsy
                generalize sameLs sameP xfs yfs = v1 at HSP HSR
                go_wp2_with fail
                refine HSP.out.mono ?_
                rintro e w3 ⟨rfl,hb⟩
                have HBS:=vH (zF HBR.out hb HBR.out.size)
                have HBT:=vH (zF HBQ.out hb HBQ.out.size)
                have HX9:=vH ((hb.block _ (zA HX7.out)).trans HX7.out)
                have HY9:=vH ((hb.block _ (zA HY8.out)).trans HY8.out)
                clear hb x0 x1 x2 x3 x4 x5 x6 y0 y1 y2 y3 y4 y5 y6
                obtain ⟨⟨x0,x1,x2,x3,x4,x5,x6⟩,-⟩:=sept HX9.out
                obtain ⟨⟨y0,y1,y2,y3,y4,y5,y6⟩,-⟩:=sept HY9.out
                cases v1 with
                | false =>
                  go_wp2_with fail
                  go_ret
                  refine ⟨zS ?_,HBS.out⟩
                  rw [HSR1.out,← HS.out,HSR.out]
                  simp
                | true =>
                  have HSS:=vH (zBj w3 xbs ybs xq yq xe ye (SsAt.lower (HXQ.out.ag (Ag.below HBT.out)) (Nat.le_refl 0)) (SsAt.lower (HYQ.out.ag (Ag.below HBT.out)) (Nat.le_refl 0)) HG2.out (fun e he e2 => zFF _ e e2 (Nat.le_refl _) (zB0 HG3.out he) _))
                  generalize sameML xbs ybs = v4 at HSS HSR
                  by_cases hall:(xh == yh) = true ∧ g3 = true
                  ·obtain ⟨hq1,rfl⟩:=hall
                   rw [hq1] at hxb HSR
                   simp only [Bool.not_true] at hxb hN
                   go_wp2_with fail
                   refine HSS.out.mono ?_
                   rintro e w5 ⟨rfl,hb⟩
                   have HBU:=vH (zF HBS.out hb HBS.out.size)
                   have HBV:=vH (zF HBT.out hb HBT.out.size)
                   clear hb
                   cases v4 with
                   | false =>
                     go_wp2_with fail
                     go_ret
                     refine ⟨zS ?_,HBU.out⟩
                     rw [HSR1.out,← HS.out,HSR.out]
                     simp
                   | true =>
                     go_wp2_with fail
                     go_roundg m
                     case measure => omega
                     case rel => exact ⟨j + 1,by have:=HJ.out; omega,by first | rfl | simp [hdw],zF HB.out HBV.out HB.out.size,by rw [← HS.out,HSR.out]; simp⟩
                  ·obtain ⟨g2,hg2⟩:∃ g2,(xh == yh) = g2:=⟨_,rfl⟩
                   rw [hg2] at hxb hall HSR
                   cases g2 with
                   | false =>
                     simp only [Bool.not_false] at hxb
                     clear hall
                     go_wp2_with fail
                     go_ret
                     refine ⟨zS ?_,HBS.out⟩
                     rw [HSR1.out,← HS.out,HSR.out]
                     simp
                   | true =>
                     cases g3 with
                     | true => exact absurd ⟨rfl,rfl⟩ hall
                     | false =>
                       simp only [Bool.not_true] at hxb
                       simp only [Bool.not_false] at hN
                       clear hall
                       go_wp2_with fail
                       go_ret
                       refine ⟨zS ?_,HBS.out⟩
                       rw [HSR1.out,← HS.out,HSR.out]
                       simp
      | succ m =>
        have hjl:j < xr.length:=by have:=HJ.out; omega
        have hjl2:j < yr.length:=by have:=HL1.out; omega
        have hd1:decide ((j:Int) < (xr.length:Int)) = true:=decide_eq_true (by omega)
        have hi1:(j:Int) < (xr.length:Int):=by omega
        have hi2:(j:Int) < (yr.length:Int):=by omega
        have hi3:(0:Int) ≤ (j:Int):=by omega
        have hd2:decide (xr.length ≤ j) = false:=decide_eq_false (by omega)
        have hd3:decide (yr.length ≤ j) = false:=decide_eq_false (by omega)
        have hdw:wrap64 ((j:Int) + 1) = ((j + 1:Nat):Int):=by have:=HF1.out; simp [wrap64]; omega
        have he1:=List.getElem?_eq_getElem hjl
        have he2:=List.getElem?_eq_getElem hjl2
        have hd4:xr.drop j = xr[j] :: xr.drop (j + 1):=List.drop_eq_getElem_cons hjl
        have hd5:yr.drop j = yr[j] :: yr.drop (j + 1):=List.drop_eq_getElem_cons hjl2
        have hfe:=HE1.out _ (List.getElem_mem hjl)
        generalize xr[j] = e1 at he1 hd4 hfe
        generalize yr[j] = e2 at he2 hd5
        have HD4:=vH hd4
        have HD5:=vH hd5
        have HBW:=vH (zF HBB.out HB.out HBB.out.size)
        obtain ⟨bl,off,vs,rfl,hbl,hi,hc⟩:=(LAt.ag (w:=w) (w1:=wr) (fun _ _ h => h.ag (Ag.below HBW.out)) HP1.out (Ag.below HBW.out)).get he1
        obtain ⟨bl2,off2,vs2,rfl,hbl2,hi',hc2⟩:=(LAt.ag (w:=w) (w1:=wr) (fun _ _ h => h.ag (Ag.below HBW.out)) HQ1.out (Ag.below HBW.out)).get he2
        clear he1 he2 hd4 hd5
        obtain ⟨xs,xfs,xa⟩:=e1
        obtain ⟨ys,yfs,ya⟩:=e2
        obtain ⟨xp,xc,rfl,hxp⟩:=hi
        obtain ⟨yp,yc,rfl,hyp⟩:=hi'
        dsimp only at hxp hyp hc hc2
        have z0:=hc 0 _ (by decide) rfl
        have z1:=hc 1 _ (by decide) rfl
        have t0:=hc2 0 _ (by decide) rfl
        have t1:=hc2 1 _ (by decide) rfl
        simp only [Nat.add_zero] at z0 t0
        have hls:xfs.length ≤ 9223372036854775807:=Nat.le_trans hfe (by decide)
        have HSP:=vH (show ∀ w1:World,Below wr.heap.size wr w1 → Calls Tryd.prog 33 #[.slice xp xfs.length xc,.slice yp yfs.length yc] w1 (fun en w' => en = .returned (.bool (sameLs sameP xfs yfs)) ∧ Below w1.heap.size w1 w') from
           fun w1 hb => zAZ w1 xfs yfs xp yp xc yc (hxp.ag (Ag.below hb)).lat (hyp.ag (Ag.below hb)).lat hls)
        have hsx:=zCh xs ys
        have hsy:=zFx xs ys
        have hsr:sameLs sameR (xr.drop j) (yr.drop j) = ((xs == ys) && sameLs sameP xfs yfs && sameLs sameR (xr.drop (j + 1)) (yr.drop (j + 1))):=by rw [HD4.out,HD5.out,sameLs]; rfl
        have HSR:=vH hsr
        have HGO:=vH (show ∀ w':World,Below wr.heap.size wr w' → (w'.cell? ⟨w.heap.size,0,none⟩ = some (.slice (some ⟨bl,off,none⟩) xr.length c) ∧ w'.cell? ⟨bY,0,none⟩ = some (.slice (some ⟨bl2,off2,none⟩) yr.length d) ∧ w'.cell? ⟨bl,off + j * 3,none⟩ = some (.string (cbs xs)) ∧ w'.cell? ⟨bl,off + j * 3 + 1,none⟩ = some (.slice xp xfs.length xc) ∧ w'.cell? ⟨bl2,off2 + j * 3,none⟩ = some (.string (cbs ys)) ∧ w'.cell? ⟨bl2,off2 + j * 3 + 1,none⟩ = some (.slice yp yfs.length yc)) from
           fun w' hb => ⟨(hb.cell (p:=⟨w.heap.size,0,none⟩) (zA HXj.out)).trans x0,(hb.cell (p:=⟨bY,0,none⟩) (zA HYj.out)).trans y0,(hb.cell (p:=⟨bl,off + j * 3,none⟩) hbl).trans z0,(hb.cell (p:=⟨bl,off + j * 3 + 1,none⟩) hbl).trans z1,(hb.cell (p:=⟨bl2,off2 + j * 3,none⟩) hbl2).trans t0,(hb.cell (p:=⟨bl2,off2 + j * 3 + 1,none⟩) hbl2).trans t1⟩)
        have HB0:Hid (Below wr.heap.size wr wr.drew):=(Below.refl _ _).drew
        clear hxp hyp hc hc2 hsr hls hfe
        generalize (xs == ys) = g1 at hsx hsy HSR
        cases g1 with
        | false =>
          simp only [Bool.not_false] at hsy
          go_wp2_with fail
          go_quiet (fail)
          go_wp2_with fail
          go_ret
          refine ⟨zS ?_,zCA (zF HBB.out HB.out HBB.out.size) nq⟩
          rw [← HS.out,HSR.out]
          rfl
        | true =>
          simp only [Bool.not_true] at hsy
          generalize sameLs sameP xfs yfs = v1 at HSP HSR
          go_wp2_with fail
          go_region_held3 (fun w' => w'.cell? ⟨w.heap.size,0,none⟩ = some (.slice (some ⟨bl,off,none⟩) xr.length c) ∧ w'.cell? ⟨bY,0,none⟩ = some (.slice (some ⟨bl2,off2,none⟩) yr.length d) ∧ w'.cell? ⟨bl,off + j * 3,none⟩ = some (.string (cbs xs)) ∧ w'.cell? ⟨bl,off + j * 3 + 1,none⟩ = some (.slice xp xfs.length xc) ∧ w'.cell? ⟨bl2,off2 + j * 3,none⟩ = some (.string (cbs ys)) ∧ w'.cell? ⟨bl2,off2 + j * 3 + 1,none⟩ = some (.slice yp yfs.length yc)) (first | exact HGO.out _ HB0.out | exact HGO.out _ HB1.out) (first
            | (go_at_call 33; (with_reducible refine Calls.mono (HSP.out _ HB0.out) ?_); rintro en w3 ⟨rfl,hb⟩; have HB1:=vH (zF HB0.out hb HB0.out.size); clear hb))
          cases v1 with
          | false =>
            go_wp2_with fail
            go_ret
            refine ⟨zS ?_,zF HBW.out HB1.out HBW.out.size⟩
            rw [← HS.out,HSR.out]
            rfl
          | true =>
            go_wp2_with fail
            go_roundg m
            case measure => omega
            case rel => exact ⟨j + 1,by have:=HJ.out; omega,by first | rfl | simp [hdw],zF HB.out HB1.out HB.out.size,by rw [← HS.out,HSR.out]; rfl⟩
  ·have hlb3:((xf.length:Int) != (yf.length:Int)) = true:=bne_iff_ne.2 (by omega)
   rw [zA4 _ _ hl3]
   clear hl3
   go_in
   go_upto_region 1 with fail
   rw [← hwa]
   clear hwa
   go_wp2_with fail
   go_ret
   exact ⟨by simp,HBB.out⟩
 ·have hlb1:((xr.length:Int) != (yr.length:Int)) = true:=bne_iff_ne.2 (by omega)
  rw [zA4 _ _ hl1]
  clear hl1
  go_in
  go_upto_region 1 with fail
  rw [← hwa]
  clear hwa
  go_wp2_with fail
  go_ret
  exact ⟨rfl,HBB.out⟩
end Go.Proofs.YtmiiplefgkcklaaDoor
