/-
  Whether two statements are alike, wherever they stand: the c
-/
import Derived.Test.YtipmjjfknhblnaaGreatDoorK32
import Derived.Test.YtipmjjfknhblnaaGreatDoorK38
import Derived.Test.YtipmjjfknhblnaaGreatDoorK02
import Derived.BigQuiet
set_option maxRecDepth 8000
set_option maxHeartbeats 8000000
namespace Go.Proofs.YtipmjjfknhblnaaGreatDoor
open Go.RowKit
open Px (RT tokAt)
open Pe
open Ps (Sm PX)
theorem zBk (w:World)(ks ls:List Sm)(p q:Option Addr)(c d:Nat)(hp:SsAt w 0 p ks)(hq:SsAt w 0 q ls)(hl:ks.length ≤ 9223372036854775807)(hel:∀ e ∈ ks,∀ e2,SSameOk 48 w e e2) :
 Calls Tryz.prog 25 #[.slice p ks.length c,.slice q ls.length d] w fun e w' => e = .returned (.bool (sameML ks ls)) ∧ Below w.heap.size w w':=by
 have HP:=vH hp
 have HQ:=vH hq
 have HEL:=vH hel
 have HL:=vH hl
 clear hp hq hel hl
 by_cases hlen:ks.length = ls.length
 ·have hd0:((ks.length:Int) != (ls.length:Int)) = false:=by rw [hlen]; exact bne_self_eq_false _
  have HLEN:=vH hlen
  clear hlen
  go_in
  go_wp2_with fail
  go_loopg [5] ks.length (fun n v wr => ∃ j:Nat,n + j = ks.length ∧ v = .int .i64 (j:Int) ∧ Below w.heap.size w wr ∧ sameML (ks.drop j) (ls.drop j) = sameML ks ls)
  case atStart => exact ⟨0,rfl,rfl,Below.refl _ _,rfl⟩
  case round =>
   obtain ⟨j,hj,rfl,hb,hs⟩:=hrel
   have HB:=vH hb
   have HS:=vH hs
   have HJ:=vH hj
   clear hb hs hj
   cases gk with
   | zero =>
     obtain rfl:j = ks.length:=by have:=HJ.out; omega
     have hd1:decide ((ks.length:Int) < (ks.length:Int)) = false:=decide_eq_false (by omega)
     go_wp2_with fail
     go_ret
     refine ⟨zV ?_,HB.out⟩
     rw [← HS.out,List.drop_of_length_le (Nat.le_refl _),List.drop_of_length_le (by rw [HLEN.out]; exact Nat.le_refl _),sameML]
   | succ m =>
     have hjl:j < ks.length:=by have:=HJ.out; omega
     have hjl2:j < ls.length:=by have:=HLEN.out; omega
     have hd1:decide ((j:Int) < (ks.length:Int)) = true:=decide_eq_true (by omega)
     have hi1:(j:Int) < (ks.length:Int):=by omega
     have hi2:(j:Int) < (ls.length:Int):=by omega
     have hd2:decide (ks.length ≤ j) = false:=decide_eq_false (by omega)
     have hd3:decide (ls.length ≤ j) = false:=decide_eq_false (by omega)
     have hdw:wrap64 ((j:Int) + 1) = ((j + 1:Nat):Int):=by have:=HL.out; simp [wrap64]; omega
     have he1:=List.getElem?_eq_getElem hjl
     have he2:=List.getElem?_eq_getElem hjl2
     have hd4:ks.drop j = ks[j] :: ks.drop (j + 1):=List.drop_eq_getElem_cons hjl
     have hd5:ls.drop j = ls[j] :: ls.drop (j + 1):=List.drop_eq_getElem_cons hjl2
     have HE:=vH (HEL.out _ (List.getElem_mem hjl) (ls[j]))
     generalize ks[j] = e1 at he1 hd4 HE
     generalize ls[j] = e2 at he2 hd5 HE
     have HD4:=vH hd4
     have HD5:=vH hd5
     obtain ⟨bl,off,vs,rfl,hbl,hi,hc⟩:=(HP.out.below HB.out).get he1
     obtain ⟨bl2,off2,vs2,rfl,hbl2,hi',hc2⟩:=(HQ.out.below HB.out).get he2
     obtain ⟨xk,xs,xo,xd,xep,xel,xec,xbp,xbl,xbc,xlp,xll,xlc,xa,xr,rfl⟩:=hi.out
     obtain ⟨yk,ys,yo,yd,yep,yel,yec,ybp,ybl,ybc,ylp,yll,ylc,ya,yr,rfl⟩:=hi'.out
     obtain ⟨x0,x1,x2,x3,x4,x5,x6,x7,x8⟩:=zDZ hc
     obtain ⟨y0,y1,y2,y3,y4,y5,y6,y7,y8⟩:=zDZ hc2
     have HI:=vH hi
     have HI2:=vH hi'
     clear hc hc2 hi hi' he1 he2 hd4 hd5
     have hne1:bl ≠ wr.heap.size:=Nat.ne_of_lt hbl
     have hne2:bl2 ≠ wr.heap.size:=Nat.ne_of_lt hbl2
     have hi3:(0:Int) ≤ (j:Int):=by omega
     go_wp2_with fail
     refine wp_region_still_tail 8 (by kernel_rfl) (by kernel_rfl) ?_
     simp only [List.take_succ_cons,List.take_zero,List.drop_succ_cons,List.drop_zero]
     change wpStill _ _ wr.drew _ _ _
     repeat still_step
     refine wpStill_nil ?_
     change wpList _ _ _ _ _ wr.drew
     have HBD:Hid (Below w.heap.size w wr.drew):=HB.out.drew
     go_wp2_with fail
     refine (HE.out _ _ _ HBD.out (HI.out.below (Below.refl _ _).drew) (HI2.out.below (Below.refl _ _).drew)).mono ?_
     rintro e w2 ⟨rfl,hb3⟩
     have HB2:=vH (zC HBD.out hb3 HBD.out.size)
     clear hb3
     cases hse:sameM e1 e2 with
     | false =>
       have HSE:=vH hse
       try rw [hse]
       clear hse
       go_wp2_with fail
       go_ret
       refine ⟨zV ?_,HB2.out⟩
       rw [← HS.out,HD4.out,HD5.out,sameML,HSE.out,Bool.false_and]
     | true =>
       have HSE:=vH hse
       try rw [hse]
       clear hse
       go_wp2_with fail
       go_roundg m
       case measure => omega
       case rel => exact ⟨j + 1,by have:=HJ.out; omega,by first | rfl | simp [hdw],HB2.out,by rw [← HS.out,HD4.out,HD5.out,sameML,HSE.out,Bool.true_and]⟩
 ·have hd0:((ks.length:Int) != (ls.length:Int)) = true:=bne_iff_ne.2 (by omega)
  rw [zCc _ _ hlen]
  clear hlen
  go_in
  go_wp2_with fail
  go_ret
  exact ⟨rfl,Below.refl _ _⟩
theorem zFk (w:World)(xk:Int)(xs xo:List UInt8)(xd:Int)(xep:Option Addr)(xel xec:Nat)(xbp:Option Addr)(xbl xbc:Nat)(xlp:Option Addr)(xll xlc:Nat)(xa xr:Int)(yk:Int)(ys yo:List UInt8)(yd:Int)(yep:Option Addr)(yel yec:Nat)(ybp:Option Addr)(ybl ybc:Nat)(ylp:Option Addr)(yll ylc:Nat)(ya yr:Int)(v1 v2 v3:Bool)
 (hk1:∀ w1,Below w.heap.size w w1 → Calls Tryz.prog 81 #[.slice xep xel xec,.slice yep yel yec] w1 fun e w' => e = .returned (.bool v1) ∧ Below w1.heap.size w1 w')
 (hk2:∀ w1,Below w.heap.size w w1 → Calls Tryz.prog 25 #[.slice xbp xbl xbc,.slice ybp ybl ybc] w1 fun e w' => e = .returned (.bool v2) ∧ Below w1.heap.size w1 w')
 (hk3:∀ w1,Below w.heap.size w w1 → Calls Tryz.prog 25 #[.slice xlp xll xlc,.slice ylp yll ylc] w1 fun e w' => e = .returned (.bool v3) ∧ Below w1.heap.size w1 w') :
 Calls Tryz.prog 48 #[.agg #[.int .i64 xk,.string (cbs xs),.string (cbs xo),.int .i64 xd,.slice xep xel xec,.slice xbp xbl xbc,.slice xlp xll xlc,.int .i64 xa,.int .i64 xr],.agg #[.int .i64 yk,.string (cbs ys),.string (cbs yo),.int .i64 yd,.slice yep yel yec,.slice ybp ybl ybc,.slice ylp yll ylc,.int .i64 ya,.int .i64 yr]] w fun e w' => e = .returned (.bool (xk == yk && xs == ys && (xo == yo && xd == yd) && xr == yr && v1 && v2 && v3)) ∧ Below w.heap.size w w':=by
 have h1:=zDF xo yo xd yd
 have hsx:=zBs xs ys
 have hbb:Below w.heap.size w ((w.alloc (.cells #[.int .i64 xk,.string (cbs xs),.string (cbs xo),.int .i64 xd,.slice xep xel xec,.slice xbp xbl xbc,.slice xlp xll xlc,.int .i64 xa,.int .i64 xr] 90)).alloc (.cells #[.int .i64 yk,.string (cbs ys),.string (cbs yo),.int .i64 yd,.slice yep yel yec,.slice ybp ybl ybc,.slice ylp yll ylc,.int .i64 ya,.int .i64 yr] 90)):=((Below.refl _ _).alloc (Nat.le_refl _) _).alloc (by rw [zB]; omega) _
 obtain ⟨wa,hwa⟩:∃ wa,wa = (w.alloc (.cells #[.int .i64 xk,.string (cbs xs),.string (cbs xo),.int .i64 xd,.slice xep xel xec,.slice xbp xbl xbc,.slice xlp xll xlc,.int .i64 xa,.int .i64 xr] 90)).alloc (.cells #[.int .i64 yk,.string (cbs ys),.string (cbs yo),.int .i64 yd,.slice yep yel yec,.slice ybp ybl ybc,.slice ylp yll ylc,.int .i64 ya,.int .i64 yr] 90):=⟨_,rfl⟩
 have hk1x:wa.heap[w.heap.size]? = some (.cells #[.int .i64 xk,.string (cbs xs),.string (cbs xo),.int .i64 xd,.slice xep xel xec,.slice xbp xbl xbc,.slice xlp xll xlc,.int .i64 xa,.int .i64 xr] 90 (0,0)):=by rw [hwa]; exact zE _ (heap_alloc_new w _)
 have hk1y:wa.heap[w.heap.size + 1]? = some (.cells #[.int .i64 yk,.string (cbs ys),.string (cbs yo),.int .i64 yd,.slice yep yel yec,.slice ybp ybl ybc,.slice ylp yll ylc,.int .i64 ya,.int .i64 yr] 90 (0,0)):=by rw [hwa]; have:=heap_alloc_new (w.alloc (.cells #[.int .i64 xk,.string (cbs xs),.string (cbs xo),.int .i64 xd,.slice xep xel xec,.slice xbp xbl xbc,.slice xlp xll xlc,.int .i64 xa,.int .i64 xr] 90)) (.cells #[.int .i64 yk,.string (cbs ys),.string (cbs yo),.int .i64 yd,.slice yep yel yec,.slice ybp ybl ybc,.slice ylp yll ylc,.int .i64 ya,.int .i64 yr] 90); rw [zB] at this; exact this
 rw [← hwa] at hbb
 have HKX:=vH hk1x
 have HKY:=vH hk1y
 have HBB:=vH hbb
 have HK1:=vH hk1
 have HK2:=vH hk2
 have HK3:=vH hk3
 clear hk1 hk2 hk3 hbb hk1x hk1y
 generalize (xo == yo && xd == yd) = g1 at h1 ⊢
 generalize (xs == ys) = g3 at hsx ⊢
 cases hc1:(xk == yk) with
 | false =>
   go_in
   go_wp2_with fail
   go_ret
   exact ⟨rfl,by rw [← hwa]; exact HBB.out⟩
 | true =>
   cases g3 with
   | false =>
     go_in
     go_wp2_with fail
     go_ret
     exact ⟨rfl,by rw [← hwa]; exact HBB.out⟩
   | true =>
     cases g1 with
     | false =>
       go_in
       go_wp2_with fail
       go_ret
       exact ⟨rfl,by rw [← hwa]; exact HBB.out⟩
     | true =>
       cases hc6:(xr == yr) with
       | false =>
         go_in
         go_wp2_with fail
         go_ret
         exact ⟨rfl,by rw [← hwa]; exact HBB.out⟩
       | true =>
         go_in
         go_wp2_with fail
         rw [← hwa]
         clear hwa
         refine (HK1.out _ HBB.out).mono ?_
         rintro e w1 ⟨rfl,hb⟩
         have HB1:=vH (zC HBB.out hb HBB.out.size)
         have HX1:=vH ((hb.block _ (zA HKX.out)).trans HKX.out)
         have HY1:=vH ((hb.block _ (zA HKY.out)).trans HKY.out)
         clear hb
         cases v1 with
         | false =>
           go_wp2_with fail
           go_ret
           exact ⟨rfl,HB1.out⟩
         | true =>
           obtain ⟨⟨x0,x1,x2,x3,x4,x5,x6,x7,x8⟩,p0,p1,p2,p3,p4,p5,p6,p7,p8⟩:=nen (HX1.out)
           have hlx:=zA (HX1.out)
           obtain ⟨⟨y0,y1,y2,y3,y4,y5,y6,y7,y8⟩,q0,q1,q2,q3,q4,q5,q6,q7,q8⟩:=nen (HY1.out)
           have hly:=zA (HY1.out)
           go_wp2_with fail
           clear x0 x1 x2 x3 x4 x5 x6 x7 x8 y0 y1 y2 y3 y4 y5 y6 y7 y8 p0 p1 p2 p3 p4 p5 p6 p7 p8 q0 q1 q2 q3 q4 q5 q6 q7 q8 hlx hly
           refine (HK2.out _ HB1.out).mono ?_
           rintro e w2 ⟨rfl,hb⟩
           have HB2:=vH (zC HB1.out hb HB1.out.size)
           have HX2:=vH ((hb.block _ (zA HX1.out)).trans HX1.out)
           have HY2:=vH ((hb.block _ (zA HY1.out)).trans HY1.out)
           clear hb
           cases v2 with
           | false =>
             go_wp2_with fail
             go_ret
             exact ⟨rfl,HB2.out⟩
           | true =>
             obtain ⟨⟨x0,x1,x2,x3,x4,x5,x6,x7,x8⟩,p0,p1,p2,p3,p4,p5,p6,p7,p8⟩:=nen (HX2.out)
             have hlx:=zA (HX2.out)
             obtain ⟨⟨y0,y1,y2,y3,y4,y5,y6,y7,y8⟩,q0,q1,q2,q3,q4,q5,q6,q7,q8⟩:=nen (HY2.out)
             have hly:=zA (HY2.out)
             go_wp2_with fail
             clear x0 x1 x2 x3 x4 x5 x6 x7 x8 y0 y1 y2 y3 y4 y5 y6 y7 y8 p0 p1 p2 p3 p4 p5 p6 p7 p8 q0 q1 q2 q3 q4 q5 q6 q7 q8 hlx hly
             refine (HK3.out _ HB2.out).mono ?_
             rintro e w3 ⟨rfl,hb⟩
             have HB3:=vH (zC HB2.out hb HB2.out.size)
             have HX3:=vH ((hb.block _ (zA HX2.out)).trans HX2.out)
             have HY3:=vH ((hb.block _ (zA HY2.out)).trans HY2.out)
             clear hb
             go_wp2_with fail
             go_ret
             exact ⟨rfl,HB3.out⟩
theorem zF5:∀ (n:Nat)(x y:Sm),SizeOf.sizeOf x ≤ n → fitM x = true → ∀ w,SSameOk 48 w x y:=by
 intro n
 induction n with
 | zero => intro x y h; cases x; simp at h
 | succ n ih =>
   intro x y hs hf w w1 vs vs2 _ hi hi2
   obtain ⟨xk,xs,xo,xd,es,bs,ls,xa,xr⟩:=x
   obtain ⟨yk,ys,yo,yd,es2,bs2,ls2,ya,yr⟩:=y
   obtain ⟨p,c,q,d,r,f,rfl,he,hb,hl⟩:=hi.parts
   obtain ⟨p2,c2,q2,d2,r2,f2,rfl,he2,hb2,hl2⟩:=hi2.parts
   obtain ⟨f1,f3,f4,f5,f6,f7⟩:=zGl hf
   have k1:∀ w2,Below w1.heap.size w1 w2 → _:=fun w2 hw => zBT w2 es es2 p p2 c c2 (he.below hw) (he2.below hw) (by omega) (fun e hm e2 => zIj _ e e2 (Nat.le_refl _) (zB2 f1 hm) w2)
   have k2:∀ w2,Below w1.heap.size w1 w2 → _:=fun w2 hw => zBk w2 bs bs2 q q2 d d2 (hb.below hw) (hb2.below hw) (by omega) (fun e hm e2 => ih e e2 (by have:=zIb hm xk xs xo xd es ls xa xr; omega) (zAX f4 hm) w2)
   have k3:∀ w2,Below w1.heap.size w1 w2 → _:=fun w2 hw => zBk w2 ls ls2 r r2 f f2 (hl.below hw) (hl2.below hw) (by omega) (fun e hm e2 => ih e e2 (by have:=zIa hm xk xs xo xd es bs xa xr; omega) (zAX f6 hm) w2)
   have hst:=zFk w1 xk xs xo xd p es.length c q bs.length d r ls.length f xa xr yk ys yo yd p2 es2.length c2 q2 bs2.length d2 r2 ls2.length f2 ya yr (sameL es es2) (sameML bs bs2) (sameML ls ls2) k1 k2 k3
   rw [sameM]
   exact hst
end Go.Proofs.YtipmjjfknhblnaaGreatDoor
namespace Go.Proofs.YtipmjjfknhblnaaGreatDoor
open Go.RowKit
open Pe
open Ps (Sm PX)
open Pg (BX Pm Rc Fc Gm)
theorem zK4 (a b:List UInt8)(d d2:Int)(w:World):(binOp .neq 59 (.agg #[.string (cbs a),.int .i64 d]) (.agg #[.string (cbs b),.int .i64 d2])).run Tryz.prog w = .ok (.bool (!(a == b && d == d2))) w:=by
 rw [run_neq_struct,run_equalIn_agg w 9999 _ _ _ (by kernel_rfl) zH2]
 simp [go_sem,zR]
 split <;> (try split) <;> simp_all
theorem zEa {n:Nat}{w w1:World}(h:Below n w w1)(k:Nat):Below n w (w1.drewN k):=⟨h.os,h.tape,h.output,h.size,h.block⟩
theorem zMp (a b:List UInt8):((cbs a).toList != (cbs b).toList) = !(a == b):=by rw [bne,zBs]
theorem zDi (w:World)(ks ls:List Pm)(p q:Option Addr)(c d:Nat)(hp:LAt PIs 4 w 0 p ks)(hq:LAt PIs 4 w 0 q ls)(hl:ks.length ≤ 9223372036854775807) :
 Calls Tryz.prog 24 #[.slice p ks.length c,.slice q ls.length d] w fun e w' => e = .returned (.bool (sameLs sameP ks ls)) ∧ Below w.heap.size w w':=by
 have HP:=vH hp
 have HQ:=vH hq
 have HL:=vH hl
 clear hp hq hl
 by_cases hlen:ks.length = ls.length
 ·have hd0:((ks.length:Int) != (ls.length:Int)) = false:=by rw [hlen]; exact bne_self_eq_false _
  have HLEN:=vH hlen
  clear hlen
  go_in
  go_wp2_with fail
  go_loopg [5] ks.length (fun n v wr => ∃ j:Nat,n + j = ks.length ∧ v = .int .i64 (j:Int) ∧ Below w.heap.size w wr ∧ sameLs sameP (ks.drop j) (ls.drop j) = sameLs sameP ks ls)
  case atStart => exact ⟨0,rfl,rfl,Below.refl _ _,rfl⟩
  case round =>
   obtain ⟨j,hj,rfl,hb,hs⟩:=hrel
   have HB:=vH hb
   have HS:=vH hs
   have HJ:=vH hj
   clear hb hs hj
   cases gk with
   | zero =>
     obtain rfl:j = ks.length:=by have:=HJ.out; omega
     have hd1:decide ((ks.length:Int) < (ks.length:Int)) = false:=decide_eq_false (by omega)
     go_wp2_with fail
     go_ret
     refine ⟨zV ?_,HB.out⟩
     rw [← HS.out,List.drop_of_length_le (Nat.le_refl _),List.drop_of_length_le (by rw [HLEN.out]; exact Nat.le_refl _),sameLs]
   | succ m =>
     have hjl:j < ks.length:=by have:=HJ.out; omega
     have hjl2:j < ls.length:=by have:=HLEN.out; omega
     have hd1:decide ((j:Int) < (ks.length:Int)) = true:=decide_eq_true (by omega)
     have hi1:(j:Int) < (ks.length:Int):=by omega
     have hi2:(j:Int) < (ls.length:Int):=by omega
     have hd2:decide (ks.length ≤ j) = false:=decide_eq_false (by omega)
     have hd3:decide (ls.length ≤ j) = false:=decide_eq_false (by omega)
     have hdw:wrap64 ((j:Int) + 1) = ((j + 1:Nat):Int):=by have:=HL.out; simp [wrap64]; omega
     have he1:=List.getElem?_eq_getElem hjl
     have he2:=List.getElem?_eq_getElem hjl2
     have hd4:ks.drop j = ks[j] :: ks.drop (j + 1):=List.drop_eq_getElem_cons hjl
     have hd5:ls.drop j = ls[j] :: ls.drop (j + 1):=List.drop_eq_getElem_cons hjl2
     generalize ks[j] = e1 at he1 hd4
     generalize ls[j] = e2 at he2 hd5
     have HD4:=vH hd4
     have HD5:=vH hd5
     obtain ⟨bl,off,vs,rfl,hbl,hi,hc⟩:=(LAt.ag (w:=w) (w1:=wr) (fun _ _ h => h) HP.out (Ag.below HB.out)).get he1
     obtain ⟨bl2,off2,vs2,rfl,hbl2,hi2',hc2⟩:=(LAt.ag (w:=w) (w1:=wr) (fun _ _ h => h) HQ.out (Ag.below HB.out)).get he2
     clear he1 he2 hd4 hd5
     obtain ⟨xs,xo,xd,xa⟩:=e1
     obtain ⟨ys,yo,yd,ya⟩:=e2
     rw [PIs] at hi hi2'
     subst hi hi2'
     have x0:=hc 0 _ (by decide) rfl
     have x1:=hc 1 _ (by decide) rfl
     have x2:=hc 2 _ (by decide) rfl
     have y0:=hc2 0 _ (by decide) rfl
     have y1:=hc2 1 _ (by decide) rfl
     have y2:=hc2 2 _ (by decide) rfl
     simp only [Nat.add_zero] at x0 y0
     clear hc hc2
     have hi3:(0:Int) ≤ (j:Int):=by omega
     have hN:=zK4 xo yo xd yd
     have hsx:=zBs xs ys
     have hsy:=zMp xs ys
     obtain ⟨bs,hbs⟩:∃ bs,sameP ⟨xs,xo,xd,xa⟩ ⟨ys,yo,yd,ya⟩ = bs:=⟨_,rfl⟩
     have HSE:=vH hbs
     have hsp:bs = ((xs == ys) && (xo == yo && xd == yd)):=hbs.symm
     clear hbs
     generalize (xs == ys) = g1 at hsx hsy hsp
     generalize (xo == yo && xd == yd) = g2 at hN hsp
     cases g1 with
     | false =>
       subst hsp
       simp only [Bool.not_false] at hsy
       go_wp2_with fail
       go_quiet (fail)
       go_wp2_with fail
       go_ret
       refine ⟨zV ?_,(zEa HB.out nq)⟩
       rw [← HS.out,HD4.out,HD5.out,sameLs,HSE.out]
       rfl
     | true =>
       simp only [Bool.not_true] at hsy
       cases g2 with
       | false =>
         subst hsp
         simp only [Bool.not_false] at hN
         go_wp2_with fail
         go_quiet (fail)
         go_wp2_with fail
         go_ret
         refine ⟨zV ?_,(zEa HB.out nq)⟩
         rw [← HS.out,HD4.out,HD5.out,sameLs,HSE.out]
         rfl
       | true =>
         subst hsp
         simp only [Bool.not_true] at hN
         go_wp2_with fail
         go_quiet (fail)
         go_wp2_with fail
         go_roundg m
         case measure => omega
         case rel => exact ⟨j + 1,by have:=HJ.out; omega,by first | rfl | simp [hdw],(zEa HB.out nq),by rw [← HS.out,HD4.out,HD5.out,sameLs,HSE.out]; rfl⟩
 ·have hd0:((ks.length:Int) != (ls.length:Int)) = true:=bne_iff_ne.2 (by omega)
  rw [zBf _ _ hlen]
  clear hlen
  go_in
  go_wp2_with fail
  go_ret
  exact ⟨rfl,Below.refl _ _⟩
end Go.Proofs.YtipmjjfknhblnaaGreatDoor
