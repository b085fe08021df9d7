/-
  HeadsRaw: any program whatever.
-/
import Derived.Test.YtjleggpbghmobaaK01
import Derived.Test.YtjleggpbghmobaaK38
import Derived.Test.YtjleggpbghmobaaK39
set_option maxRecDepth 8000
set_option maxHeartbeats 8000000
namespace Go.Proofs.Ytjleggpbghmobaa
open Go.RowKit
open Pg (Pm Rc Fc Gm)
open Hs (Nm HdsH make zS)
structure GmFew (g:Gm):Prop where
 recs:g.recs.length ≤ 20
 globals:g.globals.length ≤ 20
 funcs:g.funcs.length ≤ 20
 rec1:∀ r ∈ g.recs,r.fields.length ≤ 20
 func1:∀ f ∈ g.funcs,f.params.length ≤ 20
theorem GmFew.sm {g:Gm}(h:GmFew g)(h1:∀ x ∈ g.recs,RcSmJ x)(h2:∀ x ∈ g.globals,PmSm x)(h3:∀ x ∈ g.funcs,FcSmJ x):GmSm g:=
 ⟨Nat.le_trans h.recs (by decide),Nat.le_trans h.globals (by decide),Nat.le_trans h.funcs (by decide),fun r hr => ⟨(h1 r hr).1,Nat.le_trans (h.rec1 r hr) (by decide),(h1 r hr).2⟩,h2,fun f hf => ⟨(h3 f hf).1,(h3 f hf).2.1,Nat.le_trans (h.func1 f hf) (by decide),(h3 f hf).2.2⟩⟩
theorem great_any (w:World)(g:Gm)(q1 q2 q3:Option Addr)(k1 k2 k3:Nat)(h1:LAt RcIs 3 w 0 q1 g.recs)(h3:LAt FcIs 7 w 0 q3 g.funcs) :
 Calls Try.prog 14 #[.agg #[.slice q1 g.recs.length k1,.slice q2 g.globals.length k2,.slice q3 g.funcs.length k3]] w fun e w' => ∃ b,e = .returned (.bool b) ∧ (b = false → GmFew g) ∧ Below w.heap.size w w':=by
 have H1:=vH h1
 have H3:=vH h3
 obtain ⟨wa,hwa⟩:∃ wa,wa = w.alloc (.cells #[.slice q1 g.recs.length k1,.slice q2 g.globals.length k2,.slice q3 g.funcs.length k3] 26):=⟨_,rfl⟩
 have HB:=vH (show Below w.heap.size w wa by rw [hwa]; exact zC (Below.refl _ _))
 have hk:wa.heap[w.heap.size]? = some (.cells #[.slice q1 g.recs.length k1,.slice q2 g.globals.length k2,.slice q3 g.funcs.length k3] 26 (0,0)):=by rw [hwa]; exact heap_alloc_new w _
 obtain ⟨⟨x0,x1,x2⟩,-⟩:=tri hk
 clear h1 h3 hk
 by_cases c1 : 20 < g.recs.length
 ·have hd1:decide ((20:Int) < (g.recs.length:Int)) = true:=decide_eq_true (by omega)
  clear c1
  go_in
  go_upto_region 1 with fail
  rw [← hwa]
  clear hwa
  go_wp2_with fail
  go_ret
  exact ⟨true,rfl,(fun h => by cases h),HB.out⟩
 have hd1:decide ((20:Int) < (g.recs.length:Int)) = false:=decide_eq_false (by omega)
 by_cases c2 : 20 < g.globals.length
 ·have hd2:decide ((20:Int) < (g.globals.length:Int)) = true:=decide_eq_true (by omega)
  clear c1 c2
  go_in
  go_upto_region 1 with fail
  rw [← hwa]
  clear hwa
  go_wp2_with fail
  go_ret
  exact ⟨true,rfl,(fun h => by cases h),HB.out⟩
 have hd2:decide ((20:Int) < (g.globals.length:Int)) = false:=decide_eq_false (by omega)
 by_cases c3 : 20 < g.funcs.length
 ·have hd3:decide ((20:Int) < (g.funcs.length:Int)) = true:=decide_eq_true (by omega)
  clear c1 c2 c3
  go_in
  go_upto_region 1 with fail
  rw [← hwa]
  clear hwa
  go_wp2_with fail
  go_ret
  exact ⟨true,rfl,(fun h => by cases h),HB.out⟩
 have hd3:decide ((20:Int) < (g.funcs.length:Int)) = false:=decide_eq_false (by omega)
 have C1:=vH c1
 have C2:=vH c2
 have C3:=vH c3
 clear c1 c2 c3
 go_in
 go_upto_region 1 with fail
 rw [← hwa]
 clear hwa
 go_wp2_with fail
 clear hd1 hd2 hd3
 go_loopg [3] g.recs.length (fun n i wr => ∃ j:Nat,n + j = g.recs.length ∧ i = .int .i64 (j:Int) ∧ wr = wa ∧ ∀ (i:Nat) (r:Rc),i < j → g.recs[i]? = some r → r.fields.length ≤ 20)
 case atStart => exact ⟨0,rfl,rfl,rfl,fun i r h => by omega⟩
 case round =>
  obtain ⟨j,hj,rfl,rfl,hf⟩:=hrel
  have HJ:=vH hj
  have HF:=vH hf
  clear hj hf
  cases gk with
  | zero =>
    obtain rfl:j = g.recs.length:=by have:=HJ.out; omega
    have hd1:decide ((g.recs.length:Int) < (g.recs.length:Int)) = false:=decide_eq_false (by omega)
    go_wp2_with fail
    clear hd1
    obtain ⟨wo,hwo⟩:∃ wo,wo = wr:=⟨_,rfl⟩
    subst hwo
    go_loopg [4] g.funcs.length (fun n i wr => ∃ j:Nat,n + j = g.funcs.length ∧ i = .int .i64 (j:Int) ∧ wr = wo ∧ ∀ (i:Nat) (r:Fc),i < j → g.funcs[i]? = some r → r.params.length ≤ 20)
    case atStart => exact ⟨0,rfl,rfl,rfl,fun i r h => by omega⟩
    case round =>
        obtain ⟨j,hj,rfl,rfl,hf⟩:=hrel
        have HJ:=vH hj
        have HF2:=vH hf
        clear hj hf
        cases gk with
        | zero =>
          obtain rfl:j = g.funcs.length:=by have:=HJ.out; omega
          have hd1:decide ((g.funcs.length:Int) < (g.funcs.length:Int)) = false:=decide_eq_false (by omega)
          go_wp2_with fail
          go_ret
          refine ⟨false,rfl,fun _ => ⟨by have:=C1.out; omega,by have:=C2.out; omega,by have:=C3.out; omega,fun r hr => ?_,fun f hf => ?_⟩,HB.out⟩
          ·obtain ⟨i,hi,rfl⟩:=List.mem_iff_getElem.1 hr
           exact HF.out i _ hi (List.getElem?_eq_getElem hi)
          ·obtain ⟨i,hi,rfl⟩:=List.mem_iff_getElem.1 hf
           exact HF2.out i _ hi (List.getElem?_eq_getElem hi)
        | succ m =>
          have hjl:j < g.funcs.length:=by have:=HJ.out; omega
          have hd1:decide ((j:Int) < (g.funcs.length:Int)) = true:=decide_eq_true (by omega)
          have hi1:(j:Int) < (g.funcs.length:Int):=by omega
          have hd2:decide (g.funcs.length ≤ j) = false:=decide_eq_false (by omega)
          have hdw:wrap64 ((j:Int) + 1) = ((j + 1:Nat):Int):=by have:=C3.out; simp [wrap64]; omega
          have he:=List.getElem?_eq_getElem hjl
          generalize g.funcs[j] = x at he
          obtain ⟨bF,oF,hqF,hbF,hcF⟩:=zHu H3.out he
          obtain ⟨fp,fc,bq,bn,bd,-,hxF⟩:=hcF j x he
          have y1:=(hxF _ HB.out).2.1
          obtain rfl:some ⟨bF,oF,none⟩ = q3:=hqF.symm
          have HE:=vH he
          clear hqF hcF hxF he
          by_cases hbig : 20 < x.params.length
          ·have hd5:decide ((20:Int) < (x.params.length:Int)) = true:=decide_eq_true (by omega)
           clear hbig
           go_wp2_with fail
           go_ret
           exact ⟨true,rfl,(fun h => by cases h),HB.out⟩
          ·have hd5:decide ((20:Int) < (x.params.length:Int)) = false:=decide_eq_false (by omega)
           have HBIG:=vH hbig
           clear hbig
           go_wp2_with fail
           go_roundg m
           case measure => omega
           case rel => exact ⟨j + 1,by have:=HJ.out; omega,by first | rfl | simp [hdw],rfl,fun i r hi hr => by
            by_cases hij:i = j
            ·subst hij
             obtain rfl:x = r:=Option.some.inj (HE.out.symm.trans hr)
             have:=HBIG.out
             omega
            ·exact HF2.out i r (by omega) hr⟩
  | succ m =>
    have hjl:j < g.recs.length:=by have:=HJ.out; omega
    have hd1:decide ((j:Int) < (g.recs.length:Int)) = true:=decide_eq_true (by omega)
    have hi1:(j:Int) < (g.recs.length:Int):=by omega
    have hd2:decide (g.recs.length ≤ j) = false:=decide_eq_false (by omega)
    have hdw:wrap64 ((j:Int) + 1) = ((j + 1:Nat):Int):=by have:=C1.out; simp [wrap64]; omega
    have he:=List.getElem?_eq_getElem hjl
    generalize g.recs[j] = x at he
    obtain ⟨bR,oR,hqR,hbR,hcR⟩:=zD5 H1.out he
    obtain ⟨fp,fc,-,hxR⟩:=hcR j x he
    have y1:=(hxR _ HB.out).2.1
    obtain rfl:some ⟨bR,oR,none⟩ = q1:=hqR.symm
    have HE:=vH he
    clear hqR hcR hxR he
    by_cases hbig : 20 < x.fields.length
    ·have hd5:decide ((20:Int) < (x.fields.length:Int)) = true:=decide_eq_true (by omega)
     clear hbig
     go_wp2_with fail
     go_ret
     exact ⟨true,rfl,(fun h => by cases h),HB.out⟩
    ·have hd5:decide ((20:Int) < (x.fields.length:Int)) = false:=decide_eq_false (by omega)
     have HBIG:=vH hbig
     clear hbig
     go_wp2_with fail
     go_roundg m
     case measure => omega
     case rel => exact ⟨j + 1,by have:=HJ.out; omega,by first | rfl | simp [hdw],rfl,fun i r hi hr => by
      by_cases hij:i = j
      ·subst hij
       obtain rfl:x = r:=Option.some.inj (HE.out.symm.trans hr)
       have:=HBIG.out
       omega
      ·exact HF.out i r (by omega) hr⟩
theorem headsRaw_walk (w:World)(g:Gm)(o1:Option Addr)(v1:Nat)(o2:Option Addr)(v2:Nat)(o3:Option Addr)(v3:Nat)(h1:LAt RcIs 3 w 0 o1 g.recs)(h2:LAt PIs 4 w 0 o2 g.globals)(h3:LAt FcIs 7 w 0 o3 g.funcs)(s1:∀ x ∈ g.recs,RcSmJ x)(s2:∀ x ∈ g.globals,PmSm x)(s3:∀ x ∈ g.funcs,FcSmJ x) :
 Calls Try.prog 4 #[.agg #[.slice o1 g.recs.length v1,.slice o2 g.globals.length v2,.slice o3 g.funcs.length v3]] w fun e w' => e = .returned (.bool true) ∧ Below w.heap.size w w':=by
 obtain ⟨wa,hwa⟩:∃ wa,wa = w.alloc (.cells #[.slice o1 g.recs.length v1,.slice o2 g.globals.length v2,.slice o3 g.funcs.length v3] 26):=⟨_,rfl⟩
 have HB:=vH (show Below w.heap.size w wa by rw [hwa]; exact zC (Below.refl _ _))
 have HK:=vH (show wa.heap[w.heap.size]? = some (.cells #[.slice o1 g.recs.length v1,.slice o2 g.globals.length v2,.slice o3 g.funcs.length v3] 26 (0,0)) by rw [hwa]; exact heap_alloc_new w _)
 have HG:=vH (show GmIs wa 0 g [.slice o1 g.recs.length v1,.slice o2 g.globals.length v2,.slice o3 g.funcs.length v3] from ⟨_,_,_,_,_,_,rfl,h1.ag (fun _ _ h => h.ag (Ag.below HB.out)) (Ag.below HB.out),zEX h2 (Ag.below HB.out),h3.ag (fun _ _ h => h.ag (Ag.below HB.out)) (Ag.below HB.out)⟩)
 have HGR:=vH (great_any wa g o1 o2 o3 v1 v2 v3 (h1.ag (fun _ _ h => h.ag (Ag.below HB.out)) (Ag.below HB.out)) (h3.ag (fun _ _ h => h.ag (Ag.below HB.out)) (Ag.below HB.out)))
 have HSM:=vH (fun hf:GmFew g => hf.sm s1 s2 s3)
 obtain ⟨⟨x0,x1,x2⟩,-⟩:=tri HK.out
 clear h1 h2 h3 s1 s2 s3
 go_in
 go_upto_region 1 with fail
 rw [← hwa]
 clear hwa
 go_wp2_with fail
 refine HGR.out.mono ?_
 rintro e w1 ⟨bb,rfl,hfew,hb⟩
 have HB1:=vH (zE HB.out hb HB.out.size)
 cases bb with
 | true =>
   clear hb hfew
   go_wp2_with fail
   go_ret
   exact ⟨rfl,HB1.out⟩
 | false =>
   have hsm:=HSM.out (hfew rfl)
   have HS:=vH hsm
   have hcm:=fun w2 p1 p2 p3 n1 n2 n3 c1 c2 c3 h => zDo w2 g p1 p2 p3 n1 n2 n3 c1 c2 c3 h HS.out
   have hcq:=fun w2 p1 p2 p3 n1 n2 n3 c1 c2 c3 h => makeQG_any w2 g p1 p2 p3 n1 n2 n3 c1 c2 c3 h HS.out
   have hds:=hdSm_make HS.out
   generalize make g = y at hcm hcq hds
   obtain ⟨h,a,b⟩:=y
   have HCM:=vH hcm
   have HCQ:=vH hcq
   have HDS:=vH hds
   have HG1:=vH (HG.out.ag (Ag.below hb))
   have HK1:=vH ((hb.block _ (zA HK.out)).trans HK.out)
   clear hcm hcq hds hsm hfew hb x0 x1 x2
   obtain ⟨⟨x0,x1,x2⟩,-⟩:=tri HK1.out
   go_wp2_with fail
   refine (HCM.out _ _ _ _ _ _ _ _ _ _ HG1.out).mono ?_
   rintro e w2 ⟨q1,m1,e1,q2,m2,e2,q3,m3,e3,mn,rfl,hh,hb⟩
   go_upto_region 4 with fail
   obtain ⟨wb,hwb⟩:∃ wb,wb = (w2.alloc (.cells #[.slice q1 m1 e1,.slice q2 m2 e2,.slice q3 m3 e3,.int .i64 mn] 36)).alloc (.cells #[.int .i64 a,.int .i64 b] 29):=⟨_,rfl⟩
   obtain ⟨hbb,hk1,hk2⟩:=two_box w2 #[.slice q1 m1 e1,.slice q2 m2 e2,.slice q3 m3 e3,.int .i64 mn] 36 29 #[.int .i64 a,.int .i64 b]
   rw [← hwb] at hbb hk1 hk2 ⊢
   clear hwb x0 x1 x2
   have hb2:=zE hb hbb hb.size
   have HH1:=vH ((hh.ag (Ag.below hbb)).lower (Nat.zero_le _))
   have HB2:=vH (zE HB1.out hb2 HB1.out.size)
   obtain ⟨⟨x0,x1,x2⟩,-⟩:=tri ((hb2.block _ (zA HK1.out)).trans HK1.out)
   have HG2:=vH (HG1.out.ag (Ag.below hb2))
   have HK2:=vH hk1
   have HK3:=vH hk2
   clear hh hb hb2 hbb hk1 hk2 HCM HG1
   go_wp2_with fail
   refine (HCQ.out _ _ _ _ _ _ _ _ _ _ HG2.out).mono ?_
   rintro e w3 ⟨r1,l1,i1,r2,l2,i2,r3,l3,i3,mq,rfl,hh,hb⟩
   go_upto_region 5 with fail
   obtain ⟨wc,hwc⟩:∃ wc,wc = (w3.alloc (.cells #[.slice r1 l1 i1,.slice r2 l2 i2,.slice r3 l3 i3,.int .i64 mq] 36)).alloc (.cells #[.int .i64 a,.int .i64 b] 29):=⟨_,rfl⟩
   obtain ⟨hbc,hk1,hk2⟩:=two_box w3 #[.slice r1 l1 i1,.slice r2 l2 i2,.slice r3 l3 i3,.int .i64 mq] 36 29 #[.int .i64 a,.int .i64 b]
   rw [← hwc] at hbc hk1 hk2 ⊢
   clear hwc x0 x1 x2
   have hb3:=zE hb hbc hb.size
   have HB3:=vH (zE HB2.out hb3 HB2.out.size)
   have HSH:=vH (sameHdG_any wc h _ _ _ _ _ _ _ _ _ _ _ _ _ _ _ _ _ _ _ _ (HH1.out.ag (Ag.below hb3)) ((hh.ag (Ag.below hbc)).lower (Nat.zero_le _)) HDS.out)
   obtain ⟨⟨y0,y1,y2,y3⟩,-⟩:=quad ((hb3.block _ (zA HK2.out)).trans HK2.out)
   obtain ⟨⟨f0,f1⟩,-⟩:=duo ((hb3.block _ (zA HK3.out)).trans HK3.out)
   obtain ⟨⟨z0,z1,z2,z3⟩,-⟩:=quad hk1
   obtain ⟨⟨g0,g1⟩,-⟩:=duo hk2
   have heq:=fun u => zJX a b u
   clear hh hb hb3 hbc hk1 hk2 HCQ
   go_wp2_with fail
   refine HSH.out.mono ?_
   rintro e w4 ⟨rfl,hb⟩
   have HB4:=vH (zE HB3.out hb HB3.out.size)
   clear hb
   go_wp2_with fail
   refine (zAt w4).mono ?_
   rintro e w5 ⟨rfl,hb⟩
   have HB5:=vH (zE HB4.out hb HB4.out.size)
   clear hb
   go_wp2_with fail
   go_ret
   exact ⟨rfl,HB5.out⟩
end Go.Proofs.Ytjleggpbghmobaa
