/-
  The contracts of the answer's reader (runrigref3) over the p
-/
import Derived.Test.YteadgahhchlgeaaDoorK03
import Derived.Test.YteadgahhchlgeaaDoorK11
import Derived.Test.YteadgahhchlgeaaDoorK02
import Derived.Deep.RegionHeld3
set_option maxRecDepth 8000
set_option maxHeartbeats 8000000
namespace Go.Proofs.YteadgahhchlgeaaDoor
open Go.RowKit
open Px (RT tokAt isT)
open Pe (inc dec Ex)
open Qe (Q)
theorem zOl {ts:List RT}{s:Q}(h:(s.E == 0) = false)(wd:Bool)(t:List UInt8):Qe.is ts s wd t = false:=by unfold Qe.is; rw [h]; rfl
theorem QPost.eq {B:Nat}{w:World}{R:Nat}{S:Value}{ts:List RT}{x y:Ex × Q}{e:Ending}{w':World}(h:y = x)(hh:QPost B w R S ts y e w'):QPost B w R S ts x e w':=h ▸ hh
theorem zB0 {α:Type}{b:Bool}{x y z : α}(h:(if b = true then x else y) = z)(hb:b = false):y = z:=by rw [hb,if_neg (by decide)] at h; exact h
theorem zAY {α:Type}{b:Bool}{x y z : α}(h:(if b = true then x else y) = z)(hb:b = true):x = z:=by rw [hb,if_pos rfl] at h; exact h
theorem zIy (w:World)(R:Nat)(S:Value)(ts:List RT)(s:Q)(h:Qr w R S ts s)(rec:Nat → Q → Qe.Out)(hrec:QRecOk ts rec)(gg:Nat)(hgg:gg ≤ 1000000000)(x:Ex × Q)(hx:Qe.first ts rec gg s = some x) :
 Calls Tryd.prog 83 #[.pointer (some ⟨R,0,none⟩)] w (QPost w.heap.size w R S ts x):=by
 dsimp only [Qe.first] at hx
 have hok2:=fun w1 hh => zAS w1 R S ts s hh
 have htk:=fun w1 hh => zAt w1 R S ts s hh
 obtain ⟨t,ht⟩:∃ t,tokAt ts s.k = t:=⟨_,rfl⟩
 rw [ht] at htk hx
 unfold tokW at htk
 have HX:=vH hx
 have HT:=vH ht
 have HTK:=vH htk
 have HREC:=vH hrec
 have HGG:=vH hgg
 clear htk ht hx hrec hgg
 have hlt:=h.lt
 have HH:=vH h
 have F:=vH ((Fq.start h).alloc (.cells vE 45))
 clear h
 go_in
 go_wp2_with fail
 refine (HTK.out _ F.out.qr).mono ?_
 rintro e u1 ⟨rfl,hb⟩
 replace F:=vH (F.out.go hb)
 clear hb
 have hNB0:=zA (F.out.keep _ vA).1
 go_wp2_with fail
 replace F:=vH (F.out.alloc (.cells (vT t) 71))
 have hk:=(F.out.keep _ vA)
 obtain ⟨⟨t0,t1,t2,t3⟩,q0,q1,q2,q3⟩:=quad hk.1
 have hlt:=zA hk.1
 have hnt:=hk.2
 have hmt:=Ne.symm hnt
 clear hk q0 q1 q2 q3
 obtain ⟨b,hb⟩:∃ b,(s.E == 0) = b:=⟨_,rfl⟩
 rw [hb] at hok2
 have HOK:=vH hb
 have HOK2:=vH hok2
 clear hb hok2
 refine (HOK2.out _ F.out.qr).mono ?_
 rintro e u2 ⟨rfl,rfl⟩
 cases b with
 | false =>
   have HD:=vH (fun wd t => zOl (ts:=ts) HOK.out wd t)
   have hx:=HX.out
   rw [if_neg (fun hh => by have:=HOK.out; rw [hh.1] at this; cases this)] at hx
   simp only [HD.out,Bool.false_eq_true,if_false] at hx
   replace HX:=vH hx
   clear hx
   iterate 7
    go_wp2_with fail
    clear t0 t1 t2 t3 hlt hnt hmt
    refine (zI _ R S ts _ F.out.qr _ (by decide) _ rfl).mono ?_
    rintro e u3 ⟨rfl,hb⟩
    replace F:=vH (F.out.go hb)
    clear hb
    rw [HD.out]
    have hk:=F.out.keep _ vA
    obtain ⟨⟨t0,t1,t2,t3⟩,-⟩:=quad hk.1
    have hlt:=zA hk.1
    have hnt:=hk.2
    have hmt:=Ne.symm hnt
    clear hk
   obtain ⟨nm,s1,hy⟩:∃ nm s1,Qe.name ts s = (nm,s1):=⟨_,_,rfl⟩
   have hq:=fun w1 hh => zAG w1 R S ts s hh
   have hx:=HX.out
   rw [hy] at hq hx
   dsimp only at hq hx
   have HQ:=vH hq
   replace HX:=vH hx
   clear hq hy hx
   go_wp2_with fail
   clear t0 t1 t2 t3 hlt hnt hmt
   refine (HQ.out _ F.out.qr).mono ?_
   rintro e u11 ⟨rfl,hr,hg⟩
   replace F:=vH (F.out.step hr hg)
   clear hr hg
   go_wp2_with fail
   refine (zI _ R S ts _ F.out.qr ⟨#[40]⟩ (by decide) false (by decide)).mono ?_
   rintro e u12 ⟨rfl,hb⟩
   replace F:=vH (F.out.go hb)
   clear hb
   obtain ⟨b,hb⟩:∃ b,Qe.is ts s1 false [40] = b:=⟨_,rfl⟩
   try rw [hb]
   have HV9:=vH hb
   clear hb
   have hk:=(F.out.keep _ vA)
   obtain ⟨⟨t0,t1,t2,t3⟩,q0,q1,q2,q3⟩:=quad hk.1
   have hlt:=zA hk.1
   have hnt:=hk.2
   have hmt:=Ne.symm hnt
   clear hk q0 q1 q2 q3
   have hk:=(F.out.keep _ vB)
   obtain ⟨⟨d0,d1,d2,d3,d4,d5,d6,d7,d8,d9,dX⟩,g0,g1,g2,g3,g4,g5,g6,g7,g8,g9,gX⟩:=hen hk.1
   have hld:=zA hk.1
   have hnd:=hk.2
   clear hk
   cases b with
   | true =>
     replace HX:=vH (zAY HX.out HV9.out)
     have hx:=HX.out
     split at hx
     ·cases hx
     rename_i l s2 ha
     have HA:=vH (fun w1 hh => zFP w1 R S ts s1 hh rec HREC.out gg HGG.out (l,s2) ha)
     replace HX:=vH hx
     clear hx ha
     go_wp2_with fail
     have HLW:Hid (w.heap.size < u12.drew.heap.size):=zA (F.out.keep _ vB).1
     replace F:=vH (F.out.go (Below.refl _ _).drew)
     have hRB:=F.out.qr.lt
     have hNB:=zA (F.out.keep _ vB).1
     have hne:=Nat.ne_of_gt hNB0
     have HK1:=vH (F.out.keep _ vA).1
     go_region_held3 (fun w' => w'.cell? ⟨u1.heap.size,3,none⟩ = some (.int .i64 t.at_)) (with_reducible first | exact (quad HK1.out).1.2.2.2 | exact (quad HK2.out).1.2.2.2 | exact (quad (zM _ HK2.out)).1.2.2.2 | exact (quad (zQ HK2.out hne)).1.2.2.2 | exact (quad (zM _ (zQ HK2.out hne))).1.2.2.2) (first
        | (go_at_call 109; (with_reducible refine Calls.mono (HA.out _ F.out.qr) ?_); rintro e u9 ⟨ka,kc,rfl,hkid,hr,hg⟩; have F4:=vH (F.out.step hr hg); have HK2:=vH (F4.out.keep _ vA).1; clear d0 d1 d2 d3 d4 d5 d6 d7 d8 d9 dX g0 g1 g2 g3 g4 g5 g6 g7 g8 g9 gX hld hnd hr hg t0 t1 t2 t3 hnt hmt; have hk:=(F4.out.keep _ vB); obtain ⟨⟨v0,v1,v2,v3,v4,v5,v6,v7,v8,v9,vX⟩,p0,p1,p2,p3,p4,p5,p6,p7,p8,p9,pX⟩:=hen hk.1; have hlv:=zA hk.1; have hnv:=hk.2; clear hk))
     clear F HK1 HK2 hRB hNB hne
     have F:=F4
     clear F4
     go_wp2_with fail
     have hn:=(Nw.start F.out.gr).pv (.int .i64 7) (.int .i64 0) (.string (cbs nm)) (.string ⟨#[]⟩) (.int .i64 0) (.slice ka l.length kc) (.int .i64 t.at_) (.int .i64 0) (.int .i64 0) (.int .i64 0) (.int .i64 0)
     exact bodyPost_ret (v:=.agg #[.int .i64 7,.int .i64 0,.string (cbs nm),.string ⟨#[]⟩,.int .i64 0,.slice ka l.length kc,.int .i64 t.at_,.int .i64 0,.int .i64 0,.int .i64 0,.int .i64 0]) (by simp [results,Tryd.results83,go_sem,v0,v1,v2,v3,v4,v5,v6,v7,v8,v9,vX]) rfl (QPost.eq (Option.some.inj HX.out) ⟨_,_,_,_,_,_,_,_,_,_,_,_,_,rfl,KidsAt.is ((KidsAt.put11 hkid HLW.out).lower (Nat.le_of_lt HLW.out)) 7 0 nm [] 0 t.at_,HH.out.fin F.out.qr hn,hn.gr⟩)
   | false =>
     replace HX:=vH (zB0 HX.out HV9.out)
     go_wp2_with fail
     have hn:=(Nw.start F.out.gr).pv (.int .i64 4) (.int .i64 0) (.string (cbs nm)) (.string ⟨#[]⟩) (.int .i64 0) (.slice none 0 0) (.int .i64 t.at_) (.int .i64 0) (.int .i64 0) (.int .i64 0) (.int .i64 0)
     exact bodyPost_ret (v:=.agg #[.int .i64 4,.int .i64 0,.string (cbs nm),.string ⟨#[]⟩,.int .i64 0,.slice none 0 0,.int .i64 t.at_,.int .i64 0,.int .i64 0,.int .i64 0,.int .i64 0]) (by simp [results,Tryd.results83,go_sem,d0,d1,d2,d3,d4,d5,d6,d7,d8,d9,dX]) rfl (QPost.eq (Option.some.inj HX.out) ⟨_,_,_,_,_,_,_,_,_,_,_,_,_,rfl,Is.leaf 4 0 nm [] 0 t.at_,HH.out.fin F.out.qr hn,hn.gr⟩)
 | true =>
   obtain ⟨b,hk2⟩:∃ b,(t.kind == 2) = b:=⟨_,rfl⟩
   cases b with
   | true =>
     have hx:=HX.out
     rw [if_pos ⟨by simpa using HOK.out,by simpa using hk2⟩] at hx
     replace HX:=vH hx
     clear hx
     obtain ⟨⟨c0,c1,c2,c3,c4⟩,fr,hRl⟩:=F.out.qr.cells
     have fr1:=fr 1
     have fr2:=fr 2
     clear fr
     have hk:=(F.out.keep _ vB)
     obtain ⟨⟨d0,d1,d2,d3,d4,d5,d6,d7,d8,d9,dX⟩,g0,g1,g2,g3,g4,g5,g6,g7,g8,g9,gX⟩:=hen hk.1
     have hld:=zA hk.1
     have hnd:=hk.2
     clear hk
     have hmd:=Ne.symm hnd
     go_wp2_with fail
     replace F:=vH (F.out.set_k (inc s.k))
     have hn:=(Nw.start F.out.gr).pv (.int .i64 1) (.int .i64 t.num) (.string ⟨#[]⟩) (.string ⟨#[]⟩) (.int .i64 0) (.slice none 0 0) (.int .i64 t.at_) (.int .i64 0) (.int .i64 0) (.int .i64 0) (.int .i64 0)
     exact bodyPost_ret (v:=.agg #[.int .i64 1,.int .i64 t.num,.string ⟨#[]⟩,.string ⟨#[]⟩,.int .i64 0,.slice none 0 0,.int .i64 t.at_,.int .i64 0,.int .i64 0,.int .i64 0,.int .i64 0]) (by simp [results,Tryd.results83,go_sem,d0,d1,d2,d3,d4,d5,d6,d7,d8,d9,dX]) rfl (QPost.eq (Option.some.inj HX.out) ⟨_,_,_,_,_,_,_,_,_,_,_,_,_,rfl,Is.leaf 1 t.num [] [] 0 t.at_,HH.out.fin F.out.qr hn,hn.gr⟩)
   | false =>
     have hx:=HX.out
     rw [if_neg (fun hh => by rw [beq_eq_false_iff_ne] at hk2; exact hk2 hh.2)] at hx
     replace HX:=vH hx
     clear hx
     go_wp2_with fail
     clear t0 t1 t2 t3 hlt hnt hmt
     refine (zI _ R S ts _ F.out.qr ⟨#[116,114,117,101]⟩ (by decide) true (by decide)).mono ?_
     rintro e u3 ⟨rfl,hb⟩
     replace F:=vH (F.out.go hb)
     clear hb
     obtain ⟨b,hb⟩:∃ b,Qe.is ts s true [116,114,117,101] = b:=⟨_,rfl⟩
     try rw [hb]
     have HV0:=vH hb
     clear hb
     have hk:=(F.out.keep _ vA)
     obtain ⟨⟨t0,t1,t2,t3⟩,q0,q1,q2,q3⟩:=quad hk.1
     have hlt:=zA hk.1
     have hnt:=hk.2
     have hmt:=Ne.symm hnt
     clear hk q0 q1 q2 q3
     cases b with
     | true =>
       replace HX:=vH (zAY HX.out HV0.out)
       have htx:((cbs t.text).toList == [116,114,117,101]) = true:=by rw [zR,← HT.out,(is_text HV0.out).2.2]; rfl
       obtain ⟨⟨c0,c1,c2,c3,c4⟩,fr,hRl⟩:=F.out.qr.cells
       have fr1:=fr 1
       have fr2:=fr 2
       clear fr
       have hk:=(F.out.keep _ vB)
       obtain ⟨⟨d0,d1,d2,d3,d4,d5,d6,d7,d8,d9,dX⟩,g0,g1,g2,g3,g4,g5,g6,g7,g8,g9,gX⟩:=hen hk.1
       have hld:=zA hk.1
       have hnd:=hk.2
       clear hk
       have hmd:=Ne.symm hnd
       go_wp2_with fail
       replace F:=vH (F.out.set_k (inc s.k))
       have hn:=(Nw.start F.out.gr).pv (.int .i64 2) (.int .i64 1) (.string ⟨#[]⟩) (.string ⟨#[]⟩) (.int .i64 0) (.slice none 0 0) (.int .i64 t.at_) (.int .i64 0) (.int .i64 0) (.int .i64 0) (.int .i64 0)
       exact bodyPost_ret (v:=.agg #[.int .i64 2,.int .i64 1,.string ⟨#[]⟩,.string ⟨#[]⟩,.int .i64 0,.slice none 0 0,.int .i64 t.at_,.int .i64 0,.int .i64 0,.int .i64 0,.int .i64 0]) (by simp [results,Tryd.results83,go_sem,d0,d1,d2,d3,d4,d5,d6,d7,d8,d9,dX]) rfl (QPost.eq (Option.some.inj HX.out) ⟨_,_,_,_,_,_,_,_,_,_,_,_,_,rfl,Is.leaf 2 1 [] [] 0 t.at_,HH.out.fin F.out.qr hn,hn.gr⟩)
     | false =>
       replace HX:=vH (zB0 HX.out HV0.out)
       go_wp2_with fail
       clear t0 t1 t2 t3 hlt hnt hmt
       refine (zI _ R S ts _ F.out.qr ⟨#[102,97,108,115,101]⟩ (by decide) true (by decide)).mono ?_
       rintro e u4 ⟨rfl,hb⟩
       replace F:=vH (F.out.go hb)
       clear hb
       obtain ⟨b,hb⟩:∃ b,Qe.is ts s true [102,97,108,115,101] = b:=⟨_,rfl⟩
       try rw [hb]
       have HV1:=vH hb
       clear hb
       have hk:=(F.out.keep _ vA)
       obtain ⟨⟨t0,t1,t2,t3⟩,q0,q1,q2,q3⟩:=quad hk.1
       have hlt:=zA hk.1
       have hnt:=hk.2
       have hmt:=Ne.symm hnt
       clear hk q0 q1 q2 q3
       cases b with
       | true =>
         replace HX:=vH (zAY HX.out HV1.out)
         have htx:((cbs t.text).toList == [116,114,117,101]) = false:=by rw [zR,← HT.out,(is_text HV1.out).2.2]; rfl
         obtain ⟨⟨c0,c1,c2,c3,c4⟩,fr,hRl⟩:=F.out.qr.cells
         have fr1:=fr 1
         have fr2:=fr 2
         clear fr
         have hk:=(F.out.keep _ vB)
         obtain ⟨⟨d0,d1,d2,d3,d4,d5,d6,d7,d8,d9,dX⟩,g0,g1,g2,g3,g4,g5,g6,g7,g8,g9,gX⟩:=hen hk.1
         have hld:=zA hk.1
         have hnd:=hk.2
         clear hk
         have hmd:=Ne.symm hnd
         go_wp2_with fail
         replace F:=vH (F.out.set_k (inc s.k))
         have hn:=(Nw.start F.out.gr).pv (.int .i64 2) (.int .i64 0) (.string ⟨#[]⟩) (.string ⟨#[]⟩) (.int .i64 0) (.slice none 0 0) (.int .i64 t.at_) (.int .i64 0) (.int .i64 0) (.int .i64 0) (.int .i64 0)
         exact bodyPost_ret (v:=.agg #[.int .i64 2,.int .i64 0,.string ⟨#[]⟩,.string ⟨#[]⟩,.int .i64 0,.slice none 0 0,.int .i64 t.at_,.int .i64 0,.int .i64 0,.int .i64 0,.int .i64 0]) (by simp [results,Tryd.results83,go_sem,d0,d1,d2,d3,d4,d5,d6,d7,d8,d9,dX]) rfl (QPost.eq (Option.some.inj HX.out) ⟨_,_,_,_,_,_,_,_,_,_,_,_,_,rfl,Is.leaf 2 0 [] [] 0 t.at_,HH.out.fin F.out.qr hn,hn.gr⟩)
       | false =>
         replace HX:=vH (zB0 HX.out HV1.out)
         go_wp2_with fail
         clear t0 t1 t2 t3 hlt hnt hmt
         refine (zI _ R S ts _ F.out.qr ⟨#[110,117,108,108]⟩ (by decide) true (by decide)).mono ?_
         rintro e u5 ⟨rfl,hb⟩
         replace F:=vH (F.out.go hb)
         clear hb
         obtain ⟨b,hb⟩:∃ b,Qe.is ts s true [110,117,108,108] = b:=⟨_,rfl⟩
         try rw [hb]
         have HV2:=vH hb
         clear hb
         have hk:=(F.out.keep _ vA)
         obtain ⟨⟨t0,t1,t2,t3⟩,q0,q1,q2,q3⟩:=quad hk.1
         have hlt:=zA hk.1
         have hnt:=hk.2
         have hmt:=Ne.symm hnt
         clear hk q0 q1 q2 q3
         cases b with
         | true =>
           replace HX:=vH (zAY HX.out HV2.out)
           have hq:=fun w1 hh => zCT w1 R S ts (Qe.next s) hh
           have hx:=HX.out
           generalize Qe.of ts (Qe.next s) = y at hq hx
           obtain ⟨nm,dm,s1⟩:=y
           dsimp only at hq hx
           have HQ:=vH hq
           replace HX:=vH hx
           clear hq hx
           obtain ⟨⟨c0,c1,c2,c3,c4⟩,fr,hRl⟩:=F.out.qr.cells
           have fr1:=fr 1
           have fr2:=fr 2
           clear fr
           have hk:=(F.out.keep _ vB)
           obtain ⟨⟨d0,d1,d2,d3,d4,d5,d6,d7,d8,d9,dX⟩,g0,g1,g2,g3,g4,g5,g6,g7,g8,g9,gX⟩:=hen hk.1
           have hld:=zA hk.1
           have hnd:=hk.2
           clear hk
           have hmd:=Ne.symm hnd
           go_wp2_with fail
           clear c0 c1 c2 c3 c4 fr1 fr2 hRl t0 t1 t2 t3 hlt hnt hmt d0 d1 d2 d3 d4 d5 d6 d7 d8 d9 dX g0 g1 g2 g3 g4 g5 g6 g7 g8 g9 gX hld hnd hmd
           have F2:=vH (F.out.set_k (inc s.k))
           change Hid (Fq _ _ _ _ _ (Qe.next s) _ _) at F2
           clear F
           have F:=F2
           clear F2
           obtain ⟨u0,hu0⟩:∃ u0,u0 = u5.setCell ⟨R,1,none⟩ (.int .i64 (inc s.k)):=⟨_,rfl⟩
           rw [← hu0] at F
           change Code.wp _ _ _ _ (u5.setCell ⟨R,1,none⟩ (.int .i64 (inc s.k)))
           rw [← hu0]
           clear hu0
           have hk:=(F.out.keep _ vA)
           obtain ⟨⟨t0,t1,t2,t3⟩,q0,q1,q2,q3⟩:=quad hk.1
           have hlt:=zA hk.1
           have hnt:=hk.2
           have hmt:=Ne.symm hnt
           clear hk q0 q1 q2 q3
           have hk:=(F.out.keep _ vB)
           obtain ⟨⟨d0,d1,d2,d3,d4,d5,d6,d7,d8,d9,dX⟩,g0,g1,g2,g3,g4,g5,g6,g7,g8,g9,gX⟩:=hen hk.1
           have hld:=zA hk.1
           have hnd:=hk.2
           clear hk
           replace F:=vH (F.out.go (Below.refl _ _).drew)
           have hRB:=F.out.qr.lt
           have hNB:=zA (F.out.keep _ vB).1
           have hne:=Nat.ne_of_gt hNB0
           have HK1:=vH (F.out.keep _ vA).1
           go_region_held3 (fun w' => w'.cell? ⟨u1.heap.size,3,none⟩ = some (.int .i64 t.at_)) (with_reducible first | exact (quad HK1.out).1.2.2.2 | exact (quad HK2.out).1.2.2.2 | exact (quad (zM _ HK2.out)).1.2.2.2 | exact (quad (zQ HK2.out hne)).1.2.2.2 | exact (quad (zM _ (zQ HK2.out hne))).1.2.2.2) (first
             | (go_at_call 39; (with_reducible refine Calls.mono (HQ.out _ F.out.qr) ?_); rintro e u9 ⟨rfl,hr,hg⟩; have F4:=vH (F.out.step hr hg); have HK2:=vH (F4.out.keep _ vA).1; clear d0 d1 d2 d3 d4 d5 d6 d7 d8 d9 dX g0 g1 g2 g3 g4 g5 g6 g7 g8 g9 gX hld hnd hr hg t0 t1 t2 t3 hnt hmt; have hk:=(F4.out.keep _ vB); obtain ⟨⟨v0,v1,v2,v3,v4,v5,v6,v7,v8,v9,vX⟩,p0,p1,p2,p3,p4,p5,p6,p7,p8,p9,pX⟩:=hen hk.1; have hlv:=zA hk.1; have hnv:=hk.2; clear hk))
           clear F HK1 HK2 hRB hNB hne
           have F:=F4
           clear F4
           go_wp2_with fail
           have hn:=(Nw.start F.out.gr).pv (.int .i64 3) (.int .i64 0) (.string ⟨#[]⟩) (.string (cbs nm)) (.int .i64 dm) (.slice none 0 0) (.int .i64 t.at_) (.int .i64 0) (.int .i64 0) (.int .i64 0) (.int .i64 0)
           exact bodyPost_ret (v:=.agg #[.int .i64 3,.int .i64 0,.string ⟨#[]⟩,.string (cbs nm),.int .i64 dm,.slice none 0 0,.int .i64 t.at_,.int .i64 0,.int .i64 0,.int .i64 0,.int .i64 0]) (by simp [results,Tryd.results83,go_sem,v0,v1,v2,v3,v4,v5,v6,v7,v8,v9,vX]) rfl (QPost.eq (Option.some.inj HX.out) ⟨_,_,_,_,_,_,_,_,_,_,_,_,_,rfl,Is.leaf 3 0 [] nm dm t.at_,HH.out.fin F.out.qr hn,hn.gr⟩)
         | false =>
           replace HX:=vH (zB0 HX.out HV2.out)
           go_wp2_with fail
           clear t0 t1 t2 t3 hlt hnt hmt
           refine (zI _ R S ts _ F.out.qr ⟨#[110,101,119]⟩ (by decide) true (by decide)).mono ?_
           rintro e u6 ⟨rfl,hb⟩
           replace F:=vH (F.out.go hb)
           clear hb
           obtain ⟨b,hb⟩:∃ b,Qe.is ts s true [110,101,119] = b:=⟨_,rfl⟩
           try rw [hb]
           have HV3:=vH hb
           clear hb
           have hk:=(F.out.keep _ vA)
           obtain ⟨⟨t0,t1,t2,t3⟩,q0,q1,q2,q3⟩:=quad hk.1
           have hlt:=zA hk.1
           have hnt:=hk.2
           have hmt:=Ne.symm hnt
           clear hk q0 q1 q2 q3
           cases b with
           | true =>
             replace HX:=vH (zAY HX.out HV3.out)
             have HE:=vH (fun w1 hh => zIx w1 R S ts _ hh rec HREC.out _ x HX.out)
             obtain ⟨⟨c0,c1,c2,c3,c4⟩,fr,hRl⟩:=F.out.qr.cells
             have fr1:=fr 1
             have fr2:=fr 2
             clear fr
             have hk:=(F.out.keep _ vB)
             obtain ⟨⟨d0,d1,d2,d3,d4,d5,d6,d7,d8,d9,dX⟩,g0,g1,g2,g3,g4,g5,g6,g7,g8,g9,gX⟩:=hen hk.1
             have hld:=zA hk.1
             have hnd:=hk.2
             clear hk
             have hmd:=Ne.symm hnd
             go_wp2_with fail
             clear c0 c1 c2 c3 c4 fr1 fr2 hRl t0 t1 t2 t3 hlt hnt hmt d0 d1 d2 d3 d4 d5 d6 d7 d8 d9 dX g0 g1 g2 g3 g4 g5 g6 g7 g8 g9 gX hld hnd hmd
             have F2:=vH (F.out.set_k (inc s.k))
             change Hid (Fq _ _ _ _ _ (Qe.next s) _ _) at F2
             clear F
             have F:=F2
             clear F2
             obtain ⟨u0,hu0⟩:∃ u0,u0 = u6.setCell ⟨R,1,none⟩ (.int .i64 (inc s.k)):=⟨_,rfl⟩
             rw [← hu0] at F
             change Calls _ _ _ (u6.setCell ⟨R,1,none⟩ (.int .i64 (inc s.k))) _
             rw [← hu0]
             clear hu0
             have hk:=(F.out.keep _ vA)
             obtain ⟨⟨t0,t1,t2,t3⟩,q0,q1,q2,q3⟩:=quad hk.1
             have hlt:=zA hk.1
             have hnt:=hk.2
             have hmt:=Ne.symm hnt
             clear hk q0 q1 q2 q3
             have hk:=(F.out.keep _ vB)
             obtain ⟨⟨d0,d1,d2,d3,d4,d5,d6,d7,d8,d9,dX⟩,g0,g1,g2,g3,g4,g5,g6,g7,g8,g9,gX⟩:=hen hk.1
             have hld:=zA hk.1
             have hnd:=hk.2
             clear hk d0 d1 d2 d3 d4 d5 d6 d7 d8 d9 dX g0 g1 g2 g3 g4 g5 g6 g7 g8 g9 gX hld hnd
             have hRB:=F.out.qr.lt
             have hNB:=zA (F.out.keep _ vB).1
             refine (HE.out _ F.out.qr).mono ?_
             rintro e u7 ⟨qk,qn,qs,qo,qd,qp,ql,qc,qa,qb,qr,qe,qf,rfl,hi,hr,hg⟩
             replace F:=vH ((F.out.step hr hg).tree hi hNB hRB)
             clear hi hr hg hRB hNB
             have hk:=(F.out.keep _ vB)
             obtain ⟨⟨d0,d1,d2,d3,d4,d5,d6,d7,d8,d9,dX⟩,g0,g1,g2,g3,g4,g5,g6,g7,g8,g9,gX⟩:=hen hk.1
             have hld:=zA hk.1
             have hnd:=hk.2
             clear hk
             go_wp2_with fail
             have hn:=(Nw.start F.out.gr).pv (.int .i64 qk) (.int .i64 qn) (.string (cbs qs)) (.string (cbs qo)) (.int .i64 qd) (.slice qp ql qc) (.int .i64 qa) (.int .i64 qb) (.int .i64 qr) (.int .i64 qe) (.int .i64 qf)
             exact bodyPost_ret (v:=.agg #[.int .i64 qk,.int .i64 qn,.string (cbs qs),.string (cbs qo),.int .i64 qd,.slice qp ql qc,.int .i64 qa,.int .i64 qb,.int .i64 qr,.int .i64 qe,.int .i64 qf]) (by simp [results,Tryd.results83,go_sem,d0,d1,d2,d3,d4,d5,d6,d7,d8,d9,dX]) rfl ⟨_,_,_,_,_,_,_,_,_,_,_,_,_,rfl,Is.lower (Nat.le_of_lt (F.out.trees _ vA).2.1) _ ((F.out.trees _ vA).1.put11 (F.out.trees _ vA).2.1),HH.out.fin F.out.qr hn,hn.gr⟩
           | false =>
             replace HX:=vH (zB0 HX.out HV3.out)
             go_wp2_with fail
             clear t0 t1 t2 t3 hlt hnt hmt
             refine (zI _ R S ts _ F.out.qr ⟨#[108,101,110]⟩ (by decide) true (by decide)).mono ?_
             rintro e u7 ⟨rfl,hb⟩
             replace F:=vH (F.out.go hb)
             clear hb
             obtain ⟨b,hb⟩:∃ b,Qe.is ts s true [108,101,110] = b:=⟨_,rfl⟩
             try rw [hb]
             have HV4:=vH hb
             clear hb
             have hk:=(F.out.keep _ vA)
             obtain ⟨⟨t0,t1,t2,t3⟩,q0,q1,q2,q3⟩:=quad hk.1
             have hlt:=zA hk.1
             have hnt:=hk.2
             have hmt:=Ne.symm hnt
             clear hk q0 q1 q2 q3
             cases b with
             | true =>
               replace HX:=vH (zAY HX.out HV4.out)
               have hx:=HX.out
               split at hx
               ·cases hx
               rename_i e0 s2 he
               have HE:=vH (fun w1 hh => zCU w1 R S ts _ hh rec HREC.out (e0,s2) he)
               replace HX:=vH hx
               clear hx he
               obtain ⟨⟨c0,c1,c2,c3,c4⟩,fr,hRl⟩:=F.out.qr.cells
               have fr1:=fr 1
               have fr2:=fr 2
               clear fr
               have hk:=(F.out.keep _ vB)
               obtain ⟨⟨d0,d1,d2,d3,d4,d5,d6,d7,d8,d9,dX⟩,g0,g1,g2,g3,g4,g5,g6,g7,g8,g9,gX⟩:=hen hk.1
               have hld:=zA hk.1
               have hnd:=hk.2
               clear hk
               have hmd:=Ne.symm hnd
               go_wp2_with fail
               clear c0 c1 c2 c3 c4 fr1 fr2 hRl t0 t1 t2 t3 hlt hnt hmt d0 d1 d2 d3 d4 d5 d6 d7 d8 d9 dX g0 g1 g2 g3 g4 g5 g6 g7 g8 g9 gX hld hnd hmd
               have F2:=vH (F.out.set_k (inc s.k))
               change Hid (Fq _ _ _ _ _ (Qe.next s) _ _) at F2
               clear F
               have F:=F2
               clear F2
               obtain ⟨u0,hu0⟩:∃ u0,u0 = u7.setCell ⟨R,1,none⟩ (.int .i64 (inc s.k)):=⟨_,rfl⟩
               rw [← hu0] at F
               change Code.wp _ _ _ _ (u7.setCell ⟨R,1,none⟩ (.int .i64 (inc s.k)))
               rw [← hu0]
               clear hu0
               have hk:=(F.out.keep _ vA)
               obtain ⟨⟨t0,t1,t2,t3⟩,q0,q1,q2,q3⟩:=quad hk.1
               have hlt:=zA hk.1
               have hnt:=hk.2
               have hmt:=Ne.symm hnt
               clear hk q0 q1 q2 q3
               have hk:=(F.out.keep _ vB)
               obtain ⟨⟨d0,d1,d2,d3,d4,d5,d6,d7,d8,d9,dX⟩,g0,g1,g2,g3,g4,g5,g6,g7,g8,g9,gX⟩:=hen hk.1
               have hld:=zA hk.1
               have hnd:=hk.2
               clear hk
               replace F:=vH (F.out.go (Below.refl _ _).drew)
               have hRB:=F.out.qr.lt
               have hNB:=zA (F.out.keep _ vB).1
               have hne:=Nat.ne_of_gt hNB0
               have HK1:=vH (F.out.keep _ vA).1
               go_region_held3 (fun w' => w'.cell? ⟨u1.heap.size,3,none⟩ = some (.int .i64 t.at_)) (with_reducible first | exact (quad HK1.out).1.2.2.2 | exact (quad HK2.out).1.2.2.2 | exact (quad (zM _ HK2.out)).1.2.2.2 | exact (quad (zQ HK2.out hne)).1.2.2.2 | exact (quad (zM _ (zQ HK2.out hne))).1.2.2.2) (first
                 | (go_at_call 108; (with_reducible refine Calls.mono (HE.out _ F.out.qr) ?_); rintro e u9 ⟨qk,qn,qs,qo,qd,qp,ql,qc,qa,qb,qr,qe,qf,rfl,hi,hr,hg⟩; have F4:=vH ((F.out.step hr hg).tree hi hNB hRB); have HK2:=vH (F4.out.keep _ vA).1; clear d0 d1 d2 d3 d4 d5 d6 d7 d8 d9 dX g0 g1 g2 g3 g4 g5 g6 g7 g8 g9 gX hld hnd hi hr hg t0 t1 t2 t3 hnt hmt; have hk:=(F4.out.keep _ vB); obtain ⟨⟨v0,v1,v2,v3,v4,v5,v6,v7,v8,v9,vX⟩,p0,p1,p2,p3,p4,p5,p6,p7,p8,p9,pX⟩:=hen hk.1; have hlv:=zA hk.1; have hnv:=hk.2; clear hk))
               clear F HK1 HK2 hRB hNB hne
               have F:=F4
               clear F4
               go_wp2_with fail
               have hn:=((Nw.start F.out.gr).pv (.int .i64 10) (.int .i64 0) (.string ⟨#[]⟩) (.string ⟨#[]⟩) (.int .i64 0) (.slice (some ⟨u9.heap.size,0,none⟩) 1 1) (.int .i64 t.at_) (.int .i64 0) (.int .i64 0) (.int .i64 0) (.int .i64 0)).alloc (.cells #[.int .i64 qk,.int .i64 qn,.string (cbs qs),.string (cbs qo),.int .i64 qd,.slice qp ql qc,.int .i64 qa,.int .i64 qb,.int .i64 qr,.int .i64 qe,.int .i64 qf] 45)
               have hbx:=zCJ (w:=u9) (N:=w.heap.size) (o:=.cells #[.int .i64 qk,.int .i64 qn,.string (cbs qs),.string (cbs qo),.int .i64 qd,.slice qp ql qc,.int .i64 qa,.int .i64 qb,.int .i64 qr,.int .i64 qe,.int .i64 qf] 45) (c0:=.int .i64 10) (c1:=.int .i64 0) (c2:=.string ⟨#[]⟩) (c3:=.string ⟨#[]⟩) (c4:=.int .i64 0) (c5:=.slice (some ⟨u9.heap.size,0,none⟩) 1 1) (c6:=.int .i64 t.at_) (c7:=.int .i64 0) (c8:=.int .i64 0) (c9:=.int .i64 0) (c10:=.int .i64 0)
               have hle:w.heap.size ≤ u9.heap.size:=Nat.le_of_lt (zA (F.out.keep _ vB).1)
               exact bodyPost_ret (v:=.agg #[.int .i64 10,.int .i64 0,.string ⟨#[]⟩,.string ⟨#[]⟩,.int .i64 0,.slice (some ⟨u9.heap.size,0,none⟩) 1 1,.int .i64 t.at_,.int .i64 0,.int .i64 0,.int .i64 0,.int .i64 0]) (by simp [results,Tryd.results83,go_sem,hlv,v0,v1,v2,v3,v4,v5,v6,v7,v8,v9,vX]) rfl (QPost.eq (Option.some.inj HX.out) ⟨_,_,_,_,_,_,_,_,_,_,_,_,_,rfl,Is.node1 hbx hle (Is.lower (Nat.le_of_lt (F.out.trees _ vA).2.1) _ (((F.out.trees _ vA).1.put11 (F.out.trees _ vA).2.1).alloc _)) rfl 10 0 [] [] 0 t.at_ 1,HH.out.fin F.out.qr hn,hn.gr⟩)
             | false =>
               replace HX:=vH (zB0 HX.out HV4.out)
               go_wp2_with fail
               clear t0 t1 t2 t3 hlt hnt hmt
               refine (zI _ R S ts _ F.out.qr ⟨#[114,101,97,100]⟩ (by decide) true (by decide)).mono ?_
               rintro e u8 ⟨rfl,hb⟩
               replace F:=vH (F.out.go hb)
               clear hb
               obtain ⟨b,hb⟩:∃ b,Qe.is ts s true [114,101,97,100] = b:=⟨_,rfl⟩
               try rw [hb]
               have HV5:=vH hb
               clear hb
               have hk:=(F.out.keep _ vA)
               obtain ⟨⟨t0,t1,t2,t3⟩,q0,q1,q2,q3⟩:=quad hk.1
               have hlt:=zA hk.1
               have hnt:=hk.2
               have hmt:=Ne.symm hnt
               clear hk q0 q1 q2 q3
               cases b with
               | true =>
                 replace HX:=vH (zAY HX.out HV5.out)
                 obtain ⟨⟨c0,c1,c2,c3,c4⟩,fr,hRl⟩:=F.out.qr.cells
                 have fr1:=fr 1
                 have fr2:=fr 2
                 clear fr
                 have hk:=(F.out.keep _ vB)
                 obtain ⟨⟨d0,d1,d2,d3,d4,d5,d6,d7,d8,d9,dX⟩,g0,g1,g2,g3,g4,g5,g6,g7,g8,g9,gX⟩:=hen hk.1
                 have hld:=zA hk.1
                 have hnd:=hk.2
                 clear hk
                 have hmd:=Ne.symm hnd
                 go_wp2_with fail
                 clear c0 c1 c2 c3 c4 fr1 fr2 hRl t0 t1 t2 t3 hlt hnt hmt d0 d1 d2 d3 d4 d5 d6 d7 d8 d9 dX g0 g1 g2 g3 g4 g5 g6 g7 g8 g9 gX hld hnd hmd
                 have F2:=vH (F.out.set_k (inc s.k))
                 change Hid (Fq _ _ _ _ _ (Qe.next s) _ _) at F2
                 clear F
                 have F:=F2
                 clear F2
                 obtain ⟨u0,hu0⟩:∃ u0,u0 = u8.setCell ⟨R,1,none⟩ (.int .i64 (inc s.k)):=⟨_,rfl⟩
                 rw [← hu0] at F
                 change Calls _ _ _ (u8.setCell ⟨R,1,none⟩ (.int .i64 (inc s.k))) _
                 rw [← hu0]
                 clear hu0
                 have hk:=(F.out.keep _ vA)
                 obtain ⟨⟨t0,t1,t2,t3⟩,q0,q1,q2,q3⟩:=quad hk.1
                 have hlt:=zA hk.1
                 have hnt:=hk.2
                 have hmt:=Ne.symm hnt
                 clear hk q0 q1 q2 q3
                 have hk:=(F.out.keep _ vB)
                 obtain ⟨⟨d0,d1,d2,d3,d4,d5,d6,d7,d8,d9,dX⟩,g0,g1,g2,g3,g4,g5,g6,g7,g8,g9,gX⟩:=hen hk.1
                 have hld:=zA hk.1
                 have hnd:=hk.2
                 clear hk d0 d1 d2 d3 d4 d5 d6 d7 d8 d9 dX g0 g1 g2 g3 g4 g5 g6 g7 g8 g9 gX hld hnd t0 t1 t2 t3 hlt hnt hmt
                 refine (zAM _ R S ts _ F.out.qr ⟨#[40]⟩ (zAu _ (by decide))).mono ?_
                 rintro e u9 ⟨rfl,hr,hg⟩
                 replace F:=vH (F.out.step hr hg)
                 clear hr hg
                 go_wp2_with fail
                 refine (zAK _ R S ts _ F.out.qr ⟨#[41]⟩ (zAu _ (by decide))).mono ?_
                 rintro e u10 ⟨rfl,hr,hg⟩
                 replace F:=vH (F.out.step hr hg)
                 clear hr hg
                 have hk:=(F.out.keep _ vA)
                 obtain ⟨⟨t0,t1,t2,t3⟩,q0,q1,q2,q3⟩:=quad hk.1
                 have hlt:=zA hk.1
                 have hnt:=hk.2
                 have hmt:=Ne.symm hnt
                 clear hk q0 q1 q2 q3
                 have hk:=(F.out.keep _ vB)
                 obtain ⟨⟨d0,d1,d2,d3,d4,d5,d6,d7,d8,d9,dX⟩,g0,g1,g2,g3,g4,g5,g6,g7,g8,g9,gX⟩:=hen hk.1
                 have hld:=zA hk.1
                 have hnd:=hk.2
                 clear hk
                 go_wp2_with fail
                 have hn:=(Nw.start F.out.gr).pv (.int .i64 11) (.int .i64 0) (.string ⟨#[]⟩) (.string ⟨#[]⟩) (.int .i64 0) (.slice none 0 0) (.int .i64 t.at_) (.int .i64 0) (.int .i64 0) (.int .i64 0) (.int .i64 0)
                 exact bodyPost_ret (v:=.agg #[.int .i64 11,.int .i64 0,.string ⟨#[]⟩,.string ⟨#[]⟩,.int .i64 0,.slice none 0 0,.int .i64 t.at_,.int .i64 0,.int .i64 0,.int .i64 0,.int .i64 0]) (by simp [results,Tryd.results83,go_sem,d0,d1,d2,d3,d4,d5,d6,d7,d8,d9,dX]) rfl (QPost.eq (Option.some.inj HX.out) ⟨_,_,_,_,_,_,_,_,_,_,_,_,_,rfl,Is.leaf 11 0 [] [] 0 t.at_,HH.out.fin F.out.qr hn,hn.gr⟩)
               | false =>
                 replace HX:=vH (zB0 HX.out HV5.out)
                 go_wp2_with fail
                 clear t0 t1 t2 t3 hlt hnt hmt
                 refine (zI _ R S ts _ F.out.qr ⟨#[40]⟩ (by decide) false (by decide)).mono ?_
                 rintro e u9 ⟨rfl,hb⟩
                 replace F:=vH (F.out.go hb)
                 clear hb
                 obtain ⟨b,hb⟩:∃ b,Qe.is ts s false [40] = b:=⟨_,rfl⟩
                 try rw [hb]
                 have HV6:=vH hb
                 clear hb
                 have hk:=(F.out.keep _ vA)
                 obtain ⟨⟨t0,t1,t2,t3⟩,q0,q1,q2,q3⟩:=quad hk.1
                 have hlt:=zA hk.1
                 have hnt:=hk.2
                 have hmt:=Ne.symm hnt
                 clear hk q0 q1 q2 q3
                 cases b with
                 | true =>
                   replace HX:=vH (zAY HX.out HV6.out)
                   have HE:=vH (fun w1 hh => zCU w1 R S ts _ hh rec HREC.out x HX.out)
                   go_wp2_with fail
                   clear t0 t1 t2 t3 hlt hnt hmt
                   have hRB:=F.out.qr.lt
                   have hNB:=zA (F.out.keep _ vB).1
                   refine (HE.out _ F.out.qr).mono ?_
                   rintro e u10 ⟨qk,qn,qs,qo,qd,qp,ql,qc,qa,qb,qr,qe,qf,rfl,hi,hr,hg⟩
                   replace F:=vH ((F.out.step hr hg).tree hi hNB hRB)
                   clear hi hr hg hRB hNB
                   have hk:=(F.out.keep _ vB)
                   obtain ⟨⟨d0,d1,d2,d3,d4,d5,d6,d7,d8,d9,dX⟩,g0,g1,g2,g3,g4,g5,g6,g7,g8,g9,gX⟩:=hen hk.1
                   have hld:=zA hk.1
                   have hnd:=hk.2
                   clear hk
                   go_wp2_with fail
                   have hn:=(Nw.start F.out.gr).pv (.int .i64 qk) (.int .i64 qn) (.string (cbs qs)) (.string (cbs qo)) (.int .i64 qd) (.slice qp ql qc) (.int .i64 qa) (.int .i64 qb) (.int .i64 qr) (.int .i64 qe) (.int .i64 qf)
                   exact bodyPost_ret (v:=.agg #[.int .i64 qk,.int .i64 qn,.string (cbs qs),.string (cbs qo),.int .i64 qd,.slice qp ql qc,.int .i64 qa,.int .i64 qb,.int .i64 qr,.int .i64 qe,.int .i64 qf]) (by simp [results,Tryd.results83,go_sem,d0,d1,d2,d3,d4,d5,d6,d7,d8,d9,dX]) rfl ⟨_,_,_,_,_,_,_,_,_,_,_,_,_,rfl,Is.lower (Nat.le_of_lt (F.out.trees _ vA).2.1) _ ((F.out.trees _ vA).1.put11 (F.out.trees _ vA).2.1),HH.out.fin F.out.qr hn,hn.gr⟩
                 | false =>
                   replace HX:=vH (zB0 HX.out HV6.out)
                   obtain ⟨nm,s1,hy⟩:∃ nm s1,Qe.name ts s = (nm,s1):=⟨_,_,rfl⟩
                   have hq:=fun w1 hh => zAG w1 R S ts s hh
                   have hx:=HX.out
                   rw [hy] at hq hx
                   dsimp only at hq hx
                   have HQ:=vH hq
                   replace HX:=vH hx
                   clear hq hy hx
                   go_wp2_with fail
                   clear t0 t1 t2 t3 hlt hnt hmt
                   refine (HQ.out _ F.out.qr).mono ?_
                   rintro e u10 ⟨rfl,hr,hg⟩
                   replace F:=vH (F.out.step hr hg)
                   clear hr hg
                   go_wp2_with fail
                   refine (zI _ R S ts _ F.out.qr ⟨#[40]⟩ (by decide) false (by decide)).mono ?_
                   rintro e u11 ⟨rfl,hb⟩
                   replace F:=vH (F.out.go hb)
                   clear hb
                   obtain ⟨b,hb⟩:∃ b,Qe.is ts s1 false [40] = b:=⟨_,rfl⟩
                   try rw [hb]
                   have HV9:=vH hb
                   clear hb
                   have hk:=(F.out.keep _ vA)
                   obtain ⟨⟨t0,t1,t2,t3⟩,q0,q1,q2,q3⟩:=quad hk.1
                   have hlt:=zA hk.1
                   have hnt:=hk.2
                   have hmt:=Ne.symm hnt
                   clear hk q0 q1 q2 q3
                   have hk:=(F.out.keep _ vB)
                   obtain ⟨⟨d0,d1,d2,d3,d4,d5,d6,d7,d8,d9,dX⟩,g0,g1,g2,g3,g4,g5,g6,g7,g8,g9,gX⟩:=hen hk.1
                   have hld:=zA hk.1
                   have hnd:=hk.2
                   clear hk
                   cases b with
                   | true =>
                     replace HX:=vH (zAY HX.out HV9.out)
                     have hx:=HX.out
                     split at hx
                     ·cases hx
                     rename_i l s2 ha
                     have HA:=vH (fun w1 hh => zFP w1 R S ts s1 hh rec HREC.out gg HGG.out (l,s2) ha)
                     replace HX:=vH hx
                     clear hx ha
                     go_wp2_with fail
                     have HLW:Hid (w.heap.size < u11.drew.heap.size):=zA (F.out.keep _ vB).1
                     replace F:=vH (F.out.go (Below.refl _ _).drew)
                     have hRB:=F.out.qr.lt
                     have hNB:=zA (F.out.keep _ vB).1
                     have hne:=Nat.ne_of_gt hNB0
                     have HK1:=vH (F.out.keep _ vA).1
                     go_region_held3 (fun w' => w'.cell? ⟨u1.heap.size,3,none⟩ = some (.int .i64 t.at_)) (with_reducible first | exact (quad HK1.out).1.2.2.2 | exact (quad HK2.out).1.2.2.2 | exact (quad (zM _ HK2.out)).1.2.2.2 | exact (quad (zQ HK2.out hne)).1.2.2.2 | exact (quad (zM _ (zQ HK2.out hne))).1.2.2.2) (first
                       | (go_at_call 109; (with_reducible refine Calls.mono (HA.out _ F.out.qr) ?_); rintro e u9 ⟨ka,kc,rfl,hkid,hr,hg⟩; have F4:=vH (F.out.step hr hg); have HK2:=vH (F4.out.keep _ vA).1; clear d0 d1 d2 d3 d4 d5 d6 d7 d8 d9 dX g0 g1 g2 g3 g4 g5 g6 g7 g8 g9 gX hld hnd hr hg t0 t1 t2 t3 hnt hmt; have hk:=(F4.out.keep _ vB); obtain ⟨⟨v0,v1,v2,v3,v4,v5,v6,v7,v8,v9,vX⟩,p0,p1,p2,p3,p4,p5,p6,p7,p8,p9,pX⟩:=hen hk.1; have hlv:=zA hk.1; have hnv:=hk.2; clear hk))
                     clear F HK1 HK2 hRB hNB hne
                     have F:=F4
                     clear F4
                     go_wp2_with fail
                     have hn:=(Nw.start F.out.gr).pv (.int .i64 7) (.int .i64 0) (.string (cbs nm)) (.string ⟨#[]⟩) (.int .i64 0) (.slice ka l.length kc) (.int .i64 t.at_) (.int .i64 0) (.int .i64 0) (.int .i64 0) (.int .i64 0)
                     exact bodyPost_ret (v:=.agg #[.int .i64 7,.int .i64 0,.string (cbs nm),.string ⟨#[]⟩,.int .i64 0,.slice ka l.length kc,.int .i64 t.at_,.int .i64 0,.int .i64 0,.int .i64 0,.int .i64 0]) (by simp [results,Tryd.results83,go_sem,v0,v1,v2,v3,v4,v5,v6,v7,v8,v9,vX]) rfl (QPost.eq (Option.some.inj HX.out) ⟨_,_,_,_,_,_,_,_,_,_,_,_,_,rfl,KidsAt.is ((KidsAt.put11 hkid HLW.out).lower (Nat.le_of_lt HLW.out)) 7 0 nm [] 0 t.at_,HH.out.fin F.out.qr hn,hn.gr⟩)
                   | false =>
                     replace HX:=vH (zB0 HX.out HV9.out)
                     go_wp2_with fail
                     have hn:=(Nw.start F.out.gr).pv (.int .i64 4) (.int .i64 0) (.string (cbs nm)) (.string ⟨#[]⟩) (.int .i64 0) (.slice none 0 0) (.int .i64 t.at_) (.int .i64 0) (.int .i64 0) (.int .i64 0) (.int .i64 0)
                     exact bodyPost_ret (v:=.agg #[.int .i64 4,.int .i64 0,.string (cbs nm),.string ⟨#[]⟩,.int .i64 0,.slice none 0 0,.int .i64 t.at_,.int .i64 0,.int .i64 0,.int .i64 0,.int .i64 0]) (by simp [results,Tryd.results83,go_sem,d0,d1,d2,d3,d4,d5,d6,d7,d8,d9,dX]) rfl (QPost.eq (Option.some.inj HX.out) ⟨_,_,_,_,_,_,_,_,_,_,_,_,_,rfl,Is.leaf 4 0 nm [] 0 t.at_,HH.out.fin F.out.qr hn,hn.gr⟩)
end Go.Proofs.YteadgahhchlgeaaDoor
