/-
  The answer's reader of programs (runrigref3): Prog of any te
-/
import Derived.Test.YteadgahhchlgeaaDoorK25
import Derived.Test.YteadgahhchlgeaaDoorK02
import Derived.Test.YteadgahhchlgeaaDoorK23
set_option maxRecDepth 8000
set_option maxHeartbeats 8000000
namespace Go.Proofs.YteadgahhchlgeaaDoor
open Go.RowKit
open Px (RT tokAt isT)
open Pe (inc dec Ex)
open Qe (Q)
open Ps (Sm)
open Pg (Pm Rc Fc Gm)
theorem zJG (s:ByteArray)(hs:s.size ≤ maxLen)(us:List Ln.Lx.Tk)(E K:Nat)(h:Ln.Lx.toks s.data.toList = (us,E,K))(hE:E ≠ 0)(w:World) :
 Calls Tryd.prog 7 #[.string s] w (PaPost w (Gm.zero,E,K)):=by
 obtain ⟨wa,hwa⟩:∃ wa,wa = (w.alloc (.cells #[.slice none 0 0,.slice none 0 0,.slice none 0 0] 26)).alloc (.cells vF 29):=⟨_,rfl⟩
 have hba:Below w.heap.size w wa:=by rw [hwa]; exact ((Below.refl _ _).alloc (Nat.le_refl _) _).alloc (by rw [zC]; omega) _
 have htk:=Ln.refTokens_any s hs wa
 unfold Ln.TokRes at htk
 rw [h] at htk
 have HTK:=vH htk
 have HB:=vH hba
 have hk1:wa.heap[w.heap.size]? = some (.cells #[.slice none 0 0,.slice none 0 0,.slice none 0 0] 26 (0,0)):=by rw [hwa]; exact zM _ (heap_alloc_new w _)
 have hk2:wa.heap[w.heap.size + 1]? = some (.cells vF 29 (0,0)):=by rw [hwa]; have:=heap_alloc_new (w.alloc (.cells #[.slice none 0 0,.slice none 0 0,.slice none 0 0] 26)) (.cells vF 29); rw [zC] at this; exact this
 have hsz:wa.heap.size = w.heap.size + 2:=by rw [hwa]; simp only [zC]
 have HK1:=vH hk1
 have HK2:=vH hk2
 have HSZ:=vH hsz
 have hE1:((E:Int) != 0) = true:=by rw [bne_iff_ne]; omega
 have hE2:(E != 0) = true:=by rw [bne_iff_ne]; exact hE
 clear h htk hba hk1 hk2 hsz hE
 go_in
 go_wp2_with fail
 rw [← hwa]
 clear hwa
 refine HTK.out.mono ?_
 rintro e w1 ⟨A,c,rfl,hl1,hb1⟩
 have HB1:=vH (zH HB.out hb1 HB.out.size)
 obtain ⟨wb,hwb⟩:∃ wb,wb = w1.alloc (.cells #[.int .i64 (E:Int),.int .i64 (K:Int)] 29):=⟨_,rfl⟩
 have hbb:Below w1.heap.size w1 wb:=by rw [hwb]; exact (Below.refl _ _).alloc (Nat.le_refl _) _
 have hb2:=zH hb1 hbb hb1.size
 have HB2:=vH (zH HB1.out hbb HB1.out.size)
 obtain ⟨⟨x0,x1,x2⟩,y0,y1,y2⟩:=tri ((hb2.block _ (zA HK1.out)).trans HK1.out)
 have hlx:=zA ((hb2.block _ (zA HK1.out)).trans HK1.out)
 obtain ⟨⟨z0,z1⟩,⟨v0,v1⟩,hlz⟩:=duo ((hb2.block _ (zA HK2.out)).trans HK2.out)
 obtain ⟨⟨m0,m1⟩,⟨n0,n1⟩,hlm⟩:=duo (show wb.heap[w1.heap.size]? = some (.cells #[.int .i64 (E:Int),.int .i64 (K:Int)] 29 (0,0)) by rw [hwb]; exact heap_alloc_new w1 _)
 have hz1:=hb1.size
 have hsz:=HSZ.out
 have hq1:w.heap.size ≠ w.heap.size + 1:=by omega
 have hq2:=Ne.symm hq1
 have hq3:w.heap.size + 1 ≠ w1.heap.size:=by omega
 have hq4:=Ne.symm hq3
 have hq5:w.heap.size ≠ w1.heap.size:=by omega
 have hq6:=Ne.symm hq5
 clear hl1 hb1 hb2 hbb hz1 hsz
 go_wp2_with fail
 try rw [← hwb]
 clear hwb
 go_region
 all_goals
  go_wp2_with fail
  refine bodyPost_ret (v:=.tuple #[.agg #[.slice none 0 0,.slice none 0 0,.slice none 0 0],.agg #[.int .i64 (E:Int),.int .i64 (K:Int)]]) (by simp [results,Tryd.results7,go_sem,x0,x1,x2,z0,z1]) rfl ⟨none,0,0,none,0,0,none,0,0,rfl,GIs.zero,?_⟩
  refine zDX ?_
  repeat (refine zAs ?_ (by omega))
  exact HB2.out
set_option maxHeartbeats 16000000 in
theorem zLo (s:ByteArray)(hs:s.size ≤ maxLen)(us:List Ln.Lx.Tk)(K:Nat)(h:Ln.Lx.toks s.data.toList = (us,0,K))(w:World)(ts:List RT)(hts:ts = us.map toRT)(recB:Q → Qs.OutB)(hB:QBlOk ts recB)(g:Nat)(hg:g ≤ 900000000)(x:Gm × Int × Int)(hx:Qg.run ts recB g = some x) :
 Calls Tryd.prog 7 #[.string s] w (PaPost w x):=by
 obtain ⟨p3,s3,h3,hpx⟩:∃ p3 s3,Qg.loop ts recB g Gm.zero ⟨0,0,0,0⟩ = some (p3,s3) ∧ x = Qg.pgEnd p3 s3:=by
  unfold Qg.run at hx
  split at hx
  ·cases hx
  ·rename_i p s hl
   exact ⟨p,s,hl,(Option.some.inj hx).symm⟩
 have HPX:=vH hpx
 have hsh:∀ t ∈ us,t.text.length ≤ 281474976710656:=by have:=zFx s.data.toList; rw [h] at this; exact this
 obtain ⟨wa,hwa⟩:∃ wa,wa = (w.alloc (.cells #[.slice none 0 0,.slice none 0 0,.slice none 0 0] 26)).alloc (.cells vF 29):=⟨_,rfl⟩
 have hba:Below w.heap.size w wa:=by rw [hwa]; exact ((Below.refl _ _).alloc (Nat.le_refl _) _).alloc (by rw [zC]; omega) _
 have htk:=Ln.refTokens_any s hs wa
 unfold Ln.TokRes at htk
 rw [h] at htk
 have HTK:=vH htk
 have HB:=vH hba
 have hk1:wa.heap[w.heap.size]? = some (.cells #[.slice none 0 0,.slice none 0 0,.slice none 0 0] 26 (0,0)):=by rw [hwa]; exact zM _ (heap_alloc_new w _)
 have hk2:wa.heap[w.heap.size + 1]? = some (.cells vF 29 (0,0)):=by rw [hwa]; have:=heap_alloc_new (w.alloc (.cells #[.slice none 0 0,.slice none 0 0,.slice none 0 0] 26)) (.cells vF 29); rw [zC] at this; exact this
 have hsz:wa.heap.size = w.heap.size + 2:=by rw [hwa]; simp only [zC]
 have HK1:=vH hk1
 have HK2:=vH hk2
 have HSZ:=vH hsz
 have HSH:=vH hsh
 have HTS:=vH hts
 have H3:=vH h3
 have HBB:=vH hB
 have HG:=vH hg
 clear h htk hba hk1 hk2 hsz hsh h3 hB hx hg hts hpx
 go_in
 go_wp2_with fail
 rw [← hwa]
 clear hwa
 refine HTK.out.mono ?_
 rintro e w1 ⟨A,c,rfl,hl1,hb1⟩
 obtain ⟨wb,hwb⟩:∃ wb,wb = w1.alloc (.cells #[.int .i64 0,.int .i64 (K:Int)] 29):=⟨_,rfl⟩
 obtain ⟨wk,hwk⟩:∃ wk,wk = wb.alloc (.cells #[.slice A us.length c,.int .i64 0,.int .i64 0,.int .i64 0,.int .i64 0] 69):=⟨_,rfl⟩
 obtain ⟨wd,hwd⟩:∃ wd,wd = wk.alloc (.cells #[.slice none 0 0,.slice none 0 0,.slice none 0 0] 26):=⟨_,rfl⟩
 obtain ⟨R,hR⟩:∃ R,R = wb.heap.size:=⟨_,rfl⟩
 obtain ⟨b,hb⟩:∃ b,b = wk.heap.size:=⟨_,rfl⟩
 obtain ⟨B,hB⟩:∃ B,B = wd.heap.size:=⟨_,rfl⟩
 have hbb:Below w1.heap.size w1 wb:=by rw [hwb]; exact (Below.refl _ _).alloc (Nat.le_refl _) _
 have hbc:Below w1.heap.size w1 wk:=by rw [hwk]; exact zH hbb ((Below.refl _ _).alloc (Nat.le_refl _) _) hbb.size
 have hsb:wb.heap.size = w1.heap.size + 1:=by rw [hwb,zC]
 have hsc:wk.heap.size = w1.heap.size + 2:=by rw [hwk,zC,hsb]
 have hsd:wd.heap.size = w1.heap.size + 3:=by rw [hwd,zC,hsc]
 have hb3:=zH hb1 hbc hb1.size
 have HBC:=vH (zH HB.out hb3 HB.out.size)
 have HC1:=vH ((hb3.block _ (zA HK1.out)).trans HK1.out)
 have HC2:=vH ((hb3.block _ (zA HK2.out)).trans HK2.out)
 have hT:Toks wk R (.slice A us.length c) ts:=by rw [HTS.out]; exact ((zI2 (c:=c) hl1 HSH.out).re (by omega)).below hbc
 have hq0:Qr wk R (.slice A us.length c) ts ⟨0,0,0,0⟩:=⟨by rw [hwk,hR]; exact heap_alloc_new wb _,hT⟩
 have hbd:Below wk.heap.size wk wd:=by rw [hwd]; exact (Below.refl _ _).alloc (Nat.le_refl _) _
 have hG:QGs wk R (.slice A us.length c) ts B b (.slice none 0 0) (.slice none 0 0) (.slice none 0 0) (.slice none 0 0) (.slice none 0 0) (.slice none 0 0) Gm.zero ⟨0,0,0,0⟩ wd:=
  ⟨hq0.go hbd,Gr.of hbd,by rw [hwd,hb]; exact heap_alloc_new wk _,by rw [hb]; exact Nat.le_refl _,by omega,by rw [hB]; exact Nat.le_refl _,OwnL.nil _,OwnL.nil _,OwnL.nil _,(fun k e => by cases e),(fun k e => by cases e),(fun k e => by cases e),_,hq0⟩
 have G:=vH hG
 have HSB:=vH (show R = w1.heap.size + 1 ∧ b = w1.heap.size + 2 ∧ B = w1.heap.size + 3 ∧ w.heap.size + 2 ≤ w1.heap.size ∧ wk.heap.size = b from ⟨by omega,by omega,by omega,by have:=hb1.size; have:=HSZ.out; omega,hb.symm⟩)
 have hRb:R ≠ b:=by omega
 have hbR:=Ne.symm hRb
 clear hl1 hb1 hbb hbc hsb hsc hsd hb3 hT hq0 hbd hG HTK HSH HB HK1 HK2 HSZ
 go_upto_block 0 with fail
 try rw [← hwb]
 try rw [← hwk]
 try rw [← hwd]
 rw [show w1.heap.size + 1 + 1 = b from HSB.out.2.1.symm]
 rw [show w1.heap.size + 1 = R from HSB.out.1.symm]
 clear hwb hwk hwd hR hb hB
 have hfk:∀ (w1:World) (t:RT),(Instr.field 71 (.agg #[.int .i64 t.kind,.string (cbs t.text),.int .i64 t.num,.int .i64 t.at_]) 0).run Tryd.prog w1 = .ok (.int .i64 t.kind) w1:=fun _ _ => by kernel_rfl
 go_cut [] from 21 to 110 (fun wx => ∃ vr vg vf,QGs wk R (.slice A us.length c) ts B b vr vg vf vr vg vf p3 s3 wx)
 case first =>
  go_wp2_with fail
  go_loopg [] g (fun n wr => ∃ vr vg vf p s4,QGs wk R (.slice A us.length c) ts B b vr vg vf vr vg vf p s4 wr ∧ Qg.loop ts recB n p s4 = some (p3,s3) ∧ p.recs.length + n ≤ 900000000 ∧ p.globals.length + n ≤ 900000000 ∧ p.funcs.length + n ≤ 900000000)
  case atStart => exact ⟨_,_,_,_,_,G.out,H3.out,by have:=HG.out; simp [Gm.zero]; omega,by have:=HG.out; simp [Gm.zero]; omega,by have:=HG.out; simp [Gm.zero]; omega⟩
  case round =>
   obtain ⟨vr,vg,vf,p,s4,ha,h3,hb1,hb2,hb3⟩:=hrel
   have GA:=vH ha
   have H4:=vH h3
   have HBD:=vH (show p.recs.length + gk ≤ 900000000 ∧ p.globals.length + gk ≤ 900000000 ∧ p.funcs.length + gk ≤ 900000000 from ⟨hb1,hb2,hb3⟩)
   clear ha h3 hb1 hb2 hb3 G H3
   cases gk with
   | zero => exact absurd H4.out (by rw [Qg.loop]; simp)
   | succ m =>
     have HM:=vH (show m ≤ 900000000 by have:=HBD.out.1; omega)
     go_wp2_with fail
     refine (zAS _ R _ ts s4 GA.out.qr).mono ?_
     rintro e w5 ⟨rfl,hw5⟩
     subst hw5
     cases hE:(s4.E == 0) with
     | false =>
       obtain ⟨rfl,rfl⟩:=Prod.mk.inj (zM5 H4.out (fun hh => by simp [hh.1] at hE))
       try rw [hE]
       clear hE H4
       go_wp2_with fail
       go_meet
       exact ⟨_,_,_,GA.out⟩
     | true =>
       have HE:=vH (show s4.E = 0 by simpa using hE)
       try rw [hE]
       clear hE
       obtain ⟨t4,hT4⟩:∃ t4,tokAt ts s4.k = t4:=⟨_,rfl⟩
       have HT4:=vH hT4
       have hft:=fun w1 => hfk w1 t4
       go_wp2_with fail
       refine (zCf HT4.out GA.out.qr).mono ?_
       rintro e w8 ⟨rfl,hb⟩
       replace GA:=vH (GA.out.go hb)
       clear hb
       by_cases hk0:t4.kind = 0
       ·have hkb:(t4.kind != 0) = false:=by simp [hk0]
        obtain ⟨rfl,rfl⟩:=Prod.mk.inj (zM5 H4.out (fun hh => hh.2 (by rw [hT4]; exact hk0)))
        clear hT4 hk0 H4
        go_wp2_with fail
        go_meet
        exact ⟨_,_,_,GA.out⟩
       ·have hkb:(t4.kind != 0) = true:=by simpa using hk0
        have HK:=vH (show (tokAt ts s4.k).kind ≠ 0 by rw [hT4]; exact hk0)
        clear hT4 hk0
        obtain ⟨⟨a0,a1,a2⟩,b0,b1,b2⟩:=tri GA.out.row
        have hla:=zA GA.out.row
        obtain ⟨lr,cr,hls⟩:=GA.out.rs.slice
        subst hls
        obtain ⟨lg,cg,hls⟩:=GA.out.gs.slice
        subst hls
        obtain ⟨lf,cf,hls⟩:=GA.out.fs.slice
        subst hls
        go_upto_region 8 with fail
        cases hvR:Qe.is ts s4 true [114,101,99,111,114,100] with
        | true =>
          have HWR:=vH (show Qe.is ts s4 true (⟨#[114,101,99,111,114,100]⟩:ByteArray).data.toList = true from hvR)
          have HWG:=vH (show Qe.is ts s4 true (⟨#[103,108,111,98,97,108]⟩:ByteArray).data.toList = false from zBU hvR (by decide))
          have HWF:=vH (show Qe.is ts s4 true (⟨#[102,117,110,99]⟩:ByteArray).data.toList = false from zBU hvR (by decide))
          by_cases hl:p.recs.length = 12
          ·have hlb:((p.recs.length:Int) == 12) = true:=by rw [hl]; rfl
           have H5:=vH (zGL H4.out HE.out HK.out (.inl ⟨hvR,hl⟩))
           clear hl hvR H4
           go_wp2_with (first
             | (go_at_call 18; (with_reducible refine Calls.mono (zAx (text:=⟨#[114,101,99,111,114,100]⟩) HWR.out (by decide) (by decide) GA.out.qr) ?_); rintro e wi ⟨rfl,hb⟩; replace GA:=vH (GA.out.go hb); clear hb; clear a0 a1 a2 b0 b1 b2 hla; obtain ⟨⟨a0,a1,a2⟩,b0,b1,b2⟩:=tri GA.out.row; have hla:=zA GA.out.row))
           clear a0 a1 a2 b0 b1 b2 hla
           refine (zAn _ R _ ts _ GA.out.qr 4).mono ?_
           rintro e w9 ⟨rfl,hc,hg⟩
           replace GA:=vH (GA.out.step hc hg)
           clear hc hg
           go_wp2_with fail
           go_roundg m
           case measure => omega
           case rel => exact ⟨_,_,_,_,_,GA.out,H5.out,by have:=HBD.out; omega,by have:=HBD.out; omega,by have:=HBD.out; omega⟩
          ·have hlb:((p.recs.length:Int) == 12) = false:=by simp; omega
           obtain ⟨y,s5,hy,h5⟩:=lq_R H4.out HE.out HK.out hvR hl
           have HY:=vH hy
           have H5:=vH h5
           clear hy h5 H4 hl hvR a0 a1 a2 b0 b1 b2 hla
           obtain ⟨⟨a0,a1,a2⟩,b0,b1,b2⟩:=tri GA.out.row
           have hla:=zA GA.out.row
           obtain ⟨⟨c0,c1,c2,c3,c4⟩,fr,hRl⟩:=GA.out.qr.cells
           clear fr c0 c1 c2 c3 c4 hRl
           go_upto_region 13 with (first
             | (go_at_call 18; (with_reducible refine Calls.mono (zAx (text:=⟨#[114,101,99,111,114,100]⟩) HWR.out (by decide) (by decide) GA.out.qr) ?_); rintro e wi ⟨rfl,hb⟩; replace GA:=vH (GA.out.go hb); clear hb; clear a0 a1 a2 b0 b1 b2 hla; obtain ⟨⟨a0,a1,a2⟩,b0,b1,b2⟩:=tri GA.out.row; have hla:=zA GA.out.row)
             | (go_at_call 18; (with_reducible refine Calls.mono (zAx (text:=⟨#[103,108,111,98,97,108]⟩) HWG.out (by decide) (by decide) GA.out.qr) ?_); rintro e wi ⟨rfl,hb⟩; replace GA:=vH (GA.out.go hb); clear hb; clear a0 a1 a2 b0 b1 b2 hla; obtain ⟨⟨a0,a1,a2⟩,b0,b1,b2⟩:=tri GA.out.row; have hla:=zA GA.out.row)
             | (go_at_call 18; (with_reducible refine Calls.mono (zAx (text:=⟨#[102,117,110,99]⟩) HWF.out (by decide) (by decide) GA.out.qr) ?_); rintro e wi ⟨rfl,hb⟩; replace GA:=vH (GA.out.go hb); clear hb; clear a0 a1 a2 b0 b1 b2 hla; obtain ⟨⟨a0,a1,a2⟩,b0,b1,b2⟩:=tri GA.out.row; have hla:=zA GA.out.row))
           obtain ⟨⟨c0,c1,c2,c3,c4⟩,fr,hRl⟩:=GA.out.qr.cells
           have fr1:=fr 1
           go_wp2_with fail
           clear fr fr1 c0 c1 c2 c3 c4 hRl a0 a1 a2 b0 b1 b2 hla
           obtain ⟨WZ,hWZ⟩:∃ WZ,WZ = wi.setCell ⟨R,1,none⟩ (.int .i64 (inc s4.k)):=⟨_,rfl⟩
           have G2:=GA.out.setk
           rw [← hWZ] at G2
           rw [show wi.setCell ⟨R,1,none⟩ (.int .i64 (wrap64 (s4.k + 1))) = WZ from hWZ.symm]
           clear hWZ
           replace GA:=vH G2.drew
           clear G2
           have GL:=vH (show B ≤ WZ.drew.heap.size ∧ ∀ k,ex3 (.slice lr p.recs.length cr) (.slice lg p.globals.length cg) (.slice lf p.funcs.length cf) k → k < WZ.drew.heap.size from ⟨GA.out.l3,fun k hk => (GA.out.exlt k hk).2⟩)
           obtain ⟨⟨a0,a1,a2⟩,b0,b1,b2⟩:=tri GA.out.row
           have hla:=zA GA.out.row
           obtain ⟨i0,hi0,hz0,hz1,hz2⟩:=info_parts zQD
           go_region_law (first
             | (refine zAB rfl (.tmp 69) (.tmp 72) 22 rfl B 75 i0 _ 3 48 Tryd.underlying22 hi0 hz0 hz1 hz2 rfl (by decide) (.slice lr p.recs.length cr) p.recs.length vss.flatten (by simp [Act.eval]) (HO.out.alloc _) ⟨wq.heap.size,0,none⟩ 1 1 [.string v0,.slice ep en ec,.int .i64 ea] (by simp [Act.eval]) rfl (zC9 rfl rfl) (HI.out.one) (by have:=HBD.out; unfold maxLen; omega) (by have:=HBD.out; omega) (by rw [zC]; have:=GQ.out.l3; omega) ?_; intro v' w8 hown hgrow hat; have G8:=vH (GQ.out.pushR HL.out HK3.out (But.of (I:=fun w => RIs w _ y _) (fun w' g => (HI.out.ag g).lower (Nat.le_trans GL.out.1 (Nat.le_refl _))) GL.out.1 GL.out.2) hown hgrow (by rw [zC] at hat; exact hat)); obtain ⟨np,nc,hnv⟩:=zBy hown; subst hnv; clear hown hgrow hat; clear a0 a1 a2 b0 b1 b2 hla; obtain ⟨⟨a0,a1,a2⟩,b0,b1,b2⟩:=tri G8.out.row; have hla:=zA G8.out.row)
             | (go_simp; go_wp2_with (go_at_call 20; (with_reducible refine Calls.mono (zGv _ R _ ts _ GA.out.qr m HM.out _ HY.out) ?_); rintro e wq ⟨v0,ep,en,ec,ea,rfl,hi,hc,hg⟩; have HI:=vH hi; clear hi; have GQ:=vH (GA.out.step hc hg); clear hc hg; obtain ⟨vss,hl1,hl2,hl3⟩:=GQ.out.rs; have HL:=vH hl1; have HO:=vH hl2; have HK3:=vH hl3; clear hl1 hl2 hl3; clear a0 a1 a2 b0 b1 b2 hla; obtain ⟨⟨a0,a1,a2⟩,b0,b1,b2⟩:=tri GQ.out.row; have hla:=zA GQ.out.row)))
           all_goals
             go_wp2_with fail
             clear a0 a1 a2 b0 b1 b2 hla
             have G9:=vH (G8.out.put 0 (.slice np (p.recs.length + 1) nc) rfl)
             go_roundg m
             case measure => omega
             case rel => exact ⟨_,_,_,_,_,G9.out,H5.out,by have:=HBD.out; have:=(zBT p).1 y; simp only [this]; omega,by have:=HBD.out; have:=(zBT p).1 y; simp only [this]; omega,by have:=HBD.out; have:=(zBT p).1 y; simp only [this]; omega⟩
        | false =>
          cases hvG:Qe.is ts s4 true [103,108,111,98,97,108] with
          | true =>
            clear hvR
            have HWG:=vH (show Qe.is ts s4 true (⟨#[103,108,111,98,97,108]⟩:ByteArray).data.toList = true from hvG)
            have HWR:=vH (show Qe.is ts s4 true (⟨#[114,101,99,111,114,100]⟩:ByteArray).data.toList = false from zBU hvG (by decide))
            have HWF:=vH (show Qe.is ts s4 true (⟨#[102,117,110,99]⟩:ByteArray).data.toList = false from zBU hvG (by decide))
            by_cases hl:p.globals.length = 8
            ·have hlb:((p.globals.length:Int) == 8) = true:=by rw [hl]; rfl
             have H5:=vH (zGL H4.out HE.out HK.out (.inr (.inl ⟨hvG,hl⟩)))
             clear hl hvG H4
             go_wp2_with (first
                | (go_at_call 18; (with_reducible refine Calls.mono (zAx (text:=⟨#[114,101,99,111,114,100]⟩) HWR.out (by decide) (by decide) GA.out.qr) ?_); rintro e wi ⟨rfl,hb⟩; replace GA:=vH (GA.out.go hb); clear hb; clear a0 a1 a2 b0 b1 b2 hla; obtain ⟨⟨a0,a1,a2⟩,b0,b1,b2⟩:=tri GA.out.row; have hla:=zA GA.out.row)
                | (go_at_call 18; (with_reducible refine Calls.mono (zAx (text:=⟨#[103,108,111,98,97,108]⟩) HWG.out (by decide) (by decide) GA.out.qr) ?_); rintro e wi ⟨rfl,hb⟩; replace GA:=vH (GA.out.go hb); clear hb; clear a0 a1 a2 b0 b1 b2 hla; obtain ⟨⟨a0,a1,a2⟩,b0,b1,b2⟩:=tri GA.out.row; have hla:=zA GA.out.row))
             clear a0 a1 a2 b0 b1 b2 hla
             refine (zAn _ R _ ts _ GA.out.qr 4).mono ?_
             rintro e w9 ⟨rfl,hc,hg⟩
             replace GA:=vH (GA.out.step hc hg)
             clear hc hg
             go_wp2_with fail
             go_roundg m
             case measure => omega
             case rel => exact ⟨_,_,_,_,_,GA.out,H5.out,by have:=HBD.out; omega,by have:=HBD.out; omega,by have:=HBD.out; omega⟩
            ·have hlb:((p.globals.length:Int) == 8) = false:=by simp; omega
             obtain ⟨y,s5,hy,h5⟩:=lq_G H4.out HE.out HK.out hvG hl
             have HY:=vH hy
             have H5:=vH h5
             clear hy h5 H4 hl hvG a0 a1 a2 b0 b1 b2 hla
             obtain ⟨⟨a0,a1,a2⟩,b0,b1,b2⟩:=tri GA.out.row
             have hla:=zA GA.out.row
             obtain ⟨⟨c0,c1,c2,c3,c4⟩,fr,hRl⟩:=GA.out.qr.cells
             clear fr c0 c1 c2 c3 c4 hRl
             go_upto_region 16 with (first
                | (go_at_call 18; (with_reducible refine Calls.mono (zAx (text:=⟨#[114,101,99,111,114,100]⟩) HWR.out (by decide) (by decide) GA.out.qr) ?_); rintro e wi ⟨rfl,hb⟩; replace GA:=vH (GA.out.go hb); clear hb; clear a0 a1 a2 b0 b1 b2 hla; obtain ⟨⟨a0,a1,a2⟩,b0,b1,b2⟩:=tri GA.out.row; have hla:=zA GA.out.row)
                | (go_at_call 18; (with_reducible refine Calls.mono (zAx (text:=⟨#[103,108,111,98,97,108]⟩) HWG.out (by decide) (by decide) GA.out.qr) ?_); rintro e wi ⟨rfl,hb⟩; replace GA:=vH (GA.out.go hb); clear hb; clear a0 a1 a2 b0 b1 b2 hla; obtain ⟨⟨a0,a1,a2⟩,b0,b1,b2⟩:=tri GA.out.row; have hla:=zA GA.out.row)
                | (go_at_call 18; (with_reducible refine Calls.mono (zAx (text:=⟨#[102,117,110,99]⟩) HWF.out (by decide) (by decide) GA.out.qr) ?_); rintro e wi ⟨rfl,hb⟩; replace GA:=vH (GA.out.go hb); clear hb; clear a0 a1 a2 b0 b1 b2 hla; obtain ⟨⟨a0,a1,a2⟩,b0,b1,b2⟩:=tri GA.out.row; have hla:=zA GA.out.row))
             obtain ⟨⟨c0,c1,c2,c3,c4⟩,fr,hRl⟩:=GA.out.qr.cells
             have fr1:=fr 1
             go_wp2_with fail
             clear fr fr1 c0 c1 c2 c3 c4 hRl a0 a1 a2 b0 b1 b2 hla
             obtain ⟨WZ,hWZ⟩:∃ WZ,WZ = wi.setCell ⟨R,1,none⟩ (.int .i64 (inc s4.k)):=⟨_,rfl⟩
             have G2:=GA.out.setk
             rw [← hWZ] at G2
             rw [show wi.setCell ⟨R,1,none⟩ (.int .i64 (wrap64 (s4.k + 1))) = WZ from hWZ.symm]
             clear hWZ
             replace GA:=vH G2.drew
             clear G2
             have GL:=vH (show B ≤ WZ.drew.heap.size ∧ ∀ k,ex3 (.slice lr p.recs.length cr) (.slice lg p.globals.length cg) (.slice lf p.funcs.length cf) k → k < WZ.drew.heap.size from ⟨GA.out.l3,fun k hk => (GA.out.exlt k hk).2⟩)
             obtain ⟨⟨a0,a1,a2⟩,b0,b1,b2⟩:=tri GA.out.row
             have hla:=zA GA.out.row
             obtain ⟨i0,hi0,hz0,hz1,hz2⟩:=info_parts zKt
             go_region_law (first
                | (refine zAB rfl (.tmp 86) (.tmp 89) 23 rfl B 78 i0 _ 4 48 Tryd.underlying23 hi0 hz0 hz1 hz2 rfl (by decide) (.slice lg p.globals.length cg) p.globals.length vss.flatten (by simp [Act.eval]) (HO.out.alloc _) ⟨wq.heap.size,0,none⟩ 1 1 [.string (cbs y.name),.string (cbs y.ofn),.int .i64 y.dims,.int .i64 y.at_] (by simp [Act.eval]) rfl (zC9 rfl rfl) (zJV y) (by have:=HBD.out; unfold maxLen; omega) (by have:=HBD.out; omega) (by rw [zC]; have:=GQ.out.l3; omega) ?_; intro v' w8 hown hgrow hat; have G8:=vH (GQ.out.pushG HL.out HK3.out (But.of (B2:=WZ.drew.heap.size) (I:=fun w => PIs w 0 y (pmCells y)) (fun w' g => rfl) GL.out.1 GL.out.2) hown hgrow (by rw [zC] at hat; exact hat)); obtain ⟨np,nc,hnv⟩:=zBy hown; subst hnv; clear hown hgrow hat; clear a0 a1 a2 b0 b1 b2 hla; obtain ⟨⟨a0,a1,a2⟩,b0,b1,b2⟩:=tri G8.out.row; have hla:=zA G8.out.row)
                | (go_simp; go_wp2_with (go_at_call 21; (with_reducible refine Calls.mono (zCS HY.out GA.out.qr) ?_); rintro e wq ⟨rfl,hc,hg⟩; have GQ:=vH (GA.out.step hc hg); clear hc hg; obtain ⟨vss,hl1,hl2,hl3⟩:=GQ.out.gs; have HL:=vH hl1; have HO:=vH hl2; have HK3:=vH hl3; clear hl1 hl2 hl3; clear a0 a1 a2 b0 b1 b2 hla; obtain ⟨⟨a0,a1,a2⟩,b0,b1,b2⟩:=tri GQ.out.row; have hla:=zA GQ.out.row)))
             all_goals
                go_wp2_with fail
                have G9:=vH (G8.out.put 1 (.slice np (p.globals.length + 1) nc) rfl)
                clear a0 a1 a2 b0 b1 b2 hla
                refine (zJ _ R _ ts _ G9.out.qr ⟨#[59]⟩ (by decide) false (by decide)).mono ?_
                rintro e wT ⟨rfl,hc,hg⟩
                replace G9:=vH (G9.out.step hc hg)
                clear hc hg
                go_wp2_with fail
                go_roundg m
                case measure => omega
                case rel => exact ⟨_,_,_,_,_,G9.out,H5.out,by have:=HBD.out; have:=(zBT p).2.1 y; simp only [this]; omega,by have:=HBD.out; have:=(zBT p).2.1 y; simp only [this]; omega,by have:=HBD.out; have:=(zBT p).2.1 y; simp only [this]; omega⟩
          | false =>
            cases hvF:Qe.is ts s4 true [102,117,110,99] with
            | true =>
              clear hvR hvG
              have HWF:=vH (show Qe.is ts s4 true (⟨#[102,117,110,99]⟩:ByteArray).data.toList = true from hvF)
              have HWR:=vH (show Qe.is ts s4 true (⟨#[114,101,99,111,114,100]⟩:ByteArray).data.toList = false from zBU hvF (by decide))
              have HWG:=vH (show Qe.is ts s4 true (⟨#[103,108,111,98,97,108]⟩:ByteArray).data.toList = false from zBU hvF (by decide))
              by_cases hl:p.funcs.length = 16
              ·have hlb:((p.funcs.length:Int) == 16) = true:=by rw [hl]; rfl
               have H5:=vH (zGL H4.out HE.out HK.out (.inr (.inr ⟨hvF,hl⟩)))
               clear hl hvF H4
               go_wp2_with (first
                  | (go_at_call 18; (with_reducible refine Calls.mono (zAx (text:=⟨#[114,101,99,111,114,100]⟩) HWR.out (by decide) (by decide) GA.out.qr) ?_); rintro e wi ⟨rfl,hb⟩; replace GA:=vH (GA.out.go hb); clear hb; clear a0 a1 a2 b0 b1 b2 hla; obtain ⟨⟨a0,a1,a2⟩,b0,b1,b2⟩:=tri GA.out.row; have hla:=zA GA.out.row)
                  | (go_at_call 18; (with_reducible refine Calls.mono (zAx (text:=⟨#[103,108,111,98,97,108]⟩) HWG.out (by decide) (by decide) GA.out.qr) ?_); rintro e wi ⟨rfl,hb⟩; replace GA:=vH (GA.out.go hb); clear hb; clear a0 a1 a2 b0 b1 b2 hla; obtain ⟨⟨a0,a1,a2⟩,b0,b1,b2⟩:=tri GA.out.row; have hla:=zA GA.out.row)
                  | (go_at_call 18; (with_reducible refine Calls.mono (zAx (text:=⟨#[102,117,110,99]⟩) HWF.out (by decide) (by decide) GA.out.qr) ?_); rintro e wi ⟨rfl,hb⟩; replace GA:=vH (GA.out.go hb); clear hb; clear a0 a1 a2 b0 b1 b2 hla; obtain ⟨⟨a0,a1,a2⟩,b0,b1,b2⟩:=tri GA.out.row; have hla:=zA GA.out.row))
               clear a0 a1 a2 b0 b1 b2 hla
               refine (zAn _ R _ ts _ GA.out.qr 4).mono ?_
               rintro e w9 ⟨rfl,hc,hg⟩
               replace GA:=vH (GA.out.step hc hg)
               clear hc hg
               go_wp2_with fail
               go_roundg m
               case measure => omega
               case rel => exact ⟨_,_,_,_,_,GA.out,H5.out,by have:=HBD.out; omega,by have:=HBD.out; omega,by have:=HBD.out; omega⟩
              ·have hlb:((p.funcs.length:Int) == 16) = false:=by simp; omega
               obtain ⟨y,s5,hy,h5⟩:=lq_F H4.out HE.out HK.out hvF hl
               have HY:=vH hy
               have H5:=vH h5
               clear hy h5 H4 hl hvF a0 a1 a2 b0 b1 b2 hla
               obtain ⟨⟨a0,a1,a2⟩,b0,b1,b2⟩:=tri GA.out.row
               have hla:=zA GA.out.row
               obtain ⟨⟨c0,c1,c2,c3,c4⟩,fr,hRl⟩:=GA.out.qr.cells
               clear fr c0 c1 c2 c3 c4 hRl
               go_upto_region 20 with (first
                  | (go_at_call 18; (with_reducible refine Calls.mono (zAx (text:=⟨#[114,101,99,111,114,100]⟩) HWR.out (by decide) (by decide) GA.out.qr) ?_); rintro e wi ⟨rfl,hb⟩; replace GA:=vH (GA.out.go hb); clear hb; clear a0 a1 a2 b0 b1 b2 hla; obtain ⟨⟨a0,a1,a2⟩,b0,b1,b2⟩:=tri GA.out.row; have hla:=zA GA.out.row)
                  | (go_at_call 18; (with_reducible refine Calls.mono (zAx (text:=⟨#[103,108,111,98,97,108]⟩) HWG.out (by decide) (by decide) GA.out.qr) ?_); rintro e wi ⟨rfl,hb⟩; replace GA:=vH (GA.out.go hb); clear hb; clear a0 a1 a2 b0 b1 b2 hla; obtain ⟨⟨a0,a1,a2⟩,b0,b1,b2⟩:=tri GA.out.row; have hla:=zA GA.out.row)
                  | (go_at_call 18; (with_reducible refine Calls.mono (zAx (text:=⟨#[102,117,110,99]⟩) HWF.out (by decide) (by decide) GA.out.qr) ?_); rintro e wi ⟨rfl,hb⟩; replace GA:=vH (GA.out.go hb); clear hb; clear a0 a1 a2 b0 b1 b2 hla; obtain ⟨⟨a0,a1,a2⟩,b0,b1,b2⟩:=tri GA.out.row; have hla:=zA GA.out.row))
               obtain ⟨⟨c0,c1,c2,c3,c4⟩,fr,hRl⟩:=GA.out.qr.cells
               have fr1:=fr 1
               go_wp2_with fail
               clear fr fr1 c0 c1 c2 c3 c4 hRl a0 a1 a2 b0 b1 b2 hla
               obtain ⟨WZ,hWZ⟩:∃ WZ,WZ = wi.setCell ⟨R,1,none⟩ (.int .i64 (inc s4.k)):=⟨_,rfl⟩
               have G2:=GA.out.setk
               rw [← hWZ] at G2
               rw [show wi.setCell ⟨R,1,none⟩ (.int .i64 (wrap64 (s4.k + 1))) = WZ from hWZ.symm]
               clear hWZ
               replace GA:=vH G2.drew
               clear G2
               have GL:=vH (show B ≤ WZ.drew.heap.size ∧ ∀ k,ex3 (.slice lr p.recs.length cr) (.slice lg p.globals.length cg) (.slice lf p.funcs.length cf) k → k < WZ.drew.heap.size from ⟨GA.out.l3,fun k hk => (GA.out.exlt k hk).2⟩)
               obtain ⟨⟨a0,a1,a2⟩,b0,b1,b2⟩:=tri GA.out.row
               have hla:=zA GA.out.row
               obtain ⟨i0,hi0,hz0,hz1,hz2⟩:=info_parts zQE
               go_region_law (first
                  | (refine zAB rfl (.tmp 105) (.tmp 108) 24 rfl B 82 i0 _ 7 104 Tryd.underlying24 hi0 hz0 hz1 hz2 rfl (by decide) (.slice lf p.funcs.length cf) p.funcs.length vss.flatten (by simp [Act.eval]) (HO.out.alloc _) ⟨wq.heap.size,0,none⟩ 1 1 [.string v0,.slice ep en ec,.bool eb,.string v3,.int .i64 er,.slice eq em ed,.int .i64 ea] (by simp [Act.eval]) rfl (zC9 rfl rfl) (HI.out.one) (by have:=HBD.out; unfold maxLen; omega) (by have:=HBD.out; omega) (by rw [zC]; have:=GQ.out.l3; omega) ?_; intro v' w8 hown hgrow hat; have G8:=vH (GQ.out.pushF HL.out HK3.out (But.of (I:=fun w => FIs w _ y _) (fun w' g => (HI.out.ag g).lower GL.out.1) GL.out.1 GL.out.2) hown hgrow (by rw [zC] at hat; exact hat)); obtain ⟨np,nc,hnv⟩:=zBy hown; subst hnv; clear hown hgrow hat; clear a0 a1 a2 b0 b1 b2 hla; obtain ⟨⟨a0,a1,a2⟩,b0,b1,b2⟩:=tri G8.out.row; have hla:=zA G8.out.row)
                  | (go_simp; go_wp2_with (go_at_call 23; (with_reducible refine Calls.mono (zE5 _ R _ ts _ GA.out.qr recB HBB.out m HM.out _ HY.out) ?_); rintro e wq ⟨v0,ep,en,ec,eb,v3,er,eq,em,ed,ea,rfl,hi,hc,hg⟩; have HI:=vH hi; clear hi; have GQ:=vH (GA.out.step hc hg); clear hc hg; obtain ⟨vss,hl1,hl2,hl3⟩:=GQ.out.fs; have HL:=vH hl1; have HO:=vH hl2; have HK3:=vH hl3; clear hl1 hl2 hl3; clear a0 a1 a2 b0 b1 b2 hla; obtain ⟨⟨a0,a1,a2⟩,b0,b1,b2⟩:=tri GQ.out.row; have hla:=zA GQ.out.row)))
               all_goals
                  go_wp2_with fail
                  clear a0 a1 a2 b0 b1 b2 hla
                  have G9:=vH (G8.out.put 2 (.slice np (p.funcs.length + 1) nc) rfl)
                  go_roundg m
                  case measure => omega
                  case rel => exact ⟨_,_,_,_,_,G9.out,H5.out,by have:=HBD.out; have:=(zBT p).2.2 y; simp only [this]; omega,by have:=HBD.out; have:=(zBT p).2.2 y; simp only [this]; omega,by have:=HBD.out; have:=(zBT p).2.2 y; simp only [this]; omega⟩
            | false =>
              have HWR:=vH (show Qe.is ts s4 true (⟨#[114,101,99,111,114,100]⟩:ByteArray).data.toList = false from hvR)
              have HWG:=vH (show Qe.is ts s4 true (⟨#[103,108,111,98,97,108]⟩:ByteArray).data.toList = false from hvG)
              have HWF:=vH (show Qe.is ts s4 true (⟨#[102,117,110,99]⟩:ByteArray).data.toList = false from hvF)
              have H5:=vH (zQr H4.out HE.out HK.out hvR hvG hvF)
              clear H4 hvR hvG hvF
              go_wp2_with (first
                | (go_at_call 18; (with_reducible refine Calls.mono (zAx (text:=⟨#[114,101,99,111,114,100]⟩) HWR.out (by decide) (by decide) GA.out.qr) ?_); rintro e wi ⟨rfl,hb⟩; replace GA:=vH (GA.out.go hb); clear hb; clear a0 a1 a2 b0 b1 b2 hla; obtain ⟨⟨a0,a1,a2⟩,b0,b1,b2⟩:=tri GA.out.row; have hla:=zA GA.out.row)
                | (go_at_call 18; (with_reducible refine Calls.mono (zAx (text:=⟨#[103,108,111,98,97,108]⟩) HWG.out (by decide) (by decide) GA.out.qr) ?_); rintro e wi ⟨rfl,hb⟩; replace GA:=vH (GA.out.go hb); clear hb; clear a0 a1 a2 b0 b1 b2 hla; obtain ⟨⟨a0,a1,a2⟩,b0,b1,b2⟩:=tri GA.out.row; have hla:=zA GA.out.row)
                | (go_at_call 18; (with_reducible refine Calls.mono (zAx (text:=⟨#[102,117,110,99]⟩) HWF.out (by decide) (by decide) GA.out.qr) ?_); rintro e wi ⟨rfl,hb⟩; replace GA:=vH (GA.out.go hb); clear hb; clear a0 a1 a2 b0 b1 b2 hla; obtain ⟨⟨a0,a1,a2⟩,b0,b1,b2⟩:=tri GA.out.row; have hla:=zA GA.out.row))
              clear a0 a1 a2 b0 b1 b2 hla
              refine (zAn _ R _ ts _ GA.out.qr 2).mono ?_
              rintro e w9 ⟨rfl,hc,hg⟩
              replace GA:=vH (GA.out.step hc hg)
              clear hc hg
              go_wp2_with fail
              go_roundg m
              case measure => omega
              case rel => exact ⟨_,_,_,_,_,GA.out,H5.out,by have:=HBD.out; omega,by have:=HBD.out; omega,by have:=HBD.out; omega⟩
 case rest =>
  obtain ⟨vr,vg,vf,hcut⟩:=hcut
  have GA:=vH hcut
  clear hcut G H3
  obtain ⟨p1,c1,rfl⟩:=GA.out.rs.slice
  obtain ⟨p2,c2,rfl⟩:=GA.out.gs.slice
  obtain ⟨p4,c4,rfl⟩:=GA.out.fs.slice
  go_wp2_with fail
  refine (zAS _ R _ ts s3 GA.out.qr).mono ?_
  rintro e w9 ⟨rfl,hw9⟩
  subst hw9
  have hz:=HSB.out
  obtain ⟨⟨x0,x1,x2⟩,y0,y1,y2⟩:=tri (GA.out.gr.box HC1.out (by omega))
  have hlx:=zA (GA.out.gr.box HC1.out (by omega))
  obtain ⟨⟨z0,z1⟩,⟨v0,v1⟩,hlz⟩:=duo (GA.out.gr.box HC2.out (by omega))
  obtain ⟨⟨a0,a1,a2⟩,b0,b1,b2⟩:=tri GA.out.row
  have hla:=zA GA.out.row
  obtain ⟨⟨d0,d1,d2,d3,d4⟩,fr,hRl⟩:=GA.out.qr.cells
  have fr3:=fr 3
  have fr4:=fr 4
  have hq1:w.heap.size ≠ w.heap.size + 1:=by omega
  have hq2:=Ne.symm hq1
  have hq3:w.heap.size ≠ R:=by omega
  have hq4:=Ne.symm hq3
  have hq5:w.heap.size + 1 ≠ R:=by omega
  have hq6:=Ne.symm hq5
  have hq7:w.heap.size ≠ b:=by omega
  have hq8:=Ne.symm hq7
  have hq9:w.heap.size + 1 ≠ b:=by omega
  have hqX:=Ne.symm hq9
  have hwB:w.heap.size + 1 < B:=by omega
  have HBW:=vH (show Below w.heap.size w _ from ⟨GA.out.gr.os.trans HBC.out.os,GA.out.gr.tape.trans HBC.out.tape,GA.out.gr.output.trans HBC.out.output,Nat.le_trans HBC.out.size GA.out.gr.size,fun i hi => (GA.out.gr.block i (by omega) (by omega)).trans (HBC.out.block i hi)⟩)
  clear fr hz
  cases hE:(s3.E == 0) with
  | false =>
    have hpe:x = (Gm.zero,s3.E,s3.F):=by rw [HPX.out]; exact if_neg (fun e => by simp [e] at hE)
    subst hpe
    try rw [hE]
    clear hE
    go_wp2_with fail
    go_region
    all_goals
        go_wp2_with fail
        refine bodyPost_ret (v:=.tuple #[.agg #[.slice none 0 0,.slice none 0 0,.slice none 0 0],.agg #[.int .i64 s3.E,.int .i64 s3.F]]) (by simp [results,Tryd.results7,go_sem,x0,x1,x2,z0,z1]) rfl ⟨none,0,0,none,0,0,none,0,0,rfl,GIs.zero,?_⟩
        refine zDX ?_
        repeat (refine zAs ?_ (by omega))
        exact HBW.out
  | true =>
    have hpe:x = (p3,0,0):=by rw [HPX.out]; exact if_pos (by simpa using hE)
    subst hpe
    try rw [hE]
    clear hE
    obtain ⟨q1,e1,hv1,a1'⟩:=GA.out.rs.done RIs.len
    obtain ⟨q2,e2,hv2,a2'⟩:=GA.out.gs.done PIs.len
    obtain ⟨q4,e4,hv4,a4'⟩:=GA.out.fs.done FIs.len
    injection hv1 with hp1 _ hc1
    injection hv2 with hp2 _ hc2
    injection hv4 with hp4 _ hc4
    subst hp1 hc1 hp2 hc2 hp4 hc4
    have HGI:=vH (show GIs wc B p3 [.slice p1 p3.recs.length c1,.slice p2 p3.globals.length c2,.slice p4 p3.funcs.length c4] from ⟨p1,c1,p2,c2,p4,c4,rfl,a1',a2',a4'⟩)
    clear a1' a2' a4'
    go_wp2_with fail
    refine bodyPost_ret (v:=.tuple #[.agg #[.slice p1 p3.recs.length c1,.slice p2 p3.globals.length c2,.slice p4 p3.funcs.length c4],.agg #[.int .i64 0,.int .i64 0]]) (by simp [results,Tryd.results7,go_sem,x0,x1,x2,z0,z1]) rfl ⟨p1,_,c1,p2,_,c2,p4,_,c4,rfl,GIs.lower (B:=B) ?_ (by omega),?_⟩
    ·repeat (refine GIs.put ?_ (by omega))
     exact HGI.out
    ·repeat (refine zAs ?_ (by omega))
     exact HBW.out
end Go.Proofs.YteadgahhchlgeaaDoor
