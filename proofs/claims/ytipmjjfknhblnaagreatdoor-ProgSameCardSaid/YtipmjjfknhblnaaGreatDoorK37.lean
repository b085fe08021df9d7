/-
  The project's reader of programs: the loop over declarations
-/
import Derived.Test.YtipmjjfknhblnaaGreatDoorK19
import Derived.Test.YtipmjjfknhblnaaGreatDoorK29
import Derived.Test.YtipmjjfknhblnaaGreatDoorK02
import Derived.Test.YtipmjjfknhblnaaGreatDoorK34
import Derived.Test.YtipmjjfknhblnaaGreatDoorK35
import Derived.Test.YtipmjjfknhblnaaGreatDoorK36
set_option maxRecDepth 8000
set_option maxHeartbeats 8000000
namespace Go.Proofs.YtipmjjfknhblnaaGreatDoor
open Go.RowKit
open Px (RT tokAt)
open Pe
open Ps (Sm PX)
open Pg (BX Pm Rc Fc Gm)
theorem zM4 {ts:List RT}{B:BX}{g:Nat}{p:Gm}{s:Cs}{x:Gm × Cs}(h:Pg.loop ts B (g + 1) p s = some x)(hk:(peek ts s).kind = 0):x = (p,s):=by
 rw [Pg.loop,if_pos hk] at h
 exact (Option.some.inj h).symm
theorem lp_R {ts:List RT}{B:BX}{g:Nat}{p:Gm}{s:Cs}{x:Gm × Cs}(h:Pg.loop ts B (g + 1) p s = some x)(hk:¬ (peek ts s).kind = 0)(h1:sees ts s 3 [114,101,99,111,114,100] = true) :
 ∃ y s2,Pg.record ts g (Pg.limit ts s p.recs.length 12) = some (y,s2) ∧ Pg.loop ts B g (p.addR y) s2 = some x:=by
 rw [Pg.loop,if_neg hk,if_pos h1] at h
 split at h
 ·cases h
 ·rename_i y s2 hy
  exact ⟨y,s2,hy,h⟩
theorem lp_G {ts:List RT}{B:BX}{g:Nat}{p:Gm}{s:Cs}{x:Gm × Cs}(h:Pg.loop ts B (g + 1) p s = some x)(hk:¬ (peek ts s).kind = 0)(h1:sees ts s 3 [114,101,99,111,114,100] = false)(h2:sees ts s 3 [103,108,111,98,97,108] = true) :
 ∃ y s2,Pg.global ts (Pg.limit ts s p.globals.length 8) = (y,s2) ∧ Pg.loop ts B g (p.addG y) s2 = some x:=by
 rw [Pg.loop,if_neg hk,if_neg (by rw [h1]; decide),if_pos h2] at h
 exact ⟨_,_,rfl,h⟩
theorem lp_F {ts:List RT}{B:BX}{g:Nat}{p:Gm}{s:Cs}{x:Gm × Cs}(h:Pg.loop ts B (g + 1) p s = some x)(hk:¬ (peek ts s).kind = 0)(h1:sees ts s 3 [114,101,99,111,114,100] = false)(h2:sees ts s 3 [103,108,111,98,97,108] = false)(h3:sees ts s 3 [102,117,110,99] = true) :
 ∃ y s2,Pg.function ts B g (Pg.limit ts s p.funcs.length 16) = some (y,s2) ∧ Pg.loop ts B g (p.addF y) s2 = some x:=by
 rw [Pg.loop,if_neg hk,if_neg (by rw [h1]; decide),if_neg (by rw [h2]; decide),if_pos h3] at h
 split at h
 ·cases h
 ·rename_i y s2 hy
  exact ⟨y,s2,hy,h⟩
theorem zM5 {ts:List RT}{B:BX}{g:Nat}{p:Gm}{s:Cs}{x:Gm × Cs}(h:Pg.loop ts B (g + 1) p s = some x)(hk:¬ (peek ts s).kind = 0)(h1:sees ts s 3 [114,101,99,111,114,100] = false)(h2:sees ts s 3 [103,108,111,98,97,108] = false)(h3:sees ts s 3 [102,117,110,99] = false) :
 Pg.loop ts B g p (fail ts s 2) = some x:=by
 rw [Pg.loop,if_neg hk,if_neg (by rw [h1]; decide),if_neg (by rw [h2]; decide),if_neg (by rw [h3]; decide)] at h
 exact h
theorem zHz {w1:World}{R:Nat}{S:Value}{ts:List RT}{s s2:Cs}{y:Pm}(hy:Pg.global ts s = (y,s2))(h:Cg w1 R S ts s) :
 Calls Tryz.prog 40 #[.pointer (some ⟨R,0,none⟩)] w1 fun e w' => e = .returned (.agg #[.string (cbs y.name),.string (cbs y.ofn),.int .i64 y.dims,.int .i64 y.at_]) ∧ Cu w' R 43 S [] ts s2 ∧ Gr R w1 w':=by
 have:=zHy w1 R S ts s h
 rw [hy] at this
 exact this
theorem zAp (p:Gm):(∀ x,(p.addR x).recs.length = p.recs.length + 1 ∧ (p.addR x).globals = p.globals ∧ (p.addR x).funcs = p.funcs) ∧ (∀ x,(p.addG x).globals.length = p.globals.length + 1 ∧ (p.addG x).recs = p.recs ∧ (p.addG x).funcs = p.funcs) ∧
 (∀ x,(p.addF x).funcs.length = p.funcs.length + 1 ∧ (p.addF x).recs = p.recs ∧ (p.addF x).globals = p.globals):=
 ⟨fun _ => ⟨by simp [Gm.addR],rfl,rfl⟩,fun _ => ⟨by simp [Gm.addG],rfl,rfl⟩,fun _ => ⟨by simp [Gm.addF],rfl,rfl⟩⟩
theorem RIs.one {w:World}{B:Nat}{x:Rc}{vs:List Value}(h:RIs w B x vs):∀ u ∈ vs,u.oneCell' = true:=by
 obtain ⟨p,c,rfl,-⟩:=h
 intro u hu
 simp at hu
 rcases hu with rfl | rfl | rfl <;> rfl
theorem FIs.one {w:World}{B:Nat}{x:Fc}{vs:List Value}(h:FIs w B x vs):∀ u ∈ vs,u.oneCell' = true:=by
 obtain ⟨p,c,q,d,rfl,-⟩:=h
 intro u hu
 simp at hu
 rcases hu with rfl | rfl | rfl | rfl | rfl | rfl | rfl <;> rfl
def GIs (w:World)(B:Nat)(x:Gm)(vs:List Value):Prop:=
 ∃ p c q d r f,vs = [.slice p x.recs.length c,.slice q x.globals.length d,.slice r x.funcs.length f] ∧ LAt RIs 3 w B p x.recs ∧ LAt PIs 4 w B q x.globals ∧ LAt FIs 7 w B r x.funcs
theorem GIs.ag {w w1:World}{B:Nat}{x:Gm}{vs:List Value}(h:GIs w B x vs)(g:Ag B w w1):GIs w1 B x vs:=by
 obtain ⟨p,c,q,d,r,f,hv,h1,h2,h3⟩:=h
 exact ⟨p,c,q,d,r,f,hv,h1.ag (fun _ _ h => h.ag g) g,LAt.ag (w:=w) (w1:=w1) (fun _ _ h => h) h2 g,h3.ag (fun _ _ h => h.ag g) g⟩
theorem GIs.lower {w:World}{B B2:Nat}{x:Gm}{vs:List Value}(h:GIs w B x vs)(hB:B2 ≤ B):GIs w B2 x vs:=by
 obtain ⟨p,c,q,d,r,f,hv,h1,h2,h3⟩:=h
 exact ⟨p,c,q,d,r,f,hv,h1.lower (fun _ _ h => h.lower hB) hB,LAt.lower (B:=B) (B2:=B2) (fun _ _ h => h) h2 hB,h3.lower (fun _ _ h => h.lower hB) hB⟩
theorem GIs.zero {w:World}{B:Nat}:GIs w B Gm.zero [.slice none 0 0,.slice none 0 0,.slice none 0 0]:=⟨none,0,none,0,none,0,rfl,.inl rfl,.inl rfl,.inl rfl⟩
def GmPost (w:World)(R:Nat)(S:Value)(ts:List RT)(x:Gm × Cs)(e:Ending)(w':World):Prop:=
 ∃ p n c q m d r k f,e = .returned (.agg #[.slice p n c,.slice q m d,.slice r k f]) ∧ GIs w' w.heap.size x.1 [.slice p n c,.slice q m d,.slice r k f] ∧ Cu w' R 43 S [] ts x.2 ∧ Gr R w w'
set_option maxHeartbeats 16000000 in
theorem zFD (w:World)(R:Nat)(S:Value)(ts:List RT)(s:Cs)(h:Cg w R S ts s)(B0:BX)(hB:BOk ts B0)(g:Nat)(hg:g ≤ 900000000)(x:Gm × Cs)(hx:Pg.loop ts B0 g Gm.zero s = some x) :
 Calls Tryz.prog 14 #[.pointer (some ⟨R,0,none⟩)] w (GmPost w R S ts x):=by
 obtain ⟨p3,s3⟩:=x
 have HX:=vH hx
 have HG9:=vH hg
 have HBB:=vH hB
 have hlt:=h.lt
 obtain ⟨wa,hwa⟩:∃ wa,wa = (w.alloc (.cells #[.slice none 0 0,.slice none 0 0,.slice none 0 0] 26)).alloc (.cells #[.slice none 0 0,.slice none 0 0,.slice none 0 0] 26):=⟨_,rfl⟩
 have hF:=(((Fr.og h).alloc (.cells #[.slice none 0 0,.slice none 0 0,.slice none 0 0] 26)).alloc2 (.cells #[.slice none 0 0,.slice none 0 0,.slice none 0 0] 26) (b:=w.heap.size + 1) (zB _ _))
 rw [← hwa] at hF
 have hsz:wa.heap.size = w.heap.size + 1 + 1:=by rw [hwa]; simp only [zB]
 have hG:GSt w R S ts (w.heap.size + 2) (w.heap.size + 1) (.slice none 0 0) (.slice none 0 0) (.slice none 0 0) (.slice none 0 0) (.slice none 0 0) (.slice none 0 0) Gm.zero s wa:=
  ⟨hF.cg,hF.gr,(hF.keep _ vA).1,(hF.keep _ vB).1,by omega,by omega,by omega,OwnL.nil _,OwnL.nil _,OwnL.nil _,(fun k e => by cases e),(fun k e => by cases e),(fun k e => by cases e),s,h⟩
 have G:=vH hG
 have hne1:w.heap.size ≠ w.heap.size + 1:=by omega
 have hne2:=Ne.symm hne1
 have hfk:∀ (w1:World) (t:RT),(Instr.field 52 (.agg #[.int .i64 t.kind,.string (cbs t.text),.int .i64 t.num,.int .i64 t.at_]) 0).run Tryz.prog w1 = .ok (.int .i64 t.kind) w1:=fun _ _ => by kernel_rfl
 clear h hx hg hB hF hG hsz
 go_in
 go_wp2_with fail
 rw [← hwa]
 clear hwa
 go_loopg [] g (fun n wr => ∃ vr vg vf p s4,GSt w R S ts (w.heap.size + 2) (w.heap.size + 1) vr vg vf vr vg vf p s4 wr ∧ Pg.loop ts B0 n p s4 = some (p3,s3) ∧ p.recs.length + n ≤ 900000000 ∧ p.globals.length + n ≤ 900000000 ∧ p.funcs.length + n ≤ 900000000)
 case atStart => exact ⟨_,_,_,_,_,G.out,HX.out,by have:=HG9.out; simp [Gm.zero]; omega,by have:=HG9.out; simp [Gm.zero]; omega,by have:=HG9.out; simp [Gm.zero]; omega⟩
 case round =>
  obtain ⟨vr,vg,vf,p,s4,ha,h3,hb1,hb2,hb3⟩:=hrel
  have GA:=vH ha
  have H4:=vH h3
  have HBD:=vH (show p.recs.length + gk ≤ 900000000 ∧ p.globals.length + gk ≤ 900000000 ∧ p.funcs.length + gk ≤ 900000000 from ⟨hb1,hb2,hb3⟩)
  clear ha h3 hb1 hb2 hb3 G HX
  cases gk with
  | zero => exact absurd H4.out (by rw [Pg.loop]; simp)
  | succ m =>
    have HM:=vH (show m ≤ 900000000 by have:=HBD.out.1; omega)
    obtain ⟨t4,hT4⟩:∃ t4,peek ts s4 = t4:=⟨_,rfl⟩
    have HT4:=vH hT4
    have hft:=fun w1 => hfk w1 t4
    go_wp2_with fail
    refine (zAG HT4.out GA.out.cg).mono ?_
    rintro e w5 ⟨rfl,hb⟩
    replace GA:=vH (GA.out.go hb)
    clear hb
    by_cases hk0:t4.kind = 0
    ·have hkb:(t4.kind != 0) = false:=by simp [hk0]
     obtain ⟨rfl,rfl⟩:=Prod.mk.inj (zM4 H4.out (by rw [hT4]; exact hk0))
     clear hT4
     obtain ⟨p1,c1,rfl⟩:=GA.out.rs.slice
     obtain ⟨p2,c2,rfl⟩:=GA.out.gs.slice
     obtain ⟨p4,c4,rfl⟩:=GA.out.fs.slice
     have hk:=GA.out.row
     obtain ⟨⟨a0,a1,a2⟩,b0,b1,b2⟩:=tri hk
     have hla:=zA hk
     clear hk
     obtain ⟨⟨d0,d1,d2⟩,f0,f1,f2⟩:=tri GA.out.res
     have hld:=zA GA.out.res
     clear hk0
     go_wp2_with fail
     have hn:=(((Nw.start GA.out.gr).set (p:=⟨w.heap.size,0,none⟩) (Nat.le_refl _) (.slice p1 p3.recs.length c1)).set (p:=⟨w.heap.size,1,none⟩) (Nat.le_refl _) (.slice p2 p3.globals.length c2)).set (p:=⟨w.heap.size,2,none⟩) (Nat.le_refl _) (.slice p4 p3.funcs.length c4)
     have hag:Ag (w.heap.size + 2) w5 (((w5.setCell ⟨w.heap.size,0,none⟩ (.slice p1 p3.recs.length c1)).setCell ⟨w.heap.size,1,none⟩ (.slice p2 p3.globals.length c2)).setCell ⟨w.heap.size,2,none⟩ (.slice p4 p3.funcs.length c4)):=
      (((Ag.refl _ _).set (.inl (by show w.heap.size < _; omega)) _).set (.inl (by show w.heap.size < _; omega)) _).set (.inl (by show w.heap.size < _; omega)) _
     obtain ⟨q1,e1,hv1,a1'⟩:=GA.out.rs.done RIs.len
     obtain ⟨q2,e2,hv2,a2'⟩:=GA.out.gs.done PIs.len
     obtain ⟨q4,e4,hv4,a4'⟩:=GA.out.fs.done FIs.len
     injection hv1 with hp1 _ hc1
     injection hv2 with hp2 _ hc2
     injection hv4 with hp4 _ hc4
     subst hp1 hc1 hp2 hc2 hp4 hc4
     have hgis:GIs w5 (w.heap.size + 2) p3 [.slice p1 p3.recs.length c1,.slice p2 p3.globals.length c2,.slice p4 p3.funcs.length c4]:=⟨p1,c1,p2,c2,p4,c4,rfl,a1',a2',a4'⟩
     obtain ⟨s0,h0⟩:=GA.out.h0
     exact bodyPost_ret (v:=.agg #[.slice p1 p3.recs.length c1,.slice p2 p3.globals.length c2,.slice p4 p3.funcs.length c4]) (by simp [results,Tryz.results14,go_sem,d0,d1,d2]) rfl
      ⟨p1,_,c1,p2,_,c2,p4,_,c4,rfl,(hgis.ag hag).lower (by omega),h0.cu.fin GA.out.cg.cu hn,hn.gr⟩
    ·have hkb:(t4.kind != 0) = true:=by simpa using hk0
     have HK:=vH (show ¬ (peek ts s4).kind = 0 by rw [hT4]; exact hk0)
     clear hT4 hk0
     go_wp2_with fail
     refine (zAF _ R _ S _ ts s4 GA.out.cg.cu 3 ⟨#[114,101,99,111,114,100]⟩).mono ?_
     rintro e uR ⟨rfl,hb⟩
     replace GA:=vH (GA.out.go hb)
     clear hb
     cases hvR:sees ts s4 3 [114,101,99,111,114,100] with
     | true =>
       obtain ⟨y,s5,hy,h5⟩:=lp_R H4.out HK.out hvR
       have HY:=vH hy
       have H5:=vH h5
       obtain ⟨lp,lc,hls⟩:=GA.out.rs.slice
       subst hls
       clear hy h5 H4
       try rw [hvR]
       clear hvR
       have hk:=GA.out.row
       obtain ⟨⟨a0,a1,a2⟩,b0,b1,b2⟩:=tri hk
       have hla:=zA hk
       clear hk
       go_wp2_with fail
       refine (zBZ _ R S ts s4 GA.out.cg p.recs.length 12).mono ?_
       rintro e u6 ⟨rfl,hc,hg⟩
       replace GA:=vH (GA.out.step hc hg)
       clear hc hg a0 a1 a2 b0 b1 b2 hla
       go_wp2_with fail
       replace GA:=vH GA.out.drew
       have GL:=vH (show w.heap.size + 2 ≤ u6.drew.heap.size ∧ ∀ k,ex3 (.slice lp p.recs.length lc) vg vf k → k < u6.drew.heap.size from ⟨GA.out.l3,fun k hk => (GA.out.exlt k hk).2⟩)
       have hk:=GA.out.row
       obtain ⟨⟨a0,a1,a2⟩,b0,b1,b2⟩:=tri hk
       have hla:=zA hk
       clear hk
       obtain ⟨i0,hi0,hz0,hz1,hz2⟩:=info_parts zK9
       go_region_law (first
        | (refine zY rfl (.tmp 25) (.tmp 28) 22 rfl (w.heap.size + 2) 56 i0 _ 3 48 Tryz.underlying22 hi0 hz0 hz1 hz2 rfl (by decide) (.slice lp p.recs.length lc) p.recs.length vss.flatten (by simp [Act.eval]) (HO.out.alloc _) ⟨wq.heap.size,0,none⟩ 1 1 [.string v0,.slice ep en ec,.int .i64 ea] (by simp [Act.eval]) rfl (zAy rfl rfl) (HI.out.one) (by have:=HBD.out; unfold maxLen; omega) (by have:=HBD.out; omega) (by rw [zB]; have:=GQ.out.l3; omega) ?_; intro v' w8 hown hgrow hat; have G8:=vH (GQ.out.pushR HL.out HK3.out (But.of (I:=fun w => RIs w _ y _) (fun w' g => (HI.out.ag g).lower (Nat.le_trans GL.out.1 (Nat.le_refl _))) GL.out.1 GL.out.2) hown hgrow (by rw [zB] at hat; exact hat)); obtain ⟨np,nc,hnv⟩:=zAi hown; subst hnv; clear hown hgrow hat; clear a0 a1 a2 b0 b1 b2 hla; have hk:=G8.out.row; obtain ⟨⟨a0,a1,a2⟩,b0,b1,b2⟩:=tri hk; have hla:=zA hk; clear hk)
        | (go_simp; go_wp2_with (go_at_call 39; (with_reducible refine Calls.mono (zGZ _ R S ts _ GA.out.cg m HM.out _ HY.out) ?_); rintro e wq ⟨v0,ep,en,ec,ea,rfl,hi,hc,hg⟩; have HI:=vH hi; clear hi; have GQ:=vH (GA.out.step hc hg); clear hc hg; obtain ⟨vss,hl1,hl2,hl3⟩:=GQ.out.rs; have HL:=vH hl1; have HO:=vH hl2; have HK3:=vH hl3; clear hl1 hl2 hl3; clear a0 a1 a2 b0 b1 b2 hla; have hk:=GQ.out.row; obtain ⟨⟨a0,a1,a2⟩,b0,b1,b2⟩:=tri hk; have hla:=zA hk; clear hk)))
       all_goals
        go_wp2_with fail
        clear a0 a1 a2 b0 b1 b2 hla
        have G9:=vH (G8.out.put 0 (.slice np (p.recs.length + 1) nc) rfl)
        go_roundg m
        case measure => omega
        case rel => exact ⟨_,_,_,_,_,G9.out,H5.out,by have:=HBD.out; have:=(zAp p).1 y; simp only [this]; omega,by have:=HBD.out; have:=(zAp p).1 y; simp only [this]; omega,by have:=HBD.out; have:=(zAp p).1 y; simp only [this]; omega⟩
     | false =>
       have HVR:=vH hvR
       try rw [hvR]
       clear hvR
       go_wp2_with fail
       refine (zAF _ R _ S _ ts s4 GA.out.cg.cu 3 ⟨#[103,108,111,98,97,108]⟩).mono ?_
       rintro e uG ⟨rfl,hb⟩
       replace GA:=vH (GA.out.go hb)
       clear hb
       cases hvG:sees ts s4 3 [103,108,111,98,97,108] with
       | true =>
         obtain ⟨y,s5,hy,h5⟩:=lp_G H4.out HK.out HVR.out hvG
         have HY:=vH hy
         have H5:=vH h5
         obtain ⟨lp,lc,hls⟩:=GA.out.gs.slice
         subst hls
         clear hy h5 H4
         try rw [hvG]
         clear hvG
         have hk:=GA.out.row
         obtain ⟨⟨a0,a1,a2⟩,b0,b1,b2⟩:=tri hk
         have hla:=zA hk
         clear hk
         go_wp2_with fail
         refine (zBZ _ R S ts s4 GA.out.cg p.globals.length 8).mono ?_
         rintro e u6 ⟨rfl,hc,hg⟩
         replace GA:=vH (GA.out.step hc hg)
         clear hc hg a0 a1 a2 b0 b1 b2 hla
         go_wp2_with fail
         replace GA:=vH GA.out.drew
         have GL:=vH (show w.heap.size + 2 ≤ u6.drew.heap.size ∧ ∀ k,ex3 vr (.slice lp p.globals.length lc) vf k → k < u6.drew.heap.size from ⟨GA.out.l3,fun k hk => (GA.out.exlt k hk).2⟩)
         have hk:=GA.out.row
         obtain ⟨⟨a0,a1,a2⟩,b0,b1,b2⟩:=tri hk
         have hla:=zA hk
         clear hk
         obtain ⟨i0,hi0,hz0,hz1,hz2⟩:=info_parts zEX
         go_region_law (first
          | (refine zY rfl (.tmp 42) (.tmp 45) 23 rfl (w.heap.size + 2) 61 i0 _ 4 48 Tryz.underlying23 hi0 hz0 hz1 hz2 rfl (by decide) (.slice lp p.globals.length lc) p.globals.length vss.flatten (by simp [Act.eval]) (HO.out.alloc _) ⟨wq.heap.size,0,none⟩ 1 1 [.string (cbs y.name),.string (cbs y.ofn),.int .i64 y.dims,.int .i64 y.at_] (by simp [Act.eval]) rfl (zAy rfl rfl) (zDt y) (by have:=HBD.out; unfold maxLen; omega) (by have:=HBD.out; omega) (by rw [zB]; have:=GQ.out.l3; omega) ?_; intro v' w8 hown hgrow hat; have G8:=vH (GQ.out.pushG HL.out HK3.out (But.of (B2:=u6.drew.heap.size) (I:=fun w => PIs w 0 y (pmCells y)) (fun w' g => rfl) GL.out.1 GL.out.2) hown hgrow (by rw [zB] at hat; exact hat)); obtain ⟨np,nc,hnv⟩:=zAi hown; subst hnv; clear hown hgrow hat; clear a0 a1 a2 b0 b1 b2 hla; have hk:=G8.out.row; obtain ⟨⟨a0,a1,a2⟩,b0,b1,b2⟩:=tri hk; have hla:=zA hk; clear hk)
          | (go_simp; go_wp2_with (go_at_call 40; (with_reducible refine Calls.mono (zHz HY.out GA.out.cg) ?_); rintro e wq ⟨rfl,hc,hg⟩; have GQ:=vH (GA.out.step hc hg); clear hc hg; obtain ⟨vss,hl1,hl2,hl3⟩:=GQ.out.gs; have HL:=vH hl1; have HO:=vH hl2; have HK3:=vH hl3; clear hl1 hl2 hl3; clear a0 a1 a2 b0 b1 b2 hla; have hk:=GQ.out.row; obtain ⟨⟨a0,a1,a2⟩,b0,b1,b2⟩:=tri hk; have hla:=zA hk; clear hk)))
         all_goals
          go_wp2_with fail
          clear a0 a1 a2 b0 b1 b2 hla
          have G9:=vH (G8.out.put 1 (.slice np (p.globals.length + 1) nc) rfl)
          go_roundg m
          case measure => omega
          case rel => exact ⟨_,_,_,_,_,G9.out,H5.out,by have:=HBD.out; have:=(zAp p).2.1 y; simp only [this]; omega,by have:=HBD.out; have:=(zAp p).2.1 y; simp only [this]; omega,by have:=HBD.out; have:=(zAp p).2.1 y; simp only [this]; omega⟩
       | false =>
         have HVG:=vH hvG
         try rw [hvG]
         clear hvG
         go_wp2_with fail
         refine (zAF _ R _ S _ ts s4 GA.out.cg.cu 3 ⟨#[102,117,110,99]⟩).mono ?_
         rintro e uF ⟨rfl,hb⟩
         replace GA:=vH (GA.out.go hb)
         clear hb
         cases hvF:sees ts s4 3 [102,117,110,99] with
         | true =>
           obtain ⟨y,s5,hy,h5⟩:=lp_F H4.out HK.out HVR.out HVG.out hvF
           have HY:=vH hy
           have H5:=vH h5
           obtain ⟨lp,lc,hls⟩:=GA.out.fs.slice
           subst hls
           clear hy h5 H4
           try rw [hvF]
           clear hvF
           have hk:=GA.out.row
           obtain ⟨⟨a0,a1,a2⟩,b0,b1,b2⟩:=tri hk
           have hla:=zA hk
           clear hk
           go_wp2_with fail
           refine (zBZ _ R S ts s4 GA.out.cg p.funcs.length 16).mono ?_
           rintro e u6 ⟨rfl,hc,hg⟩
           replace GA:=vH (GA.out.step hc hg)
           clear hc hg a0 a1 a2 b0 b1 b2 hla
           go_wp2_with fail
           replace GA:=vH GA.out.drew
           have GL:=vH (show w.heap.size + 2 ≤ u6.drew.heap.size ∧ ∀ k,ex3 vr vg (.slice lp p.funcs.length lc) k → k < u6.drew.heap.size from ⟨GA.out.l3,fun k hk => (GA.out.exlt k hk).2⟩)
           have hk:=GA.out.row
           obtain ⟨⟨a0,a1,a2⟩,b0,b1,b2⟩:=tri hk
           have hla:=zA hk
           clear hk
           obtain ⟨i0,hi0,hz0,hz1,hz2⟩:=info_parts zLa
           go_region_law (first
             | (refine zY rfl (.tmp 59) (.tmp 62) 24 rfl (w.heap.size + 2) 66 i0 _ 7 104 Tryz.underlying24 hi0 hz0 hz1 hz2 rfl (by decide) (.slice lp p.funcs.length lc) p.funcs.length vss.flatten (by simp [Act.eval]) (HO.out.alloc _) ⟨wq.heap.size,0,none⟩ 1 1 [.string v0,.slice ep en ec,.bool eb,.string v3,.int .i64 er,.slice eq em ed,.int .i64 ea] (by simp [Act.eval]) rfl (zAy rfl rfl) (HI.out.one) (by have:=HBD.out; unfold maxLen; omega) (by have:=HBD.out; omega) (by rw [zB]; have:=GQ.out.l3; omega) ?_; intro v' w8 hown hgrow hat; have G8:=vH (GQ.out.pushF HL.out HK3.out (But.of (I:=fun w => FIs w _ y _) (fun w' g => (HI.out.ag g).lower GL.out.1) GL.out.1 GL.out.2) hown hgrow (by rw [zB] at hat; exact hat)); obtain ⟨np,nc,hnv⟩:=zAi hown; subst hnv; clear hown hgrow hat; clear a0 a1 a2 b0 b1 b2 hla; have hk:=G8.out.row; obtain ⟨⟨a0,a1,a2⟩,b0,b1,b2⟩:=tri hk; have hla:=zA hk; clear hk)
             | (go_simp; go_wp2_with (go_at_call 41; (with_reducible refine Calls.mono (zE0 _ R S ts _ GA.out.cg B0 HBB.out m HM.out _ HY.out) ?_); rintro e wq ⟨v0,ep,en,ec,eb,v3,er,eq,em,ed,ea,rfl,hi,hc,hg⟩; have HI:=vH hi; clear hi; have GQ:=vH (GA.out.step hc hg); clear hc hg; obtain ⟨vss,hl1,hl2,hl3⟩:=GQ.out.fs; have HL:=vH hl1; have HO:=vH hl2; have HK3:=vH hl3; clear hl1 hl2 hl3; clear a0 a1 a2 b0 b1 b2 hla; have hk:=GQ.out.row; obtain ⟨⟨a0,a1,a2⟩,b0,b1,b2⟩:=tri hk; have hla:=zA hk; clear hk)))
           all_goals
             go_wp2_with fail
             clear a0 a1 a2 b0 b1 b2 hla
             have G9:=vH (G8.out.put 2 (.slice np (p.funcs.length + 1) nc) rfl)
             go_roundg m
             case measure => omega
             case rel => exact ⟨_,_,_,_,_,G9.out,H5.out,by have:=HBD.out; have:=(zAp p).2.2 y; simp only [this]; omega,by have:=HBD.out; have:=(zAp p).2.2 y; simp only [this]; omega,by have:=HBD.out; have:=(zAp p).2.2 y; simp only [this]; omega⟩
         | false =>
           have H5:=vH (zM5 H4.out HK.out HVR.out HVG.out hvF)
           try rw [hvF]
           clear hvF H4
           go_wp2_with fail
           refine (zA2 _ R _ S _ ts s4 GA.out.cg.cu 2).mono ?_
           rintro e u6 ⟨rfl,hc,hg⟩
           replace GA:=vH (GA.out.step hc hg)
           clear hc hg
           go_wp2_with fail
           go_roundg m
           case measure => omega
           case rel => exact ⟨_,_,_,_,_,GA.out,H5.out,by have:=HBD.out; omega,by have:=HBD.out; omega,by have:=HBD.out; omega⟩
theorem zEy (w:World)(R:Nat)(T:TypeId)(S:Value)(X:List Value)(ts:List RT)(s:Cs)(h:Cu w R T S X ts s)(ep:Option Addr)(el ec:Nat)(bp:Option Addr)(bl bc:Nat)(lp:Option Addr)(ll lc:Nat) :
 Calls Tryz.prog 13 #[.pointer (some ⟨R,0,none⟩),.agg #[.slice ep el ec,.slice bp bl bc,.slice lp ll lc]] w fun e w' =>
  e = .returned (.tuple #[if s.E = 0 then .agg #[.slice ep el ec,.slice bp bl bc,.slice lp ll lc] else .agg #[.slice none 0 0,.slice none 0 0,.slice none 0 0],.int .i64 (ends s).1,.agg #[.int .i64 (ends s).2.1,.int .i64 (ends s).2.2]]) ∧ Below w.heap.size w w':=by
 obtain ⟨⟨c0,c1,c2,c3⟩,fr,hR⟩:=h.cells
 clear h c0 fr
 obtain ⟨k,E,F⟩:=s
 dsimp only at c1 c2 c3
 obtain ⟨wa,hwa⟩:∃ wa,wa = (((w.alloc (.cells #[.slice ep el ec,.slice bp bl bc,.slice lp ll lc] 26)).alloc (.cells #[.slice none 0 0,.slice none 0 0,.slice none 0 0] 26)).alloc (.cells vF 29)):=⟨_,rfl⟩
 have hs:wa.heap.size = w.heap.size + 3:=by rw [hwa]; simp only [zB]
 have hb:Below w.heap.size w wa:=by rw [hwa]; exact (((Below.refl _ _).alloc (Nat.le_refl _) _).alloc (by simp only [zB]; omega) _).alloc (by simp only [zB]; omega) _
 have hkx:wa.heap[w.heap.size]? = some (.cells #[.slice ep el ec,.slice bp bl bc,.slice lp ll lc] 26 (0,0)):=by
  rw [hwa]; have:=heap_alloc_new (w) (.cells #[.slice ep el ec,.slice bp bl bc,.slice lp ll lc] 26); try simp only [zB] at this
  exact zE _ (zE _ (this))
 have hka:wa.heap[w.heap.size + 1]? = some (.cells #[.slice none 0 0,.slice none 0 0,.slice none 0 0] 26 (0,0)):=by
  rw [hwa]; have:=heap_alloc_new ((w.alloc (.cells #[.slice ep el ec,.slice bp bl bc,.slice lp ll lc] 26))) (.cells #[.slice none 0 0,.slice none 0 0,.slice none 0 0] 26); try simp only [zB] at this
  exact zE _ (this)
 have hkb:wa.heap[w.heap.size + 1 + 1]? = some (.cells vF 29 (0,0)):=by
  rw [hwa]; have:=heap_alloc_new (((w.alloc (.cells #[.slice ep el ec,.slice bp bl bc,.slice lp ll lc] 26)).alloc (.cells #[.slice none 0 0,.slice none 0 0,.slice none 0 0] 26))) (.cells vF 29); try simp only [zB] at this
  exact this
 have e1:=zW c1 hR hb
 have e2:=zW c2 hR hb
 have e3:=zW c3 hR hb
 have hRa:R < wa.heap.size:=by omega
 obtain ⟨wb,hwb⟩:∃ wb,wb = wa.alloc (.cells #[.slice none 0 0,.slice none 0 0,.slice none 0 0] 26):=⟨_,rfl⟩
 have hb2:Below w.heap.size w wb:=by rw [hwb]; exact hb.alloc (by omega) _
 have q2:=e2
 rw [hwa] at q2
 have HB:=vH hb
 by_cases hE:E = 0
 ·subst hE
  rw [show ends ⟨k,0,F⟩ = (k,0,0) from rfl]
  dsimp only
  rw [if_pos rfl]
  obtain ⟨⟨x0,x1,x2⟩,xg0,xg1,xg2⟩:=tri hkx
  have hlx:=zA hkx
  obtain ⟨⟨a0,a1,a2⟩,ag0,ag1,ag2⟩:=tri hka
  have hla:=zA hka
  obtain ⟨⟨b0,b1⟩,⟨bg0,bg1⟩,hlb⟩:=duo hkb
  clear hkx hka hkb c1 c2 c3 e2 e3 hb hs hb2 hwb
  go_in
  go_wp2_with fail
  rw [← hwa]
  clear hwa q2
  go_region
  go_wp2_with fail
  refine bodyPost_ret (v:=.tuple #[.agg #[.slice ep el ec,.slice bp bl bc,.slice lp ll lc],.int .i64 k,.agg #[.int .i64 0,.int .i64 0]]) (by simp [results,Tryz.results13,go_sem,a0,a1,a2,b0,b1]) rfl ⟨rfl,?_⟩
  refine zAM ?_
  repeat (refine zO ?_ (by omega))
  exact HB.out
 ·rw [show ends ⟨k,E,F⟩ = (0,E,F) from if_neg hE]
  dsimp only
  rw [if_neg hE]
  have hd:(E != 0) = true:=by simpa using hE
  have HB2:=vH hb2
  have e2:=zW c2 hR hb2
  have e3:=zW c3 hR hb2
  replace hkx:=by have:=zE (.cells #[.slice none 0 0,.slice none 0 0,.slice none 0 0] 26) hkx; rw [← hwb] at this; exact this
  replace hka:=by have:=zE (.cells #[.slice none 0 0,.slice none 0 0,.slice none 0 0] 26) hka; rw [← hwb] at this; exact this
  replace hkb:=by have:=zE (.cells #[.slice none 0 0,.slice none 0 0,.slice none 0 0] 26) hkb; rw [← hwb] at this; exact this
  have hkz:wb.heap[w.heap.size + 1 + 1 + 1]? = some (.cells #[.slice none 0 0,.slice none 0 0,.slice none 0 0] 26 (0,0)):=by have:=heap_alloc_new wa (.cells #[.slice none 0 0,.slice none 0 0,.slice none 0 0] 26); rw [hs,← hwb] at this; exact this
  have hRb:R < wb.heap.size:=by rw [hwb,zB]; omega
  obtain ⟨⟨x0,x1,x2⟩,xg0,xg1,xg2⟩:=tri hkx
  have hlx:=zA hkx
  obtain ⟨⟨a0,a1,a2⟩,ag0,ag1,ag2⟩:=tri hka
  have hla:=zA hka
  obtain ⟨⟨b0,b1⟩,⟨bg0,bg1⟩,hlb⟩:=duo hkb
  obtain ⟨⟨z0,z1,z2⟩,zg0,zg1,zg2⟩:=tri hkz
  have hlz:=zA hkz
  clear hkx hka hkb hkz c1 c2 c3 e1 hb hs hb2 hE
  go_in
  go_wp2_with fail
  rw [← hwa,← hwb]
  clear hwa q2 hwb
  go_region
  go_wp2_with fail
  refine bodyPost_ret (v:=.tuple #[.agg #[.slice none 0 0,.slice none 0 0,.slice none 0 0],.int .i64 0,.agg #[.int .i64 E,.int .i64 F]]) (by simp [results,Tryz.results13,go_sem,a0,a1,a2,b0,b1]) rfl ⟨rfl,?_⟩
  refine zAM ?_
  repeat (refine zO ?_ (by omega))
  exact HB2.out
theorem zDY {ts:List RT}{P:PX}(hP:POk ts P){B:BX}{f:Nat}(hf:f ≤ 1000000000)(hB:∀ k,Ps.parseB ts P f k 0 = some (B k)):BOk ts B:=by
 intro w R0 S k h hops
 have hb0:Below w.heap.size w (w.alloc (.cells vF 29)):=(Below.refl _ _).alloc (Nat.le_refl _) _
 have HC:=vH (zFY _ R0 S ts P hP k 0 (h.below hb0) (zGa hops hb0) f hf (B k) (hB k))
 obtain ⟨p,n,c,rfl⟩:=h.slice
 clear h hops hP hB
 go_in
 go_wp2_with fail
 refine HC.out.mono ?_
 rintro e w1 ⟨bp,bc,rfl,hat,hb⟩
 have HA:=vH hat
 have HB:=vH (zC hb0 hb hb0.size)
 obtain ⟨⟨d0,d1⟩,⟨p0,p1⟩,hld⟩:=duo ((hb.block _ (zA (heap_alloc_new w _))).trans (heap_alloc_new w _))
 clear hat hb
 go_wp2_with fail
 refine bodyPost_ret (v:=.tuple #[.slice bp (B k).1.length bc,.int .i64 (B k).2.1,.agg #[.int .i64 (B k).2.2.1,.int .i64 (B k).2.2.2]]) (by simp [results,Tryz.results70,go_sem,d0,d1]) rfl ⟨bp,bc,rfl,?_,zO (zO HB.out (Nat.le_refl _)) (Nat.le_refl _)⟩
 have hlo:=SsAt.lower HA.out (Nat.le_of_lt (by rw [zB]; exact Nat.lt_succ_self _:w.heap.size < (w.alloc (.cells vF 29)).heap.size))
 exact SsAt.ag (SsAt.ag HA.out ((Ag.refl _ _).set (.inl (by rw [zB]; exact Nat.lt_succ_self _)) _)) ((Ag.refl _ _).set (.inl (by rw [zB]; exact Nat.lt_succ_self _)) _) |>.lower (by rw [zB]; omega)
theorem GIs.put {w:World}{B b i:Nat}{x:Gm}{vs:List Value}{u:Value}(h:GIs w B x vs)(hb:b < B):GIs (w.setCell ⟨b,i,none⟩ u) B x vs:=h.ag ((Ag.refl _ _).set (.inl hb) u)
theorem GIs.dr {w:World}{B:Nat}{x:Gm}{vs:List Value}(h:GIs w B x vs):GIs w.drew B x vs:=h.ag (Ag.below (Below.refl _ _).drew)
def PaPost (w:World)(x:Gm × Int × Int)(e:Ending)(w':World):Prop:=
 ∃ p n c q m d r k f,e = .returned (.tuple #[.agg #[.slice p n c,.slice q m d,.slice r k f],.agg #[.int .i64 x.2.1,.int .i64 x.2.2]]) ∧ GIs w' w.heap.size x.1 [.slice p n c,.slice q m d,.slice r k f] ∧ Below w.heap.size w w'
theorem zIJ (s:ByteArray)(hs:s.size ≤ maxLen)(us:List Ln.Lx.Tk)(E K:Nat)(h:Ln.Lx.toks s.data.toList = (us,E,K))(hE:E ≠ 0)(w:World)(he:EnvG w) :
 Calls Tryz.prog 5 #[.string s] w (PaPost w (Gm.zero,E,K)):=by
 obtain ⟨wa,hwa⟩:∃ wa,wa = (w.alloc (.cells #[.slice none 0 0,.slice none 0 0,.slice none 0 0] 26)).alloc (.cells vF 29):=⟨_,rfl⟩
 have hba:Below w.heap.size w wa:=by rw [hwa]; exact ((Below.refl _ _).alloc (Nat.le_refl _) _).alloc (by rw [zB]; omega) _
 have htk:=Ln.tokens_any s hs wa (he.below hba).lex
 unfold Ln.TokRes at htk
 rw [h] at htk
 have HTK:=vH htk
 have HB:=vH hba
 have hk1:wa.heap[w.heap.size]? = some (.cells #[.slice none 0 0,.slice none 0 0,.slice none 0 0] 26 (0,0)):=by rw [hwa]; exact zE _ (heap_alloc_new w _)
 have hk2:wa.heap[w.heap.size + 1]? = some (.cells vF 29 (0,0)):=by rw [hwa]; have:=heap_alloc_new (w.alloc (.cells #[.slice none 0 0,.slice none 0 0,.slice none 0 0] 26)) (.cells vF 29); rw [zB] at this; exact this
 have hsz:wa.heap.size = w.heap.size + 2:=by rw [hwa]; simp only [zB]
 have HK1:=vH hk1
 have HK2:=vH hk2
 have HSZ:=vH hsz
 have hE1:((E:Int) != 0) = true:=by rw [bne_iff_ne]; omega
 have hE2:(E != 0) = true:=by rw [bne_iff_ne]; exact hE
 clear h he htk hba hk1 hk2 hsz hE
 go_in
 go_wp2_with fail
 rw [← hwa]
 clear hwa
 refine HTK.out.mono ?_
 rintro e w1 ⟨A,c,rfl,hl1,hb1⟩
 have HB1:=vH (zC HB.out hb1 HB.out.size)
 obtain ⟨wb,hwb⟩:∃ wb,wb = w1.alloc (.cells #[.int .i64 (E:Int),.int .i64 (K:Int)] 29):=⟨_,rfl⟩
 have hbb:Below w1.heap.size w1 wb:=by rw [hwb]; exact (Below.refl _ _).alloc (Nat.le_refl _) _
 have hb2:=zC hb1 hbb hb1.size
 have HB2:=vH (zC HB1.out hbb HB1.out.size)
 obtain ⟨⟨x0,x1,x2⟩,y0,y1,y2⟩:=tri ((hb2.block _ (zA HK1.out)).trans HK1.out)
 have hlx:=zA ((hb2.block _ (zA HK1.out)).trans HK1.out)
 obtain ⟨⟨z0,z1⟩,⟨v0,v1⟩,hlz⟩:=duo ((hb2.block _ (zA HK2.out)).trans HK2.out)
 obtain ⟨⟨m0,m1⟩,⟨n0,n1⟩,hlm⟩:=duo (show wb.heap[w1.heap.size]? = some (.cells #[.int .i64 (E:Int),.int .i64 (K:Int)] 29 (0,0)) by rw [hwb]; exact heap_alloc_new w1 _)
 have hz1:=hb1.size
 have hsz:=HSZ.out
 have hq1:w.heap.size ≠ w.heap.size + 1:=by omega
 have hq2:=Ne.symm hq1
 have hq3:w.heap.size + 1 ≠ w1.heap.size:=by omega
 have hq4:=Ne.symm hq3
 have hq5:w.heap.size ≠ w1.heap.size:=by omega
 have hq6:=Ne.symm hq5
 clear hl1 hb1 hb2 hbb hz1 hsz
 go_wp2_with fail
 try rw [← hwb]
 clear hwb
 go_region
 all_goals
  go_wp2_with fail
  refine bodyPost_ret (v:=.tuple #[.agg #[.slice none 0 0,.slice none 0 0,.slice none 0 0],.agg #[.int .i64 (E:Int),.int .i64 (K:Int)]]) (by simp [results,Tryz.results5,go_sem,x0,x1,x2,z0,z1]) rfl ⟨none,0,0,none,0,0,none,0,0,rfl,GIs.zero,?_⟩
  refine zAM ?_
  repeat (refine zO ?_ (by omega))
  exact HB2.out
theorem zKc (s:ByteArray)(hs:s.size ≤ maxLen)(us:List Ln.Lx.Tk)(K:Nat)(h:Ln.Lx.toks s.data.toList = (us,0,K))(w:World)(he:EnvG w)(B:BX)(hB:BOk (us.map toRT) B)(g:Nat)(hg:g ≤ 900000000)(x:Gm × Int × Int)(hx:Pg.run (us.map toRT) B g = some x) :
 Calls Tryz.prog 5 #[.string s] w (PaPost w x):=by
 obtain ⟨p3,s3,h3,hpx⟩:∃ p3 s3,Pg.loop (us.map toRT) B g Gm.zero ⟨0,0,0⟩ = some (p3,s3) ∧ x = Pg.pgEnd p3 s3:=by
  unfold Pg.run at hx
  split at hx
  ·cases hx
  ·rename_i p s hl
   exact ⟨p,s,hl,(Option.some.inj hx).symm⟩
 obtain ⟨px,Ex,Fx⟩:=x
 have HPX:=vH hpx
 clear hpx
 have hsh:∀ t ∈ us,t.text.length ≤ 281474976710656:=by have:=zEg s.data.toList; rw [h] at this; exact this
 obtain ⟨wa,hwa⟩:∃ wa,wa = (w.alloc (.cells #[.slice none 0 0,.slice none 0 0,.slice none 0 0] 26)).alloc (.cells vF 29):=⟨_,rfl⟩
 have hba:Below w.heap.size w wa:=by rw [hwa]; exact ((Below.refl _ _).alloc (Nat.le_refl _) _).alloc (by rw [zB]; omega) _
 have htk:=Ln.tokens_any s hs wa (he.below hba).lex
 unfold Ln.TokRes at htk
 rw [h] at htk
 have HTK:=vH htk
 have HB:=vH hba
 have hk1:wa.heap[w.heap.size]? = some (.cells #[.slice none 0 0,.slice none 0 0,.slice none 0 0] 26 (0,0)):=by rw [hwa]; exact zE _ (heap_alloc_new w _)
 have hk2:wa.heap[w.heap.size + 1]? = some (.cells vF 29 (0,0)):=by rw [hwa]; have:=heap_alloc_new (w.alloc (.cells #[.slice none 0 0,.slice none 0 0,.slice none 0 0] 26)) (.cells vF 29); rw [zB] at this; exact this
 have hsz:wa.heap.size = w.heap.size + 2:=by rw [hwa]; simp only [zB]
 have HK1:=vH hk1
 have HK2:=vH hk2
 have HSZ:=vH hsz
 have HSH:=vH hsh
 have HOP:=vH he.ops
 have H3:=vH h3
 have HBB:=vH hB
 have HG:=vH hg
 clear h he htk hba hk1 hk2 hsz hsh h3 hB hx hg
 go_in
 go_wp2_with fail
 rw [← hwa]
 clear hwa
 refine HTK.out.mono ?_
 rintro e w1 ⟨A,c,rfl,hl1,hb1⟩
 obtain ⟨wb,hwb⟩:∃ wb,wb = w1.alloc (.cells #[.int .i64 0,.int .i64 (K:Int)] 29):=⟨_,rfl⟩
 have hbb:Below w1.heap.size w1 wb:=by rw [hwb]; exact (Below.refl _ _).alloc (Nat.le_refl _) _
 have hb2:=zC hb1 hbb hb1.size
 have HB2:=vH (zC (zC HB.out hb1 HB.out.size) hbb (zC HB.out hb1 HB.out.size).size)
 have HK3:=vH ((hb2.block _ (zA HK1.out)).trans HK1.out)
 have HK4:=vH ((hb2.block _ (zA HK2.out)).trans HK2.out)
 have HK5:=vH (show wb.heap[w1.heap.size]? = some (.cells #[.int .i64 0,.int .i64 (K:Int)] 29 (0,0)) by rw [hwb]; exact heap_alloc_new w1 _)
 have HT:=vH ((zHZ (c:=c) hl1 HSH.out).below hbb)
 have HZ1:=vH hb1.size
 have HZB:=vH (show wb.heap.size = w1.heap.size + 1 by rw [hwb,zB])
 clear hl1 hb1 hb2 hbb
 go_wp2_with fail
 try rw [← hwb]
 clear hwb
 refine (zFH _ A us.length c 0).mono ?_
 rintro e w2 ⟨rfl,hb⟩
 have hcu:Cu (w2.alloc (.cells #[.slice A us.length c,.int .i64 0,.int .i64 0,.int .i64 0] 43)) w2.heap.size 43 (.slice A us.length c) [] (us.map toRT) ⟨0,0,0⟩:=
  ⟨heap_alloc_new w2 _,((HT.out.below hb).re (Nat.le_refl _)).gr (Gr.alloc (Gr.refl _ _) _)⟩
 have hb3:=zC HB2.out hb HB2.out.size
 have hcg:Cg (w2.alloc (.cells #[.slice A us.length c,.int .i64 0,.int .i64 0,.int .i64 0] 43)) w2.heap.size (.slice A us.length c) (us.map toRT) ⟨0,0,0⟩:=
  ⟨hcu,zGa HOP.out (zA6 hb3),by obtain ⟨t,fr,ho⟩:=HOP.out; have:=zA ho; have:=hb3.size; omega⟩
 have HCG:=vH hcg
 have HB3:=vH hb3
 have HZ2:=vH hb.size
 have HL1:=vH ((hb.block _ (zA HK3.out)).trans HK3.out)
 have HL2:=vH ((hb.block _ (zA HK4.out)).trans HK4.out)
 have HL5:=vH ((hb.block _ (zA HK5.out)).trans HK5.out)
 clear hcu hcg hb hb3
 go_wp2_with fail
 refine (zFD _ _ _ _ _ HCG.out B HBB.out g HG.out _ H3.out).mono ?_
 rintro e w3 ⟨p1,n1,c1,p2,n2,c2,p4,n4,c4,rfl,hgi,hcu,hg⟩
 have hga:=(Gr.alloc (Gr.refl w2.heap.size w2) (.cells #[.slice A us.length c,.int .i64 0,.int .i64 0,.int .i64 0] 43)).trans hg
 have HM1:=vH (hga.box HL1.out (Nat.ne_of_lt (zA HL1.out)))
 have HM2:=vH (hga.box HL2.out (Nat.ne_of_lt (zA HL2.out)))
 have HM5:=vH (hga.box HL5.out (Nat.ne_of_lt (zA HL5.out)))
 have HB4:=vH (zC HB3.out (hga.fresh (Nat.le_refl _)) HB3.out.size)
 have HGI:=vH (hgi.lower (B2:=w2.heap.size) (by rw [zB]; omega))
 have HCU:=vH hcu
 have HZ3:Hid (w2.heap.size < w3.heap.size):=hcu.lt
 clear hgi hcu hg hga
 have hpe:=HPX.out.symm
 have hres:Calls Tryz.prog 13 #[.pointer (some ⟨w2.heap.size,0,none⟩),.agg #[.slice p1 n1 c1,.slice p2 n2 c2,.slice p4 n4 c4]] w3 fun e w4 =>
  ∃ q1 r1 d1 q2 r2 d2 q4 r4 d4 k,e = .returned (.tuple #[.agg #[.slice q1 r1 d1,.slice q2 r2 d2,.slice q4 r4 d4],.int .i64 k,.agg #[.int .i64 Ex,.int .i64 Fx]]) ∧ GIs w4 w2.heap.size px [.slice q1 r1 d1,.slice q2 r2 d2,.slice q4 r4 d4] ∧ Below w3.heap.size w3 w4:=by
  refine (zEy _ _ _ _ _ _ _ HCU.out p1 n1 c1 p2 n2 c2 p4 n4 c4).mono ?_
  obtain ⟨k3,E3,F3⟩:=s3
  by_cases hE:E3 = 0
  ·subst hE
   obtain ⟨rfl,rfl,rfl⟩:p3 = px ∧ 0 = Ex ∧ 0 = Fx:=by simpa [Pg.pgEnd] using hpe
   rintro e w4 ⟨rfl,hb⟩
   exact ⟨p1,n1,c1,p2,n2,c2,p4,n4,c4,k3,rfl,HGI.out.ag (Ag.below hb),hb⟩
  ·obtain ⟨rfl,rfl,rfl⟩:Gm.zero = px ∧ E3 = Ex ∧ F3 = Fx:=by simpa [Pg.pgEnd,hE] using hpe
   rw [show ends ⟨k3,E3,F3⟩ = (0,E3,F3) from if_neg hE]
   dsimp only
   rw [if_neg hE]
   rintro e w4 ⟨rfl,hb⟩
   exact ⟨none,0,0,none,0,0,none,0,0,0,rfl,GIs.zero,hb⟩
 have HRES:=vH hres
 clear hres hpe HCU HGI
 go_wp2_with fail
 refine HRES.out.mono ?_
 rintro e w4 ⟨q1,r1,d1,q2,r2,d2,q4,r4,d4,k,rfl,hgi,hb⟩
 have HGI:=vH hgi
 clear hgi HRES
 have hM5:=(hb.block _ (zA HM5.out)).trans HM5.out
 obtain ⟨⟨m0,m1⟩,⟨j0,j1⟩,hlm⟩:=duo hM5
 have hM1:=(hb.block _ (zA HM1.out)).trans HM1.out
 have hM2:=(hb.block _ (zA HM2.out)).trans HM2.out
 have HB5:=vH (zC HB4.out hb HB4.out.size)
 have HGI4:=HGI
 have HZ4:=vH hb.size
 have HN1:=vH hM1
 have HN2:=vH hM2
 clear hM1 hM2 hb
 have hw4:w4.heap.size ≠ w1.heap.size:=Nat.ne_of_gt hlm
 have hw5:=Ne.symm hw4
 obtain ⟨wc,hwc⟩:∃ wc,wc = ((w4.setCell ⟨w1.heap.size,0,none⟩ (.int .i64 Ex)).setCell ⟨w1.heap.size,1,none⟩ (.int .i64 Fx)).alloc (.cells #[.slice q1 r1 d1,.slice q2 r2 d2,.slice q4 r4 d4] 26):=⟨_,rfl⟩
 have hszc:wc.heap.size = w4.heap.size + 1:=by rw [hwc,zB,zI,zI]
 have hkc:∀ bl,bl < w4.heap.size → bl ≠ w1.heap.size → wc.heap[bl]? = w4.heap[bl]?:=fun bl hl hn => by
  rw [hwc,heap_alloc_old _ _ (by rw [zI,zI]; exact hl),Below.heap_setCell _ ⟨w1.heap.size,1,none⟩ _ bl hn,Below.heap_setCell _ ⟨w1.heap.size,0,none⟩ _ bl hn]
 have hsz:=HSZ.out
 have hz1:=HZ1.out
 have hzb:=HZB.out
 have hz2:=HZ2.out
 have hz3:=HZ3.out
 have hz4:=HZ4.out
 obtain ⟨⟨x0,x1,x2⟩,y0,y1,y2⟩:=tri ((hkc _ (by omega) (by omega)).trans HN1.out)
 obtain ⟨⟨z0,z1⟩,⟨v0,v1⟩,hlz⟩:=duo ((hkc _ (by omega) (by omega)).trans HN2.out)
 obtain ⟨⟨t0,t1,t2⟩,f0,f1,f2⟩:=tri (show wc.heap[w4.heap.size]? = some (.cells #[.slice q1 r1 d1,.slice q2 r2 d2,.slice q4 r4 d4] 26 (0,0)) by rw [hwc]; have:=heap_alloc_new ((w4.setCell ⟨w1.heap.size,0,none⟩ (.int .i64 Ex)).setCell ⟨w1.heap.size,1,none⟩ (.int .i64 Fx)) (.cells #[.slice q1 r1 d1,.slice q2 r2 d2,.slice q4 r4 d4] 26); rw [zI,zI] at this; exact this)
 have h5r:wc.heap[w1.heap.size]? = some (.cells #[.int .i64 Ex,.int .i64 Fx] 29 (0,0)):=by
  rw [hwc,heap_alloc_old _ _ (by rw [zI,zI]; exact hlm)]
  exact zAl (zAl hM5 0 _ rfl) 1 _ rfl
 have HBC:=vH (show Below w.heap.size w wc by rw [hwc]; exact zA6 (zO (zO HB5.out (by omega)) (by omega)))
 have HAG:=vH (show Ag w2.heap.size w4 wc from ⟨by omega,fun bl h1 h2 => hkc bl h2 (by omega)⟩)
 have hlx:w.heap.size < wc.heap.size:=by omega
 have hlz2:w.heap.size + 1 < wc.heap.size:=by omega
 have hlr:w4.heap.size < wc.heap.size:=by omega
 have hls:w1.heap.size < wc.heap.size:=by omega
 have hq1:w.heap.size ≠ w.heap.size + 1:=by omega
 have hq2:=Ne.symm hq1
 have hq3:w.heap.size + 1 ≠ w1.heap.size:=by omega
 have hq4:=Ne.symm hq3
 have hq5:w.heap.size ≠ w1.heap.size:=by omega
 have hq6:=Ne.symm hq5
 have hq7:w.heap.size ≠ w4.heap.size:=by omega
 have hq8:=Ne.symm hq7
 have hq9:w.heap.size + 1 ≠ w4.heap.size:=by omega
 have hqX:=Ne.symm hq9
 clear hkc hsz hz1 hzb hz2 hz3 hz4 hM5 hszc
 go_wp2_with fail
 try rw [← hwc]
 clear hwc m0 m1 j0 j1 hlm
 obtain ⟨⟨m0,m1⟩,⟨j0,j1⟩,hlm⟩:=duo h5r
 clear h5r
 go_region
 all_goals
  go_wp2_with fail
  refine bodyPost_ret (v:=.tuple #[.agg #[.slice q1 r1 d1,.slice q2 r2 d2,.slice q4 r4 d4],.agg #[.int .i64 Ex,.int .i64 Fx]]) (by simp [results,Tryz.results5,go_sem,x0,x1,x2,z0,z1]) rfl ⟨q1,r1,d1,q2,r2,d2,q4,r4,d4,rfl,?_,?_⟩
  ·first
        | (have hz0:w.heap.size + 2 ≤ w2.heap.size:=by (have:=HSZ.out; have:=HZ1.out; have:=HZB.out; have:=HZ2.out; omega)
           refine GIs.lower (B:=w2.heap.size) ?_ (by omega)
           have hgw:=HGI4.out.ag HAG.out
           with_reducible repeat (first | exact hgw | refine GIs.put ?_ (by omega) | refine GIs.dr ?_))
  ·refine zAM ?_
   repeat (refine zO ?_ (by omega))
   exact HBC.out
end Go.Proofs.YtipmjjfknhblnaaGreatDoor
