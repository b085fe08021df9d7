/-
  The answer's reader of programs (runrigref3): a function.
-/
import Derived.Test.YteadgahhchlgeaaDoorK24
import Derived.Test.YteadgahhchlgeaaDoorK02
import Derived.Deep.CutBlock
set_option maxRecDepth 8000
set_option maxHeartbeats 8000000
namespace Go.Proofs.YteadgahhchlgeaaDoor
open Go.RowKit
open Px (RT tokAt isT)
open Pe (inc dec Ex)
open Qe (Q)
open Ps (Sm)
open Pg (Pm Rc Fc Gm)
theorem zMY {ts:List RT}{g:Nat}{l:List Pm}{s:Q}{x:List Pm × Q}(h:Qg.parLoop ts (g + 1) l s = some x)(hv:¬ (s.E = 0 ∧ Qe.is ts s false [41] = false)):x = (l,s):=by
 rw [Qg.parLoop,if_neg hv] at h
 exact (Option.some.inj h).symm
theorem zN2 {ts:List RT}{g:Nat}{l:List Pm}{s:Q}{x:List Pm × Q}(h:Qg.parLoop ts (g + 1) l s = some x)(hE:s.E = 0)(hv:Qe.is ts s false [41] = false)(hf:(tokAt ts s.k).kind = 1 ∧ l.length = 6):x = (l,Qe.fail ts s 4):=by
 rw [Qg.parLoop,if_pos ⟨hE,hv⟩,if_pos hf] at h
 exact (Option.some.inj h).symm
theorem zN1 {ts:List RT}{g:Nat}{l:List Pm}{s:Q}{x:List Pm × Q}(h:Qg.parLoop ts (g + 1) l s = some x)(hE:s.E = 0)(hv:Qe.is ts s false [41] = false)(hf:¬ ((tokAt ts s.k).kind = 1 ∧ l.length = 6)) :
 ∃ y s2,Qg.param ts s = (y,s2) ∧ Qg.parLoop ts g (l ++ [y]) (Qg.comma ts s2) = some x:=by
 rw [Qg.parLoop,if_pos ⟨hE,hv⟩,if_neg hf] at h
 exact ⟨_,_,rfl,h⟩
theorem QSt.setk {w wr:World}{R B b:Nat}{S v:Value}{T:TypeId}{A Z:Array Value}{ts:List RT}{l:List Pm}{s:Q}(h:QSt w R S ts B b T A Z v l s wr):QSt w R S ts B b T A Z v l (Qe.next s) (wr.setCell ⟨R,1,none⟩ (.int .i64 (inc s.k))):=
 h.step (h.qr.set_k (inc s.k)) ((Gr.refl R wr).set 1 _)
def QFcPost (w:World)(R:Nat)(S:Value)(ts:List RT)(x:Fc × Q)(e:Ending)(w':World):Prop:=
 ∃ v0 p n c b v3 r q m d a,e = .returned (.agg #[.string v0,.slice p n c,.bool b,.string v3,.int .i64 r,.slice q m d,.int .i64 a]) ∧ FIs w' w.heap.size x.1 [.string v0,.slice p n c,.bool b,.string v3,.int .i64 r,.slice q m d,.int .i64 a] ∧ Qr w' R S ts x.2 ∧ Gr R w w'
theorem zHy {w w7:World}{R B b:Nat}{S:Value}{ts:List RT}{s s7:Q}{nm rn:List UInt8}{has:Bool}{a r:Int}{Z:Array Value}{p q:Option Addr}{c d:Nat}{l:List Pm}{bl:List Sm}(h0:Qr w R S ts s)
 (G:QSt w R S ts B b 82 #[.string (cbs nm),.slice p l.length c,.bool has,.string (cbs rn),.int .i64 r,.slice q bl.length d,.int .i64 a] Z (.slice p l.length c) l s7 w7) (hb:SsAt w7 B q bl) :
 QFcPost w R S ts (⟨nm,l,has,rn,r,bl,a⟩,s7) (.returned (.agg #[.string (cbs nm),.slice p l.length c,.bool has,.string (cbs rn),.int .i64 r,.slice q bl.length d,.int .i64 a])) (((((((w7.setCell ⟨w.heap.size,0,none⟩ (.string (cbs nm))).setCell ⟨w.heap.size,1,none⟩ (.slice p l.length c)).setCell ⟨w.heap.size,2,none⟩ (.bool has)).setCell ⟨w.heap.size,3,none⟩ (.string (cbs rn))).setCell ⟨w.heap.size,4,none⟩ (.int .i64 r)).setCell ⟨w.heap.size,5,none⟩ (.slice q bl.length d)).setCell ⟨w.heap.size,6,none⟩ (.int .i64 a)):=by
 have h1:=G.l1
 have h2:=G.l2
 have hlt:w.heap.size < B:=by omega
 have hn:=(((((((Nw.start G.gr).set (p:=⟨w.heap.size,0,none⟩) (Nat.le_refl _) (.string (cbs nm))).set (p:=⟨w.heap.size,1,none⟩) (Nat.le_refl _) (.slice p l.length c)).set (p:=⟨w.heap.size,2,none⟩) (Nat.le_refl _) (.bool has)).set (p:=⟨w.heap.size,3,none⟩) (Nat.le_refl _) (.string (cbs rn))).set (p:=⟨w.heap.size,4,none⟩) (Nat.le_refl _) (.int .i64 r)).set (p:=⟨w.heap.size,5,none⟩) (Nat.le_refl _) (.slice q bl.length d)).set (p:=⟨w.heap.size,6,none⟩) (Nat.le_refl _) (.int .i64 a)
 have hag:Ag B w7 (((((((w7.setCell ⟨w.heap.size,0,none⟩ (.string (cbs nm))).setCell ⟨w.heap.size,1,none⟩ (.slice p l.length c)).setCell ⟨w.heap.size,2,none⟩ (.bool has)).setCell ⟨w.heap.size,3,none⟩ (.string (cbs rn))).setCell ⟨w.heap.size,4,none⟩ (.int .i64 r)).setCell ⟨w.heap.size,5,none⟩ (.slice q bl.length d)).setCell ⟨w.heap.size,6,none⟩ (.int .i64 a)):=
  (((((((Ag.refl _ _).set (.inl hlt) _).set (.inl hlt) _).set (.inl hlt) _).set (.inl hlt) _).set (.inl hlt) _).set (.inl hlt) _).set (.inl hlt) _
 exact ⟨_,p,_,c,_,_,_,q,_,d,_,rfl,⟨p,c,q,d,rfl,((PsAt.own G.own).2.ag hag).lower (by omega),(hb.ag hag).lower (by omega)⟩,Qr.fin h0 G.qr hn,hn.gr⟩
theorem zE5 (w:World)(R:Nat)(S:Value)(ts:List RT)(s:Q)(h:Qr w R S ts s)(recB:Q → Qs.OutB)(hB:QBlOk ts recB)(g:Nat)(hg:g ≤ 900000000)(x:Fc × Q)(hx:Qg.function ts recB g s = some x) :
 Calls Tryd.prog 23 #[.pointer (some ⟨R,0,none⟩)] w (QFcPost w R S ts x):=by
 obtain ⟨nm,s1,hN⟩:∃ nm s1,Qe.name ts s = (nm,s1):=⟨_,_,rfl⟩
 obtain ⟨t,hT⟩:∃ t,tokAt ts s.k = t:=⟨_,rfl⟩
 obtain ⟨ps,s3,bl,s9,h3,hbl,rfl⟩:∃ ps s3 bl s9,Qg.parLoop ts g [] (Qe.take ts s1 false [40]) = some (ps,s3) ∧ recB (Qg.resultOf ts (Qe.take ts s3 false [41])).2.2.2 = some (bl,s9) ∧
  x = (⟨nm,ps,(Qg.resultOf ts (Qe.take ts s3 false [41])).1,(Qg.resultOf ts (Qe.take ts s3 false [41])).2.1,(Qg.resultOf ts (Qe.take ts s3 false [41])).2.2.1,bl,t.at_⟩,s9):=by
  unfold Qg.function at hx
  rw [hN,hT] at hx
  split at hx
  ·cases hx
  ·rename_i ps s3 hl
   dsimp only at hx
   split at hx
   ·cases hx
   ·rename_i bl s9 hb
    exact ⟨ps,s3,bl,s9,hl,hb,(Option.some.inj hx).symm⟩
 obtain ⟨s2,hs2⟩:∃ s2,Qe.take ts s3 false [41] = s2:=⟨_,rfl⟩
 obtain ⟨has,rn,r,s8,hR⟩:∃ has rn r s8,Qg.resultOf ts s2 = (has,rn,r,s8):=⟨_,_,_,_,rfl⟩
 simp only [hs2,hR] at hbl ⊢
 have HN:=vH hN
 have HT:=vH hT
 have H3:=vH h3
 have HH:=vH h
 have HG9:=vH hg
 have HBB:=vH hB
 have HBl:=vH hbl
 have HS2:=vH hs2
 have HR:=vH hR
 have hlt:=h.lt
 have F:=vH ((Fr.ofq h).alloc (.cells #[.string ⟨#[]⟩,.slice none 0 0,.bool false,.string ⟨#[]⟩,.int .i64 0,.slice none 0 0,.int .i64 0] 82))
 have hfd:∀ w1:World,(Instr.field 71 (.agg #[.int .i64 t.kind,.string (cbs t.text),.int .i64 t.num,.int .i64 t.at_]) 3).run Tryd.prog w1 = .ok (.int .i64 t.at_) w1:=fun _ => by kernel_rfl
 have hfk:∀ (w1:World) (t:RT),(Instr.field 71 (.agg #[.int .i64 t.kind,.string (cbs t.text),.int .i64 t.num,.int .i64 t.at_]) 0).run Tryd.prog w1 = .ok (.int .i64 t.kind) w1:=fun _ _ => by kernel_rfl
 obtain ⟨i0,hi0,hz0,hz1,hz2⟩:=info_parts zKt
 clear h hx hN hT h3 hg hB hbl hs2 hR
 go_in
 go_wp2_with fail
 refine (zCf HT.out F.out.qr).mono ?_
 rintro e w1 ⟨rfl,hb⟩
 replace F:=vH (F.out.go hb)
 clear hb
 go_wp2_with fail
 obtain ⟨b,w5,hb5,hw5,f5⟩:∃ b w5,b = w1.heap.size ∧ w5 = w1.alloc (.cells #[.string ⟨#[]⟩,.slice none 0 0,.bool false,.string ⟨#[]⟩,.int .i64 0,.slice none 0 0,.int .i64 t.at_] 82) ∧ Fr w R (QrK R S ts) s [(b,.cells #[.string ⟨#[]⟩,.slice none 0 0,.bool false,.string ⟨#[]⟩,.int .i64 0,.slice none 0 0,.int .i64 t.at_] 82 (0,0)),(w.heap.size,.cells #[.string ⟨#[]⟩,.slice none 0 0,.bool false,.string ⟨#[]⟩,.int .i64 0,.slice none 0 0,.int .i64 0] 82 (0,0))] [] w5:=⟨_,_,rfl,rfl,F.out.alloc _⟩
 rw [← hw5,← hb5]
 replace F:=vH f5
 clear hb5 hw5 f5
 have hnd:=F.out.below1
 have hne:=Ne.symm hnd
 have hbw:=(F.out.keep _ vA).2
 dsimp only at hnd hne hbw
 have hRb:R ≠ b:=by omega
 have hbR:=Ne.symm hRb
 have hN1:=zAG _ R S ts s F.out.qr
 rw [HN.out] at hN1
 refine hN1.mono ?_
 rintro e w2 ⟨rfl,hc,hg⟩
 replace F:=vH (F.out.step hc hg)
 clear hc hg hN1
 have hk:=F.out.keep _ vA
 obtain ⟨⟨d0,d1,d2,d3,d4,d5,d6⟩,p0,p1,p2,p3,p4,p5,p6⟩:=sept hk.1
 have hld:=zA hk.1
 clear hk
 go_wp2_with fail
 replace F:=vH (F.out.put1 0 rfl 0 (.string (cbs nm)) rfl)
 refine (zJ _ R S ts s1 F.out.qr ⟨#[40]⟩ (by decide) false (by decide)).mono ?_
 rintro e u1 ⟨rfl,hc,hg⟩
 replace F:=vH (F.out.step hc hg)
 clear hc hg d0 d1 d2 d3 d4 d5 d6 p0 p1 p2 p3 p4 p5 p6 hld
 obtain ⟨Bq,hBq⟩:∃ Bq,Bq = u1.heap.size:=⟨_,rfl⟩
 have hZ:QSt w R S ts Bq b 82 #[.string (cbs nm),.slice none 0 0,.bool false,.string ⟨#[]⟩,.int .i64 0,.slice none 0 0,.int .i64 t.at_] #[.string ⟨#[]⟩,.slice none 0 0,.bool false,.string ⟨#[]⟩,.int .i64 0,.slice none 0 0,.int .i64 0] (.slice none 0 0) [] (Qe.take ts s1 false [40]) u1:=
  ⟨F.out.qr,F.out.gr,(F.out.keep _ vA).1,(F.out.keep _ vB).1,by omega,by rw [hBq]; exact zA (F.out.keep _ vA).1,by rw [hBq]; exact Nat.le_refl _,World.ownsRow_nil _ _ _ _,s,HH.out⟩
 have G:=vH hZ
 clear hZ hBq F
 go_upto_block 0 with fail
 go_cut [] from 13 to 47 (fun wx => ∃ pl pc,QSt w R S ts Bq b 82 #[.string (cbs nm),.slice pl ps.length pc,.bool false,.string ⟨#[]⟩,.int .i64 0,.slice none 0 0,.int .i64 t.at_] #[.string ⟨#[]⟩,.slice none 0 0,.bool false,.string ⟨#[]⟩,.int .i64 0,.slice none 0 0,.int .i64 0] (.slice pl ps.length pc) ps s3 wx)
 case first =>
  go_wp2_with fail
  go_loopg [] g (fun n wr => ∃ pl pc l s4,QSt w R S ts Bq b 82 #[.string (cbs nm),.slice pl l.length pc,.bool false,.string ⟨#[]⟩,.int .i64 0,.slice none 0 0,.int .i64 t.at_] #[.string ⟨#[]⟩,.slice none 0 0,.bool false,.string ⟨#[]⟩,.int .i64 0,.slice none 0 0,.int .i64 0] (.slice pl l.length pc) l s4 wr ∧ Qg.parLoop ts n l s4 = some (ps,s3) ∧ l.length + n ≤ 1000000000)
  case atStart => exact ⟨_,_,_,_,G.out,H3.out,by have:=HG9.out; simp; omega⟩
  case round =>
   obtain ⟨pl,pc,l,s4,ha,h3,hbd⟩:=hrel
   have GA:=vH ha
   have H4:=vH h3
   have HBD:=vH hbd
   clear ha h3 hbd G H3
   cases gk with
   | zero => exact absurd H4.out (by rw [Qg.parLoop]; simp)
   | succ m =>
     go_wp2_with fail
     refine (zAS _ R S ts s4 GA.out.qr).mono ?_
     rintro e w5 ⟨rfl,hw5⟩
     subst hw5
     cases hE:(s4.E == 0) with
     | false =>
       obtain ⟨rfl,rfl⟩:=Prod.mk.inj (zMY H4.out (fun hh => by simp [hh.1] at hE))
       try rw [hE]
       clear hE H4
       go_wp2_with fail
       go_meet
       exact ⟨pl,pc,GA.out⟩
     | true =>
       have HE:=vH (show s4.E = 0 by simpa using hE)
       try rw [hE]
       clear hE
       go_wp2_with fail
       refine (zI _ R S ts s4 GA.out.qr ⟨#[41]⟩ (by decide) false (by decide)).mono ?_
       rintro e w6 ⟨rfl,hb⟩
       replace GA:=vH (GA.out.go hb)
       clear hb
       cases hv:Qe.is ts s4 false [41] with
       | true =>
         obtain ⟨rfl,rfl⟩:=Prod.mk.inj (zMY H4.out (fun hh => by rw [hv] at hh; cases hh.2))
         try rw [hv]
         clear hv H4 HE
         go_wp2_with fail
         go_meet
         exact ⟨pl,pc,GA.out⟩
       | false =>
         have HV:=vH hv
         try rw [hv]
         clear hv
         obtain ⟨t4,hT4⟩:∃ t4,tokAt ts s4.k = t4:=⟨_,rfl⟩
         have HT4:=vH hT4
         have hft:=fun w1 => hfk w1 t4
         go_wp2_with fail
         refine (zCf HT4.out GA.out.qr).mono ?_
         rintro e w8 ⟨rfl,hb⟩
         replace GA:=vH (GA.out.go hb)
         clear hb
         obtain ⟨⟨d0,d1,d2,d3,d4,d5,d6⟩,p0,p1,p2,p3,p4,p5,p6⟩:=sept GA.out.row
         have hld:=zA GA.out.row
         by_cases hf:t4.kind = 1 ∧ l.length = 6
         ·have hkb:(t4.kind == 1) = true:=by simpa using hf.1
          have hlb:((l.length:Int) == 6) = true:=by rw [hf.2]; rfl
          obtain ⟨rfl,rfl⟩:=Prod.mk.inj (zN2 H4.out HE.out HV.out ⟨by rw [hT4]; exact hf.1,hf.2⟩)
          clear hT4 hf H4
          go_wp2_with fail
          clear d0 d1 d2 d3 d4 d5 d6 p0 p1 p2 p3 p4 p5 p6 hld
          refine (zAn _ R S ts _ GA.out.qr 4).mono ?_
          rintro e w9 ⟨rfl,hc,hg⟩
          replace GA:=vH (GA.out.step hc hg)
          clear hc hg
          go_wp2_with fail
          go_meet
          exact ⟨pl,pc,GA.out⟩
         ·have HF:=vH (show ¬ ((tokAt ts s4.k).kind = 1 ∧ l.length = 6) by rw [hT4]; exact hf)
          have hcase:(t4.kind == 1) = false ∨ (t4.kind == 1) = true ∧ ((l.length:Int) == 6) = false:=by
           by_cases hk:t4.kind = 1
           ·exact .inr ⟨by simpa using hk,by have:=fun e => hf ⟨hk,e⟩; simp; omega⟩
           ·exact .inl (by simpa using hk)
          clear hT4 hf
          rcases hcase with hkb | ⟨hkb,hlb⟩
          all_goals
           go_wp2_with fail
           obtain ⟨y,s5,hy,h5⟩:=zN1 H4.out HE.out HV.out HF.out
           have HY:=vH hy
           have H5:=vH h5
           clear hy h5 H4 HF d0 d1 d2 d3 d4 d5 d6 p0 p1 p2 p3 p4 p5 p6 hld
           go_wp2_with fail
           replace GA:=vH GA.out.drew
           obtain ⟨⟨d0,d1,d2,d3,d4,d5,d6⟩,p0,p1,p2,p3,p4,p5,p6⟩:=sept GA.out.row
           have hld:=zA GA.out.row
           have hBle:=GA.out.l3
           go_region_law (first
               | (refine zAB rfl (.tmp 33) (.tmp 36) 23 rfl Bq 78 i0 _ 4 48 Tryd.underlying23 hi0 hz0 hz1 hz2 rfl (by decide) (.slice pl l.length pc) l.length (l.flatMap pmCells) (by simp [Act.eval]) (GQ.out.own.alloc _) ⟨wq.heap.size,0,none⟩ 1 1 (pmCells y) (by simp [Act.eval]) rfl (zC9 rfl rfl) (zJV y) (by have:=HBD.out; unfold maxLen; omega) (by have:=HBD.out; omega) (by rw [zC]; have:=GQ.out.l3; omega) ?_; intro v' w8 hown hgrow hat; have G8:=vH (GQ.out.push hown hgrow); obtain ⟨np,nc,hnv⟩:=zBy hown; subst hnv; clear hown hgrow hat; clear d0 d1 d2 d3 d4 d5 d6 p0 p1 p2 p3 p4 p5 p6 hld; obtain ⟨⟨d0,d1,d2,d3,d4,d5,d6⟩,p0,p1,p2,p3,p4,p5,p6⟩:=sept G8.out.row; have hld:=zA G8.out.row)
               | (go_simp; go_wp2_with (go_at_call 21; (with_reducible refine Calls.mono (zCS HY.out GA.out.qr) ?_); rintro e wq ⟨rfl,hc,hg⟩; have GQ:=vH (GA.out.step hc hg); clear hc hg; clear d0 d1 d2 d3 d4 d5 d6 p0 p1 p2 p3 p4 p5 p6 hld; obtain ⟨⟨d0,d1,d2,d3,d4,d5,d6⟩,p0,p1,p2,p3,p4,p5,p6⟩:=sept GQ.out.row; have hld:=zA GQ.out.row)))
           all_goals
               go_wp2_with fail
               clear d0 d1 d2 d3 d4 d5 d6 p0 p1 p2 p3 p4 p5 p6 hld
               have G9:=vH (G8.out.put 1 (.slice np (l.length + 1) nc) rfl)
               refine (zI _ R S ts s5 G9.out.qr ⟨#[41]⟩ (by decide) false (by decide)).mono ?_
               rintro e w9 ⟨rfl,hb⟩
               replace G9:=vH (G9.out.go hb)
               clear hb
               cases hv2:Qe.is ts s5 false [41] with
               | true =>
                 rw [show Qg.comma ts s5 = s5 from if_pos hv2] at H5
                 try rw [hv2]
                 clear hv2
                 go_wp2_with fail
                 go_roundg m
                 case measure => omega
                 case rel => exact ⟨_,_,_,_,by simpa using G9.out,H5.out,by have:=HBD.out; simp; omega⟩
               | false =>
                 have HV2:=vH hv2
                 try rw [hv2]
                 clear hv2
                 go_wp2_with fail
                 refine (zJ _ R S ts s5 G9.out.qr ⟨#[44]⟩ (by decide) false (by decide)).mono ?_
                 rintro e wA ⟨rfl,hc,hg⟩
                 replace G9:=vH (G9.out.step hc hg)
                 clear hc hg
                 obtain ⟨s6,hs6⟩:∃ s6,Qe.take ts s5 false [44] = s6:=⟨_,rfl⟩
                 rw [show Qe.take ts s5 false (⟨#[44]⟩:ByteArray).data.toList = s6 from hs6] at G9
                 have HS6:=vH hs6
                 clear hs6
                 go_wp2_with fail
                 refine (zI _ R S ts s6 G9.out.qr ⟨#[41]⟩ (by decide) false (by decide)).mono ?_
                 rintro e wB ⟨rfl,hb⟩
                 replace G9:=vH (G9.out.go hb)
                 clear hb
                 cases hv3:Qe.is ts s6 false [41] with
                 | true =>
                   rw [show Qg.comma ts s5 = Qe.fail ts s6 2 by unfold Qg.comma; rw [HS6.out,hv3,HV2.out]; rfl] at H5
                   try rw [hv3]
                   clear hv3
                   go_wp2_with fail
                   refine (zAn _ R S ts s6 G9.out.qr 2).mono ?_
                   rintro e wC ⟨rfl,hc,hg⟩
                   replace G9:=vH (G9.out.step hc hg)
                   clear hc hg
                   go_wp2_with fail
                   go_roundg m
                   case measure => omega
                   case rel => exact ⟨_,_,_,_,by simpa using G9.out,H5.out,by have:=HBD.out; simp; omega⟩
                 | false =>
                   rw [show Qg.comma ts s5 = s6 by unfold Qg.comma; rw [HS6.out,hv3,HV2.out]; rfl] at H5
                   try rw [hv3]
                   clear hv3
                   go_wp2_with fail
                   go_roundg m
                   case measure => omega
                   case rel => exact ⟨_,_,_,_,by simpa using G9.out,H5.out,by have:=HBD.out; simp; omega⟩
 case rest =>
  obtain ⟨pl,pc,hcut⟩:=hcut
  have GA:=vH hcut
  clear hcut G H3
  go_wp2_with fail
  refine (zJ _ R S ts s3 GA.out.qr ⟨#[41]⟩ (by decide) false (by decide)).mono ?_
  rintro e w9 ⟨rfl,hc,hg⟩
  replace GA:=vH (GA.out.step hc hg)
  clear hc hg
  rw [show Qe.take ts s3 false (⟨#[41]⟩:ByteArray).data.toList = s2 from HS2.out] at GA
  go_wp2_with fail
  refine (zI _ R S ts s2 GA.out.qr ⟨#[58]⟩ (by decide) false (by decide)).mono ?_
  rintro e wA ⟨rfl,hb⟩
  replace GA:=vH (GA.out.go hb)
  clear hb
  cases hv:Qe.is ts s2 false [58] with
  | true =>
    have hR:=HR.out
    rw [show Qg.resultOf ts s2 = (true,Qe.of ts (Qe.next s2)) from if_pos hv] at hR
    obtain ⟨rfl,hO⟩:=Prod.mk.inj hR
    have HO:=vH hO
    try rw [hv]
    clear hv hR hO HR
    obtain ⟨⟨c0,c1,c2,c3,c4⟩,fr,hRl⟩:=GA.out.qr.cells
    have fr1:=fr 1
    clear fr
    obtain ⟨⟨d0,d1,d2,d3,d4,d5,d6⟩,p0,p1,p2,p3,p4,p5,p6⟩:=sept GA.out.row
    have hld:=zA GA.out.row
    go_wp2_with fail
    clear c0 c1 c2 c3 c4 fr1 hRl d0 d1 d2 d3 d4 d5 d6 p0 p1 p2 p3 p4 p5 p6 hld
    replace GA:=vH GA.out.setk
    replace GA:=vH (GA.out.put 2 (.bool true) rfl)
    have hro:=zCT _ R S ts _ GA.out.qr
    rw [HO.out] at hro
    refine hro.mono ?_
    rintro e wD ⟨rfl,hc,hg⟩
    replace GA:=vH (GA.out.step hc hg)
    clear hc hg hro
    obtain ⟨⟨d0,d1,d2,d3,d4,d5,d6⟩,p0,p1,p2,p3,p4,p5,p6⟩:=sept GA.out.row
    have hld:=zA GA.out.row
    go_wp2_with fail
    clear d0 d1 d2 d3 d4 d5 d6 p0 p1 p2 p3 p4 p5 p6 hld
    replace GA:=vH (GA.out.put 3 (.string (cbs rn)) rfl)
    replace GA:=vH (GA.out.put 4 (.int .i64 r) rfl)
    refine (HBB.out _ _ HBl.out _ R S GA.out.qr).mono ?_
    rintro e wE ⟨bp,bc,rfl,hat,hc,hg⟩
    have hA:=(⟨hat,GA.out.l3⟩:SsAt wE _ bp bl ∧ Bq ≤ _)
    have HA:=vH (hA.1.lower hA.2)
    replace GA:=vH (GA.out.step hc hg)
    clear hc hg hat hA
    obtain ⟨⟨d0,d1,d2,d3,d4,d5,d6⟩,p0,p1,p2,p3,p4,p5,p6⟩:=sept GA.out.row
    have hld:=zA GA.out.row
    obtain ⟨⟨a0,a1,a2,a3,a4,a5,a6⟩,q0,q1,q2,q3,q4,q5,q6⟩:=sept GA.out.res
    have hla:=zA GA.out.res
    go_wp2_with fail
    have hbB:=GA.out.l2
    have G9:=vH (GA.out.put 5 (.slice bp bl.length (bl.length + bc)) rfl)
    exact bodyPost_ret (v:=.agg #[.string (cbs nm),.slice pl ps.length pc,.bool true,.string (cbs rn),.int .i64 r,.slice bp bl.length (bl.length + bc),.int .i64 t.at_]) (by simp [results,Tryd.results23,go_sem,a0,a1,a2,a3,a4,a5,a6]) rfl (zHy HH.out G9.out (HA.out.ag ((Ag.refl _ _).set (.inl hbB) _)))
  | false =>
    have hR:=HR.out
    rw [show Qg.resultOf ts s2 = (false,[],0,s2) from if_neg (by rw [hv]; decide)] at hR
    obtain ⟨rfl,hR1⟩:=Prod.mk.inj hR
    obtain ⟨rfl,hR2⟩:=Prod.mk.inj hR1
    obtain ⟨rfl,rfl⟩:=Prod.mk.inj hR2
    try rw [hv]
    clear hv hR hR1 hR2 HR
    go_wp2_with fail
    refine (HBB.out _ _ HBl.out _ R S GA.out.qr).mono ?_
    rintro e wE ⟨bp,bc,rfl,hat,hc,hg⟩
    have hA:=(⟨hat,GA.out.l3⟩:SsAt wE _ bp bl ∧ Bq ≤ _)
    have HA:=vH (hA.1.lower hA.2)
    replace GA:=vH (GA.out.step hc hg)
    clear hc hg hat hA
    obtain ⟨⟨d0,d1,d2,d3,d4,d5,d6⟩,p0,p1,p2,p3,p4,p5,p6⟩:=sept GA.out.row
    have hld:=zA GA.out.row
    obtain ⟨⟨a0,a1,a2,a3,a4,a5,a6⟩,q0,q1,q2,q3,q4,q5,q6⟩:=sept GA.out.res
    have hla:=zA GA.out.res
    go_wp2_with fail
    have hbB:=GA.out.l2
    have G9:=vH (GA.out.put 5 (.slice bp bl.length (bl.length + bc)) rfl)
    exact bodyPost_ret (v:=.agg #[.string (cbs nm),.slice pl ps.length pc,.bool false,.string ⟨#[]⟩,.int .i64 0,.slice bp bl.length (bl.length + bc),.int .i64 t.at_]) (by simp [results,Tryd.results23,go_sem,a0,a1,a2,a3,a4,a5,a6]) rfl (zHy HH.out G9.out (HA.out.ag ((Ag.refl _ _).set (.inl hbB) _)))
structure QGs (w:World) (R:Nat) (S:Value) (ts:List RT) (B b:Nat) (vr vg vf c0 c1 c2:Value) (p:Gm) (s:Q) (wr:World):Prop where
 qr:Qr wr R S ts s
 gr:Gr R w wr
 row:wr.heap[b]? = some (.cells #[c0,c1,c2] 26 (0,0))
 l1:w.heap.size ≤ b
 l2:b < B
 l3:B ≤ wr.heap.size
 rs:OwnL RIs 75 3 (ex3 vr vg vf) B vr p.recs wr
 gs:OwnL PIs 78 4 (ex3 vr vg vf) B vg p.globals wr
 fs:OwnL FIs 82 7 (ex3 vr vg vf) B vf p.funcs wr
 d1:∀ k,vr.ownBlock = some k → vg.ownBlock ≠ some k
 d2:∀ k,vr.ownBlock = some k → vf.ownBlock ≠ some k
 d3:∀ k,vg.ownBlock = some k → vf.ownBlock ≠ some k
 h0:∃ s0,Qr w R S ts s0
section
variable {w wr w':World} {R B b:Nat} {S vr vg vf c0 c1 c2 c v':Value} {ts:List RT} {p:Gm} {s s':Q}
theorem QGs.rlt (h:QGs w R S ts B b vr vg vf c0 c1 c2 p s wr):R < w.heap.size:=by obtain ⟨s0,h0⟩:=h.h0; exact h0.lt
theorem QGs.exlt (h:QGs w R S ts B b vr vg vf c0 c1 c2 p s wr):∀ k,ex3 vr vg vf k → B ≤ k ∧ k < wr.heap.size:=fun k hk => by
 rcases hk with hk | hk | hk
 ·exact h.rs.lt k hk
 ·exact h.gs.lt k hk
 ·exact h.fs.lt k hk
theorem QGs.step (h:QGs w R S ts B b vr vg vf c0 c1 c2 p s wr)(hc:Qr w' R S ts s')(hg:Gr R wr w'):QGs w R S ts B b vr vg vf c0 c1 c2 p s' w':=by
 have hr:=h.rlt
 have h1:=h.l1
 have h2:=h.l2
 have hk:∀ bl,B ≤ bl → bl < wr.heap.size → w'.heap[bl]? = wr.heap[bl]?:=fun bl hb hl => hg.block bl hl (by omega)
 exact ⟨hc,h.gr.trans hg,hg.box h.row (by omega),h1,h2,Nat.le_trans h.l3 hg.size,h.rs.go hg.size hk,h.gs.go hg.size hk,h.fs.go hg.size hk,h.d1,h.d2,h.d3,h.h0⟩
theorem QGs.go (h:QGs w R S ts B b vr vg vf c0 c1 c2 p s wr)(hb:Below wr.heap.size wr w'):QGs w R S ts B b vr vg vf c0 c1 c2 p s w':=h.step (h.qr.go hb) (Gr.of hb)
theorem QGs.drew (h:QGs w R S ts B b vr vg vf c0 c1 c2 p s wr):QGs w R S ts B b vr vg vf c0 c1 c2 p s wr.drew:=h.go (Below.refl _ _).drew
theorem QGs.alloc (h:QGs w R S ts B b vr vg vf c0 c1 c2 p s wr)(o:Obj):QGs w R S ts B b vr vg vf c0 c1 c2 p s (wr.alloc o):=h.go ((Below.refl _ _).alloc (Nat.le_refl _) _)
theorem QGs.put {d0 d1 d2:Value}(h:QGs w R S ts B b vr vg vf c0 c1 c2 p s wr)(i:Nat)(u:Value)(hA:(#[c0,c1,c2]:Array Value).setIfInBounds i u = #[d0,d1,d2]):QGs w R S ts B b vr vg vf d0 d1 d2 p s (wr.setCell ⟨b,i,none⟩ u):=by
 have hr:=h.rlt
 have h1:=h.l1
 have h2:=h.l2
 have hn:=(Nw.start h.gr).set (p:=⟨b,i,none⟩) (by show w.heap.size ≤ b; omega) u
 have hk:∀ bl,bl ≠ b → (wr.setCell ⟨b,i,none⟩ u).heap[bl]? = wr.heap[bl]?:=fun bl hb => Below.heap_setCell wr ⟨b,i,none⟩ u bl hb
 have hk2:∀ bl,B ≤ bl → bl < wr.heap.size → (wr.setCell ⟨b,i,none⟩ u).heap[bl]? = wr.heap[bl]?:=fun bl hb _ => hk bl (by omega)
 have hs:wr.heap.size ≤ (wr.setCell ⟨b,i,none⟩ u).heap.size:=by rw [zY]; exact Nat.le_refl _
 obtain ⟨s0,h0⟩:=h.h0
 exact ⟨Qr.fin h0 h.qr hn,hn.gr,zAR h.row i u hA,h1,h2,Nat.le_trans h.l3 hs,h.rs.go hs hk2,h.gs.go hs hk2,h.fs.go hs hk2,h.d1,h.d2,h.d3,s0,h0⟩
theorem QGs.kept {w1 w3:World}{o:Obj}{v:Value}(h:QGs w R S ts B b vr vg vf c0 c1 c2 p s w1)(hgrow:(w1.alloc o).grownBy w3 v.ownBlock)(hv:∀ k,v.ownBlock = some k → B ≤ k) :
 Qr w3 R S ts s ∧ Gr R w w3 ∧ w3.heap[b]? = some (.cells #[c0,c1,c2] 26 (0,0)) ∧ w1.heap.size ≤ w3.heap.size ∧
 ∀ bl,bl < w1.heap.size → v.ownBlock ≠ some bl → w3.heap[bl]? = w1.heap[bl]?:=by
 have hr:=h.rlt
 have h1:=h.l1
 have h2:=h.l2
 have h3:=h.l3
 have hs:w1.heap.size ≤ w3.heap.size:=by have:=hgrow.size; rw [zC] at this; omega
 have hk:∀ bl,bl < w1.heap.size → v.ownBlock ≠ some bl → w3.heap[bl]? = w1.heap[bl]?:=fun bl hb hne =>
  (hgrow.block bl (by rw [zC]; omega) (fun e => hne e.symm)).trans (heap_alloc_old _ _ hb)
 have hlow:∀ bl,bl < B → w3.heap[bl]? = w1.heap[bl]?:=fun bl hb => hk bl (by omega) (fun e => by have:=hv bl e; omega)
 have hgr:Gr R w w3:=⟨hgrow.os.trans h.gr.os,hgrow.tape.trans h.gr.tape,hgrow.output.trans h.gr.output,Nat.le_trans h.gr.size hs,fun i hi hn => (hlow i (by omega)).trans (h.gr.block i hi hn)⟩
 obtain ⟨s0,h0⟩:=h.h0
 exact ⟨Qr.fin h0 h.qr ⟨⟨hgrow.os,hgrow.tape,hgrow.output,hs,fun i hi => hlow i (by omega)⟩,hgr⟩,hgr,(hlow b h2).trans h.row,hs,hk⟩
theorem QGs.pushR {w1 w3:World}{o:Obj}{x:Rc}{vs:List Value}{vss:List (List Value)}(h:QGs w R S ts B b vr vg vf c0 c1 c2 p s w1)(hl:vss.length = p.recs.length)(hk3:∀ (i:Nat) x vs,p.recs[i]? = some x → vss[i]? = some vs → But (fun w => RIs w B x vs) (ex3 vr vg vf) B w1)
 (hi:But (fun w => RIs w B x vs) (ex3 vr vg vf) B w1) (hown:w3.ownsRow B 75 3 v' (p.recs.length + 1) (vss.flatten ++ vs)) (hgrow:(w1.alloc o).grownBy w3 vr.ownBlock) (hat:v'.ownBlock = vr.ownBlock ∨ v'.ownBlock = some (w1.heap.size + 1)) :
 QGs w R S ts B b v' vg vf c0 c1 c2 (p.addR x) s w3:=by
 obtain ⟨k1,k2,k3,hs,hk⟩:=h.kept hgrow fun k hk => (h.rs.lt k hk).1
 have hkx:∀ bl,B ≤ bl → bl < w1.heap.size → ¬ ex3 vr vg vf bl → w3.heap[bl]? = w1.heap[bl]?:=fun bl _ hb hne => hk bl hb fun e => hne ((Or.inl) e)
 have hex:∀ k,ex3 v' vg vf k → ex3 vr vg vf k ∨ w1.heap.size ≤ k:=fun k hx => by
  rcases hx with hx | hx | hx
  ·rcases hat with hat | hat <;> rw [hat] at hx
   ·exact .inl ((Or.inl) hx)
   ·injection hx with hx; exact .inr (by omega)
  ·exact .inl (.inr (.inl hx))
  ·exact .inl (.inr (.inr hx))
 exact ⟨k1,k2,k3,h.l1,h.l2,Nat.le_trans h.l3 hs,OwnL.push hl hk3 hi hown hs hkx hex,h.gs.move hs (fun k hk' => hk k (h.gs.lt k hk').2 (fun e => h.d1 k e hk')) hkx hex,h.fs.move hs (fun k hk' => hk k (h.fs.lt k hk').2 (fun e => h.d2 k e hk')) hkx hex,fun k e e2 => by rcases hat with hat | hat <;> rw [hat] at e <;> first | exact h.d1 k e e2 | (injection e with e; have:=(h.gs.lt k e2).2; omega),fun k e e2 => by rcases hat with hat | hat <;> rw [hat] at e <;> first | exact h.d2 k e e2 | (injection e with e; have:=(h.fs.lt k e2).2; omega),h.d3,h.h0⟩
theorem QGs.pushG {w1 w3:World}{o:Obj}{x:Pm}{vs:List Value}{vss:List (List Value)}(h:QGs w R S ts B b vr vg vf c0 c1 c2 p s w1)(hl:vss.length = p.globals.length)(hk3:∀ (i:Nat) x vs,p.globals[i]? = some x → vss[i]? = some vs → But (fun w => PIs w B x vs) (ex3 vr vg vf) B w1)
 (hi:But (fun w => PIs w B x vs) (ex3 vr vg vf) B w1) (hown:w3.ownsRow B 78 4 v' (p.globals.length + 1) (vss.flatten ++ vs)) (hgrow:(w1.alloc o).grownBy w3 vg.ownBlock) (hat:v'.ownBlock = vg.ownBlock ∨ v'.ownBlock = some (w1.heap.size + 1)) :
 QGs w R S ts B b vr v' vf c0 c1 c2 (p.addG x) s w3:=by
 obtain ⟨k1,k2,k3,hs,hk⟩:=h.kept hgrow fun k hk => (h.gs.lt k hk).1
 have hkx:∀ bl,B ≤ bl → bl < w1.heap.size → ¬ ex3 vr vg vf bl → w3.heap[bl]? = w1.heap[bl]?:=fun bl _ hb hne => hk bl hb fun e => hne ((fun e => Or.inr (Or.inl e)) e)
 have hex:∀ k,ex3 vr v' vf k → ex3 vr vg vf k ∨ w1.heap.size ≤ k:=fun k hx => by
  rcases hx with hx | hx | hx
  ·exact .inl (.inl hx)
  ·rcases hat with hat | hat <;> rw [hat] at hx
   ·exact .inl ((fun e => Or.inr (Or.inl e)) hx)
   ·injection hx with hx; exact .inr (by omega)
  ·exact .inl (.inr (.inr hx))
 exact ⟨k1,k2,k3,h.l1,h.l2,Nat.le_trans h.l3 hs,h.rs.move hs (fun k hk' => hk k (h.rs.lt k hk').2 (fun e => h.d1 k hk' e)) hkx hex,OwnL.push hl hk3 hi hown hs hkx hex,h.fs.move hs (fun k hk' => hk k (h.fs.lt k hk').2 (fun e => h.d3 k e hk')) hkx hex,fun k e e2 => by rcases hat with hat | hat <;> rw [hat] at e2 <;> first | exact h.d1 k e e2 | (injection e2 with e2; have:=(h.rs.lt k e).2; omega),h.d2,fun k e e2 => by rcases hat with hat | hat <;> rw [hat] at e <;> first | exact h.d3 k e e2 | (injection e with e; have:=(h.fs.lt k e2).2; omega),h.h0⟩
theorem QGs.pushF {w1 w3:World}{o:Obj}{x:Fc}{vs:List Value}{vss:List (List Value)}(h:QGs w R S ts B b vr vg vf c0 c1 c2 p s w1)(hl:vss.length = p.funcs.length)(hk3:∀ (i:Nat) x vs,p.funcs[i]? = some x → vss[i]? = some vs → But (fun w => FIs w B x vs) (ex3 vr vg vf) B w1)
 (hi:But (fun w => FIs w B x vs) (ex3 vr vg vf) B w1) (hown:w3.ownsRow B 82 7 v' (p.funcs.length + 1) (vss.flatten ++ vs)) (hgrow:(w1.alloc o).grownBy w3 vf.ownBlock) (hat:v'.ownBlock = vf.ownBlock ∨ v'.ownBlock = some (w1.heap.size + 1)) :
 QGs w R S ts B b vr vg v' c0 c1 c2 (p.addF x) s w3:=by
 obtain ⟨k1,k2,k3,hs,hk⟩:=h.kept hgrow fun k hk => (h.fs.lt k hk).1
 have hkx:∀ bl,B ≤ bl → bl < w1.heap.size → ¬ ex3 vr vg vf bl → w3.heap[bl]? = w1.heap[bl]?:=fun bl _ hb hne => hk bl hb fun e => hne ((fun e => Or.inr (Or.inr e)) e)
 have hex:∀ k,ex3 vr vg v' k → ex3 vr vg vf k ∨ w1.heap.size ≤ k:=fun k hx => by
  rcases hx with hx | hx | hx
  ·exact .inl (.inl hx)
  ·exact .inl (.inr (.inl hx))
  ·rcases hat with hat | hat <;> rw [hat] at hx
   ·exact .inl ((fun e => Or.inr (Or.inr e)) hx)
   ·injection hx with hx; exact .inr (by omega)
 exact ⟨k1,k2,k3,h.l1,h.l2,Nat.le_trans h.l3 hs,h.rs.move hs (fun k hk' => hk k (h.rs.lt k hk').2 (fun e => h.d2 k hk' e)) hkx hex,h.gs.move hs (fun k hk' => hk k (h.gs.lt k hk').2 (fun e => h.d3 k hk' e)) hkx hex,OwnL.push hl hk3 hi hown hs hkx hex,h.d1,fun k e e2 => by rcases hat with hat | hat <;> rw [hat] at e2 <;> first | exact h.d2 k e e2 | (injection e2 with e2; have:=(h.rs.lt k e).2; omega),fun k e e2 => by rcases hat with hat | hat <;> rw [hat] at e2 <;> first | exact h.d3 k e e2 | (injection e2 with e2; have:=(h.gs.lt k e).2; omega),h.h0⟩
theorem QGs.setk (h:QGs w R S ts B b vr vg vf c0 c1 c2 p s wr):QGs w R S ts B b vr vg vf c0 c1 c2 p (Qe.next s) (wr.setCell ⟨R,1,none⟩ (.int .i64 (inc s.k))):=
 h.step (h.qr.set_k (inc s.k)) ((Gr.refl R wr).set 1 _)
end
theorem zBU {ts:List RT}{s:Q}{wd:Bool}{a b:List UInt8}(h:Qe.is ts s wd a = true)(hn:a ≠ b):Qe.is ts s wd b = false:=by
 cases hb:Qe.is ts s wd b with
 | false => rfl
 | true => exact absurd ((is_text h).2.2.symm.trans (is_text hb).2.2) hn
theorem zAx {w1:World}{R:Nat}{S:Value}{ts:List RT}{s:Q}{text:ByteArray}{v:Bool}(hv:Qe.is ts s true text.data.toList = v)(h0 : 0 < text.size)(hw:true = decide (97 ≤ (text[0].toNat:Int) ∧ (text[0].toNat:Int) ≤ 122))(h:Qr w1 R S ts s) :
 Calls Tryd.prog 18 #[.pointer (some ⟨R,0,none⟩),.string text] w1 fun e w' => e = .returned (.bool v) ∧ Below w1.heap.size w1 w':=by
 have:=zI w1 R S ts s h text h0 true hw
 rw [hv] at this
 exact this
section
variable {ts:List RT} {recB:Q → Qs.OutB} {g:Nat} {p:Gm} {s:Q} {x:Gm × Q}
theorem zM5 (h:Qg.loop ts recB (g + 1) p s = some x)(hv:¬ (s.E = 0 ∧ (tokAt ts s.k).kind ≠ 0)):x = (p,s):=by
 rw [Qg.loop,if_neg hv] at h
 exact (Option.some.inj h).symm
theorem zGL (h:Qg.loop ts recB (g + 1) p s = some x)(hE:s.E = 0)(hk:(tokAt ts s.k).kind ≠ 0)(ho:Qg.over ts p s):Qg.loop ts recB g p (Qe.fail ts s 4) = some x:=by
 rw [Qg.loop,if_pos ⟨hE,hk⟩,if_pos ho] at h
 exact h
theorem lq_R (h:Qg.loop ts recB (g + 1) p s = some x)(hE:s.E = 0)(hk:(tokAt ts s.k).kind ≠ 0)(h1:Qe.is ts s true [114,101,99,111,114,100] = true)(hl:p.recs.length ≠ 12) :
 ∃ y s2,Qg.record ts g (Qe.next s) = some (y,s2) ∧ Qg.loop ts recB g (p.addR y) s2 = some x:=by
 have ho:¬ Qg.over ts p s:=by
  rintro (⟨-,e⟩ | ⟨e,-⟩ | ⟨e,-⟩)
  ·exact hl e
  ·rw [zBU h1 (by decide)] at e; cases e
  ·rw [zBU h1 (by decide)] at e; cases e
 rw [Qg.loop,if_pos ⟨hE,hk⟩,if_neg ho,if_pos h1] at h
 split at h
 ·cases h
 ·rename_i y s2 hy
  exact ⟨y,s2,hy,h⟩
theorem lq_G (h:Qg.loop ts recB (g + 1) p s = some x)(hE:s.E = 0)(hk:(tokAt ts s.k).kind ≠ 0)(h1:Qe.is ts s true [103,108,111,98,97,108] = true)(hl:p.globals.length ≠ 8) :
 ∃ y s2,Qg.param ts (Qe.next s) = (y,s2) ∧ Qg.loop ts recB g (p.addG y) (Qe.take ts s2 false [59]) = some x:=by
 have hr:Qe.is ts s true [114,101,99,111,114,100] = false:=zBU h1 (by decide)
 have ho:¬ Qg.over ts p s:=by
  rintro (⟨e,-⟩ | ⟨-,e⟩ | ⟨e,-⟩)
  ·rw [hr] at e; cases e
  ·exact hl e
  ·rw [zBU h1 (by decide)] at e; cases e
 rw [Qg.loop,if_pos ⟨hE,hk⟩,if_neg ho,if_neg (by rw [hr]; decide),if_pos h1] at h
 exact ⟨_,_,rfl,h⟩
theorem lq_F (h:Qg.loop ts recB (g + 1) p s = some x)(hE:s.E = 0)(hk:(tokAt ts s.k).kind ≠ 0)(h1:Qe.is ts s true [102,117,110,99] = true)(hl:p.funcs.length ≠ 16) :
 ∃ y s2,Qg.function ts recB g (Qe.next s) = some (y,s2) ∧ Qg.loop ts recB g (p.addF y) s2 = some x:=by
 have hr:Qe.is ts s true [114,101,99,111,114,100] = false:=zBU h1 (by decide)
 have hg:Qe.is ts s true [103,108,111,98,97,108] = false:=zBU h1 (by decide)
 have ho:¬ Qg.over ts p s:=by
  rintro (⟨e,-⟩ | ⟨e,-⟩ | ⟨-,e⟩)
  ·rw [hr] at e; cases e
  ·rw [hg] at e; cases e
  ·exact hl e
 rw [Qg.loop,if_pos ⟨hE,hk⟩,if_neg ho,if_neg (by rw [hr]; decide),if_neg (by rw [hg]; decide),if_pos h1] at h
 split at h
 ·cases h
 ·rename_i y s2 hy
  exact ⟨y,s2,hy,h⟩
theorem zQr (h:Qg.loop ts recB (g + 1) p s = some x)(hE:s.E = 0)(hk:(tokAt ts s.k).kind ≠ 0)(hr:Qe.is ts s true [114,101,99,111,114,100] = false)(hg:Qe.is ts s true [103,108,111,98,97,108] = false)(hf:Qe.is ts s true [102,117,110,99] = false):Qg.loop ts recB g p (Qe.fail ts s 2) = some x:=by
 have ho:¬ Qg.over ts p s:=by
  rintro (⟨e,-⟩ | ⟨e,-⟩ | ⟨e,-⟩)
  ·rw [hr] at e; cases e
  ·rw [hg] at e; cases e
  ·rw [hf] at e; cases e
 rw [Qg.loop,if_pos ⟨hE,hk⟩,if_neg ho,if_neg (by rw [hr]; decide),if_neg (by rw [hg]; decide),if_neg (by rw [hf]; decide)] at h
 exact h
end
end Go.Proofs.YteadgahhchlgeaaDoor
