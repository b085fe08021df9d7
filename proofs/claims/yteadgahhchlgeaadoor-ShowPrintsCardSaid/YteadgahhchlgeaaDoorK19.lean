/-
  The answer's reader of statements (runrigref3), its contract
-/
import Derived.Test.YteadgahhchlgeaaDoorK18
import Derived.Test.YteadgahhchlgeaaDoorK02
import Derived.Laws.Rows
set_option maxRecDepth 8000
set_option maxHeartbeats 8000000
namespace Go.Proofs.YteadgahhchlgeaaDoor
open Go.RowKit
open Px (RT tokAt isT)
open Pe (inc dec Ex)
open Qe (Q)
open Ps (Sm kindOf nameOf)
theorem zKs:(Tryd.prog.info? 65).map (·.size) = some 9:=by kernel_rfl
theorem QStPost.eq {w:World}{R:Nat}{S:Value}{ts:List RT}{x y:Sm × Q}{e:Ending}{w':World}(h:y = x)(hh:QStPost w R S ts y e w'):QStPost w R S ts x e w':=h ▸ hh
theorem zJS {ts:List RT}{rx:Qs.RX}{at0:Int}{e0:Ex}{s1:Q}{x:Sm × Q}(h:Qs.plainPut ts rx at0 e0 s1 = some x)(st:Q)(hst:(if kindOf e0 ≠ 4 ∧ kindOf e0 ≠ 5 ∧ kindOf e0 ≠ 6 then Qe.fail ts s1 2 else s1) = st) :
 ∃ b0 s2,rx (Qe.take ts st false [61]) = some (b0,s2) ∧ ((if kindOf e0 = 4 then Sm.mk 3 (nameOf e0) [] 0 [b0] [] [] at0 0 else .mk 4 [] [] 0 [e0,b0] [] [] at0 0),Qe.take ts s2 false [59]) = x:=by
 unfold Qs.plainPut at h
 rw [hst] at h
 split at h
 ·cases h
 ·rename_i b0 s2 hb
  exact ⟨b0,s2,hb,Option.some.inj h⟩
theorem zIj (w:World)(R:Nat)(S:Value)(ts:List RT)(s:Q)(h:Qr w R S ts s)(at0:Int)(rx:Qs.RX)(hX:QXOk ts rx)(x:Sm × Q)(hx:Qs.plain ts rx at0 s = some x) :
 Calls Tryd.prog 101 #[.pointer (some ⟨R,0,none⟩),.agg #[.int .i64 0,.string ⟨#[]⟩,.string ⟨#[]⟩,.int .i64 0,.slice none 0 0,.slice none 0 0,.slice none 0 0,.int .i64 at0,.int .i64 0]] w (QStPost w R S ts x):=by
 unfold Qs.plain at hx
 split at hx
 ·cases hx
 rename_i e0 s1 he
 have HY:=vH hx
 have HX:=vH hX
 have HE:=vH he
 clear hx hX he
 have hlt:=h.lt
 have HH:=vH h
 have F:=vH (((Fr.ofq h).alloc (.cells #[.int .i64 0,.string ⟨#[]⟩,.string ⟨#[]⟩,.int .i64 0,.slice none 0 0,.slice none 0 0,.slice none 0 0,.int .i64 at0,.int .i64 0] 65)).alloc2 (.cells vS 65) (b:=w.heap.size + 1) (zC _ _))
 clear h
 go_in
 go_wp2_with fail
 have hnsZ:w.heap.size ≠ w.heap.size + 1:=by omega
 have hnZs:=Ne.symm hnsZ
 refine (HX.out _ _ HE.out _ R S F.out.qr).mono ?_
 rintro e u1 ⟨qk,qn,qs,qo,qd,qp,ql,qc,qa,qb,qr,qe,qf,rfl,hi,hr,hg⟩
 have Hq:=vH hi
 replace F:=vH (F.out.call hr hg)
 clear hi hr hg
 have HKD:=vH (Is.kind Hq.out).1
 have hnm:=vH (Is.kind Hq.out).2
 go_wp2_with fail
 replace F:=vH (F.out.alloc (.cells #[.int .i64 qk,.int .i64 qn,.string (cbs qs),.string (cbs qo),.int .i64 qd,.slice qp ql qc,.int .i64 qa,.int .i64 qb,.int .i64 qr,.int .i64 qe,.int .i64 qf] 45))
 have hneZ:=Nat.ne_of_gt ((List.pairwise_cons.1 F.out.nd).1 _ vA)
 have hnZe:=Ne.symm hneZ
 dsimp only at hneZ hnZe
 have hnes:=Nat.ne_of_gt ((List.pairwise_cons.1 F.out.nd).1 _ vB)
 have hnse:=Ne.symm hnes
 dsimp only at hnes hnse
 refine (zI _ R S ts _ F.out.qr ⟨#[61]⟩ (by decide) false (by decide)).mono ?_
 rintro e u2 ⟨rfl,hb⟩
 replace F:=vH (F.out.go hb)
 clear hb
 obtain ⟨b,hb⟩:∃ b,Qe.is ts s1 false [61] = b:=⟨_,rfl⟩
 try rw [hb]
 have HI:=vH hb
 clear hb
 cases b with
 | false =>
   replace HY:=vH (Option.some.inj (zB0 HY.out HI.out))
   have hk:=(F.out.keep _ vC).1
   obtain ⟨⟨a0,a1,a2,a3,a4,a5,a6,a7,a8⟩,b0,b1,b2,b3,b4,b5,b6,b7,b8⟩:=nen hk
   have hla:=zA hk
   clear hk
   have hk:=(F.out.keep _ vA).1
   obtain ⟨⟨x0,x1,x2,x3,x4,x5,x6,x7,x8,x9,xX⟩,y0,y1,y2,y3,y4,y5,y6,y7,y8,y9,yX⟩:=hen hk
   have hlx:=zA hk
   clear hk
   go_wp2_with fail
   replace F:=vH (F.out.put1 2 rfl 0 (.int .i64 9) rfl)
   replace F:=vH (F.out.put1 2 rfl 4 (.slice (some ⟨u2.heap.size,0,none⟩) 1 1) rfl)
   replace F:=vH (F.out.alloc2 (.cells #[.int .i64 qk,.int .i64 qn,.string (cbs qs),.string (cbs qo),.int .i64 qd,.slice qp ql qc,.int .i64 qa,.int .i64 qb,.int .i64 qr,.int .i64 qe,.int .i64 qf] 45) (b:=u2.heap.size) (by simp only [zY]))
   have hnrowe:=Nat.ne_of_gt ((List.pairwise_cons.1 F.out.nd).1 _ vA)
   have hnerow:=Ne.symm hnrowe
   dsimp only at hnrowe hnerow
   have hnrowZ:=Nat.ne_of_gt ((List.pairwise_cons.1 F.out.nd).1 _ vB)
   have hnZrow:=Ne.symm hnrowZ
   dsimp only at hnrowZ hnZrow
   have hnrows:=Nat.ne_of_gt ((List.pairwise_cons.1 F.out.nd).1 _ vC)
   have hnsrow:=Ne.symm hnrows
   dsimp only at hnrows hnsrow
   clear a0 a1 a2 a3 a4 a5 a6 a7 a8 b0 b1 b2 b3 b4 b5 b6 b7 b8 hla x0 x1 x2 x3 x4 x5 x6 x7 x8 x9 xX y0 y1 y2 y3 y4 y5 y6 y7 y8 y9 yX hlx
   refine (zI _ R S ts _ F.out.qr ⟨#[59]⟩ (by decide) false (by decide)).mono ?_
   rintro e u3 ⟨rfl,hb⟩
   replace F:=vH (F.out.go hb)
   clear hb
   obtain ⟨b,hb⟩:∃ b,Qe.is ts s1 false [59] = b:=⟨_,rfl⟩
   try rw [hb]
   have HJ:=vH hb
   clear hb
   have hq:∃ c st,(qk != 7) = c ∧ (if Qe.is ts s1 false [59] = true ∧ kindOf e0 ≠ 7 then Qe.fail ts s1 2 else s1) = st ∧ (b = false ∧ st = s1 ∨ b = true ∧ c = false ∧ st = s1 ∨ b = true ∧ c = true ∧ st = Qe.fail ts s1 2):=by
    refine ⟨_,_,rfl,rfl,?_⟩
    rw [HKD.out,HJ.out]
    cases b with
    | false => exact .inl ⟨rfl,if_neg (fun h => by cases h.1)⟩
    | true =>
      by_cases h7:qk = 7
      ·exact .inr (.inl ⟨rfl,by rw [h7]; rfl,if_neg (fun h => h.2 h7)⟩)
      ·exact .inr (.inr ⟨rfl,by simpa using h7,if_pos ⟨rfl,h7⟩⟩)
   obtain ⟨c,st,h7,hst,hq⟩:=hq
   have hy:=HY.out
   unfold Qs.plainDo at hy
   rw [hst] at hy
   replace HY:=vH hy
   clear hy hst
   rcases hq with ⟨rfl,rfl⟩ | ⟨rfl,rfl,rfl⟩ | ⟨rfl,rfl,rfl⟩
   all_goals
    have hk:=(F.out.keep _ vB).1
    obtain ⟨⟨x0,x1,x2,x3,x4,x5,x6,x7,x8,x9,xX⟩,y0,y1,y2,y3,y4,y5,y6,y7,y8,y9,yX⟩:=hen hk
    have hlx:=zA hk
    clear hk
    go_wp2_with fail
    clear x0 x1 x2 x3 x4 x5 x6 x7 x8 x9 xX y0 y1 y2 y3 y4 y5 y6 y7 y8 y9 yX hlx
    try (refine (zAn _ R S ts _ F.out.qr 2).mono ?_; rintro e u4 ⟨rfl,hr,hg⟩; have F2:Hid (Fr w R (QrK R S ts) _ _ _ _):=vH (F.out.step hr hg); clear F; have F:=F2; clear F2; clear hr hg; go_wp2_with fail)
    refine (zJ _ R S ts _ F.out.qr ⟨#[59]⟩ (by decide) false (by decide)).mono ?_
    rintro e u4 ⟨rfl,hr,hg⟩
    replace F:Hid (Fr w R (QrK R S ts) (Qe.take ts _ false [59]) _ _ _):=vH (F.out.step hr hg)
    clear hr hg
    have hk:=(F.out.keep _ vD).1
    obtain ⟨⟨a0,a1,a2,a3,a4,a5,a6,a7,a8⟩,b0,b1,b2,b3,b4,b5,b6,b7,b8⟩:=nen hk
    have hla:=zA hk
    clear hk
    have hk:=(F.out.keep _ vC).1
    obtain ⟨⟨d0,d1,d2,d3,d4,d5,d6,d7,d8⟩,g0,g1,g2,g3,g4,g5,g6,g7,g8⟩:=nen hk
    have hld:=zA hk
    clear hk
    go_wp2_with fail
    replace F:=vH (F.out.pw 2 rfl (.int .i64 9) (.string ⟨#[]⟩) (.string ⟨#[]⟩) (.int .i64 0) (.slice (some ⟨u2.heap.size,0,none⟩) 1 1) (.slice none 0 0) (.slice none 0 0) (.int .i64 at0) (.int .i64 0))
    exact bodyPost_ret (v:=.agg #[.int .i64 9,.string ⟨#[]⟩,.string ⟨#[]⟩,.int .i64 0,.slice (some ⟨u2.heap.size,0,none⟩) 1 1,.slice none 0 0,.slice none 0 0,.int .i64 at0,.int .i64 0]) (by simp [results,Tryd.results101,go_sem,d0,d1,d2,d3,d4,d5,d6,d7,d8]) rfl (QStPost.eq HY.out ⟨9,[],[],0,some ⟨u2.heap.size,0,none⟩,1,1,none,0,0,none,0,0,at0,0,rfl,SIs.mk (KidsAt.one (F.out.keep _ vA).1 (F.out.keep _ vA).2 (Is.lower (F.out.ag _ vA).2 _ (Hq.out.ag (F.out.ag _ vA).1)) rfl) SsAt.nil SsAt.nil 9 [] [] 0 at0 0,F.out.qr,F.out.gr⟩)
 | true =>
   replace HY:=vH (zAY HY.out HI.out)
   by_cases h4:qk = 4
   ·subst h4
    obtain ⟨b0,s2,hb,hy⟩:=zJS HY.out s1 (if_neg (fun h => h.1 HKD.out))
    rw [if_pos HKD.out] at hy
    have HB:=vH hb
    replace HY:=vH hy
    clear hb hy
    have hk:=(F.out.keep _ vA).1
    obtain ⟨⟨x0,x1,x2,x3,x4,x5,x6,x7,x8,x9,xX⟩,y0,y1,y2,y3,y4,y5,y6,y7,y8,y9,yX⟩:=hen hk
    have hlx:=zA hk
    clear hk
    go_wp2_with fail
    clear x0 x1 x2 x3 x4 x5 x6 x7 x8 x9 xX y0 y1 y2 y3 y4 y5 y6 y7 y8 y9 yX hlx
    refine (zJ _ R S ts _ F.out.qr ⟨#[61]⟩ (by decide) false (by decide)).mono ?_
    rintro e u3 ⟨rfl,hr,hg⟩
    replace F:Hid (Fr w R (QrK R S ts) (Qe.take ts _ false [61]) _ _ _):=vH (F.out.step hr hg)
    clear hr hg
    go_wp2_with fail
    refine (HX.out _ _ HB.out _ R S F.out.qr).mono ?_
    rintro e u4 ⟨pk,pn,ps,po,pd,pp,pl,pc,pa,pb,pr,pe,pf,rfl,hi,hr,hg⟩
    have Hp:=vH hi
    replace F:=vH (F.out.call hr hg)
    clear hi hr hg
    go_wp2_with fail
    replace F:=vH (F.out.alloc (.cells #[.int .i64 pk,.int .i64 pn,.string (cbs ps),.string (cbs po),.int .i64 pd,.slice pp pl pc,.int .i64 pa,.int .i64 pb,.int .i64 pr,.int .i64 pe,.int .i64 pf] 45))
    have hnbe:=Nat.ne_of_gt ((List.pairwise_cons.1 F.out.nd).1 _ vA)
    have hneb:=Ne.symm hnbe
    dsimp only at hnbe hneb
    have hnbZ:=Nat.ne_of_gt ((List.pairwise_cons.1 F.out.nd).1 _ vB)
    have hnZb:=Ne.symm hnbZ
    dsimp only at hnbZ hnZb
    have hnbs:=Nat.ne_of_gt ((List.pairwise_cons.1 F.out.nd).1 _ vC)
    have hnsb:=Ne.symm hnbs
    dsimp only at hnbs hnsb
    refine (zJ _ R S ts _ F.out.qr ⟨#[59]⟩ (by decide) false (by decide)).mono ?_
    rintro e u5 ⟨rfl,hr,hg⟩
    replace F:Hid (Fr w R (QrK R S ts) (Qe.take ts s2 false [59]) _ _ _):=vH (F.out.step hr hg)
    clear hr hg
    have hk:=(F.out.keep _ vB).1
    obtain ⟨⟨x0,x1,x2,x3,x4,x5,x6,x7,x8,x9,xX⟩,y0,y1,y2,y3,y4,y5,y6,y7,y8,y9,yX⟩:=hen hk
    have hlx:=zA hk
    clear hk
    have hk:=(F.out.keep _ vA).1
    obtain ⟨⟨m0,m1,m2,m3,m4,m5,m6,m7,m8,m9,mX⟩,k0,k1,k2,k3,k4,k5,k6,k7,k8,k9,kX⟩:=hen hk
    have hlm:=zA hk
    clear hk
    have hk:=(F.out.keep _ vD).1
    obtain ⟨⟨a0,a1,a2,a3,a4,a5,a6,a7,a8⟩,b0,b1,b2,b3,b4,b5,b6,b7,b8⟩:=nen hk
    have hla:=zA hk
    clear hk y0 y1 y2 y3 y4 y5 y6 y7 y8 y9 yX k0 k1 k2 k3 k4 k5 k6 k7 k8 k9 kX
    replace F:=vH (F.out.put1 3 rfl 0 (.int .i64 3) rfl)
    replace F:=vH (F.out.put1 3 rfl 1 (.string (cbs qs)) rfl)
    replace F:=vH (F.out.put1 3 rfl 4 (.slice (some ⟨u5.heap.size,0,none⟩) 1 1) rfl)
    replace F:=vH (F.out.alloc2 (.cells #[.int .i64 pk,.int .i64 pn,.string (cbs ps),.string (cbs po),.int .i64 pd,.slice pp pl pc,.int .i64 pa,.int .i64 pb,.int .i64 pr,.int .i64 pe,.int .i64 pf] 45) (b:=u5.heap.size) (by simp only [zY]))
    have hnrowb:=Nat.ne_of_gt ((List.pairwise_cons.1 F.out.nd).1 _ vA)
    have hnbrow:=Ne.symm hnrowb
    dsimp only at hnrowb hnbrow
    have hnrowe:=Nat.ne_of_gt ((List.pairwise_cons.1 F.out.nd).1 _ vB)
    have hnerow:=Ne.symm hnrowe
    dsimp only at hnrowe hnerow
    have hnrowZ:=Nat.ne_of_gt ((List.pairwise_cons.1 F.out.nd).1 _ vC)
    have hnZrow:=Ne.symm hnrowZ
    dsimp only at hnrowZ hnZrow
    have hnrows:=Nat.ne_of_gt ((List.pairwise_cons.1 F.out.nd).1 _ vD)
    have hnsrow:=Ne.symm hnrows
    dsimp only at hnrows hnsrow
    have HROW:=vH (F.out.keep _ (List.Mem.tail _ vD)).1
    obtain ⟨wz,hwz⟩:∃ wz,wz = (((u5.setCell ⟨w.heap.size,0,none⟩ (.int .i64 3)).setCell ⟨w.heap.size,1,none⟩ (.string (cbs qs))).setCell ⟨w.heap.size,4,none⟩ (.slice (some ⟨u5.heap.size,0,none⟩) 1 1)).alloc (.cells #[.int .i64 pk,.int .i64 pn,.string (cbs ps),.string (cbs po),.int .i64 pd,.slice pp pl pc,.int .i64 pa,.int .i64 pb,.int .i64 pr,.int .i64 pe,.int .i64 pf] 45):=⟨_,rfl⟩
    rw [← hwz] at F
    go_wp2_with (refine wpList_load_row rfl 65 (.tmp 3) rfl w.heap.size rfl 65 #[.int .i64 3,.string (cbs qs),.string ⟨#[]⟩,.int .i64 0,.slice (some ⟨u5.heap.size,0,none⟩) 1 1,.slice none 0 0,.slice none 0 0,.int .i64 at0,.int .i64 0] (0,0) _ ?hs Tryd.underlying65 rfl zKs ?_; (case hs => exact HROW.out); rw [← hwz]; clear hwz x0 x1 x2 x3 x4 x5 x6 x7 x8 x9 xX m0 m1 m2 m3 m4 m5 m6 m7 m8 m9 mX a0 a1 a2 a3 a4 a5 a6 a7 a8 b0 b1 b2 b3 b4 b5 b6 b7 b8 hlx hlm hla; have hk:=(F.out.keep _ vD).1; obtain ⟨⟨d0,d1,d2,d3,d4,d5,d6,d7,d8⟩,g0,g1,g2,g3,g4,g5,g6,g7,g8⟩:=nen hk; have hld:=zA hk; clear hk)
    replace F:=vH (F.out.pw 3 rfl (.int .i64 3) (.string (cbs qs)) (.string ⟨#[]⟩) (.int .i64 0) (.slice (some ⟨u5.heap.size,0,none⟩) 1 1) (.slice none 0 0) (.slice none 0 0) (.int .i64 at0) (.int .i64 0))
    exact bodyPost_ret (v:=.agg #[.int .i64 3,.string (cbs qs),.string ⟨#[]⟩,.int .i64 0,.slice (some ⟨u5.heap.size,0,none⟩) 1 1,.slice none 0 0,.slice none 0 0,.int .i64 at0,.int .i64 0]) (by simp [results,Tryd.results101,go_sem,d0,d1,d2,d3,d4,d5,d6,d7,d8]) rfl (QStPost.eq HY.out ⟨3,qs,[],0,some ⟨u5.heap.size,0,none⟩,1,1,none,0,0,none,0,0,at0,0,rfl,SIs.named (SIs.mk (KidsAt.one (F.out.keep _ vA).1 (F.out.keep _ vA).2 (Is.lower (F.out.ag _ vA).2 _ (Hp.out.ag (F.out.ag _ vA).1)) rfl) SsAt.nil SsAt.nil 3 (nameOf e0) [] 0 at0 0) hnm.out,F.out.qr,F.out.gr⟩)
   ·have hq:∃ c5 c6 st,(qk != 5) = c5 ∧ (qk != 6) = c6 ∧ (if kindOf e0 ≠ 4 ∧ kindOf e0 ≠ 5 ∧ kindOf e0 ≠ 6 then Qe.fail ts s1 2 else s1) = st ∧ (c5 = false ∧ st = s1 ∨ c5 = true ∧ c6 = false ∧ st = s1 ∨ c5 = true ∧ c6 = true ∧ st = Qe.fail ts s1 2):=by
        refine ⟨_,_,_,rfl,rfl,rfl,?_⟩
        rw [HKD.out]
        by_cases h5:qk = 5
        ·exact .inl ⟨by rw [h5]; rfl,if_neg (fun h => h.2.1 h5)⟩
        ·by_cases h6:qk = 6
         ·exact .inr (.inl ⟨by simpa using h5,by rw [h6]; rfl,if_neg (fun h => h.2.2 h6)⟩)
         ·exact .inr (.inr ⟨by simpa using h5,by simpa using h6,if_pos ⟨h4,h5,h6⟩⟩)
    obtain ⟨c5,c6,st,g5,g6,hst,hq⟩:=hq
    obtain ⟨b0,s2,hb,hy⟩:=zJS HY.out st hst
    rw [HKD.out,if_neg h4] at hy
    have g4:(qk != 4) = true:=by simpa using h4
    have g4b:(qk == 4) = false:=by simpa using h4
    have HB:=vH hb
    replace HY:=vH hy
    clear hb hy hst h4
    rcases hq with ⟨rfl,rfl⟩ | ⟨rfl,rfl,rfl⟩ | ⟨rfl,rfl,rfl⟩
    all_goals
        have hk:=(F.out.keep _ vA).1
        obtain ⟨⟨x0,x1,x2,x3,x4,x5,x6,x7,x8,x9,xX⟩,y0,y1,y2,y3,y4,y5,y6,y7,y8,y9,yX⟩:=hen hk
        have hlx:=zA hk
        clear hk
        go_wp2_with fail
        clear x0 x1 x2 x3 x4 x5 x6 x7 x8 x9 xX y0 y1 y2 y3 y4 y5 y6 y7 y8 y9 yX hlx
        try (refine (zAn _ R S ts _ F.out.qr 2).mono ?_; rintro e u3 ⟨rfl,hr,hg⟩; have F2:Hid (Fr w R (QrK R S ts) _ _ _ _):=vH (F.out.step hr hg); clear F; have F:=F2; clear F2; clear hr hg; go_wp2_with fail)
        refine (zJ _ R S ts _ F.out.qr ⟨#[61]⟩ (by decide) false (by decide)).mono ?_
        rintro e u3 ⟨rfl,hr,hg⟩
        replace F:Hid (Fr w R (QrK R S ts) (Qe.take ts _ false [61]) _ _ _):=vH (F.out.step hr hg)
        clear hr hg
        go_wp2_with fail
        refine (HX.out _ _ HB.out _ R S F.out.qr).mono ?_
        rintro e u4 ⟨pk,pn,ps,po,pd,pp,pl,pc,pa,pb,pr,pe,pf,rfl,hi,hr,hg⟩
        have Hp:=vH hi
        replace F:=vH (F.out.call hr hg)
        clear hi hr hg
        go_wp2_with fail
        replace F:=vH (F.out.alloc (.cells #[.int .i64 pk,.int .i64 pn,.string (cbs ps),.string (cbs po),.int .i64 pd,.slice pp pl pc,.int .i64 pa,.int .i64 pb,.int .i64 pr,.int .i64 pe,.int .i64 pf] 45))
        have hnbe:=Nat.ne_of_gt ((List.pairwise_cons.1 F.out.nd).1 _ vA)
        have hneb:=Ne.symm hnbe
        dsimp only at hnbe hneb
        have hnbZ:=Nat.ne_of_gt ((List.pairwise_cons.1 F.out.nd).1 _ vB)
        have hnZb:=Ne.symm hnbZ
        dsimp only at hnbZ hnZb
        have hnbs:=Nat.ne_of_gt ((List.pairwise_cons.1 F.out.nd).1 _ vC)
        have hnsb:=Ne.symm hnbs
        dsimp only at hnbs hnsb
        refine (zJ _ R S ts _ F.out.qr ⟨#[59]⟩ (by decide) false (by decide)).mono ?_
        rintro e u5 ⟨rfl,hr,hg⟩
        replace F:Hid (Fr w R (QrK R S ts) (Qe.take ts s2 false [59]) _ _ _):=vH (F.out.step hr hg)
        clear hr hg
        have hk:=(F.out.keep _ vB).1
        obtain ⟨⟨x0,x1,x2,x3,x4,x5,x6,x7,x8,x9,xX⟩,y0,y1,y2,y3,y4,y5,y6,y7,y8,y9,yX⟩:=hen hk
        have hlx:=zA hk
        clear hk
        have hk:=(F.out.keep _ vA).1
        obtain ⟨⟨m0,m1,m2,m3,m4,m5,m6,m7,m8,m9,mX⟩,k0,k1,k2,k3,k4,k5,k6,k7,k8,k9,kX⟩:=hen hk
        have hlm:=zA hk
        clear hk
        have hk:=(F.out.keep _ vD).1
        obtain ⟨⟨a0,a1,a2,a3,a4,a5,a6,a7,a8⟩,b0,b1,b2,b3,b4,b5,b6,b7,b8⟩:=nen hk
        have hla:=zA hk
        clear hk y0 y1 y2 y3 y4 y5 y6 y7 y8 y9 yX k0 k1 k2 k3 k4 k5 k6 k7 k8 k9 kX
        replace F:=vH (F.out.put1 3 rfl 0 (.int .i64 4) rfl)
        replace F:=vH (F.out.put1 3 rfl 4 (.slice (some ⟨u5.heap.size,0,none⟩) 2 2) rfl)
        replace F:=vH (F.out.alloc2 (.cells #[.int .i64 qk,.int .i64 qn,.string (cbs qs),.string (cbs qo),.int .i64 qd,.slice qp ql qc,.int .i64 qa,.int .i64 qb,.int .i64 qr,.int .i64 qe,.int .i64 qf,.int .i64 pk,.int .i64 pn,.string (cbs ps),.string (cbs po),.int .i64 pd,.slice pp pl pc,.int .i64 pa,.int .i64 pb,.int .i64 pr,.int .i64 pe,.int .i64 pf] 45) (b:=u5.heap.size) (by simp only [zY]))
        have hnrowb:=Nat.ne_of_gt ((List.pairwise_cons.1 F.out.nd).1 _ vA)
        have hnbrow:=Ne.symm hnrowb
        dsimp only at hnrowb hnbrow
        have hnrowe:=Nat.ne_of_gt ((List.pairwise_cons.1 F.out.nd).1 _ vB)
        have hnerow:=Ne.symm hnrowe
        dsimp only at hnrowe hnerow
        have hnrowZ:=Nat.ne_of_gt ((List.pairwise_cons.1 F.out.nd).1 _ vC)
        have hnZrow:=Ne.symm hnrowZ
        dsimp only at hnrowZ hnZrow
        have hnrows:=Nat.ne_of_gt ((List.pairwise_cons.1 F.out.nd).1 _ vD)
        have hnsrow:=Ne.symm hnrows
        dsimp only at hnrows hnsrow
        have HROW:=vH (F.out.keep _ (List.Mem.tail _ vD)).1
        obtain ⟨wz,hwz⟩:∃ wz,wz = ((u5.setCell ⟨w.heap.size,0,none⟩ (.int .i64 4)).setCell ⟨w.heap.size,4,none⟩ (.slice (some ⟨u5.heap.size,0,none⟩) 2 2)).alloc (.cells #[.int .i64 qk,.int .i64 qn,.string (cbs qs),.string (cbs qo),.int .i64 qd,.slice qp ql qc,.int .i64 qa,.int .i64 qb,.int .i64 qr,.int .i64 qe,.int .i64 qf,.int .i64 pk,.int .i64 pn,.string (cbs ps),.string (cbs po),.int .i64 pd,.slice pp pl pc,.int .i64 pa,.int .i64 pb,.int .i64 pr,.int .i64 pe,.int .i64 pf] 45):=⟨_,rfl⟩
        rw [← hwz] at F
        go_wp2_with (refine wpList_load_row rfl 65 (.tmp 3) rfl w.heap.size rfl 65 #[.int .i64 4,.string ⟨#[]⟩,.string ⟨#[]⟩,.int .i64 0,.slice (some ⟨u5.heap.size,0,none⟩) 2 2,.slice none 0 0,.slice none 0 0,.int .i64 at0,.int .i64 0] (0,0) _ ?hs Tryd.underlying65 rfl zKs ?_; (case hs => exact HROW.out); rw [← hwz]; clear hwz x0 x1 x2 x3 x4 x5 x6 x7 x8 x9 xX m0 m1 m2 m3 m4 m5 m6 m7 m8 m9 mX a0 a1 a2 a3 a4 a5 a6 a7 a8 b0 b1 b2 b3 b4 b5 b6 b7 b8 hlx hlm hla; have hk:=(F.out.keep _ vD).1; obtain ⟨⟨d0,d1,d2,d3,d4,d5,d6,d7,d8⟩,g0,g1,g2,g3,g4,g5,g6,g7,g8⟩:=nen hk; have hld:=zA hk; clear hk)
        replace F:=vH (F.out.pw 3 rfl (.int .i64 4) (.string ⟨#[]⟩) (.string ⟨#[]⟩) (.int .i64 0) (.slice (some ⟨u5.heap.size,0,none⟩) 2 2) (.slice none 0 0) (.slice none 0 0) (.int .i64 at0) (.int .i64 0))
        exact bodyPost_ret (v:=.agg #[.int .i64 4,.string ⟨#[]⟩,.string ⟨#[]⟩,.int .i64 0,.slice (some ⟨u5.heap.size,0,none⟩) 2 2,.slice none 0 0,.slice none 0 0,.int .i64 at0,.int .i64 0]) (by simp [results,Tryd.results101,go_sem,d0,d1,d2,d3,d4,d5,d6,d7,d8]) rfl (QStPost.eq HY.out ⟨4,[],[],0,some ⟨u5.heap.size,0,none⟩,2,2,none,0,0,none,0,0,at0,0,rfl,SIs.mk (KidsAt.two (F.out.keep _ vA).1 (F.out.keep _ vA).2 (Is.lower (F.out.ag _ vB).2 _ (Hq.out.ag (F.out.ag _ vB).1)) (Is.lower (F.out.ag _ vA).2 _ (Hp.out.ag (F.out.ag _ vA).1)) rfl) SsAt.nil SsAt.nil 4 [] [] 0 at0 0,F.out.qr,F.out.gr⟩)
end Go.Proofs.YteadgahhchlgeaaDoor
