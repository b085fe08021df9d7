/-
  The answer's reader of statements (runrigref3), its contract
-/
import Derived.Test.YteadgahhchlgeaaDoorK19
import Derived.Test.YteadgahhchlgeaaDoorK02
set_option maxRecDepth 8000
set_option maxHeartbeats 8000000
namespace Go.Proofs.YteadgahhchlgeaaDoor
open Go.RowKit
open Px (RT tokAt isT)
open Pe (inc dec Ex)
open Qe (Q)
open Ps (Sm kindOf nameOf)
theorem zJB (w:World)(R:Nat)(S:Value)(ts:List RT)(s:Q)(h:Qr w R S ts s)(rx:Qs.RX)(hX:QXOk ts rx)(recB:Q → Qs.OutB)(hB:QBlOk ts recB)(x:Sm × Q)(hx:Qs.stmt ts rx recB s = some x) :
 Calls Tryd.prog 72 #[.pointer (some ⟨R,0,none⟩)] w (QStPost w R S ts x):=by
 unfold Qs.stmt Qs.declared Qs.choice Qs.loop Qs.result Qs.output at hx
 have htk:=fun w1 hh => zAt w1 R S ts s hh
 obtain ⟨t,ht⟩:∃ t,tokAt ts s.k = t:=⟨_,rfl⟩
 rw [ht] at htk hx
 unfold tokW at htk
 have HY:=vH hx
 have HT:=vH ht
 have HTK:=vH htk
 have HX:=vH hX
 have HBK:=vH hB
 clear htk ht hx hX hB
 have hlt:=h.lt
 have HH:=vH h
 have F:=vH ((Fr.ofq h).alloc (.cells vS 65))
 clear h
 go_in
 go_wp2_with fail
 refine (HTK.out _ F.out.qr).mono ?_
 rintro e u1 ⟨rfl,hb⟩
 replace F:=vH (F.out.go hb)
 clear hb
 go_wp2_with fail
 replace F:=vH (F.out.alloc (.cells (vT t) 71))
 have hnTZ:=Nat.ne_of_gt ((List.pairwise_cons.1 F.out.nd).1 _ vA)
 have hnZT:=Ne.symm hnTZ
 dsimp only at hnTZ hnZT
 replace F:=vH (F.out.alloc2 (.cells #[.int .i64 0,.string ⟨#[]⟩,.string ⟨#[]⟩,.int .i64 0,.slice none 0 0,.slice none 0 0,.slice none 0 0,.int .i64 t.at_,.int .i64 0] 65) (b:=u1.heap.size + 1) (zC _ _))
 have hnsT:=Nat.ne_of_gt ((List.pairwise_cons.1 F.out.nd).1 _ vA)
 have hnTs:=Ne.symm hnsT
 dsimp only at hnsT hnTs
 have hnsZ:=Nat.ne_of_gt ((List.pairwise_cons.1 F.out.nd).1 _ vB)
 have hnZs:=Ne.symm hnsZ
 dsimp only at hnsZ hnZs
 refine (zI _ R S ts _ F.out.qr ⟨#[118,97,114]⟩ (by decide) true (by decide)).mono ?_
 rintro e u2 ⟨rfl,hb⟩
 replace F:=vH (F.out.go hb)
 clear hb
 obtain ⟨b,hb⟩:∃ b,Qe.is ts s true [118,97,114] = b:=⟨_,rfl⟩
 try rw [hb]
 have HV0:=vH hb
 clear hb
 cases b with
 | true =>
   replace HY:=vH (zAY HY.out (by rw [HV0.out]; rfl))
   obtain ⟨⟨c0,c1,c2,c3,c4⟩,fr,hRl⟩:=F.out.qr.cells
   have fr1:=fr 1
   clear fr
   have hRs:=Nat.ne_of_lt (Nat.lt_of_lt_of_le hlt (F.out.keep _ vA).2)
   have hsR:=Ne.symm hRs
   dsimp only at hRs hsR
   have hk:=(F.out.keep _ vA).1
   obtain ⟨⟨a0,a1,a2,a3,a4,a5,a6,a7,a8⟩,b0,b1,b2,b3,b4,b5,b6,b7,b8⟩:=nen hk
   have hla:=zA hk
   clear hk
   go_wp2_with fail
   clear c0 c1 c2 c3 c4 fr1 hRl a0 a1 a2 a3 a4 a5 a6 a7 a8 b0 b1 b2 b3 b4 b5 b6 b7 b8 hla hRs hsR
   replace F:=vH (F.out.setk)
   replace F:=vH (F.out.put1 0 rfl 0 (.int .i64 1) rfl)
   obtain ⟨nm,s1,hn⟩:∃ nm s1,Qe.name ts (Qe.next s) = (nm,s1):=⟨_,_,rfl⟩
   obtain ⟨on,dm,s2,ho⟩:∃ on dm s2,Qe.of ts (Qe.take ts s1 false [58]) = (on,dm,s2):=⟨_,_,_,rfl⟩
   have hd:Qs.decl ts s = (nm,on,dm,s2):=by simp only [Qs.decl,hn,ho]
   have hx:=HY.out
   rw [hd] at hx
   dsimp only at hx
   rw [if_neg (by rw [← HT.out,(is_text HV0.out).2.2]; decide)] at hx
   replace HY:=vH hx
   have HN:=vH hn
   have HO:=vH ho
   clear hx hd hn ho
   have htx:((cbs t.text).toList == [108,101,116]) = false:=by rw [zR,← HT.out,(is_text HV0.out).2.2]; rfl
   refine (zAG _ R S ts _ F.out.qr ).mono ?_
   rw [HN.out]
   rintro e un ⟨rfl,hr,hg⟩
   replace F:Hid (Fr w R (QrK R S ts) s1 _ _ _):=vH (F.out.step hr hg)
   clear hr hg
   have hk:=(F.out.keep _ vA).1
   obtain ⟨⟨a0,a1,a2,a3,a4,a5,a6,a7,a8⟩,b0,b1,b2,b3,b4,b5,b6,b7,b8⟩:=nen hk
   have hla:=zA hk
   clear hk
   go_wp2_with fail
   clear a0 a1 a2 a3 a4 a5 a6 a7 a8 b0 b1 b2 b3 b4 b5 b6 b7 b8 hla
   replace F:=vH (F.out.put1 0 rfl 1 (.string (cbs nm)) rfl)
   refine (zJ _ R S ts _ F.out.qr ⟨#[58]⟩ (by decide) false (by decide)).mono ?_
   rintro e u3 ⟨rfl,hr,hg⟩
   replace F:Hid (Fr w R (QrK R S ts) (Qe.take ts s1 false [58]) _ _ _):=vH (F.out.step hr hg)
   clear hr hg
   go_wp2_with fail
   refine (zCT _ R S ts _ F.out.qr ).mono ?_
   rw [HO.out]
   rintro e uo ⟨rfl,hr,hg⟩
   replace F:Hid (Fr w R (QrK R S ts) s2 _ _ _):=vH (F.out.step hr hg)
   clear hr hg
   have hk:=(F.out.keep _ vB).1
   obtain ⟨⟨t0,t1,t2,t3⟩,q0,q1,q2,q3⟩:=quad hk
   have hlt:=zA hk
   clear hk q0 q1 q2 q3
   have hk:=(F.out.keep _ vA).1
   obtain ⟨⟨a0,a1,a2,a3,a4,a5,a6,a7,a8⟩,b0,b1,b2,b3,b4,b5,b6,b7,b8⟩:=nen hk
   have hla:=zA hk
   clear hk
   go_wp2_with fail
   clear t0 t1 t2 t3 hlt a0 a1 a2 a3 a4 a5 a6 a7 a8 b0 b1 b2 b3 b4 b5 b6 b7 b8 hla
   replace F:=vH (F.out.put1 0 rfl 2 (.string (cbs on)) rfl)
   replace F:=vH (F.out.put1 0 rfl 3 (.int .i64 (dm:Nat)) rfl)
   refine (zJ _ R S ts _ F.out.qr ⟨#[59]⟩ (by decide) false (by decide)).mono ?_
   rintro e u4 ⟨rfl,hr,hg⟩
   replace F:Hid (Fr w R (QrK R S ts) (Qe.take ts s2 false [59]) _ _ _):=vH (F.out.step hr hg)
   clear hr hg
   have hk:=(F.out.keep _ vA).1
   obtain ⟨⟨a0,a1,a2,a3,a4,a5,a6,a7,a8⟩,b0,b1,b2,b3,b4,b5,b6,b7,b8⟩:=nen hk
   have hla:=zA hk
   clear hk
   have hk:=(F.out.keep _ vC).1
   obtain ⟨⟨d0,d1,d2,d3,d4,d5,d6,d7,d8⟩,g0,g1,g2,g3,g4,g5,g6,g7,g8⟩:=nen hk
   have hld:=zA hk
   clear hk
   go_wp2_with fail
   replace F:=vH (F.out.pw 2 rfl (.int .i64 1) (.string (cbs nm)) (.string (cbs on)) (.int .i64 (dm:Nat)) (.slice none 0 0) (.slice none 0 0) (.slice none 0 0) (.int .i64 t.at_) (.int .i64 0))
   exact bodyPost_ret (v:=.agg #[.int .i64 1,.string (cbs nm),.string (cbs on),.int .i64 (dm:Nat),.slice none 0 0,.slice none 0 0,.slice none 0 0,.int .i64 t.at_,.int .i64 0]) (by simp [results,Tryd.results72,go_sem,d0,d1,d2,d3,d4,d5,d6,d7,d8]) rfl (QStPost.eq (Option.some.inj HY.out) ⟨1,nm,on,dm,none,0,0,none,0,0,none,0,0,t.at_,0,rfl,SIs.mk KidsAt.nil SsAt.nil SsAt.nil 1 nm on dm t.at_ 0,F.out.qr,F.out.gr⟩)
 | false =>
   go_wp2_with fail
   refine (zI _ R S ts _ F.out.qr ⟨#[108,101,116]⟩ (by decide) true (by decide)).mono ?_
   rintro e u3 ⟨rfl,hb⟩
   replace F:=vH (F.out.go hb)
   clear hb
   obtain ⟨b,hb⟩:∃ b,Qe.is ts s true [108,101,116] = b:=⟨_,rfl⟩
   try rw [hb]
   have HV1:=vH hb
   clear hb
   cases b with
   | true =>
     replace HY:=vH (zAY HY.out (by rw [HV0.out,HV1.out]; rfl))
     obtain ⟨⟨c0,c1,c2,c3,c4⟩,fr,hRl⟩:=F.out.qr.cells
     have fr1:=fr 1
     clear fr
     have hRs:=Nat.ne_of_lt (Nat.lt_of_lt_of_le hlt (F.out.keep _ vA).2)
     have hsR:=Ne.symm hRs
     dsimp only at hRs hsR
     have hk:=(F.out.keep _ vA).1
     obtain ⟨⟨a0,a1,a2,a3,a4,a5,a6,a7,a8⟩,b0,b1,b2,b3,b4,b5,b6,b7,b8⟩:=nen hk
     have hla:=zA hk
     clear hk
     go_wp2_with fail
     clear c0 c1 c2 c3 c4 fr1 hRl a0 a1 a2 a3 a4 a5 a6 a7 a8 b0 b1 b2 b3 b4 b5 b6 b7 b8 hla hRs hsR
     replace F:=vH (F.out.setk)
     replace F:=vH (F.out.put1 0 rfl 0 (.int .i64 1) rfl)
     obtain ⟨nm,s1,hn⟩:∃ nm s1,Qe.name ts (Qe.next s) = (nm,s1):=⟨_,_,rfl⟩
     obtain ⟨on,dm,s2,ho⟩:∃ on dm s2,Qe.of ts (Qe.take ts s1 false [58]) = (on,dm,s2):=⟨_,_,_,rfl⟩
     have hd:Qs.decl ts s = (nm,on,dm,s2):=by simp only [Qs.decl,hn,ho]
     have hx:=HY.out
     rw [hd] at hx
     dsimp only at hx
     rw [if_pos (by rw [← HT.out]; exact (is_text HV1.out).2.2)] at hx
     replace HY:=vH hx
     have HN:=vH hn
     have HO:=vH ho
     clear hx hd hn ho
     have htx:((cbs t.text).toList == [108,101,116]) = true:=by rw [zR,← HT.out,(is_text HV1.out).2.2]; rfl
     refine (zAG _ R S ts _ F.out.qr ).mono ?_
     rw [HN.out]
     rintro e un ⟨rfl,hr,hg⟩
     replace F:Hid (Fr w R (QrK R S ts) s1 _ _ _):=vH (F.out.step hr hg)
     clear hr hg
     have hk:=(F.out.keep _ vA).1
     obtain ⟨⟨a0,a1,a2,a3,a4,a5,a6,a7,a8⟩,b0,b1,b2,b3,b4,b5,b6,b7,b8⟩:=nen hk
     have hla:=zA hk
     clear hk
     go_wp2_with fail
     clear a0 a1 a2 a3 a4 a5 a6 a7 a8 b0 b1 b2 b3 b4 b5 b6 b7 b8 hla
     replace F:=vH (F.out.put1 0 rfl 1 (.string (cbs nm)) rfl)
     refine (zJ _ R S ts _ F.out.qr ⟨#[58]⟩ (by decide) false (by decide)).mono ?_
     rintro e u4 ⟨rfl,hr,hg⟩
     replace F:Hid (Fr w R (QrK R S ts) (Qe.take ts s1 false [58]) _ _ _):=vH (F.out.step hr hg)
     clear hr hg
     go_wp2_with fail
     refine (zCT _ R S ts _ F.out.qr ).mono ?_
     rw [HO.out]
     rintro e uo ⟨rfl,hr,hg⟩
     replace F:Hid (Fr w R (QrK R S ts) s2 _ _ _):=vH (F.out.step hr hg)
     clear hr hg
     have hk:=(F.out.keep _ vB).1
     obtain ⟨⟨t0,t1,t2,t3⟩,q0,q1,q2,q3⟩:=quad hk
     have hlt:=zA hk
     clear hk q0 q1 q2 q3
     have hk:=(F.out.keep _ vA).1
     obtain ⟨⟨a0,a1,a2,a3,a4,a5,a6,a7,a8⟩,b0,b1,b2,b3,b4,b5,b6,b7,b8⟩:=nen hk
     have hla:=zA hk
     clear hk
     go_wp2_with fail
     clear t0 t1 t2 t3 hlt a0 a1 a2 a3 a4 a5 a6 a7 a8 b0 b1 b2 b3 b4 b5 b6 b7 b8 hla
     replace F:=vH (F.out.put1 0 rfl 2 (.string (cbs on)) rfl)
     replace F:=vH (F.out.put1 0 rfl 3 (.int .i64 (dm:Nat)) rfl)
     replace F:=vH (F.out.put1 0 rfl 0 (.int .i64 2) rfl)
     refine (zJ _ R S ts _ F.out.qr ⟨#[61]⟩ (by decide) false (by decide)).mono ?_
     rintro e u5 ⟨rfl,hr,hg⟩
     replace F:Hid (Fr w R (QrK R S ts) (Qe.take ts s2 false [61]) _ _ _):=vH (F.out.step hr hg)
     clear hr hg
     go_wp2_with fail
     have hx:=HY.out
     split at hx
     ·cases hx
     rename_i e0 s3 he
     have HE:=vH he
     replace HY:=vH hx
     clear hx he
     refine (HX.out _ _ HE.out _ R S F.out.qr).mono ?_
     rintro e u6 ⟨qk,qn,qs,qo,qd,qp,ql,qc,qa,qb,qr,qe,qf,rfl,hi,hr,hg⟩
     have Hq:=vH hi
     replace F:=vH (F.out.call hr hg)
     clear hi hr hg
     have hk:=(F.out.keep _ vA).1
     obtain ⟨⟨a0,a1,a2,a3,a4,a5,a6,a7,a8⟩,b0,b1,b2,b3,b4,b5,b6,b7,b8⟩:=nen hk
     have hla:=zA hk
     clear hk
     go_wp2_with fail
     clear a0 a1 a2 a3 a4 a5 a6 a7 a8 b0 b1 b2 b3 b4 b5 b6 b7 b8 hla
     replace F:=vH (F.out.put1 0 rfl 4 (.slice (some ⟨u6.heap.size,0,none⟩) 1 1) rfl)
     replace F:=vH (F.out.alloc2 (.cells #[.int .i64 qk,.int .i64 qn,.string (cbs qs),.string (cbs qo),.int .i64 qd,.slice qp ql qc,.int .i64 qa,.int .i64 qb,.int .i64 qr,.int .i64 qe,.int .i64 qf] 45) (b:=u6.heap.size) (by simp only [zY]))
     have hnrows:=Nat.ne_of_gt ((List.pairwise_cons.1 F.out.nd).1 _ vA)
     have hnsrow:=Ne.symm hnrows
     dsimp only at hnrows hnsrow
     have hnrowT:=Nat.ne_of_gt ((List.pairwise_cons.1 F.out.nd).1 _ vB)
     have hnTrow:=Ne.symm hnrowT
     dsimp only at hnrowT hnTrow
     have hnrowZ:=Nat.ne_of_gt ((List.pairwise_cons.1 F.out.nd).1 _ vC)
     have hnZrow:=Ne.symm hnrowZ
     dsimp only at hnrowZ hnZrow
     refine (zJ _ R S ts _ F.out.qr ⟨#[59]⟩ (by decide) false (by decide)).mono ?_
     rintro e u7 ⟨rfl,hr,hg⟩
     replace F:Hid (Fr w R (QrK R S ts) (Qe.take ts s3 false [59]) _ _ _):=vH (F.out.step hr hg)
     clear hr hg
     have hk:=(F.out.keep _ vB).1
     obtain ⟨⟨a0,a1,a2,a3,a4,a5,a6,a7,a8⟩,b0,b1,b2,b3,b4,b5,b6,b7,b8⟩:=nen hk
     have hla:=zA hk
     clear hk
     have hk:=(F.out.keep _ vD).1
     obtain ⟨⟨d0,d1,d2,d3,d4,d5,d6,d7,d8⟩,g0,g1,g2,g3,g4,g5,g6,g7,g8⟩:=nen hk
     have hld:=zA hk
     clear hk
     go_wp2_with fail
     replace F:=vH (F.out.pw 3 rfl (.int .i64 2) (.string (cbs nm)) (.string (cbs on)) (.int .i64 (dm:Nat)) (.slice (some ⟨u6.heap.size,0,none⟩) 1 1) (.slice none 0 0) (.slice none 0 0) (.int .i64 t.at_) (.int .i64 0))
     exact bodyPost_ret (v:=.agg #[.int .i64 2,.string (cbs nm),.string (cbs on),.int .i64 (dm:Nat),.slice (some ⟨u6.heap.size,0,none⟩) 1 1,.slice none 0 0,.slice none 0 0,.int .i64 t.at_,.int .i64 0]) (by simp [results,Tryd.results72,go_sem,d0,d1,d2,d3,d4,d5,d6,d7,d8]) rfl (QStPost.eq (Option.some.inj HY.out) ⟨2,nm,on,dm,some ⟨u6.heap.size,0,none⟩,1,1,none,0,0,none,0,0,t.at_,0,rfl,SIs.mk (KidsAt.one (F.out.keep _ vA).1 (F.out.keep _ vA).2 (Is.lower (F.out.ag _ vA).2 _ (Hq.out.ag (F.out.ag _ vA).1)) rfl) SsAt.nil SsAt.nil 2 nm on dm t.at_ 0,F.out.qr,F.out.gr⟩)
   | false =>
     replace HY:=vH (zB0 HY.out (by rw [HV0.out,HV1.out]; rfl))
     go_wp2_with fail
     refine (zI _ R S ts _ F.out.qr ⟨#[105,102]⟩ (by decide) true (by decide)).mono ?_
     rintro e u4 ⟨rfl,hb⟩
     replace F:=vH (F.out.go hb)
     clear hb
     obtain ⟨b,hb⟩:∃ b,Qe.is ts s true [105,102] = b:=⟨_,rfl⟩
     try rw [hb]
     have HV2:=vH hb
     clear hb
     cases b with
     | true =>
       replace HY:=vH (zAY HY.out HV2.out)
       obtain ⟨⟨c0,c1,c2,c3,c4⟩,fr,hRl⟩:=F.out.qr.cells
       have fr1:=fr 1
       clear fr
       have hRs:=Nat.ne_of_lt (Nat.lt_of_lt_of_le hlt (F.out.keep _ vA).2)
       have hsR:=Ne.symm hRs
       dsimp only at hRs hsR
       have hk:=(F.out.keep _ vA).1
       obtain ⟨⟨a0,a1,a2,a3,a4,a5,a6,a7,a8⟩,b0,b1,b2,b3,b4,b5,b6,b7,b8⟩:=nen hk
       have hla:=zA hk
       clear hk
       go_wp2_with fail
       clear c0 c1 c2 c3 c4 fr1 hRl a0 a1 a2 a3 a4 a5 a6 a7 a8 b0 b1 b2 b3 b4 b5 b6 b7 b8 hla hRs hsR
       replace F:=vH (F.out.setk)
       replace F:=vH (F.out.put1 0 rfl 0 (.int .i64 5) rfl)
       have hx:=HY.out
       split at hx
       ·cases hx
       rename_i e0 s1 he
       have HE:=vH he
       replace HY:=vH hx
       clear hx he
       refine (HX.out _ _ HE.out _ R S F.out.qr).mono ?_
       rintro e u5 ⟨qk,qn,qs,qo,qd,qp,ql,qc,qa,qb,qr,qe,qf,rfl,hi,hr,hg⟩
       have Hq:=vH hi
       replace F:=vH (F.out.call hr hg)
       clear hi hr hg
       have hk:=(F.out.keep _ vA).1
       obtain ⟨⟨a0,a1,a2,a3,a4,a5,a6,a7,a8⟩,b0,b1,b2,b3,b4,b5,b6,b7,b8⟩:=nen hk
       have hla:=zA hk
       clear hk
       go_wp2_with fail
       clear a0 a1 a2 a3 a4 a5 a6 a7 a8 b0 b1 b2 b3 b4 b5 b6 b7 b8 hla
       replace F:=vH (F.out.put1 0 rfl 4 (.slice (some ⟨u5.heap.size,0,none⟩) 1 1) rfl)
       replace F:=vH (F.out.alloc2 (.cells #[.int .i64 qk,.int .i64 qn,.string (cbs qs),.string (cbs qo),.int .i64 qd,.slice qp ql qc,.int .i64 qa,.int .i64 qb,.int .i64 qr,.int .i64 qe,.int .i64 qf] 45) (b:=u5.heap.size) (by simp only [zY]))
       have hnrows:=Nat.ne_of_gt ((List.pairwise_cons.1 F.out.nd).1 _ vA)
       have hnsrow:=Ne.symm hnrows
       dsimp only at hnrows hnsrow
       have hnrowT:=Nat.ne_of_gt ((List.pairwise_cons.1 F.out.nd).1 _ vB)
       have hnTrow:=Ne.symm hnrowT
       dsimp only at hnrowT hnTrow
       have hnrowZ:=Nat.ne_of_gt ((List.pairwise_cons.1 F.out.nd).1 _ vC)
       have hnZrow:=Ne.symm hnrowZ
       dsimp only at hnrowZ hnZrow
       have hx:=HY.out
       split at hx
       ·cases hx
       rename_i l1 s2 hb1
       have HB1:=vH hb1
       replace HY:=vH hx
       clear hx hb1
       refine (HBK.out _ _ HB1.out _ R S F.out.qr).mono ?_
       rintro e u6 ⟨xp,xc,rfl,hk,hr,hg⟩
       have Hbx:=vH hk
       replace F:=vH (F.out.call hr hg)
       clear hk hr hg
       have hk:=(F.out.keep _ vB).1
       obtain ⟨⟨a0,a1,a2,a3,a4,a5,a6,a7,a8⟩,b0,b1,b2,b3,b4,b5,b6,b7,b8⟩:=nen hk
       have hla:=zA hk
       clear hk
       go_wp2_with fail
       clear a0 a1 a2 a3 a4 a5 a6 a7 a8 b0 b1 b2 b3 b4 b5 b6 b7 b8 hla
       replace F:=vH (F.out.put1 1 rfl 5 (.slice xp l1.length (l1.length + xc)) rfl)
       refine (zI _ R S ts _ F.out.qr ⟨#[101,108,115,101]⟩ (by decide) true (by decide)).mono ?_
       rintro e u7 ⟨rfl,hb⟩
       replace F:=vH (F.out.go hb)
       clear hb
       obtain ⟨b,hb⟩:∃ b,Qe.is ts s2 true [101,108,115,101] = b:=⟨_,rfl⟩
       try rw [hb]
       have HI:=vH hb
       clear hb
       cases b with
       | true =>
         replace HY:=vH (zAY HY.out HI.out)
         have hx:=HY.out
         split at hx
         ·cases hx
         rename_i l2 s3 hb2
         have HB2:=vH hb2
         replace HY:=vH hx
         clear hx hb2
         obtain ⟨⟨c0,c1,c2,c3,c4⟩,fr,hRl⟩:=F.out.qr.cells
         have fr1:=fr 1
         clear fr
         have hRs:=Nat.ne_of_lt (Nat.lt_of_lt_of_le hlt (F.out.keep _ vB).2)
         have hsR:=Ne.symm hRs
         dsimp only at hRs hsR
         have hk:=(F.out.keep _ vB).1
         obtain ⟨⟨a0,a1,a2,a3,a4,a5,a6,a7,a8⟩,b0,b1,b2,b3,b4,b5,b6,b7,b8⟩:=nen hk
         have hla:=zA hk
         clear hk
         go_wp2_with fail
         clear c0 c1 c2 c3 c4 fr1 hRl a0 a1 a2 a3 a4 a5 a6 a7 a8 b0 b1 b2 b3 b4 b5 b6 b7 b8 hla hRs hsR
         replace F:=vH (F.out.setk)
         refine (HBK.out _ _ HB2.out _ R S F.out.qr).mono ?_
         rintro e u8 ⟨yp,yc,rfl,hk,hr,hg⟩
         have Hby:=vH hk
         replace F:=vH (F.out.call hr hg)
         clear hk hr hg
         have hk:=(F.out.keep _ vB).1
         obtain ⟨⟨a0,a1,a2,a3,a4,a5,a6,a7,a8⟩,b0,b1,b2,b3,b4,b5,b6,b7,b8⟩:=nen hk
         have hla:=zA hk
         clear hk
         have hk:=(F.out.keep _ vD).1
         obtain ⟨⟨d0,d1,d2,d3,d4,d5,d6,d7,d8⟩,g0,g1,g2,g3,g4,g5,g6,g7,g8⟩:=nen hk
         have hld:=zA hk
         clear hk
         go_wp2_with fail
         clear a0 a1 a2 a3 a4 a5 a6 a7 a8 b0 b1 b2 b3 b4 b5 b6 b7 b8 hla
         replace F:=vH (F.out.put1 1 rfl 6 (.slice yp l2.length (l2.length + yc)) rfl)
         replace F:=vH (F.out.pw 3 rfl (.int .i64 5) (.string ⟨#[]⟩) (.string ⟨#[]⟩) (.int .i64 0) (.slice (some ⟨u5.heap.size,0,none⟩) 1 1) (.slice xp l1.length (l1.length + xc)) (.slice yp l2.length (l2.length + yc)) (.int .i64 t.at_) (.int .i64 0))
         exact bodyPost_ret (v:=.agg #[.int .i64 5,.string ⟨#[]⟩,.string ⟨#[]⟩,.int .i64 0,.slice (some ⟨u5.heap.size,0,none⟩) 1 1,.slice xp l1.length (l1.length + xc),.slice yp l2.length (l2.length + yc),.int .i64 t.at_,.int .i64 0]) (by simp [results,Tryd.results72,go_sem,d0,d1,d2,d3,d4,d5,d6,d7,d8]) rfl (QStPost.eq (Option.some.inj HY.out) ⟨5,[],[],0,some ⟨u5.heap.size,0,none⟩,1,1,xp,l1.length,(l1.length + xc),yp,l2.length,(l2.length + yc),t.at_,0,rfl,SIs.mk (KidsAt.one (F.out.keep _ vA).1 (F.out.keep _ vA).2 (Is.lower (F.out.ag _ vC).2 _ (Hq.out.ag (F.out.ag _ vC).1)) rfl) (SsAt.lower (Hbx.out.ag (F.out.ag _ vB).1) (F.out.ag _ vB).2) (SsAt.lower (Hby.out.ag (F.out.ag _ vA).1) (F.out.ag _ vA).2) 5 [] [] 0 t.at_ 0,F.out.qr,F.out.gr⟩)
       | false =>
         replace HY:=vH (zB0 HY.out HI.out)
         have hk:=(F.out.keep _ vB).1
         obtain ⟨⟨a0,a1,a2,a3,a4,a5,a6,a7,a8⟩,b0,b1,b2,b3,b4,b5,b6,b7,b8⟩:=nen hk
         have hla:=zA hk
         clear hk
         have hk:=(F.out.keep _ vD).1
         obtain ⟨⟨d0,d1,d2,d3,d4,d5,d6,d7,d8⟩,g0,g1,g2,g3,g4,g5,g6,g7,g8⟩:=nen hk
         have hld:=zA hk
         clear hk
         go_wp2_with fail
         replace F:=vH (F.out.pw 3 rfl (.int .i64 5) (.string ⟨#[]⟩) (.string ⟨#[]⟩) (.int .i64 0) (.slice (some ⟨u5.heap.size,0,none⟩) 1 1) (.slice xp l1.length (l1.length + xc)) (.slice none 0 0) (.int .i64 t.at_) (.int .i64 0))
         exact bodyPost_ret (v:=.agg #[.int .i64 5,.string ⟨#[]⟩,.string ⟨#[]⟩,.int .i64 0,.slice (some ⟨u5.heap.size,0,none⟩) 1 1,.slice xp l1.length (l1.length + xc),.slice none 0 0,.int .i64 t.at_,.int .i64 0]) (by simp [results,Tryd.results72,go_sem,d0,d1,d2,d3,d4,d5,d6,d7,d8]) rfl (QStPost.eq (Option.some.inj HY.out) ⟨5,[],[],0,some ⟨u5.heap.size,0,none⟩,1,1,xp,l1.length,(l1.length + xc),none,0,0,t.at_,0,rfl,SIs.mk (KidsAt.one (F.out.keep _ vA).1 (F.out.keep _ vA).2 (Is.lower (F.out.ag _ vB).2 _ (Hq.out.ag (F.out.ag _ vB).1)) rfl) (SsAt.lower (Hbx.out.ag (F.out.ag _ vA).1) (F.out.ag _ vA).2) SsAt.nil 5 [] [] 0 t.at_ 0,F.out.qr,F.out.gr⟩)
     | false =>
       replace HY:=vH (zB0 HY.out HV2.out)
       go_wp2_with fail
       refine (zI _ R S ts _ F.out.qr ⟨#[119,104,105,108,101]⟩ (by decide) true (by decide)).mono ?_
       rintro e u5 ⟨rfl,hb⟩
       replace F:=vH (F.out.go hb)
       clear hb
       obtain ⟨b,hb⟩:∃ b,Qe.is ts s true [119,104,105,108,101] = b:=⟨_,rfl⟩
       try rw [hb]
       have HV3:=vH hb
       clear hb
       cases b with
       | true =>
         replace HY:=vH (zAY HY.out HV3.out)
         obtain ⟨⟨c0,c1,c2,c3,c4⟩,fr,hRl⟩:=F.out.qr.cells
         have fr1:=fr 1
         clear fr
         have hRs:=Nat.ne_of_lt (Nat.lt_of_lt_of_le hlt (F.out.keep _ vA).2)
         have hsR:=Ne.symm hRs
         dsimp only at hRs hsR
         have hk:=(F.out.keep _ vA).1
         obtain ⟨⟨a0,a1,a2,a3,a4,a5,a6,a7,a8⟩,b0,b1,b2,b3,b4,b5,b6,b7,b8⟩:=nen hk
         have hla:=zA hk
         clear hk
         go_wp2_with fail
         clear c0 c1 c2 c3 c4 fr1 hRl a0 a1 a2 a3 a4 a5 a6 a7 a8 b0 b1 b2 b3 b4 b5 b6 b7 b8 hla hRs hsR
         replace F:=vH (F.out.setk)
         replace F:=vH (F.out.put1 0 rfl 0 (.int .i64 6) rfl)
         have hx:=HY.out
         split at hx
         ·cases hx
         rename_i e0 s1 he
         have HE:=vH he
         replace HY:=vH hx
         clear hx he
         refine (HX.out _ _ HE.out _ R S F.out.qr).mono ?_
         rintro e u6 ⟨qk,qn,qs,qo,qd,qp,ql,qc,qa,qb,qr,qe,qf,rfl,hi,hr,hg⟩
         have Hq:=vH hi
         replace F:=vH (F.out.call hr hg)
         clear hi hr hg
         have hk:=(F.out.keep _ vA).1
         obtain ⟨⟨a0,a1,a2,a3,a4,a5,a6,a7,a8⟩,b0,b1,b2,b3,b4,b5,b6,b7,b8⟩:=nen hk
         have hla:=zA hk
         clear hk
         go_wp2_with fail
         clear a0 a1 a2 a3 a4 a5 a6 a7 a8 b0 b1 b2 b3 b4 b5 b6 b7 b8 hla
         replace F:=vH (F.out.put1 0 rfl 4 (.slice (some ⟨u6.heap.size,0,none⟩) 1 1) rfl)
         replace F:=vH (F.out.alloc2 (.cells #[.int .i64 qk,.int .i64 qn,.string (cbs qs),.string (cbs qo),.int .i64 qd,.slice qp ql qc,.int .i64 qa,.int .i64 qb,.int .i64 qr,.int .i64 qe,.int .i64 qf] 45) (b:=u6.heap.size) (by simp only [zY]))
         have hnrows:=Nat.ne_of_gt ((List.pairwise_cons.1 F.out.nd).1 _ vA)
         have hnsrow:=Ne.symm hnrows
         dsimp only at hnrows hnsrow
         have hnrowT:=Nat.ne_of_gt ((List.pairwise_cons.1 F.out.nd).1 _ vB)
         have hnTrow:=Ne.symm hnrowT
         dsimp only at hnrowT hnTrow
         have hnrowZ:=Nat.ne_of_gt ((List.pairwise_cons.1 F.out.nd).1 _ vC)
         have hnZrow:=Ne.symm hnrowZ
         dsimp only at hnrowZ hnZrow
         have hx:=HY.out
         split at hx
         ·cases hx
         rename_i l1 s2 hb1
         have HB1:=vH hb1
         replace HY:=vH hx
         clear hx hb1
         refine (HBK.out _ _ HB1.out _ R S F.out.qr).mono ?_
         rintro e u7 ⟨xp,xc,rfl,hk,hr,hg⟩
         have Hbx:=vH hk
         replace F:=vH (F.out.call hr hg)
         clear hk hr hg
         have hk:=(F.out.keep _ vB).1
         obtain ⟨⟨a0,a1,a2,a3,a4,a5,a6,a7,a8⟩,b0,b1,b2,b3,b4,b5,b6,b7,b8⟩:=nen hk
         have hla:=zA hk
         clear hk
         have hk:=(F.out.keep _ vD).1
         obtain ⟨⟨d0,d1,d2,d3,d4,d5,d6,d7,d8⟩,g0,g1,g2,g3,g4,g5,g6,g7,g8⟩:=nen hk
         have hld:=zA hk
         clear hk
         go_wp2_with fail
         replace F:=vH (F.out.put1 1 rfl 5 (.slice xp l1.length (l1.length + xc)) rfl)
         replace F:=vH (F.out.pw 3 rfl (.int .i64 6) (.string ⟨#[]⟩) (.string ⟨#[]⟩) (.int .i64 0) (.slice (some ⟨u6.heap.size,0,none⟩) 1 1) (.slice xp l1.length (l1.length + xc)) (.slice none 0 0) (.int .i64 t.at_) (.int .i64 0))
         exact bodyPost_ret (v:=.agg #[.int .i64 6,.string ⟨#[]⟩,.string ⟨#[]⟩,.int .i64 0,.slice (some ⟨u6.heap.size,0,none⟩) 1 1,.slice xp l1.length (l1.length + xc),.slice none 0 0,.int .i64 t.at_,.int .i64 0]) (by simp [results,Tryd.results72,go_sem,d0,d1,d2,d3,d4,d5,d6,d7,d8]) rfl (QStPost.eq (Option.some.inj HY.out) ⟨6,[],[],0,some ⟨u6.heap.size,0,none⟩,1,1,xp,l1.length,(l1.length + xc),none,0,0,t.at_,0,rfl,SIs.mk (KidsAt.one (F.out.keep _ vA).1 (F.out.keep _ vA).2 (Is.lower (F.out.ag _ vB).2 _ (Hq.out.ag (F.out.ag _ vB).1)) rfl) (SsAt.lower (Hbx.out.ag (F.out.ag _ vA).1) (F.out.ag _ vA).2) SsAt.nil 6 [] [] 0 t.at_ 0,F.out.qr,F.out.gr⟩)
       | false =>
         replace HY:=vH (zB0 HY.out HV3.out)
         go_wp2_with fail
         refine (zI _ R S ts _ F.out.qr ⟨#[114,101,116,117,114,110]⟩ (by decide) true (by decide)).mono ?_
         rintro e u6 ⟨rfl,hb⟩
         replace F:=vH (F.out.go hb)
         clear hb
         obtain ⟨b,hb⟩:∃ b,Qe.is ts s true [114,101,116,117,114,110] = b:=⟨_,rfl⟩
         try rw [hb]
         have HV4:=vH hb
         clear hb
         cases b with
         | true =>
           replace HY:=vH (zAY HY.out HV4.out)
           obtain ⟨⟨c0,c1,c2,c3,c4⟩,fr,hRl⟩:=F.out.qr.cells
           have fr1:=fr 1
           clear fr
           have hRs:=Nat.ne_of_lt (Nat.lt_of_lt_of_le hlt (F.out.keep _ vA).2)
           have hsR:=Ne.symm hRs
           dsimp only at hRs hsR
           have hk:=(F.out.keep _ vA).1
           obtain ⟨⟨a0,a1,a2,a3,a4,a5,a6,a7,a8⟩,b0,b1,b2,b3,b4,b5,b6,b7,b8⟩:=nen hk
           have hla:=zA hk
           clear hk
           go_wp2_with fail
           clear c0 c1 c2 c3 c4 fr1 hRl a0 a1 a2 a3 a4 a5 a6 a7 a8 b0 b1 b2 b3 b4 b5 b6 b7 b8 hla hRs hsR
           replace F:=vH (F.out.setk)
           replace F:=vH (F.out.put1 0 rfl 0 (.int .i64 7) rfl)
           refine (zI _ R S ts _ F.out.qr ⟨#[59]⟩ (by decide) false (by decide)).mono ?_
           rintro e u7 ⟨rfl,hb⟩
           replace F:=vH (F.out.go hb)
           clear hb
           obtain ⟨b,hb⟩:∃ b,Qe.is ts (Qe.next s) false [59] = b:=⟨_,rfl⟩
           try rw [hb]
           have HI:=vH hb
           clear hb
           cases b with
           | true =>
             replace HY:=vH (zAY HY.out HI.out)
             go_wp2_with fail
             refine (zJ _ R S ts _ F.out.qr ⟨#[59]⟩ (by decide) false (by decide)).mono ?_
             rintro e u8 ⟨rfl,hr,hg⟩
             replace F:Hid (Fr w R (QrK R S ts) (Qe.take ts (Qe.next s) false [59]) _ _ _):=vH (F.out.step hr hg)
             clear hr hg
             have hk:=(F.out.keep _ vA).1
             obtain ⟨⟨a0,a1,a2,a3,a4,a5,a6,a7,a8⟩,b0,b1,b2,b3,b4,b5,b6,b7,b8⟩:=nen hk
             have hla:=zA hk
             clear hk
             have hk:=(F.out.keep _ vC).1
             obtain ⟨⟨d0,d1,d2,d3,d4,d5,d6,d7,d8⟩,g0,g1,g2,g3,g4,g5,g6,g7,g8⟩:=nen hk
             have hld:=zA hk
             clear hk
             go_wp2_with fail
             replace F:=vH (F.out.pw 2 rfl (.int .i64 7) (.string ⟨#[]⟩) (.string ⟨#[]⟩) (.int .i64 0) (.slice none 0 0) (.slice none 0 0) (.slice none 0 0) (.int .i64 t.at_) (.int .i64 0))
             exact bodyPost_ret (v:=.agg #[.int .i64 7,.string ⟨#[]⟩,.string ⟨#[]⟩,.int .i64 0,.slice none 0 0,.slice none 0 0,.slice none 0 0,.int .i64 t.at_,.int .i64 0]) (by simp [results,Tryd.results72,go_sem,d0,d1,d2,d3,d4,d5,d6,d7,d8]) rfl (QStPost.eq (Option.some.inj HY.out) ⟨7,[],[],0,none,0,0,none,0,0,none,0,0,t.at_,0,rfl,SIs.mk KidsAt.nil SsAt.nil SsAt.nil 7 [] [] 0 t.at_ 0,F.out.qr,F.out.gr⟩)
           | false =>
             replace HY:=vH (zB0 HY.out HI.out)
             go_wp2_with fail
             have hx:=HY.out
             split at hx
             ·cases hx
             rename_i e0 s1 he
             have HE:=vH he
             replace HY:=vH hx
             clear hx he
             refine (HX.out _ _ HE.out _ R S F.out.qr).mono ?_
             rintro e u8 ⟨qk,qn,qs,qo,qd,qp,ql,qc,qa,qb,qr,qe,qf,rfl,hi,hr,hg⟩
             have Hq:=vH hi
             replace F:=vH (F.out.call hr hg)
             clear hi hr hg
             have hk:=(F.out.keep _ vA).1
             obtain ⟨⟨a0,a1,a2,a3,a4,a5,a6,a7,a8⟩,b0,b1,b2,b3,b4,b5,b6,b7,b8⟩:=nen hk
             have hla:=zA hk
             clear hk
             go_wp2_with fail
             clear a0 a1 a2 a3 a4 a5 a6 a7 a8 b0 b1 b2 b3 b4 b5 b6 b7 b8 hla
             replace F:=vH (F.out.put1 0 rfl 4 (.slice (some ⟨u8.heap.size,0,none⟩) 1 1) rfl)
             replace F:=vH (F.out.alloc2 (.cells #[.int .i64 qk,.int .i64 qn,.string (cbs qs),.string (cbs qo),.int .i64 qd,.slice qp ql qc,.int .i64 qa,.int .i64 qb,.int .i64 qr,.int .i64 qe,.int .i64 qf] 45) (b:=u8.heap.size) (by simp only [zY]))
             have hnrows:=Nat.ne_of_gt ((List.pairwise_cons.1 F.out.nd).1 _ vA)
             have hnsrow:=Ne.symm hnrows
             dsimp only at hnrows hnsrow
             have hnrowT:=Nat.ne_of_gt ((List.pairwise_cons.1 F.out.nd).1 _ vB)
             have hnTrow:=Ne.symm hnrowT
             dsimp only at hnrowT hnTrow
             have hnrowZ:=Nat.ne_of_gt ((List.pairwise_cons.1 F.out.nd).1 _ vC)
             have hnZrow:=Ne.symm hnrowZ
             dsimp only at hnrowZ hnZrow
             refine (zJ _ R S ts _ F.out.qr ⟨#[59]⟩ (by decide) false (by decide)).mono ?_
             rintro e u9 ⟨rfl,hr,hg⟩
             replace F:Hid (Fr w R (QrK R S ts) (Qe.take ts s1 false [59]) _ _ _):=vH (F.out.step hr hg)
             clear hr hg
             have hk:=(F.out.keep _ vB).1
             obtain ⟨⟨a0,a1,a2,a3,a4,a5,a6,a7,a8⟩,b0,b1,b2,b3,b4,b5,b6,b7,b8⟩:=nen hk
             have hla:=zA hk
             clear hk
             have hk:=(F.out.keep _ vD).1
             obtain ⟨⟨d0,d1,d2,d3,d4,d5,d6,d7,d8⟩,g0,g1,g2,g3,g4,g5,g6,g7,g8⟩:=nen hk
             have hld:=zA hk
             clear hk
             go_wp2_with fail
             replace F:=vH (F.out.pw 3 rfl (.int .i64 7) (.string ⟨#[]⟩) (.string ⟨#[]⟩) (.int .i64 0) (.slice (some ⟨u8.heap.size,0,none⟩) 1 1) (.slice none 0 0) (.slice none 0 0) (.int .i64 t.at_) (.int .i64 0))
             exact bodyPost_ret (v:=.agg #[.int .i64 7,.string ⟨#[]⟩,.string ⟨#[]⟩,.int .i64 0,.slice (some ⟨u8.heap.size,0,none⟩) 1 1,.slice none 0 0,.slice none 0 0,.int .i64 t.at_,.int .i64 0]) (by simp [results,Tryd.results72,go_sem,d0,d1,d2,d3,d4,d5,d6,d7,d8]) rfl (QStPost.eq (Option.some.inj HY.out) ⟨7,[],[],0,some ⟨u8.heap.size,0,none⟩,1,1,none,0,0,none,0,0,t.at_,0,rfl,SIs.mk (KidsAt.one (F.out.keep _ vA).1 (F.out.keep _ vA).2 (Is.lower (F.out.ag _ vA).2 _ (Hq.out.ag (F.out.ag _ vA).1)) rfl) SsAt.nil SsAt.nil 7 [] [] 0 t.at_ 0,F.out.qr,F.out.gr⟩)
         | false =>
           replace HY:=vH (zB0 HY.out HV4.out)
           go_wp2_with fail
           refine (zI _ R S ts _ F.out.qr ⟨#[112,114,105,110,116]⟩ (by decide) true (by decide)).mono ?_
           rintro e u7 ⟨rfl,hb⟩
           replace F:=vH (F.out.go hb)
           clear hb
           obtain ⟨b,hb⟩:∃ b,Qe.is ts s true [112,114,105,110,116] = b:=⟨_,rfl⟩
           try rw [hb]
           have HV5:=vH hb
           clear hb
           cases b with
           | true =>
             replace HY:=vH (zAY HY.out HV5.out)
             obtain ⟨⟨c0,c1,c2,c3,c4⟩,fr,hRl⟩:=F.out.qr.cells
             have fr1:=fr 1
             clear fr
             have hRs:=Nat.ne_of_lt (Nat.lt_of_lt_of_le hlt (F.out.keep _ vA).2)
             have hsR:=Ne.symm hRs
             dsimp only at hRs hsR
             have hk:=(F.out.keep _ vA).1
             obtain ⟨⟨a0,a1,a2,a3,a4,a5,a6,a7,a8⟩,b0,b1,b2,b3,b4,b5,b6,b7,b8⟩:=nen hk
             have hla:=zA hk
             clear hk
             go_wp2_with fail
             clear c0 c1 c2 c3 c4 fr1 hRl a0 a1 a2 a3 a4 a5 a6 a7 a8 b0 b1 b2 b3 b4 b5 b6 b7 b8 hla hRs hsR
             replace F:=vH (F.out.setk)
             replace F:=vH (F.out.put1 0 rfl 0 (.int .i64 8) rfl)
             have hx:=HY.out
             split at hx
             ·cases hx
             rename_i e0 s1 he
             have HE:=vH he
             replace HY:=vH hx
             clear hx he
             refine (HX.out _ _ HE.out _ R S F.out.qr).mono ?_
             rintro e u8 ⟨qk,qn,qs,qo,qd,qp,ql,qc,qa,qb,qr,qe,qf,rfl,hi,hr,hg⟩
             have Hq:=vH hi
             replace F:=vH (F.out.call hr hg)
             clear hi hr hg
             have hk:=(F.out.keep _ vA).1
             obtain ⟨⟨a0,a1,a2,a3,a4,a5,a6,a7,a8⟩,b0,b1,b2,b3,b4,b5,b6,b7,b8⟩:=nen hk
             have hla:=zA hk
             clear hk
             go_wp2_with fail
             clear a0 a1 a2 a3 a4 a5 a6 a7 a8 b0 b1 b2 b3 b4 b5 b6 b7 b8 hla
             replace F:=vH (F.out.put1 0 rfl 4 (.slice (some ⟨u8.heap.size,0,none⟩) 1 1) rfl)
             replace F:=vH (F.out.alloc2 (.cells #[.int .i64 qk,.int .i64 qn,.string (cbs qs),.string (cbs qo),.int .i64 qd,.slice qp ql qc,.int .i64 qa,.int .i64 qb,.int .i64 qr,.int .i64 qe,.int .i64 qf] 45) (b:=u8.heap.size) (by simp only [zY]))
             have hnrows:=Nat.ne_of_gt ((List.pairwise_cons.1 F.out.nd).1 _ vA)
             have hnsrow:=Ne.symm hnrows
             dsimp only at hnrows hnsrow
             have hnrowT:=Nat.ne_of_gt ((List.pairwise_cons.1 F.out.nd).1 _ vB)
             have hnTrow:=Ne.symm hnrowT
             dsimp only at hnrowT hnTrow
             have hnrowZ:=Nat.ne_of_gt ((List.pairwise_cons.1 F.out.nd).1 _ vC)
             have hnZrow:=Ne.symm hnrowZ
             dsimp only at hnrowZ hnZrow
             refine (zJ _ R S ts _ F.out.qr ⟨#[59]⟩ (by decide) false (by decide)).mono ?_
             rintro e u9 ⟨rfl,hr,hg⟩
             replace F:Hid (Fr w R (QrK R S ts) (Qe.take ts s1 false [59]) _ _ _):=vH (F.out.step hr hg)
             clear hr hg
             have hk:=(F.out.keep _ vB).1
             obtain ⟨⟨a0,a1,a2,a3,a4,a5,a6,a7,a8⟩,b0,b1,b2,b3,b4,b5,b6,b7,b8⟩:=nen hk
             have hla:=zA hk
             clear hk
             have hk:=(F.out.keep _ vD).1
             obtain ⟨⟨d0,d1,d2,d3,d4,d5,d6,d7,d8⟩,g0,g1,g2,g3,g4,g5,g6,g7,g8⟩:=nen hk
             have hld:=zA hk
             clear hk
             go_wp2_with fail
             replace F:=vH (F.out.pw 3 rfl (.int .i64 8) (.string ⟨#[]⟩) (.string ⟨#[]⟩) (.int .i64 0) (.slice (some ⟨u8.heap.size,0,none⟩) 1 1) (.slice none 0 0) (.slice none 0 0) (.int .i64 t.at_) (.int .i64 0))
             exact bodyPost_ret (v:=.agg #[.int .i64 8,.string ⟨#[]⟩,.string ⟨#[]⟩,.int .i64 0,.slice (some ⟨u8.heap.size,0,none⟩) 1 1,.slice none 0 0,.slice none 0 0,.int .i64 t.at_,.int .i64 0]) (by simp [results,Tryd.results72,go_sem,d0,d1,d2,d3,d4,d5,d6,d7,d8]) rfl (QStPost.eq (Option.some.inj HY.out) ⟨8,[],[],0,some ⟨u8.heap.size,0,none⟩,1,1,none,0,0,none,0,0,t.at_,0,rfl,SIs.mk (KidsAt.one (F.out.keep _ vA).1 (F.out.keep _ vA).2 (Is.lower (F.out.ag _ vA).2 _ (Hq.out.ag (F.out.ag _ vA).1)) rfl) SsAt.nil SsAt.nil 8 [] [] 0 t.at_ 0,F.out.qr,F.out.gr⟩)
           | false =>
             replace HY:=vH (zB0 HY.out HV5.out)
             have hk:=(F.out.keep _ vA).1
             obtain ⟨⟨a0,a1,a2,a3,a4,a5,a6,a7,a8⟩,b0,b1,b2,b3,b4,b5,b6,b7,b8⟩:=nen hk
             have hla:=zA hk
             clear hk
             go_wp2_with fail
             clear a0 a1 a2 a3 a4 a5 a6 a7 a8 b0 b1 b2 b3 b4 b5 b6 b7 b8 hla
             refine (zIj _ R S ts s F.out.qr t.at_ rx HX.out x HY.out).mono ?_
             rintro e u8 ⟨sk,sn,so,sd,sep,sel,sec,sbp,sbl,sbc,slp,sll,slc,sa,sr,rfl,hi,hr,hg⟩
             have Hst:=vH hi
             replace F:=vH (F.out.call hr hg)
             clear hi hr hg
             have hk:=(F.out.keep _ vC).1
             obtain ⟨⟨d0,d1,d2,d3,d4,d5,d6,d7,d8⟩,g0,g1,g2,g3,g4,g5,g6,g7,g8⟩:=nen hk
             have hld:=zA hk
             clear hk
             go_wp2_with fail
             replace F:=vH (F.out.pw 2 rfl (.int .i64 sk) (.string (cbs sn)) (.string (cbs so)) (.int .i64 sd) (.slice sep sel sec) (.slice sbp sbl sbc) (.slice slp sll slc) (.int .i64 sa) (.int .i64 sr))
             exact bodyPost_ret (v:=.agg #[.int .i64 sk,.string (cbs sn),.string (cbs so),.int .i64 sd,.slice sep sel sec,.slice sbp sbl sbc,.slice slp sll slc,.int .i64 sa,.int .i64 sr]) (by simp [results,Tryd.results72,go_sem,d0,d1,d2,d3,d4,d5,d6,d7,d8]) rfl ⟨sk,sn,so,sd,sep,sel,sec,sbp,sbl,sbc,slp,sll,slc,sa,sr,rfl,SIs.lower (F.out.ag _ vA).2 _ (SIs.ag (F.out.ag _ vA).1 _ Hst.out),F.out.qr,F.out.gr⟩
theorem zJC {ts:List RT}{rx:Qs.RX}(hX:QXOk ts rx){recB:Q → Qs.OutB}(hB:QBlOk ts recB):QStOk ts (Qs.stmt ts rx recB):=fun s x hx w R S h => zJB w R S ts s h rx hX recB hB x hx
end Go.Proofs.YteadgahhchlgeaaDoor
