/-
  The contracts of the answer's reader (runrigref3) over the p
-/
import Derived.Test.YtipmjjfknhblnaaGreatDoorK11
import Derived.Test.YtipmjjfknhblnaaGreatDoorK21
import Derived.Test.YtipmjjfknhblnaaGreatDoorK20
import Derived.Test.YtipmjjfknhblnaaGreatDoorK02
import Derived.Deep.RegionHeld3
import Derived.Deep.LoopGhost
import Derived.Deep.RegionWith
set_option maxRecDepth 8000
set_option maxHeartbeats 8000000
namespace Go.Proofs.YtipmjjfknhblnaaGreatDoor
open Go.RowKit
open Px (RT tokAt isT)
open Pe (inc dec Ex)
open Qe (Q)
structure Fq (w wr:World) (R:Nat) (S:Value) (ts:List RT) (s:Q) (L:List (Nat × Obj)) (T:List (Nat × Ex × List Value)):Prop where
 qr:Qr wr R S ts s
 gr:Gr R w wr
 keep:∀ p ∈ L,wr.heap[p.1]? = some p.2 ∧ p.1 ≠ R
 trees:∀ p ∈ T,Is wr p.1 p.2.1 p.2.2 ∧ w.heap.size < p.1 ∧ R < p.1
theorem Fq.start {w:World}{R:Nat}{S:Value}{ts:List RT}{s:Q}(h:Qr w R S ts s):Fq w w R S ts s [] []:=⟨h,Gr.refl _ _,fun _ hp => (List.not_mem_nil hp).elim,fun _ hp => (List.not_mem_nil hp).elim⟩
theorem Fq.go {w wr w':World}{R:Nat}{S:Value}{ts:List RT}{s:Q}{L:List (Nat × Obj)}{T:List (Nat × Ex × List Value)}(h:Fq w wr R S ts s L T)(hb:Below wr.heap.size wr w'):Fq w w' R S ts s L T:=
 ⟨h.qr.go hb,h.gr.trans (Gr.of hb),fun p hp => ⟨(hb.block _ (zA (h.keep p hp).1)).trans (h.keep p hp).1,(h.keep p hp).2⟩,fun p hp => ⟨(h.trees p hp).1.below hb,(h.trees p hp).2⟩⟩
theorem Fq.step {w wr w':World}{R:Nat}{S:Value}{ts:List RT}{s s2:Q}{L:List (Nat × Obj)}{T:List (Nat × Ex × List Value)}(h:Fq w wr R S ts s L T)(hr:Qr w' R S ts s2)(hg:Gr R wr w'):Fq w w' R S ts s2 L T:=
 ⟨hr,h.gr.trans hg,fun p hp => ⟨hg.box (h.keep p hp).1 (h.keep p hp).2,(h.keep p hp).2⟩,fun p hp => ⟨(h.trees p hp).1.gr (h.trees p hp).2.2 hg,(h.trees p hp).2⟩⟩
theorem Fq.alloc {w wr:World}{R:Nat}{S:Value}{ts:List RT}{s:Q}{L:List (Nat × Obj)}{T:List (Nat × Ex × List Value)}(h:Fq w wr R S ts s L T)(o:Obj):Fq w (wr.alloc o) R S ts s ((wr.heap.size,o) :: L) T:=by
 have h1:=h.go ((Below.refl _ _).alloc (Nat.le_refl _) o)
 refine ⟨h1.qr,h1.gr,fun p hp => ?_,h1.trees⟩
 rcases List.mem_cons.1 hp with rfl | hp
 ·exact ⟨heap_alloc_new _ _,Nat.ne_of_gt h.qr.lt⟩
 ·exact h1.keep p hp
theorem Fq.tree {w wr:World}{R:Nat}{S:Value}{ts:List RT}{s:Q}{L:List (Nat × Obj)}{T:List (Nat × Ex × List Value)}(h:Fq w wr R S ts s L T){B:Nat}{e:Ex}{vs:List Value}(hi:Is wr B e vs)(hB:w.heap.size < B)(hR:R < B):Fq w wr R S ts s L ((B,e,vs) :: T):=
 ⟨h.qr,h.gr,h.keep,fun p hp => (List.mem_cons.1 hp).elim (fun e => by subst e; exact ⟨hi,hB,hR⟩) (h.trees p)⟩
theorem Fq.set_k {w wr:World}{R:Nat}{S:Value}{ts:List RT}{s:Q}{L:List (Nat × Obj)}{T:List (Nat × Ex × List Value)}(h:Fq w wr R S ts s L T)(q:Int):Fq w (wr.setCell ⟨R,1,none⟩ (.int .i64 q)) R S ts ⟨q,s.o,s.E,s.F⟩ L T:=
 h.step (h.qr.set_k q) ((Gr.refl R wr).set 1 _)
theorem Fq.set_o {w wr:World}{R:Nat}{S:Value}{ts:List RT}{s:Q}{L:List (Nat × Obj)}{T:List (Nat × Ex × List Value)}(h:Fq w wr R S ts s L T)(q:Int):Fq w (wr.setCell ⟨R,2,none⟩ (.int .i64 q)) R S ts ⟨s.k,q,s.E,s.F⟩ L T:=
 h.step (h.qr.set_o q) ((Gr.refl R wr).set 2 _)
def QPost (B:Nat)(w:World)(R:Nat)(S:Value)(ts:List RT)(x:Ex × Q)(e:Ending)(w':World):Prop:=
 ∃ (kind num:Int) (name ofn:List UInt8) (dims:Int) (p:Option Addr) (n c:Nat) (at_ b r d ref:Int),
   e = .returned (.agg #[.int .i64 kind,.int .i64 num,.string (cbs name),.string (cbs ofn),.int .i64 dims,.slice p n c,.int .i64 at_,.int .i64 b,.int .i64 r,.int .i64 d,.int .i64 ref]) ∧
   Is w' B x.1 (exCells kind num name ofn dims (.slice p n c) at_ b r d ref) ∧ Qr w' R S ts x.2 ∧ Gr R w w'
def QRecOk (ts:List RT)(rec:Nat → Q → Qe.Out):Prop:=∀ (n:Nat)(s:Q)(x:Ex × Q),n ≤ 5 → rec n s = some x → ∀ (w:World)(R:Nat)(S:Value),Qr w R S ts s →
 Calls Tryz.prog 95 #[.pointer (some ⟨R,0,none⟩),.int .i64 (n:Int)] w (QPost w.heap.size w R S ts x)
theorem zFu {ts:List RT}{rec:Nat → Q → Qe.Out}{s:Q}{x:Ex × Q}(h:Qe.inner ts rec s = some x):∃ e s2,rec 0 (Qe.opens ts s [40]) = some (e,s2) ∧ x = (e,Qe.closes ts s2 [41]):=by
 unfold Qe.inner at h
 split at h
 ·cases h
 ·rename_i e s2 he
  exact ⟨e,s2,he,by simpa using h.symm⟩
theorem zED {ts:List RT}{rec:Nat → Q → Qe.Out}{s:Q}{t:List UInt8}{kind:Int}{x:Ex × Q}(h:Qe.prefixed ts rec s t kind = some x):∃ e s2,rec 5 (Qe.opens ts s t) = some (e,s2) ∧ x = (Ex.of kind 0 [] [] 0 [e] (tokAt ts s.k).at_,⟨s2.k,dec s2.o,s2.E,s2.F⟩):=by
 unfold Qe.prefixed at h
 split at h
 ·cases h
 ·rename_i e s2 he
  exact ⟨e,s2,he,by simpa using h.symm⟩
theorem is_text {ts:List RT}{s:Q}{wd:Bool}{t:List UInt8}(h:Qe.is ts s wd t = true):s.E = 0 ∧ (tokAt ts s.k).kind = (if wd then 3 else 4) ∧ (tokAt ts s.k).text = t:=by
 unfold Qe.is isT at h
 simp only [Bool.and_eq_true,beq_iff_eq,decide_eq_true_eq] at h
 exact ⟨h.1,h.2.1,h.2.2⟩
theorem zIB (w:World)(R:Nat)(S:Value)(ts:List RT)(s:Q)(h:Qr w R S ts s)(rec:Nat → Q → Qe.Out)(hrec:QRecOk ts rec)(hv1:Qe.is ts s false [45] = true)(e0:Ex)(s2:Q)(he:rec 5 (Qe.opens ts s [45]) = some (e0,s2)) :
 Calls Tryz.prog 104 #[.pointer (some ⟨R,0,none⟩)] w (QPost w.heap.size w R S ts (Ex.of 12 0 [] [] 0 [e0] (tokAt ts s.k).at_,⟨s2.k,dec s2.o,s2.E,s2.F⟩)):=by
 have HE:=vH (fun w1 hh => hrec 5 _ (e0,s2) (by decide) he w1 R S hh)
 have HV1:=vH hv1
 have htx:=(is_text hv1).2.2
 have htk:=fun w1 hh => zK w1 R S ts s hh
 generalize tokAt ts s.k = t at htk htx ⊢
 obtain ⟨tk,tx,tn,ta⟩:=t
 dsimp only at htx ⊢
 subst htx
 unfold tokW at htk
 dsimp only at htk
 have HTK:=vH htk
 clear htk hrec he hv1
 have hlt:=h.lt
 have HH:=vH h
 have F:=vH ((Fq.start h).alloc (.cells vE 111))
 clear h
 go_in
 go_wp2_with fail
 refine (HTK.out _ F.out.qr).mono ?_
 rintro e u1 ⟨rfl,hb⟩
 replace F:=vH (F.out.go hb)
 clear hb
 have hNB0:=zA (F.out.keep _ vA).1
 go_wp2_with fail
 replace F:=vH (F.out.alloc (.cells #[.int .i64 tk,.string (cbs [45]),.int .i64 tn,.int .i64 ta] 52))
 refine (zD _ R S ts _ F.out.qr ⟨#[45]⟩ (by decide) false (by decide)).mono ?_
 rintro e u2 ⟨rfl,hb⟩
 replace F:=vH (F.out.go hb)
 clear hb
 try rw [HV1.out]
 have hk:=(F.out.keep _ vA)
 obtain ⟨⟨t0,t1,t2,t3⟩,q0,q1,q2,q3⟩:=quad hk.1
 have hlt:=zA hk.1
 have hnt:=hk.2
 have hmt:=Ne.symm hnt
 clear hk q0 q1 q2 q3
 go_wp2_with fail
 clear t0 t1 t2 t3 hlt hnt hmt
 refine (zAx _ R S ts _ F.out.qr ⟨#[45]⟩ (zAm _ (by decide))).mono ?_
 rintro e u3 ⟨rfl,hr,hg⟩
 replace F:=vH (F.out.step hr hg)
 clear hr hg
 go_wp2_with fail
 have hRB:=F.out.qr.lt
 have hNB:=zA (F.out.keep _ vB).1
 refine (HE.out _ F.out.qr).mono ?_
 rintro e u4 ⟨qk,qn,qs,qo,qd,qp,ql,qc,qa,qb,qr,qe,qf,rfl,hi,hr,hg⟩
 replace F:=vH ((F.out.step hr hg).tree hi hNB hRB)
 clear hi hr hg hRB hNB
 obtain ⟨⟨c0,c1,c2,c3,c4⟩,fr,hRl⟩:=F.out.qr.cells
 have fr1:=fr 1
 have fr2:=fr 2
 clear fr
 have hk:=(F.out.keep _ vA)
 obtain ⟨⟨t0,t1,t2,t3⟩,q0,q1,q2,q3⟩:=quad hk.1
 have hlt:=zA hk.1
 have hnt:=hk.2
 have hmt:=Ne.symm hnt
 clear hk q0 q1 q2 q3
 have hk:=(F.out.keep _ vB)
 obtain ⟨⟨d0,d1,d2,d3,d4,d5,d6,d7,d8,d9,dX⟩,g0,g1,g2,g3,g4,g5,g6,g7,g8,g9,gX⟩:=hen hk.1
 have hld:=zA hk.1
 have hnd:=hk.2
 clear hk
 go_wp2_with fail
 replace F:=vH (F.out.set_o (dec s2.o))
 have hn:=(((Nw.start F.out.gr).pv (.int .i64 12) (.int .i64 0) (.string ⟨#[]⟩) (.string ⟨#[]⟩) (.int .i64 0) (.slice (some ⟨u4.heap.size + 1,0,none⟩) 1 1) (.int .i64 ta) (.int .i64 0) (.int .i64 0) (.int .i64 0) (.int .i64 0)).alloc (.cells #[.int .i64 qk,.int .i64 qn,.string (cbs qs),.string (cbs qo),.int .i64 qd,.slice qp ql qc,.int .i64 qa,.int .i64 qb,.int .i64 qr,.int .i64 qe,.int .i64 qf] 111)).alloc (.cells #[.int .i64 qk,.int .i64 qn,.string (cbs qs),.string (cbs qo),.int .i64 qd,.slice qp ql qc,.int .i64 qa,.int .i64 qb,.int .i64 qr,.int .i64 qe,.int .i64 qf] 111)
 have hbx:=zCo (w:=u4.setCell ⟨R,2,none⟩ (.int .i64 (dec s2.o))) (N:=w.heap.size) (o:=.cells #[.int .i64 qk,.int .i64 qn,.string (cbs qs),.string (cbs qo),.int .i64 qd,.slice qp ql qc,.int .i64 qa,.int .i64 qb,.int .i64 qr,.int .i64 qe,.int .i64 qf] 111) (o2:=.cells #[.int .i64 qk,.int .i64 qn,.string (cbs qs),.string (cbs qo),.int .i64 qd,.slice qp ql qc,.int .i64 qa,.int .i64 qb,.int .i64 qr,.int .i64 qe,.int .i64 qf] 111) (c0:=.int .i64 12) (c1:=.int .i64 0) (c2:=.string ⟨#[]⟩) (c3:=.string ⟨#[]⟩) (c4:=.int .i64 0) (c5:=.slice (some ⟨u4.heap.size + 1,0,none⟩) 1 1) (c6:=.int .i64 ta) (c7:=.int .i64 0) (c8:=.int .i64 0) (c9:=.int .i64 0) (c10:=.int .i64 0)
 rw [zI] at hbx
 have hle:w.heap.size ≤ u4.heap.size + 1:=by omega
 exact bodyPost_ret (v:=.agg #[.int .i64 12,.int .i64 0,.string ⟨#[]⟩,.string ⟨#[]⟩,.int .i64 0,.slice (some ⟨u4.heap.size + 1,0,none⟩) 1 1,.int .i64 ta,.int .i64 0,.int .i64 0,.int .i64 0,.int .i64 0]) (by simp [results,Tryz.results104,go_sem,hld,d0,d1,d2,d3,d4,d5,d6,d7,d8,d9,dX]) rfl ⟨_,_,_,_,_,_,_,_,_,_,_,_,_,rfl,Is.node1 hbx hle (Is.lower (Nat.le_of_lt (F.out.trees _ vA).2.1) _ ((((F.out.trees _ vA).1.put11 (F.out.trees _ vA).2.1).alloc _).alloc _)) rfl 12 0 [] [] 0 ta 1,HH.out.fin F.out.qr hn,hn.gr⟩
theorem zIC (w:World)(R:Nat)(S:Value)(ts:List RT)(s:Q)(h:Qr w R S ts s)(rec:Nat → Q → Qe.Out)(hrec:QRecOk ts rec)(hv0:Qe.is ts s false [45] = false)(hv1:Qe.is ts s false [33] = true)(e0:Ex)(s2:Q)(he:rec 5 (Qe.opens ts s [33]) = some (e0,s2)) :
 Calls Tryz.prog 104 #[.pointer (some ⟨R,0,none⟩)] w (QPost w.heap.size w R S ts (Ex.of 13 0 [] [] 0 [e0] (tokAt ts s.k).at_,⟨s2.k,dec s2.o,s2.E,s2.F⟩)):=by
 have HE:=vH (fun w1 hh => hrec 5 _ (e0,s2) (by decide) he w1 R S hh)
 have HV1:=vH hv1
 have HV0:=vH hv0
 have htx:=(is_text hv1).2.2
 have htk:=fun w1 hh => zK w1 R S ts s hh
 generalize tokAt ts s.k = t at htk htx ⊢
 obtain ⟨tk,tx,tn,ta⟩:=t
 dsimp only at htx ⊢
 subst htx
 unfold tokW at htk
 dsimp only at htk
 have HTK:=vH htk
 clear htk hrec he hv1 hv0
 have hlt:=h.lt
 have HH:=vH h
 have F:=vH ((Fq.start h).alloc (.cells vE 111))
 clear h
 go_in
 go_wp2_with fail
 refine (HTK.out _ F.out.qr).mono ?_
 rintro e u1 ⟨rfl,hb⟩
 replace F:=vH (F.out.go hb)
 clear hb
 have hNB0:=zA (F.out.keep _ vA).1
 go_wp2_with fail
 replace F:=vH (F.out.alloc (.cells #[.int .i64 tk,.string (cbs [33]),.int .i64 tn,.int .i64 ta] 52))
 refine (zD _ R S ts _ F.out.qr ⟨#[45]⟩ (by decide) false (by decide)).mono ?_
 rintro e u2 ⟨rfl,hb⟩
 replace F:=vH (F.out.go hb)
 clear hb
 try rw [HV0.out]
 go_wp2_with fail
 refine (zD _ R S ts _ F.out.qr ⟨#[33]⟩ (by decide) false (by decide)).mono ?_
 rintro e u3 ⟨rfl,hb⟩
 replace F:=vH (F.out.go hb)
 clear hb
 try rw [HV1.out]
 have hk:=(F.out.keep _ vA)
 obtain ⟨⟨t0,t1,t2,t3⟩,q0,q1,q2,q3⟩:=quad hk.1
 have hlt:=zA hk.1
 have hnt:=hk.2
 have hmt:=Ne.symm hnt
 clear hk q0 q1 q2 q3
 go_wp2_with fail
 clear t0 t1 t2 t3 hlt hnt hmt
 refine (zAx _ R S ts _ F.out.qr ⟨#[33]⟩ (zAm _ (by decide))).mono ?_
 rintro e u4 ⟨rfl,hr,hg⟩
 replace F:=vH (F.out.step hr hg)
 clear hr hg
 go_wp2_with fail
 have hRB:=F.out.qr.lt
 have hNB:=zA (F.out.keep _ vB).1
 refine (HE.out _ F.out.qr).mono ?_
 rintro e u5 ⟨qk,qn,qs,qo,qd,qp,ql,qc,qa,qb,qr,qe,qf,rfl,hi,hr,hg⟩
 replace F:=vH ((F.out.step hr hg).tree hi hNB hRB)
 clear hi hr hg hRB hNB
 obtain ⟨⟨c0,c1,c2,c3,c4⟩,fr,hRl⟩:=F.out.qr.cells
 have fr1:=fr 1
 have fr2:=fr 2
 clear fr
 have hk:=(F.out.keep _ vA)
 obtain ⟨⟨t0,t1,t2,t3⟩,q0,q1,q2,q3⟩:=quad hk.1
 have hlt:=zA hk.1
 have hnt:=hk.2
 have hmt:=Ne.symm hnt
 clear hk q0 q1 q2 q3
 have hk:=(F.out.keep _ vB)
 obtain ⟨⟨d0,d1,d2,d3,d4,d5,d6,d7,d8,d9,dX⟩,g0,g1,g2,g3,g4,g5,g6,g7,g8,g9,gX⟩:=hen hk.1
 have hld:=zA hk.1
 have hnd:=hk.2
 clear hk
 go_wp2_with fail
 replace F:=vH (F.out.set_o (dec s2.o))
 have hn:=(((Nw.start F.out.gr).pv (.int .i64 13) (.int .i64 0) (.string ⟨#[]⟩) (.string ⟨#[]⟩) (.int .i64 0) (.slice (some ⟨u5.heap.size + 1,0,none⟩) 1 1) (.int .i64 ta) (.int .i64 0) (.int .i64 0) (.int .i64 0) (.int .i64 0)).alloc (.cells #[.int .i64 qk,.int .i64 qn,.string (cbs qs),.string (cbs qo),.int .i64 qd,.slice qp ql qc,.int .i64 qa,.int .i64 qb,.int .i64 qr,.int .i64 qe,.int .i64 qf] 111)).alloc (.cells #[.int .i64 qk,.int .i64 qn,.string (cbs qs),.string (cbs qo),.int .i64 qd,.slice qp ql qc,.int .i64 qa,.int .i64 qb,.int .i64 qr,.int .i64 qe,.int .i64 qf] 111)
 have hbx:=zCo (w:=u5.setCell ⟨R,2,none⟩ (.int .i64 (dec s2.o))) (N:=w.heap.size) (o:=.cells #[.int .i64 qk,.int .i64 qn,.string (cbs qs),.string (cbs qo),.int .i64 qd,.slice qp ql qc,.int .i64 qa,.int .i64 qb,.int .i64 qr,.int .i64 qe,.int .i64 qf] 111) (o2:=.cells #[.int .i64 qk,.int .i64 qn,.string (cbs qs),.string (cbs qo),.int .i64 qd,.slice qp ql qc,.int .i64 qa,.int .i64 qb,.int .i64 qr,.int .i64 qe,.int .i64 qf] 111) (c0:=.int .i64 13) (c1:=.int .i64 0) (c2:=.string ⟨#[]⟩) (c3:=.string ⟨#[]⟩) (c4:=.int .i64 0) (c5:=.slice (some ⟨u5.heap.size + 1,0,none⟩) 1 1) (c6:=.int .i64 ta) (c7:=.int .i64 0) (c8:=.int .i64 0) (c9:=.int .i64 0) (c10:=.int .i64 0)
 rw [zI] at hbx
 have hle:w.heap.size ≤ u5.heap.size + 1:=by omega
 exact bodyPost_ret (v:=.agg #[.int .i64 13,.int .i64 0,.string ⟨#[]⟩,.string ⟨#[]⟩,.int .i64 0,.slice (some ⟨u5.heap.size + 1,0,none⟩) 1 1,.int .i64 ta,.int .i64 0,.int .i64 0,.int .i64 0,.int .i64 0]) (by simp [results,Tryz.results104,go_sem,hld,d0,d1,d2,d3,d4,d5,d6,d7,d8,d9,dX]) rfl ⟨_,_,_,_,_,_,_,_,_,_,_,_,_,rfl,Is.node1 hbx hle (Is.lower (Nat.le_of_lt (F.out.trees _ vA).2.1) _ ((((F.out.trees _ vA).1.put11 (F.out.trees _ vA).2.1).alloc _).alloc _)) rfl 13 0 [] [] 0 ta 1,HH.out.fin F.out.qr hn,hn.gr⟩
def IsOff (g:Nat → Prop)(w:World)(B:Nat)(e:Ex)(vs:List Value):Prop:=
 ∀ w':World,w.heap.size ≤ w'.heap.size → (∀ bl,B ≤ bl → bl < w.heap.size → ¬ g bl → w'.heap[bl]? = w.heap[bl]?) → Is w' B e vs
theorem IsOff.now {g:Nat → Prop}{w:World}{B:Nat}{e:Ex}{vs:List Value}(h:IsOff g w B e vs):Is w B e vs:=h w (Nat.le_refl _) fun _ _ _ _ => rfl
theorem IsOff.of {g:Nat → Prop}{w:World}{B B2:Nat}{e:Ex}{vs:List Value}(h:Is w B2 e vs)(hB:B ≤ B2)(hg:∀ k,g k → k < B2):IsOff g w B e vs:=
 fun w' hs hk => Is.lower hB _ (Is.keep hs (fun bl h1 h2 => hk bl (Nat.le_trans hB h1) h2 (fun e => by have:=hg _ e; omega)) _ h)
theorem IsOff.top {g:Nat → Prop}{w:World}{B:Nat}{e:Ex}{vs:List Value}(h:Is w B e vs)(hg:∀ k,g k → w.heap.size ≤ k):IsOff g w B e vs:=
 fun w' hs hk => Is.keep hs (fun bl h1 h2 => hk bl h1 h2 (fun e => by have:=hg _ e; omega)) _ h
theorem IsOff.go {g:Nat → Prop}{w w1:World}{B:Nat}{e:Ex}{vs:List Value}(h:IsOff g w B e vs)(hs:w.heap.size ≤ w1.heap.size)(hk:∀ bl,B ≤ bl → bl < w.heap.size → ¬ g bl → w1.heap[bl]? = w.heap[bl]?):IsOff g w1 B e vs:=
 fun w' hs' hk' => h w' (Nat.le_trans hs hs') fun bl h1 h2 h3 => (hk' bl h1 (Nat.lt_of_lt_of_le h2 hs) h3).trans (hk bl h1 h2 h3)
theorem IsOff.below {g:Nat → Prop}{w w1:World}{B:Nat}{e:Ex}{vs:List Value}(h:IsOff g w B e vs)(hb:Below w.heap.size w w1):IsOff g w1 B e vs:=h.go hb.size fun bl _ h2 _ => hb.block bl h2
theorem IsOff.gr {g:Nat → Prop}{w w1:World}{R B:Nat}{e:Ex}{vs:List Value}(h:IsOff g w B e vs)(hR:R < B)(hg:Gr R w w1):IsOff g w1 B e vs:=h.go hg.size fun bl h1 h2 _ => hg.block bl h2 (by omega)
theorem IsOff.alloc {g:Nat → Prop}{w:World}{B:Nat}{e:Ex}{vs:List Value}(h:IsOff g w B e vs)(o:Obj):IsOff g (w.alloc o) B e vs:=h.below ((Below.refl _ _).alloc (Nat.le_refl _) _)
theorem IsOff.put11 {g:Nat → Prop}{w:World}{N B:Nat}{e:Ex}{vs:List Value}(h:IsOff g w B e vs)(hN:g N){c0 c1 c2 c3 c4 c5 c6 c7 c8 c9 c10:Value}:IsOff g (((((((((((w.setCell ⟨N,0,none⟩ c0).setCell ⟨N,1,none⟩ c1).setCell ⟨N,2,none⟩ c2).setCell ⟨N,3,none⟩ c3).setCell ⟨N,4,none⟩ c4).setCell ⟨N,5,none⟩ c5).setCell ⟨N,6,none⟩ c6).setCell ⟨N,7,none⟩ c7).setCell ⟨N,8,none⟩ c8).setCell ⟨N,9,none⟩ c9).setCell ⟨N,10,none⟩ c10) B e vs:=
 h.go (by simp only [zI]; exact Nat.le_refl _) fun bl _ hb hne => by
  obtain ⟨o,ho⟩:∃ o,w.heap[bl]? = some o:=⟨_,Array.getElem?_eq_getElem hb⟩
  rw [ho]
  exact zM ho (fun he => hne (by rw [he]; exact hN))
theorem IsOff.node1 {g:Nat → Prop}{w:World}{B bl:Nat}{T:TypeId}{e:Ex}{vs:List Value}{A:Array Value}(hb:w.heap[bl]? = some (.cells A T (0,0)))(hne:B ≤ bl)(hg:¬ g bl)(hi:IsOff g w B e vs)(hA:A = ⟨vs⟩)(kind num:Int)(name ofn:List UInt8)(dims at_:Int)(c:Nat) :
 IsOff g w B (Ex.of kind num name ofn dims [e] at_) (exCells kind num name ofn dims (.slice (some ⟨bl,0,none⟩) 1 c) at_ 0 0 0 0):=
 fun w' hs hk => Is.node1 ((hk bl hne (zA hb) hg).trans hb) hne (hi w' hs hk) hA kind num name ofn dims at_ c
theorem IsOff.node2 {g:Nat → Prop}{w:World}{B bl:Nat}{T:TypeId}{e e2:Ex}{vs vs2:List Value}{A:Array Value}(hb:w.heap[bl]? = some (.cells A T (0,0)))(hne:B ≤ bl)(hg:¬ g bl)(hi:IsOff g w B e vs)(hi2:IsOff g w B e2 vs2)(hA:A = ⟨vs ++ vs2⟩)(kind num:Int)(name ofn:List UInt8)(dims at_:Int)(c:Nat) :
 IsOff g w B (Ex.of kind num name ofn dims [e,e2] at_) (exCells kind num name ofn dims (.slice (some ⟨bl,0,none⟩) 2 c) at_ 0 0 0 0):=
 fun w' hs hk => Is.node2 ((hk bl hne (zA hb) hg).trans hb) hne (hi w' hs hk) (hi2 w' hs hk) hA kind num name ofn dims at_ c
def Own (eb rb:Nat)(k:Nat):Prop:=k = eb ∨ k = rb
structure Hoq (w wr:World) (R:Nat) (S:Value) (ts:List RT) (B eb rb:Nat) (kind num:Int) (name ofn:List UInt8) (dims:Int) (p:Option Addr) (ln c:Nat) (at_ b r d ref:Int) (e:Ex) (s:Q):Prop where
 f:Fq w wr R S ts s [(eb,.cells #[.int .i64 kind,.int .i64 num,.string (cbs name),.string (cbs ofn),.int .i64 dims,.slice p ln c,.int .i64 at_,.int .i64 b,.int .i64 r,.int .i64 d,.int .i64 ref] 111),(rb,.cells vE 111)] []
 is:IsOff (Own eb rb) wr B e (exCells kind num name ofn dims (.slice p ln c) at_ b r d ref)
theorem Fq.sub {w wr:World}{R:Nat}{S:Value}{ts:List RT}{s:Q}{L L2:List (Nat × Obj)}{T:List (Nat × Ex × List Value)}(h:Fq w wr R S ts s L T)(hs:∀ p ∈ L2,p ∈ L):Fq w wr R S ts s L2 []:=⟨h.qr,h.gr,fun p hp => h.keep p (hs p hp),fun _p hp => (List.not_mem_nil hp).elim⟩
theorem Fq.write {w u:World}{R:Nat}{S:Value}{ts:List RT}{s0 s:Q}{L:List (Nat × Obj)}{T:List (Nat × Ex × List Value)}{eb rb:Nat}{ob:Obj}{o0 o1 o2 o3 o4 o5 o6 o7 o8 o9 o10:Value}{ty:TypeId}(h:Fq w u R S ts s L T)(h0:Qr w R S ts s0)(he:(eb,.cells #[o0,o1,o2,o3,o4,o5,o6,o7,o8,o9,o10] ty) ∈ L)(hr:(rb,ob) ∈ L)(hw:w.heap.size ≤ eb)(hne:rb ≠ eb){c0 c1 c2 c3 c4 c5 c6 c7 c8 c9 c10:Value} :
 Fq w (((((((((((u.setCell ⟨eb,0,none⟩ c0).setCell ⟨eb,1,none⟩ c1).setCell ⟨eb,2,none⟩ c2).setCell ⟨eb,3,none⟩ c3).setCell ⟨eb,4,none⟩ c4).setCell ⟨eb,5,none⟩ c5).setCell ⟨eb,6,none⟩ c6).setCell ⟨eb,7,none⟩ c7).setCell ⟨eb,8,none⟩ c8).setCell ⟨eb,9,none⟩ c9).setCell ⟨eb,10,none⟩ c10) R S ts s [(eb,.cells #[c0,c1,c2,c3,c4,c5,c6,c7,c8,c9,c10] ty),(rb,ob)] []:=by
 have hn:=(Nw.start h.gr).put11 (B:=eb) hw (c0:=c0) (c1:=c1) (c2:=c2) (c3:=c3) (c4:=c4) (c5:=c5) (c6:=c6) (c7:=c7) (c8:=c8) (c9:=c9) (c10:=c10)
 refine ⟨h0.fin h.qr hn,hn.gr,fun p hp => ?_,fun p hp => (List.not_mem_nil hp).elim⟩
 rcases List.mem_cons.1 hp with rfl | hp
 ·exact ⟨zJM (h.keep _ he).1,(h.keep _ he).2⟩
 ·rcases List.mem_cons.1 hp with rfl | hp
  ·exact ⟨zM (h.keep _ hr).1 hne,(h.keep _ hr).2⟩
  ·exact (List.not_mem_nil hp).elim
theorem zKQ {ts:List RT}{rec:Nat → Q → Qe.Out}{e:Ex}{s:Q}{x:Ex × Q}(h:Qe.behind ts rec 0 e s = some x):False:=by
 rw [Qe.behind] at h; cases h
theorem zMs {ts:List RT}{rec:Nat → Q → Qe.Out}{g:Nat}{e:Ex}{s:Q}{x:Ex × Q}(h:Qe.behind ts rec (g + 1) e s = some x)(hv:Qe.is ts s false [46] = true):Qe.behind ts rec g (Ex.of 5 0 (Qe.name ts (Qe.next s)).1 [] 0 [e] (tokAt ts s.k).at_) (Qe.name ts (Qe.next s)).2 = some x:=by
 rw [Qe.behind,if_pos hv] at h; exact h
theorem zKR {ts:List RT}{rec:Nat → Q → Qe.Out}{g:Nat}{e:Ex}{s:Q}{x:Ex × Q}(h:Qe.behind ts rec (g + 1) e s = some x)(hv:Qe.is ts s false [46] = false)(hv2:Qe.is ts s false [91] = true) :
 ∃ i s2,rec 0 (Qe.opens ts s [91]) = some (i,s2) ∧ Qe.behind ts rec g (Ex.of 6 0 [] [] 0 [e,i] (tokAt ts s.k).at_) (Qe.closes ts s2 [93]) = some x:=by
 rw [Qe.behind,if_neg (by rw [hv]; decide),if_pos hv2] at h
 split at h
 ·cases h
 ·rename_i i s2 he
  exact ⟨i,s2,he,h⟩
theorem zMr {ts:List RT}{rec:Nat → Q → Qe.Out}{g:Nat}{e:Ex}{s:Q}{x:Ex × Q}(h:Qe.behind ts rec (g + 1) e s = some x)(hv:Qe.is ts s false [46] = false)(hv2:Qe.is ts s false [91] = false):x = (e,s):=by
 rw [Qe.behind,if_neg (by rw [hv]; decide),if_neg (by rw [hv2]; decide)] at h
 simpa using h.symm
theorem Fq.two {w wr:World}{R:Nat}{S:Value}{ts:List RT}{s:Q}{L:List (Nat × Obj)}{T:List (Nat × Ex × List Value)}(h:Fq w wr R S ts s L T){a b:Nat × Obj}(ha:a ∈ L)(hb:b ∈ L):Fq w wr R S ts s [a,b] []:=
 h.sub fun _p hp => (List.mem_cons.1 hp).elim (fun e => e ▸ ha) fun hp => (List.mem_cons.1 hp).elim (fun e => e ▸ hb) fun hp => (List.not_mem_nil hp).elim
theorem zFC (w:World)(R:Nat)(S:Value)(ts:List RT)(s:Q)(h:Qr w R S ts s)(rec:Nat → Q → Qe.Out)(hrec:QRecOk ts rec)(B:Nat)(hB:R < B)(hBw:B ≤ w.heap.size)(gg:Nat)(e0:Ex)(zk zn:Int)(zs zo:List UInt8)(zd:Int)(zp:Option Addr)(zl zc:Nat)(za zb zr ze zf:Int)(hof:Is w B e0 (exCells zk zn zs zo zd (.slice zp zl zc) za zb zr ze zf))(x:Ex × Q)(hx:Qe.behind ts rec gg e0 s = some x) :
 Calls Tryz.prog 117 #[.pointer (some ⟨R,0,none⟩),.agg #[.int .i64 zk,.int .i64 zn,.string (cbs zs),.string (cbs zo),.int .i64 zd,.slice zp zl zc,.int .i64 za,.int .i64 zb,.int .i64 zr,.int .i64 ze,.int .i64 zf]] w (QPost B w R S ts x):=by
 have HX:=vH hx
 have HREC:=vH (fun (s2:Q) (y:Ex × Q) (hy:rec 0 s2 = some y) w1 hh => hrec 0 s2 y (by decide) hy w1 R S hh)
 have HRB:=vH hB
 have HBW:=vH hBw
 have hlt:=h.lt
 have HH:=vH h
 have f0:=((Fq.start h).alloc (.cells #[.int .i64 zk,.int .i64 zn,.string (cbs zs),.string (cbs zo),.int .i64 zd,.slice zp zl zc,.int .i64 za,.int .i64 zb,.int .i64 zr,.int .i64 ze,.int .i64 zf] 111)).alloc (.cells vE 111)
 rw [zB] at f0
 have HO:=vH (show Hoq w ((w.alloc (.cells #[.int .i64 zk,.int .i64 zn,.string (cbs zs),.string (cbs zo),.int .i64 zd,.slice zp zl zc,.int .i64 za,.int .i64 zb,.int .i64 zr,.int .i64 ze,.int .i64 zf] 111)).alloc (.cells vE 111)) R S ts B w.heap.size (w.heap.size + 1) zk zn zs zo zd zp zl zc za zb zr ze zf e0 s from ⟨f0.two vB vA,((IsOff.top hof (fun k hk => by rcases hk with rfl | rfl <;> omega)).alloc _).alloc _⟩)
 clear f0 hof h hx hrec hB hBw
 go_in
 go_wp2_with fail
 go_loopg [] gg (fun m wr => ∃ e s4 kind num name ofn dims p ln c at_ b r d ref,Hoq w wr R S ts B w.heap.size (w.heap.size + 1) kind num name ofn dims p ln c at_ b r d ref e s4 ∧ Qe.behind ts rec m e s4 = some x)
 case atStart => exact ⟨_,_,_,_,_,_,_,_,_,_,_,_,_,_,_,HO.out,HX.out⟩
 case round =>
  obtain ⟨e,s4,kind,num,name,ofn,dims,p,ln,c,at_,b,r,d,ref,ho,hx⟩:=hrel
  have F:=vH ho.f
  have I:=vH ho.is
  have HX1:=vH hx
  clear ho hx HO HX
  cases gk with
  | zero => exact (zKQ HX1.out).elim
  | succ m =>
    have htk:=fun w1 hh => zK w1 R S ts s4 hh
    cases hv:Qe.is ts s4 false [46] with
    | true =>
      have h5:=zMs HX1.out hv
      have hp:=fun w1 hh => zAs w1 R S ts (Qe.next s4) hh
      generalize Qe.name ts (Qe.next s4) = y at hp h5
      obtain ⟨nm,s5⟩:=y
      dsimp only at hp h5
      generalize tokAt ts s4.k = t at htk h5
      unfold tokW at htk
      have HTK:=vH htk
      have HP:=vH hp
      have H5:=vH h5
      have HV:=vH hv
      clear htk hp h5 hv HX1
      go_wp2_with fail
      refine (zD _ R S ts _ F.out.qr ⟨#[46]⟩ (by decide) false (by decide)).mono ?_
      rintro e' wl1 ⟨rfl,hb⟩
      replace F:=vH (F.out.go hb)
      replace I:=vH (I.out.below hb)
      clear hb
      try rw [HV.out]
      go_wp2_with fail
      refine (HTK.out _ F.out.qr).mono ?_
      rintro e' wl2 ⟨rfl,hb⟩
      replace F:=vH (F.out.go hb)
      replace I:=vH (I.out.below hb)
      clear hb
      go_wp2_with fail
      have HNT:=vH (Nat.ne_of_gt (zA (F.out.keep _ vA).1))
      replace F:=vH (F.out.alloc (.cells (vT t) 52))
      replace I:=vH (I.out.alloc (.cells (vT t) 52))
      refine (zD _ R S ts _ F.out.qr ⟨#[46]⟩ (by decide) false (by decide)).mono ?_
      rintro e' wl3 ⟨rfl,hb⟩
      replace F:=vH (F.out.go hb)
      replace I:=vH (I.out.below hb)
      clear hb
      try rw [HV.out]
      obtain ⟨⟨c0,c1,c2,c3,c4⟩,fr,hRl⟩:=F.out.qr.cells
      have fr1:=fr 1
      have fr2:=fr 2
      clear fr
      go_wp2_with fail
      clear c0 c1 c2 c3 c4 fr1 fr2 hRl
      have F2:=vH (F.out.set_k (inc s4.k))
      change Hid (Fq _ _ _ _ _ (Qe.next s4) _ _) at F2
      clear F
      have F:=F2
      clear F2
      replace I:=vH (I.out.gr HRB.out ((Gr.refl R _).set 1 (.int .i64 (inc s4.k))))
      obtain ⟨wn,hwn⟩:∃ wn,wn = wl3.setCell ⟨R,1,none⟩ (.int .i64 (inc s4.k)):=⟨_,rfl⟩
      rw [← hwn] at F I
      change Code.wp _ _ _ _ (wl3.setCell ⟨R,1,none⟩ (.int .i64 (inc s4.k)))
      rw [← hwn]
      clear hwn
      have HWN:=vH (show w.heap.size + 1 < wn.heap.size from zA (F.out.keep _ vC).1)
      clear HTK
      have hk:=(F.out.keep _ vB)
      obtain ⟨⟨x0,x1,x2,x3,x4,x5,x6,x7,x8,x9,xX⟩,y0,y1,y2,y3,y4,y5,y6,y7,y8,y9,yX⟩:=hen hk.1
      have hlx:=zA hk.1
      have hnx:=hk.2
      clear hk
      have hmx:=Ne.symm hnx
      have hk:=(F.out.keep _ vA)
      obtain ⟨⟨t0,t1,t2,t3⟩,q0,q1,q2,q3⟩:=quad hk.1
      have hlt:=zA hk.1
      have hnt:=hk.2
      have hmt:=Ne.symm hnt
      clear hk q0 q1 q2 q3
      have HB1:=vH ((Below.refl wn.heap.size wn).drew)
      have HB2:=vH (fun o:Obj => ((Below.refl wn.heap.size wn).alloc (Nat.le_refl _) o).drew)
      have F1:=vH (F.out.go HB1.out)
      have F2:=vH (fun o:Obj => F.out.go (HB2.out o))
      have I1:=vH (I.out.below HB1.out)
      have I2:=vH (fun o:Obj => I.out.below (HB2.out o))
      have HKA:Hid (∀ (o:Obj) (w2:World),Gr R (wn.alloc o).drew w2 → w2.heap[wn.heap.size]? = some o):=fun o w2 hg => mine (w:=wn) (hg:=⟨hg.os,hg.tape,hg.output,hg.size,hg.block⟩) F.out.qr.lt
      have HK1:=vH (F1.out.keep _ vB).1
      have HT1:=vH (F1.out.keep _ vA).1
      have HK1a:=vH (fun o => ((F2.out o).keep _ vB).1)
      have HT1a:=vH (fun o => ((F2.out o).keep _ vA).1)
      skip
      go_region_with (first
       | (go_at_call 45; with_reducible refine Calls.mono (HP.out _ F1.out.qr) ?_; rintro e' w2 ⟨rfl,hr,hg⟩; clear x0 x1 x2 x3 x4 x5 x6 x7 x8 x9 xX y0 y1 y2 y3 y4 y5 y6 y7 y8 y9 yX hlx hnx hmx; clear t0 t1 t2 t3 hnt hmt; have F4:=vH ((F1.out).step hr hg); have I4:=vH ((I1.out).gr HRB.out hg); have HK2:=vH (F4.out.keep _ vB).1; have HT2:=vH (F4.out.keep _ vA).1; obtain ⟨⟨v0,v1,v2,v3,v4,v5,v6,v7,v8,v9,vX⟩,p0,p1,p2,p3,p4,p5,p6,p7,p8,p9,pX⟩:=hen HK2.out; have hlv:=zA HK2.out; obtain ⟨⟨s0,s1,s2,s3⟩,r0,r1,r2,r3⟩:=quad HT2.out; have hls:=zA HT2.out; clear hr hg)
       | (go_at_call 45; with_reducible refine Calls.mono (HP.out _ (F2.out _).qr) ?_; rintro e' w2 ⟨rfl,hr,hg⟩; clear x0 x1 x2 x3 x4 x5 x6 x7 x8 x9 xX y0 y1 y2 y3 y4 y5 y6 y7 y8 y9 yX hlx hnx hmx; clear t0 t1 t2 t3 hnt hmt; have F4:=vH ((F2.out _).step hr hg); have I4:=vH ((I2.out _).gr HRB.out hg); have HK2:=vH (F4.out.keep _ vB).1; have HT2:=vH (F4.out.keep _ vA).1; obtain ⟨⟨v0,v1,v2,v3,v4,v5,v6,v7,v8,v9,vX⟩,p0,p1,p2,p3,p4,p5,p6,p7,p8,p9,pX⟩:=hen HK2.out; have hlv:=zA HK2.out; obtain ⟨⟨s0,s1,s2,s3⟩,r0,r1,r2,r3⟩:=quad HT2.out; have hls:=zA HT2.out; have HKID:=vH (HKA.out _ _ hg); clear hr hg))
      all_goals (clear HT1 HT1a HK1 HK1a F1 F2 I1 I2 HB1 HB2)
      all_goals first
       | (have hk9:=HKID.out; clear hk9; go_wp2_with fail
          go_roundg m
          case measure => omega
          case rel =>
           have hz2:w.heap.size + 1 < w2.heap.size:=zA (F4.out.keep _ vC).1
           have hbx:=zM (N:=w.heap.size) HKID.out (by have:=HWN.out; omega) (c0:=.int .i64 5) (c1:=.int .i64 0) (c2:=.string (cbs nm)) (c3:=.string ⟨#[]⟩) (c4:=.int .i64 0) (c5:=.slice (some ⟨wn.heap.size,0,none⟩) 1 1) (c6:=.int .i64 t.at_) (c7:=.int .i64 0) (c8:=.int .i64 0) (c9:=.int .i64 0) (c10:=.int .i64 0)
           exact ⟨_,s5,_,_,_,_,_,_,_,_,_,_,_,_,_,⟨(F4.out.write HH.out vB vC (Nat.le_refl _) (by omega) (c0:=.int .i64 5) (c1:=.int .i64 0) (c2:=.string (cbs nm)) (c3:=.string ⟨#[]⟩) (c4:=.int .i64 0) (c5:=.slice (some ⟨wn.heap.size,0,none⟩) 1 1) (c6:=.int .i64 t.at_) (c7:=.int .i64 0) (c8:=.int .i64 0) (c9:=.int .i64 0) (c10:=.int .i64 0)),IsOff.node1 hbx (by have:=HBW.out; have:=HWN.out; omega) (fun hh => by have:=HWN.out; rcases hh with hh | hh <;> omega) (I4.out.put11 (.inl rfl)) rfl 5 0 nm [] 0 t.at_ 1⟩,H5.out⟩)
       | (go_wp2_with fail
          go_roundg m
          case measure => omega
          case rel =>
           have hz2:w.heap.size + 1 < w2.heap.size:=zA (F4.out.keep _ vC).1
           have hbx:=zAD (w:=w2) (N:=w.heap.size) (o:=.cells #[.int .i64 kind,.int .i64 num,.string (cbs name),.string (cbs ofn),.int .i64 dims,.slice p ln c,.int .i64 at_,.int .i64 b,.int .i64 r,.int .i64 d,.int .i64 ref] 111) (c0:=.int .i64 5) (c1:=.int .i64 0) (c2:=.string (cbs nm)) (c3:=.string ⟨#[]⟩) (c4:=.int .i64 0) (c5:=.slice (some ⟨w2.heap.size,0,none⟩) 1 1) (c6:=.int .i64 t.at_) (c7:=.int .i64 0) (c8:=.int .i64 0) (c9:=.int .i64 0) (c10:=.int .i64 0)
           exact ⟨_,s5,_,_,_,_,_,_,_,_,_,_,_,_,_,⟨((F4.out.write HH.out vB vC (Nat.le_refl _) (by omega) (c0:=.int .i64 5) (c1:=.int .i64 0) (c2:=.string (cbs nm)) (c3:=.string ⟨#[]⟩) (c4:=.int .i64 0) (c5:=.slice (some ⟨w2.heap.size,0,none⟩) 1 1) (c6:=.int .i64 t.at_) (c7:=.int .i64 0) (c8:=.int .i64 0) (c9:=.int .i64 0) (c10:=.int .i64 0)).alloc _).sub (fun p hp => List.Mem.tail _ hp),IsOff.node1 hbx (by have:=HBW.out; omega) (fun hh => by rcases hh with hh | hh <;> omega) ((I4.out.put11 (.inl rfl)).alloc _) rfl 5 0 nm [] 0 t.at_ 1⟩,H5.out⟩)
    | false =>
      have HV:=vH hv
      clear hv
      cases hv2:Qe.is ts s4 false [91] with
      | true =>
        obtain ⟨i0,s5,he,h5⟩:=zKR HX1.out HV.out hv2
        generalize tokAt ts s4.k = t at htk h5
        unfold tokW at htk
        have HTK:=vH htk
        have HE:=vH he
        have H5:=vH h5
        have HV2:=vH hv2
        clear htk he h5 hv2 HX1
        go_wp2_with fail
        refine (zD _ R S ts _ F.out.qr ⟨#[46]⟩ (by decide) false (by decide)).mono ?_
        rintro e' wl1 ⟨rfl,hb⟩
        replace F:=vH (F.out.go hb)
        replace I:=vH (I.out.below hb)
        clear hb
        try rw [HV.out]
        go_wp2_with fail
        refine (zD _ R S ts _ F.out.qr ⟨#[91]⟩ (by decide) false (by decide)).mono ?_
        rintro e' wl2 ⟨rfl,hb⟩
        replace F:=vH (F.out.go hb)
        replace I:=vH (I.out.below hb)
        clear hb
        try rw [HV2.out]
        go_wp2_with fail
        refine (HTK.out _ F.out.qr).mono ?_
        rintro e' wl3 ⟨rfl,hb⟩
        replace F:=vH (F.out.go hb)
        replace I:=vH (I.out.below hb)
        clear hb
        go_wp2_with fail
        have HNT:=vH (Nat.ne_of_gt (zA (F.out.keep _ vA).1))
        replace F:=vH (F.out.alloc (.cells (vT t) 52))
        replace I:=vH (I.out.alloc (.cells (vT t) 52))
        refine (zD _ R S ts _ F.out.qr ⟨#[46]⟩ (by decide) false (by decide)).mono ?_
        rintro e' wl4 ⟨rfl,hb⟩
        replace F:=vH (F.out.go hb)
        replace I:=vH (I.out.below hb)
        clear hb
        try rw [HV.out]
        go_wp2_with fail
        refine (zAx _ R S ts _ F.out.qr ⟨#[91]⟩ (zAm _ (by decide))).mono ?_
        rintro e' wl5 ⟨rfl,hr,hg⟩
        replace F:=vH (F.out.step hr hg)
        replace I:=vH (I.out.gr HRB.out hg)
        clear hr hg
        go_wp2_with fail
        have HNZ:=vH (zA (F.out.keep _ vC).1)
        have hRB:=F.out.qr.lt
        have hNB:=zA (F.out.keep _ vB).1
        refine (HREC.out _ _ HE.out _ F.out.qr).mono ?_
        rintro e' wl6 ⟨zk,zn,zs,zo,zd,zp,zl,zc,za,zb,zr,ze,zf,rfl,hi,hr,hg⟩
        replace F:=vH ((F.out.step hr hg).tree hi hNB hRB)
        replace I:=vH (I.out.gr HRB.out hg)
        clear hi hr hg hRB hNB
        go_wp2_with fail
        have HIZ:=vH (F.out.trees _ vA)
        replace F:=vH (F.out.alloc (.cells #[.int .i64 zk,.int .i64 zn,.string (cbs zs),.string (cbs zo),.int .i64 zd,.slice zp zl zc,.int .i64 za,.int .i64 zb,.int .i64 zr,.int .i64 ze,.int .i64 zf] 111))
        replace I:=vH (I.out.alloc (.cells #[.int .i64 zk,.int .i64 zn,.string (cbs zs),.string (cbs zo),.int .i64 zd,.slice zp zl zc,.int .i64 za,.int .i64 zb,.int .i64 zr,.int .i64 ze,.int .i64 zf] 111))
        refine (zAv _ R S ts _ F.out.qr ⟨#[93]⟩ (zAm _ (by decide))).mono ?_
        rintro e' wl7 ⟨rfl,hr,hg⟩
        replace F:=vH (F.out.step hr hg)
        replace I:=vH (I.out.gr HRB.out hg)
        clear hr hg
        have HIZ2:=vH (F.out.trees _ vA)
        clear HIZ
        have hk:=(F.out.keep _ vC)
        obtain ⟨⟨x0,x1,x2,x3,x4,x5,x6,x7,x8,x9,xX⟩,y0,y1,y2,y3,y4,y5,y6,y7,y8,y9,yX⟩:=hen hk.1
        have hlx:=zA hk.1
        have hnx:=hk.2
        clear hk
        have hmx:=Ne.symm hnx
        have hk:=(F.out.keep _ vB)
        obtain ⟨⟨t0,t1,t2,t3⟩,q0,q1,q2,q3⟩:=quad hk.1
        have hlt:=zA hk.1
        have hnt:=hk.2
        have hmt:=Ne.symm hnt
        clear hk q0 q1 q2 q3
        have hk:=(F.out.keep _ vA)
        obtain ⟨⟨d0,d1,d2,d3,d4,d5,d6,d7,d8,d9,dX⟩,g0,g1,g2,g3,g4,g5,g6,g7,g8,g9,gX⟩:=hen hk.1
        have hld:=zA hk.1
        have hnd:=hk.2
        clear hk
        go_wp2_with fail
        go_roundg m
        case measure => omega
        case rel =>
         have hz2:w.heap.size + 1 < wl7.heap.size:=zA (F.out.keep _ vD).1
         have hbx:=zAD (w:=wl7) (N:=w.heap.size) (o:=.cells #[.int .i64 kind,.int .i64 num,.string (cbs name),.string (cbs ofn),.int .i64 dims,.slice p ln c,.int .i64 at_,.int .i64 b,.int .i64 r,.int .i64 d,.int .i64 ref,.int .i64 zk,.int .i64 zn,.string (cbs zs),.string (cbs zo),.int .i64 zd,.slice zp zl zc,.int .i64 za,.int .i64 zb,.int .i64 zr,.int .i64 ze,.int .i64 zf] 111) (c0:=.int .i64 6) (c1:=.int .i64 0) (c2:=.string ⟨#[]⟩) (c3:=.string ⟨#[]⟩) (c4:=.int .i64 0) (c5:=.slice (some ⟨wl7.heap.size,0,none⟩) 2 2) (c6:=.int .i64 t.at_) (c7:=.int .i64 0) (c8:=.int .i64 0) (c9:=.int .i64 0) (c10:=.int .i64 0)
         exact ⟨_,_,_,_,_,_,_,_,_,_,_,_,_,_,_,⟨((F.out.write HH.out vC vD (Nat.le_refl _) (by omega) (c0:=.int .i64 6) (c1:=.int .i64 0) (c2:=.string ⟨#[]⟩) (c3:=.string ⟨#[]⟩) (c4:=.int .i64 0) (c5:=.slice (some ⟨wl7.heap.size,0,none⟩) 2 2) (c6:=.int .i64 t.at_) (c7:=.int .i64 0) (c8:=.int .i64 0) (c9:=.int .i64 0) (c10:=.int .i64 0)).alloc _).sub (fun p hp => List.Mem.tail _ hp),IsOff.node2 hbx (by have:=HBW.out; omega) (fun hh => by rcases hh with hh | hh <;> omega) ((I.out.put11 (.inl rfl)).alloc _) (IsOff.of ((HIZ2.out.1.put11 (N:=w.heap.size) HIZ2.out.2.1).alloc _) (by have:=HBW.out; have:=HIZ2.out.2.1; omega) (fun q hq => by have:=HNZ.out; rcases hq with rfl | rfl <;> omega)) rfl 6 0 [] [] 0 t.at_ 2⟩,H5.out⟩
      | false =>
        have hx:=zMr HX1.out HV.out hv2
        subst hx
        have HV2:=vH hv2
        clear hv2 HX1
        go_wp2_with fail
        refine (zD _ R S ts _ F.out.qr ⟨#[46]⟩ (by decide) false (by decide)).mono ?_
        rintro e' wl1 ⟨rfl,hb⟩
        replace F:=vH (F.out.go hb)
        replace I:=vH (I.out.below hb)
        clear hb
        try rw [HV.out]
        go_wp2_with fail
        refine (zD _ R S ts _ F.out.qr ⟨#[91]⟩ (by decide) false (by decide)).mono ?_
        rintro e' wl2 ⟨rfl,hb⟩
        replace F:=vH (F.out.go hb)
        replace I:=vH (I.out.below hb)
        clear hb
        try rw [HV2.out]
        have hk:=(F.out.keep _ vA)
        obtain ⟨⟨x0,x1,x2,x3,x4,x5,x6,x7,x8,x9,xX⟩,y0,y1,y2,y3,y4,y5,y6,y7,y8,y9,yX⟩:=hen hk.1
        have hlx:=zA hk.1
        have hnx:=hk.2
        clear hk
        have hmx:=Ne.symm hnx
        have hk:=(F.out.keep _ vB)
        obtain ⟨⟨d0,d1,d2,d3,d4,d5,d6,d7,d8,d9,dX⟩,g0,g1,g2,g3,g4,g5,g6,g7,g8,g9,gX⟩:=hen hk.1
        have hld:=zA hk.1
        have hnd:=hk.2
        clear hk
        go_wp2_with fail
        have hn:=(Nw.start F.out.gr).put11 (B:=w.heap.size + 1) (Nat.le_succ _) (c0:=.int .i64 kind) (c1:=.int .i64 num) (c2:=.string (cbs name)) (c3:=.string (cbs ofn)) (c4:=.int .i64 dims) (c5:=.slice p ln c) (c6:=.int .i64 at_) (c7:=.int .i64 b) (c8:=.int .i64 r) (c9:=.int .i64 d) (c10:=.int .i64 ref)
        exact bodyPost_ret (v:=.agg #[.int .i64 kind,.int .i64 num,.string (cbs name),.string (cbs ofn),.int .i64 dims,.slice p ln c,.int .i64 at_,.int .i64 b,.int .i64 r,.int .i64 d,.int .i64 ref]) (by simp [results,Tryz.results117,go_sem,d0,d1,d2,d3,d4,d5,d6,d7,d8,d9,dX]) rfl ⟨_,_,_,_,_,_,_,_,_,_,_,_,_,rfl,(I.out.put11 (.inr rfl)).now,HH.out.fin F.out.qr hn,hn.gr⟩
end Go.Proofs.YtipmjjfknhblnaaGreatDoor
