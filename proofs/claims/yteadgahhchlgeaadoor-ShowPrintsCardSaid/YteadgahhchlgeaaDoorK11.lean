/-
  The contracts of the answer's reader (runrigref3) over the p
-/
import Derived.Test.YteadgahhchlgeaaDoorK03
import Derived.Test.YteadgahhchlgeaaDoorK09
import Derived.Test.YteadgahhchlgeaaDoorK10
import Derived.Test.YteadgahhchlgeaaDoorK02
import Derived.Deep.RegionHeld3
import Derived.Deep.LoopGhost
set_option maxRecDepth 8000
set_option maxHeartbeats 8000000
namespace Go.Proofs.YteadgahhchlgeaaDoor
open Go.RowKit
open Px (RT tokAt isT)
open Pe (inc dec Ex)
open Qe (Q)
structure Fq (w wr:World) (R:Nat) (S:Value) (ts:List RT) (s:Q) (L:List (Nat × Obj)) (T:List (Nat × Ex × List Value)):Prop where
 qr:Qr wr R S ts s
 gr:Gr R w wr
 keep:∀ p ∈ L,wr.heap[p.1]? = some p.2 ∧ p.1 ≠ R
 trees:∀ p ∈ T,Is wr p.1 p.2.1 p.2.2 ∧ w.heap.size < p.1 ∧ R < p.1
theorem Fq.start {w:World}{R:Nat}{S:Value}{ts:List RT}{s:Q}(h:Qr w R S ts s):Fq w w R S ts s [] []:=⟨h,Gr.refl _ _,fun _ hp => (List.not_mem_nil hp).elim,fun _ hp => (List.not_mem_nil hp).elim⟩
theorem Fq.go {w wr w':World}{R:Nat}{S:Value}{ts:List RT}{s:Q}{L:List (Nat × Obj)}{T:List (Nat × Ex × List Value)}(h:Fq w wr R S ts s L T)(hb:Below wr.heap.size wr w'):Fq w w' R S ts s L T:=
 ⟨h.qr.go hb,h.gr.trans (Gr.of hb),fun p hp => ⟨(hb.block _ (zA (h.keep p hp).1)).trans (h.keep p hp).1,(h.keep p hp).2⟩,fun p hp => ⟨(h.trees p hp).1.below hb,(h.trees p hp).2⟩⟩
theorem Fq.step {w wr w':World}{R:Nat}{S:Value}{ts:List RT}{s s2:Q}{L:List (Nat × Obj)}{T:List (Nat × Ex × List Value)}(h:Fq w wr R S ts s L T)(hr:Qr w' R S ts s2)(hg:Gr R wr w'):Fq w w' R S ts s2 L T:=
 ⟨hr,h.gr.trans hg,fun p hp => ⟨hg.box (h.keep p hp).1 (h.keep p hp).2,(h.keep p hp).2⟩,fun p hp => ⟨(h.trees p hp).1.gr (h.trees p hp).2.2 hg,(h.trees p hp).2⟩⟩
theorem Fq.alloc {w wr:World}{R:Nat}{S:Value}{ts:List RT}{s:Q}{L:List (Nat × Obj)}{T:List (Nat × Ex × List Value)}(h:Fq w wr R S ts s L T)(o:Obj):Fq w (wr.alloc o) R S ts s ((wr.heap.size,o) :: L) T:=by
 have h1:=h.go ((Below.refl _ _).alloc (Nat.le_refl _) o)
 refine ⟨h1.qr,h1.gr,fun p hp => ?_,h1.trees⟩
 rcases List.mem_cons.1 hp with rfl | hp
 ·exact ⟨heap_alloc_new _ _,Nat.ne_of_gt h.qr.lt⟩
 ·exact h1.keep p hp
theorem Fq.tree {w wr:World}{R:Nat}{S:Value}{ts:List RT}{s:Q}{L:List (Nat × Obj)}{T:List (Nat × Ex × List Value)}(h:Fq w wr R S ts s L T){B:Nat}{e:Ex}{vs:List Value}(hi:Is wr B e vs)(hB:w.heap.size < B)(hR:R < B):Fq w wr R S ts s L ((B,e,vs) :: T):=
 ⟨h.qr,h.gr,h.keep,fun p hp => (List.mem_cons.1 hp).elim (fun e => by subst e; exact ⟨hi,hB,hR⟩) (h.trees p)⟩
theorem Fq.set_k {w wr:World}{R:Nat}{S:Value}{ts:List RT}{s:Q}{L:List (Nat × Obj)}{T:List (Nat × Ex × List Value)}(h:Fq w wr R S ts s L T)(q:Int):Fq w (wr.setCell ⟨R,1,none⟩ (.int .i64 q)) R S ts ⟨q,s.o,s.E,s.F⟩ L T:=
 h.step (h.qr.set_k q) ((Gr.refl R wr).set 1 _)
theorem Fq.set_o {w wr:World}{R:Nat}{S:Value}{ts:List RT}{s:Q}{L:List (Nat × Obj)}{T:List (Nat × Ex × List Value)}(h:Fq w wr R S ts s L T)(q:Int):Fq w (wr.setCell ⟨R,2,none⟩ (.int .i64 q)) R S ts ⟨s.k,q,s.E,s.F⟩ L T:=
 h.step (h.qr.set_o q) ((Gr.refl R wr).set 2 _)
def QPost (B:Nat)(w:World)(R:Nat)(S:Value)(ts:List RT)(x:Ex × Q)(e:Ending)(w':World):Prop:=
 ∃ (kind num:Int) (name ofn:List UInt8) (dims:Int) (p:Option Addr) (n c:Nat) (at_ b r d ref:Int),
   e = .returned (.agg #[.int .i64 kind,.int .i64 num,.string (cbs name),.string (cbs ofn),.int .i64 dims,.slice p n c,.int .i64 at_,.int .i64 b,.int .i64 r,.int .i64 d,.int .i64 ref]) ∧
   Is w' B x.1 (exCells kind num name ofn dims (.slice p n c) at_ b r d ref) ∧ Qr w' R S ts x.2 ∧ Gr R w w'
def QRecOk (ts:List RT)(rec:Nat → Q → Qe.Out):Prop:=∀ (n:Nat)(s:Q)(x:Ex × Q),n ≤ 5 → rec n s = some x → ∀ (w:World)(R:Nat)(S:Value),Qr w R S ts s →
 Calls Tryd.prog 32 #[.pointer (some ⟨R,0,none⟩),.int .i64 (n:Int)] w (QPost w.heap.size w R S ts x)
theorem zGw {ts:List RT}{rec:Nat → Q → Qe.Out}{s:Q}{x:Ex × Q}(h:Qe.inner ts rec s = some x):∃ e s2,rec 0 (Qe.opens ts s [40]) = some (e,s2) ∧ x = (e,Qe.closes ts s2 [41]):=by
 unfold Qe.inner at h
 split at h
 ·cases h
 ·rename_i e s2 he
  exact ⟨e,s2,he,by simpa using h.symm⟩
theorem zFO {ts:List RT}{rec:Nat → Q → Qe.Out}{s:Q}{t:List UInt8}{kind:Int}{x:Ex × Q}(h:Qe.prefixed ts rec s t kind = some x):∃ e s2,rec 5 (Qe.opens ts s t) = some (e,s2) ∧ x = (Ex.of kind 0 [] [] 0 [e] (tokAt ts s.k).at_,⟨s2.k,dec s2.o,s2.E,s2.F⟩):=by
 unfold Qe.prefixed at h
 split at h
 ·cases h
 ·rename_i e s2 he
  exact ⟨e,s2,he,by simpa using h.symm⟩
theorem is_text {ts:List RT}{s:Q}{wd:Bool}{t:List UInt8}(h:Qe.is ts s wd t = true):s.E = 0 ∧ (tokAt ts s.k).kind = (if wd then 3 else 4) ∧ (tokAt ts s.k).text = t:=by
 unfold Qe.is isT at h
 simp only [Bool.and_eq_true,beq_iff_eq,decide_eq_true_eq] at h
 exact ⟨h.1,h.2.1,h.2.2⟩
theorem zCU (w:World)(R:Nat)(S:Value)(ts:List RT)(s:Q)(h:Qr w R S ts s)(rec:Nat → Q → Qe.Out)(hrec:QRecOk ts rec)(x:Ex × Q)(hx:Qe.inner ts rec s = some x) :
 Calls Tryd.prog 108 #[.pointer (some ⟨R,0,none⟩)] w (QPost w.heap.size w R S ts x):=by
 obtain ⟨e0,s2,he,rfl⟩:=zGw hx
 have HE:=vH (fun w1 hh => hrec 0 _ (e0,s2) (by decide) he w1 R S hh)
 clear hrec hx he
 have hlt:=h.lt
 have HH:=vH h
 have F:=vH ((Fq.start h).alloc (.cells vE 45))
 clear h
 go_in
 go_wp2_with fail
 refine (zAM _ R S ts _ F.out.qr ⟨#[40]⟩ (zAu _ (by decide))).mono ?_
 rintro e u1 ⟨rfl,hr,hg⟩
 replace F:=vH (F.out.step hr hg)
 clear hr hg
 go_wp2_with fail
 have hRB:=F.out.qr.lt
 have hNB:=zA (F.out.keep _ vA).1
 refine (HE.out _ F.out.qr).mono ?_
 rintro e u2 ⟨qk,qn,qs,qo,qd,qp,ql,qc,qa,qb,qr,qe,qf,rfl,hi,hr,hg⟩
 replace F:=vH ((F.out.step hr hg).tree hi hNB hRB)
 clear hi hr hg hRB hNB
 go_wp2_with fail
 replace F:=vH (F.out.alloc (.cells #[.int .i64 qk,.int .i64 qn,.string (cbs qs),.string (cbs qo),.int .i64 qd,.slice qp ql qc,.int .i64 qa,.int .i64 qb,.int .i64 qr,.int .i64 qe,.int .i64 qf] 45))
 refine (zAK _ R S ts _ F.out.qr ⟨#[41]⟩ (zAu _ (by decide))).mono ?_
 rintro e u3 ⟨rfl,hr,hg⟩
 replace F:=vH (F.out.step hr hg)
 clear hr hg
 have hk:=(F.out.keep _ vA)
 obtain ⟨⟨x0,x1,x2,x3,x4,x5,x6,x7,x8,x9,xX⟩,y0,y1,y2,y3,y4,y5,y6,y7,y8,y9,yX⟩:=hen hk.1
 have hlx:=zA hk.1
 have hnx:=hk.2
 clear hk
 have hk:=(F.out.keep _ vB)
 obtain ⟨⟨d0,d1,d2,d3,d4,d5,d6,d7,d8,d9,dX⟩,g0,g1,g2,g3,g4,g5,g6,g7,g8,g9,gX⟩:=hen hk.1
 have hld:=zA hk.1
 have hnd:=hk.2
 clear hk
 go_wp2_with fail
 have hn:=(Nw.start F.out.gr).pv (.int .i64 qk) (.int .i64 qn) (.string (cbs qs)) (.string (cbs qo)) (.int .i64 qd) (.slice qp ql qc) (.int .i64 qa) (.int .i64 qb) (.int .i64 qr) (.int .i64 qe) (.int .i64 qf)
 exact bodyPost_ret (v:=.agg #[.int .i64 qk,.int .i64 qn,.string (cbs qs),.string (cbs qo),.int .i64 qd,.slice qp ql qc,.int .i64 qa,.int .i64 qb,.int .i64 qr,.int .i64 qe,.int .i64 qf]) (by simp [results,Tryd.results108,go_sem,d0,d1,d2,d3,d4,d5,d6,d7,d8,d9,dX]) rfl ⟨_,_,_,_,_,_,_,_,_,_,_,_,_,rfl,Is.lower (Nat.le_of_lt (F.out.trees _ vA).2.1) _ ((F.out.trees _ vA).1.put11 (F.out.trees _ vA).2.1),HH.out.fin F.out.qr hn,hn.gr⟩
theorem zJI {ts:List RT}{rec:Nat → Q → Qe.Out}{s:Q}{a:Int}{x:Ex × Q}(h:Qe.fresh ts rec s a = some x)(hv:Qe.is ts s false [91] = false):x = (Ex.of 8 0 [] (Qe.name ts s).1 0 [] a,(Qe.name ts s).2):=by
 simp only [Qe.fresh,hv,Bool.false_eq_true,if_false,Option.some.injEq] at h
 exact h.symm
theorem zIm {ts:List RT}{rec:Nat → Q → Qe.Out}{s:Q}{a:Int}{x:Ex × Q}(h:Qe.fresh ts rec s a = some x)(hv:Qe.is ts s false [91] = true):∃ e s2,Qe.inner ts rec (Qe.take ts (Qe.of ts (Qe.next s)).2.2 false [93]) = some (e,s2) ∧ x = (Ex.of 9 0 [] (Qe.of ts (Qe.next s)).1 (Qe.of ts (Qe.next s)).2.1 [e] a,s2):=by
 simp only [Qe.fresh,hv,if_true] at h
 split at h
 ·cases h
 ·rename_i e s2 he
  exact ⟨e,s2,he,by simpa using h.symm⟩
theorem zJP (w:World)(R:Nat)(S:Value)(ts:List RT)(s:Q)(h:Qr w R S ts s)(a:Int)(hv:Qe.is ts s false [91] = false) :
 Calls Tryd.prog 107 #[.pointer (some ⟨R,0,none⟩),.int .i64 a] w (QPost w.heap.size w R S ts (Ex.of 8 0 [] (Qe.name ts s).1 0 [] a,(Qe.name ts s).2)):=by
 have hq:=fun w1 hh => zAG w1 R S ts s hh
 generalize Qe.name ts s = y at hq ⊢
 obtain ⟨nm,s2⟩:=y
 dsimp only at hq ⊢
 have HQ:=vH hq
 have HV:=vH hv
 clear hq hv
 have hlt:=h.lt
 have HH:=vH h
 have F:=vH ((Fq.start h).alloc (.cells vE 45))
 clear h
 go_in
 go_wp2_with fail
 refine (zI _ R S ts _ F.out.qr ⟨#[91]⟩ (by decide) false (by decide)).mono ?_
 rintro e u1 ⟨rfl,hb⟩
 replace F:=vH (F.out.go hb)
 clear hb
 rw [HV.out]
 go_wp2_with fail
 refine (HQ.out _ F.out.qr).mono ?_
 rintro e u2 ⟨rfl,hr,hg⟩
 replace F:=vH (F.out.step hr hg)
 clear hr hg
 have hk:=(F.out.keep _ vA)
 obtain ⟨⟨d0,d1,d2,d3,d4,d5,d6,d7,d8,d9,dX⟩,g0,g1,g2,g3,g4,g5,g6,g7,g8,g9,gX⟩:=hen hk.1
 have hld:=zA hk.1
 have hnd:=hk.2
 clear hk
 go_wp2_with fail
 have hn:=(Nw.start F.out.gr).pv (.int .i64 8) (.int .i64 0) (.string ⟨#[]⟩) (.string (cbs nm)) (.int .i64 0) (.slice none 0 0) (.int .i64 a) (.int .i64 0) (.int .i64 0) (.int .i64 0) (.int .i64 0)
 exact bodyPost_ret (v:=.agg #[.int .i64 8,.int .i64 0,.string ⟨#[]⟩,.string (cbs nm),.int .i64 0,.slice none 0 0,.int .i64 a,.int .i64 0,.int .i64 0,.int .i64 0,.int .i64 0]) (by simp [results,Tryd.results107,go_sem,d0,d1,d2,d3,d4,d5,d6,d7,d8,d9,dX]) rfl ⟨_,_,_,_,_,_,_,_,_,_,_,_,_,rfl,Is.leaf 8 0 [] nm 0 a,HH.out.fin F.out.qr hn,hn.gr⟩
theorem zIw (w:World)(R:Nat)(S:Value)(ts:List RT)(s:Q)(h:Qr w R S ts s)(rec:Nat → Q → Qe.Out)(hrec:QRecOk ts rec)(a:Int)(hv:Qe.is ts s false [91] = true)(e0:Ex)(s2:Q)(he:Qe.inner ts rec (Qe.take ts (Qe.of ts (Qe.next s)).2.2 false [93]) = some (e0,s2)) :
 Calls Tryd.prog 107 #[.pointer (some ⟨R,0,none⟩),.int .i64 a] w (QPost w.heap.size w R S ts (Ex.of 9 0 [] (Qe.of ts (Qe.next s)).1 (Qe.of ts (Qe.next s)).2.1 [e0] a,s2)):=by
 have hq:=fun w1 hh => zCT w1 R S ts (Qe.next s) hh
 generalize Qe.of ts (Qe.next s) = y at hq he ⊢
 obtain ⟨nm,dm,s1⟩:=y
 dsimp only at hq he ⊢
 have HQ:=vH hq
 have HV:=vH hv
 have HE:=vH (fun w1 hh => zCU w1 R S ts _ hh rec hrec (e0,s2) he)
 clear hq hv hrec he
 have hlt:=h.lt
 have HH:=vH h
 have F:=vH ((Fq.start h).alloc (.cells vE 45))
 clear h
 go_in
 go_wp2_with fail
 refine (zI _ R S ts _ F.out.qr ⟨#[91]⟩ (by decide) false (by decide)).mono ?_
 rintro e u1 ⟨rfl,hb⟩
 replace F:=vH (F.out.go hb)
 clear hb
 rw [HV.out]
 obtain ⟨⟨c0,c1,c2,c3,c4⟩,fr,hRl⟩:=F.out.qr.cells
 have fr1:=fr 1
 have fr2:=fr 2
 clear fr
 go_wp2_with fail
 clear c0 c1 c2 c3 c4 fr1 fr2 hRl
 replace F:=vH (F.out.set_k (inc s.k))
 refine (HQ.out _ F.out.qr).mono ?_
 rintro e u2 ⟨rfl,hr,hg⟩
 replace F:=vH (F.out.step hr hg)
 clear hr hg
 go_wp2_with fail
 have hNB0:=zA (F.out.keep _ vA).1
 replace F:=vH (F.out.alloc (.cells #[.string (cbs nm),.int .i64 dm] 40))
 refine (zJ _ R S ts _ F.out.qr ⟨#[93]⟩ (by decide) false (by decide)).mono ?_
 rintro e u3 ⟨rfl,hr,hg⟩
 replace F:=vH (F.out.step hr hg)
 clear hr hg
 have hk:=(F.out.keep _ vA)
 obtain ⟨⟨x0,x1⟩,⟨y0,y1⟩,hlx⟩:=duo hk.1
 clear hk y0 y1
 have hk:=(F.out.keep _ vB)
 obtain ⟨⟨d0,d1,d2,d3,d4,d5,d6,d7,d8,d9,dX⟩,g0,g1,g2,g3,g4,g5,g6,g7,g8,g9,gX⟩:=hen hk.1
 have hld:=zA hk.1
 have hnd:=hk.2
 clear hk
 go_wp2_with fail
 replace F:=vH (F.out.go (Below.refl _ _).drew)
 have hRB:=F.out.qr.lt
 have hNB:=zA (F.out.keep _ vB).1
 have hne:=Nat.ne_of_gt hNB0
 have HK1:=vH (F.out.keep _ vA).1
 go_region_held3 (fun w' => w'.cell? ⟨u2.heap.size,0,none⟩ = some (.string (cbs nm)) ∧ w'.cell? ⟨u2.heap.size,1,none⟩ = some (.int .i64 dm)) (with_reducible first | exact (duo HK1.out).1 | exact (duo HK2.out).1 | exact (duo (zM _ HK2.out)).1 | exact (duo (zQ HK2.out hne)).1 | exact (duo (zM _ (zQ HK2.out hne))).1) (first
  | (go_at_call 108; (with_reducible refine Calls.mono (HE.out _ F.out.qr) ?_); rintro e u4 ⟨qk,qn,qs,qo,qd,qp,ql,qc,qa,qb,qr,qe,qf,rfl,hi,hr,hg⟩; have F4:=vH ((F.out.step hr hg).tree hi hNB hRB); have HK2:=vH (F4.out.keep _ vA).1; clear d0 d1 d2 d3 d4 d5 d6 d7 d8 d9 dX g0 g1 g2 g3 g4 g5 g6 g7 g8 g9 gX hld hnd hr hi hg; have hk:=(F4.out.keep _ vB); obtain ⟨⟨v0,v1,v2,v3,v4,v5,v6,v7,v8,v9,vX⟩,p0,p1,p2,p3,p4,p5,p6,p7,p8,p9,pX⟩:=hen hk.1; have hlv:=zA hk.1; have hnv:=hk.2; clear hk))
 clear F HK1 HK2 hRB hNB hne
 have F:=F4
 clear F4
 go_wp2_with fail
 have hn:=((Nw.start F.out.gr).pv (.int .i64 9) (.int .i64 0) (.string ⟨#[]⟩) (.string (cbs nm)) (.int .i64 dm) (.slice (some ⟨u4.heap.size,0,none⟩) 1 1) (.int .i64 a) (.int .i64 0) (.int .i64 0) (.int .i64 0) (.int .i64 0)).alloc (.cells #[.int .i64 qk,.int .i64 qn,.string (cbs qs),.string (cbs qo),.int .i64 qd,.slice qp ql qc,.int .i64 qa,.int .i64 qb,.int .i64 qr,.int .i64 qe,.int .i64 qf] 45)
 have hbx:=zCJ (w:=u4) (N:=w.heap.size) (o:=.cells #[.int .i64 qk,.int .i64 qn,.string (cbs qs),.string (cbs qo),.int .i64 qd,.slice qp ql qc,.int .i64 qa,.int .i64 qb,.int .i64 qr,.int .i64 qe,.int .i64 qf] 45) (c0:=.int .i64 9) (c1:=.int .i64 0) (c2:=.string ⟨#[]⟩) (c3:=.string (cbs nm)) (c4:=.int .i64 dm) (c5:=.slice (some ⟨u4.heap.size,0,none⟩) 1 1) (c6:=.int .i64 a) (c7:=.int .i64 0) (c8:=.int .i64 0) (c9:=.int .i64 0) (c10:=.int .i64 0)
 have hle:w.heap.size ≤ u4.heap.size:=Nat.le_of_lt (zA (F.out.keep _ vB).1)
 exact bodyPost_ret (v:=.agg #[.int .i64 9,.int .i64 0,.string ⟨#[]⟩,.string (cbs nm),.int .i64 dm,.slice (some ⟨u4.heap.size,0,none⟩) 1 1,.int .i64 a,.int .i64 0,.int .i64 0,.int .i64 0,.int .i64 0]) (by simp [results,Tryd.results107,go_sem,hlv,v0,v1,v2,v3,v4,v5,v6,v7,v8,v9,vX]) rfl ⟨_,_,_,_,_,_,_,_,_,_,_,_,_,rfl,Is.node1 hbx hle (Is.lower (Nat.le_of_lt (F.out.trees _ vA).2.1) _ (((F.out.trees _ vA).1.put11 (F.out.trees _ vA).2.1).alloc _)) rfl 9 0 [] nm dm a 1,HH.out.fin F.out.qr hn,hn.gr⟩
theorem zIx (w:World)(R:Nat)(S:Value)(ts:List RT)(s:Q)(h:Qr w R S ts s)(rec:Nat → Q → Qe.Out)(hrec:QRecOk ts rec)(a:Int)(x:Ex × Q)(hx:Qe.fresh ts rec s a = some x) :
 Calls Tryd.prog 107 #[.pointer (some ⟨R,0,none⟩),.int .i64 a] w (QPost w.heap.size w R S ts x):=by
 cases hv:Qe.is ts s false [91] with
 | true =>
   obtain ⟨e0,s2,he,rfl⟩:=zIm hx hv
   exact zIw w R S ts s h rec hrec a hv e0 s2 he
 | false =>
   rw [zJI hx hv]
   exact zJP w R S ts s h a hv
structure ArgSq (w wr:World) (R:Nat) (S:Value) (ts:List RT) (v:Value) (l:List Ex) (s:Q):Prop where
 qr:Qr wr R S ts s
 gr:Gr R w wr
 own:∃ vss:List (List Value),vss.length = l.length ∧ wr.ownsRow w.heap.size 45 11 v l.length vss.flatten ∧ ∀ (i:Nat) e vs,l[i]? = some e → vss[i]? = some vs → IsBut v.ownBlock wr w.heap.size e vs
theorem ArgSq.start {w wr:World}{R:Nat}{S:Value}{ts:List RT}{s:Q}(hr:Qr wr R S ts s)(hg:Gr R w wr):ArgSq w wr R S ts (.slice none 0 0) [] s:=
 ⟨hr,hg,[],rfl,World.ownsRow_nil _ _ _ _,fun i e vs h _ => by simp at h⟩
theorem ArgSq.go {w wr w':World}{R:Nat}{S:Value}{ts:List RT}{v:Value}{l:List Ex}{s s2:Q}(h:ArgSq w wr R S ts v l s)(hlt:R < w.heap.size)(hr:Qr w' R S ts s2)(hg:Gr R wr w'):ArgSq w w' R S ts v l s2:=by
 obtain ⟨vss,h1,h2,h3⟩:=h.own
 exact ⟨hr,h.gr.trans hg,vss,h1,zJ1 h2 hg hlt,fun i e vs he hv => (h3 i e vs he hv).go hg.size fun bl hb hl _ => hg.block bl hl (by omega)⟩
theorem ArgSq.own_lt {w wr:World}{R:Nat}{S:Value}{ts:List RT}{v:Value}{l:List Ex}{s:Q}(h:ArgSq w wr R S ts v l s):∀ k,v.ownBlock = some k → w.heap.size ≤ k ∧ k < wr.heap.size:=by
 obtain ⟨vss,h1,h2,h3⟩:=h.own
 exact fun k hk => h2.lt k hk
theorem ArgSq.push {w wr w1 w3:World}{R:Nat}{S:Value}{ts:List RT}{v v':Value}{l:List Ex}{s s2:Q}{e:Ex}{vs:List Value}{T:TypeId}{A:Array Value}(h0:Qr w R S ts s)(h:ArgSq w w1 R S ts v l s2)(hwr:∀ k,v.ownBlock = some k → k < wr.heap.size)(hB:w.heap.size ≤ wr.heap.size)
 (hi:Is w1 wr.heap.size e vs) {vss:List (List Value)} (hl:vss.length = l.length) (hk:∀ (i:Nat) e vs,l[i]? = some e → vss[i]? = some vs → IsBut v.ownBlock w1 w.heap.size e vs)
 (hown:w3.ownsRow w.heap.size 45 11 v' (l.length + 1) (vss.flatten ++ vs)) (hgrow:(w1.alloc (.cells A T)).grownBy w3 v.ownBlock) (hat:v'.ownBlock = v.ownBlock ∨ v'.ownBlock = some (w1.heap.size + 1)) :
 ArgSq w w3 R S ts v' (l ++ [e]) s2:=by
 have hlt:=h0.lt
 have hsz:w.heap.size ≤ w1.heap.size:=h.gr.size
 have ha:∀ bl,bl < w1.heap.size → (w1.alloc (.cells A T)).heap[bl]? = w1.heap[bl]?:=fun bl hb => heap_alloc_old _ _ hb
 have hgb:∀ bl,bl < w1.heap.size → some bl ≠ v.ownBlock → w3.heap[bl]? = w1.heap[bl]?:=fun bl hb hne => (hgrow.block bl (by rw [zC]; omega) hne).trans (ha bl hb)
 have hs3:w1.heap.size ≤ w3.heap.size:=by have:=hgrow.size; rw [zC] at this; omega
 have hlow:∀ bl,bl < w.heap.size → w3.heap[bl]? = w1.heap[bl]?:=fun bl hb => hgb bl (by omega) (fun e => by have:=(h.own_lt bl e.symm).1; omega)
 have hn:Nw R w w1 w3:=⟨⟨hgrow.os,hgrow.tape,hgrow.output,hs3,hlow⟩,⟨hgrow.os.trans h.gr.os,hgrow.tape.trans h.gr.tape,hgrow.output.trans h.gr.output,Nat.le_trans hsz hs3,fun i hi hne => (hlow i hi).trans (h.gr.block i hi hne)⟩⟩
 refine ⟨h0.fin h.qr hn,hn.gr,vss ++ [vs],by simp [hl],by simpa using hown,fun i e' vs' he hv => ?_⟩
 have hnew:v'.ownBlock = v.ownBlock ∨ ∃ k,v'.ownBlock = some k ∧ w1.heap.size ≤ k:=by
  rcases hat with h1 | h1
  ·exact .inl h1
  ·exact .inr ⟨_,h1,by omega⟩
 have hlen:vss.length = l.length:=hl
 by_cases hi':i < l.length
 ·rw [List.getElem?_append_left hi'] at he
  rw [List.getElem?_append_left (by omega)] at hv
  exact (hk i e' vs' he hv).move hs3 (fun bl _ hb hne => hgb bl hb hne) hnew
 ·have hieq:i = l.length:=by
   have:=(List.getElem?_eq_some_iff.1 he).1
   simp at this
   omega
  subst hieq
  simp at he
  rw [← hlen] at hv
  simp at hv
  subst he hv
  exact (IsBut.of (g:=v.ownBlock) hi hB hwr).move hs3 (fun bl _ hb hne => hgb bl hb hne) hnew
def ArgsPq (w:World)(R:Nat)(S:Value)(ts:List RT)(x:List Ex × Q)(e:Ending)(w':World):Prop:=
 ∃ p c,e = .returned (.slice p x.1.length c) ∧ (x.1 = [] ∨ ∃ bl off,p = some ⟨bl,off,none⟩ ∧ bl < w'.heap.size ∧ w.heap.size ≤ bl ∧ At w' w.heap.size bl off x.1) ∧ Qr w' R S ts x.2 ∧ Gr R w w'
theorem ArgSq.done {w wr:World}{R:Nat}{S:Value}{ts:List RT}{v:Value}{l:List Ex}{s:Q}(h:ArgSq w wr R S ts v l s):ArgsPq w R S ts (l,s) (.returned v) wr:=by
 obtain ⟨vss,h1,h2,h3⟩:=h.own
 rcases h2.2 with ⟨hv,h0⟩ | ⟨g,cap,cur,hv,hb,hc,hn,hcap,hsize,htake⟩
 ·have:l = []:=List.eq_nil_of_length_eq_zero h0
  subst this
  exact ⟨none,0,by rw [hv]; rfl,.inl rfl,h.qr,h.gr⟩
 ·refine ⟨_,cap,by rw [hv],.inr ⟨g,0,rfl,zA hc,hb,At.of_row hc l 0 vss h1 (fun i e vs he hvs => (h3 i e vs he hvs).now) fun i hlt => ?_⟩,h.qr,h.gr⟩
  rw [← htake] at hlt ⊢
  have hlt2:i < l.length * 11:=by simp at hlt; omega
  simp [hlt2]
theorem zIs {ts:List RT}{rec:Nat → Q → Qe.Out}{g:Nat}{s:Q}{x:List Ex × Q}(h:Qe.args ts rec g s = some x)(hv:Qe.is ts (Qe.opens ts s [40]) false [41] = true):x = ([],Qe.closes ts (Qe.opens ts s [40]) [41]):=by
 unfold Qe.args at h
 rw [if_pos hv] at h
 simpa using h.symm
theorem zIr {ts:List RT}{rec:Nat → Q → Qe.Out}{g:Nat}{s:Q}{x:List Ex × Q}(h:Qe.args ts rec g s = some x)(hv:Qe.is ts (Qe.opens ts s [40]) false [41] = false) :
 ∃ e s2 l3 s3,rec 0 (Qe.opens ts s [40]) = some (e,s2) ∧ Qe.argLoop ts rec g [e] s2 = some (l3,s3) ∧ x = (l3,Qe.closes ts s3 [41]):=by
 unfold Qe.args at h
 rw [if_neg (by rw [hv]; decide)] at h
 split at h
 ·cases h
 ·rename_i e s2 he
  split at h
  ·cases h
  ·rename_i l3 s3 h3
   exact ⟨e,s2,l3,s3,he,h3,by simpa using h.symm⟩
theorem zJH {ts:List RT}{rec:Nat → Q → Qe.Out}{g:Nat}{l:List Ex}{s:Q}{x:List Ex × Q}(h:Qe.argLoop ts rec (g + 1) l s = some x)(hv:Qe.is ts s false [44] = true):∃ e s2,rec 0 (Qe.next s) = some (e,s2) ∧ Qe.argLoop ts rec g (l ++ [e]) s2 = some x:=by
 rw [Qe.argLoop,if_pos hv] at h
 split at h
 ·cases h
 ·rename_i e s2 he
  exact ⟨e,s2,he,h⟩
theorem zLp {ts:List RT}{rec:Nat → Q → Qe.Out}{g:Nat}{l:List Ex}{s:Q}{x:List Ex × Q}(h:Qe.argLoop ts rec (g + 1) l s = some x)(hv:Qe.is ts s false [44] = false):x = (l,s):=by
 rw [Qe.argLoop,hv] at h
 simpa using h.symm
theorem zIl {ts:List RT}{rec:Nat → Q → Qe.Out}{l:List Ex}{s:Q}{x:List Ex × Q}(h:Qe.argLoop ts rec 0 l s = some x):False:=by
 rw [Qe.argLoop] at h; cases h
theorem zIC (w:World)(R:Nat)(S:Value)(ts:List RT)(s:Q)(h:Qr w R S ts s)(hv:Qe.is ts (Qe.opens ts s [40]) false [41] = true) :
 Calls Tryd.prog 109 #[.pointer (some ⟨R,0,none⟩)] w (ArgsPq w R S ts ([],Qe.closes ts (Qe.opens ts s [40]) [41])):=by
 have HV:=vH hv
 clear hv
 have hlt:=h.lt
 have HH:=vH h
 have F:=vH (Fq.start h)
 clear h
 go_in
 go_wp2_with fail
 refine (zAM _ R S ts _ F.out.qr ⟨#[40]⟩ (zAu _ (by decide))).mono ?_
 rintro e u1 ⟨rfl,hr,hg⟩
 replace F:=vH (F.out.step hr hg)
 clear hr hg
 go_wp2_with fail
 refine (zI _ R S ts _ F.out.qr ⟨#[41]⟩ (by decide) false (by decide)).mono ?_
 rintro e u2 ⟨rfl,hb⟩
 replace F:=vH (F.out.go hb)
 clear hb
 try rw [show Qe.is ts (Qe.opens ts s (⟨#[40]⟩:ByteArray).data.toList) false (⟨#[41]⟩:ByteArray).data.toList = true from HV.out]
 go_wp2_with fail
 refine (zAK _ R S ts _ F.out.qr ⟨#[41]⟩ (zAu _ (by decide))).mono ?_
 rintro e u3 ⟨rfl,hr,hg⟩
 replace F:=vH (F.out.step hr hg)
 clear hr hg
 go_wp2_with fail
 exact bodyPost_ret (v:=.slice none 0 0) (by simp [results,Tryd.results109,go_sem]) rfl ⟨none,0,rfl,.inl rfl,F.out.qr,F.out.gr⟩
theorem zIB (w:World)(R:Nat)(S:Value)(ts:List RT)(s:Q)(h:Qr w R S ts s)(rec:Nat → Q → Qe.Out)(hrec:QRecOk ts rec)(g:Nat)(hg:g ≤ 1000000000)(hv:Qe.is ts (Qe.opens ts s [40]) false [41] = false)(e0:Ex)(s2:Q)(he:rec 0 (Qe.opens ts s [40]) = some (e0,s2))(l3:List Ex)(s3:Q)(h3:Qe.argLoop ts rec g [e0] s2 = some (l3,s3)) :
 Calls Tryd.prog 109 #[.pointer (some ⟨R,0,none⟩)] w (ArgsPq w R S ts (l3,Qe.closes ts s3 [41])):=by
 have HEX:=vH (fun s2 y (hy:rec 0 s2 = some y) w1 hh => hrec 0 s2 y (by decide) hy w1 R S hh)
 have HV:=vH hv
 have HREC:=vH he
 have H3:=vH h3
 have HG9:=vH hg
 have HBD:=vH (show ([]:List Ex).length + 1 ≤ 1000000001 by decide)
 obtain ⟨i0,hi0,hz0,hz1,hz2⟩:=info_parts zQF
 clear hrec hv he h3 hg
 have hlt:=h.lt
 have HH:=vH h
 have F:=vH (Fq.start h)
 clear h
 go_in
 go_wp2_with fail
 refine (zAM _ R S ts _ F.out.qr ⟨#[40]⟩ (zAu _ (by decide))).mono ?_
 rintro e u1 ⟨rfl,hr,hg⟩
 replace F:=vH (F.out.step hr hg)
 clear hr hg
 go_wp2_with fail
 refine (zI _ R S ts _ F.out.qr ⟨#[41]⟩ (by decide) false (by decide)).mono ?_
 rintro e w2 ⟨rfl,hb⟩
 replace F:=vH (F.out.go hb)
 clear hb
 try rw [show Qe.is ts (Qe.opens ts s (⟨#[40]⟩:ByteArray).data.toList) false (⟨#[41]⟩:ByteArray).data.toList = false from HV.out]
 have HA2:=vH (ArgSq.start F.out.qr F.out.gr)
 clear F HV
 go_wp2_with fail
 have hwrHA8:∀ k,Value.ownBlock (.slice none 0 0) = some k → k < w2.heap.size:=fun k hk => (HA2.out.own_lt k hk).2
 have HWR:=vH hwrHA8
 clear hwrHA8
 have hsB:w.heap.size ≤ w2.heap.size:=HA2.out.gr.size
 refine (HEX.out _ _ HREC.out _ HA2.out.qr).mono ?_
 rintro e w7 ⟨qk,qn,qs,qo,qd,qp,ql,qc,qa,qb,qr,qe,qf,rfl,hi,hr,hg⟩
 have HIQ:=vH hi
 have HX:=vH (HA2.out.go hlt hr hg)
 clear hi hr hg
 obtain ⟨vss,hv1,hown,hkid⟩:=HX.out.own
 have HO:=vH hown
 have HK:=vH hkid
 have HV1:=vH hv1
 have hsX:w.heap.size ≤ w7.heap.size:=HX.out.gr.size
 clear hown hkid hv1
 go_wp2_with (at_builtin; refine wpList_append_own_at _ rfl _ _ 41 rfl w.heap.size 45 i0 _ 11 120 Tryd.underlying41 hi0 hz0 hz1 hz2 rfl (by decide) _ ([]:List Ex).length _ rfl (HO.out.alloc _) ⟨w7.heap.size,0,none⟩ 1 1 (exCells qk qn qs qo qd (.slice qp ql qc) qa qb qr qe qf) rfl rfl ?c1 ?c2 ?c3 ?c4 ?c5 ?_)
 case c1 => exact zC9 rfl rfl
 case c2 => exact zNa _ _ _ _ _ _ _ _ _ _ _ _ _
 case c3 => have:=HBD.out; unfold maxLen; omega
 case c4 => have:=HBD.out; omega
 case c5 => rw [zC]; omega
 intro v' w8 hown' hgrow _ hat
 have HA8:=vH (ArgSq.push HH.out HX.out HWR.out hsB HIQ.out HV1.out HK.out hown' hgrow hat)
 clear hown' hgrow hat HO HK HV1 HX HIQ HWR hsX hsB HREC HBD HA2
 go_wp2_with fail
 go_loopg [3] g (fun n v wr => ∃ l s4,ArgSq w wr R S ts v l s4 ∧ Qe.argLoop ts rec n l s4 = some (l3,s3) ∧ l.length + n ≤ 1000000001)
 case atStart => exact ⟨_,_,HA8.out,H3.out,by have:=HG9.out; simp; omega⟩
 case round =>
  obtain ⟨l,s4,ha,h3,hbd⟩:=hrel
  have HA4:=vH ha
  have H34:=vH h3
  clear ha h3 HA8
  cases gk with
  | zero => exact (zIl H34.out).elim
  | succ m =>
    have HBD:=vH (show l.length + 1 ≤ 1000000001 by omega)
    have HBM:=vH hbd
    clear hbd
    go_wp2_with fail
    refine (zI _ R S ts s4 HA4.out.qr ⟨#[44]⟩ (by decide) false (by decide)).mono ?_
    rintro e w5 ⟨rfl,hb⟩
    have HA5:=vH (HA4.out.go hlt (HA4.out.qr.go hb) (Gr.of hb))
    clear hb HA4
    cases hv:Qe.is ts s4 false [44] with
    | false =>
      have hx:=zLp H34.out hv
      injection hx with hx1 hx2
      subst hx1 hx2
      try rw [hv]
      clear hv
      go_wp2_with fail
      refine (zAK _ R S ts s3 HA5.out.qr ⟨#[41]⟩ (zAu _ (by decide))).mono ?_
      rintro e w6 ⟨rfl,hr,hg⟩
      have HA6:=vH (HA5.out.go hlt hr hg)
      clear hr hg HA5
      go_wp2_with fail
      exact bodyPost_ret (v:=u3) (by simp [results,Tryd.results109,go_sem]) rfl HA6.out.done
    | true =>
      obtain ⟨e0,s5,he,h5⟩:=zJH H34.out hv
      try rw [hv]
      have HREC:=vH he
      have H5:=vH h5
      clear hv he h5 H34
      obtain ⟨⟨c0,c1,c2,c3,c4⟩,fr,hRl⟩:=HA5.out.qr.cells
      have fr1:=fr 1
      clear fr
      go_wp2_with fail
      have HA6:=vH (HA5.out.go hlt (HA5.out.qr.set_k (inc s4.k)) ((Gr.refl R _).set 1 _))
      clear c0 c1 c2 c3 c4 fr1 hRl
      obtain ⟨w6,hw6⟩:∃ w6,w6 = w5.setCell ⟨R,1,none⟩ (.int .i64 (inc s4.k)):=⟨_,rfl⟩
      rw [← hw6] at HA6
      change Calls _ _ _ (w5.setCell ⟨R,1,none⟩ (.int .i64 (inc s4.k))) _
      rw [← hw6]
      clear hw6 HA5
      have hwrHA8:∀ k,Value.ownBlock (u3) = some k → k < w6.heap.size:=fun k hk => (HA6.out.own_lt k hk).2
      have HWR:=vH hwrHA8
      clear hwrHA8
      have hsB:w.heap.size ≤ w6.heap.size:=HA6.out.gr.size
      refine (HEX.out _ _ HREC.out _ HA6.out.qr).mono ?_
      rintro e w7 ⟨qk,qn,qs,qo,qd,qp,ql,qc,qa,qb,qr,qe,qf,rfl,hi,hr,hg⟩
      have HIQ:=vH hi
      have HX:=vH (HA6.out.go hlt hr hg)
      clear hi hr hg
      obtain ⟨vss,hv1,hown,hkid⟩:=HX.out.own
      have HO:=vH hown
      have HK:=vH hkid
      have HV1:=vH hv1
      have hsX:w.heap.size ≤ w7.heap.size:=HX.out.gr.size
      clear hown hkid hv1
      go_wp2_with (at_builtin; refine wpList_append_own_at _ rfl _ _ 41 rfl w.heap.size 45 i0 _ 11 120 Tryd.underlying41 hi0 hz0 hz1 hz2 rfl (by decide) _ l.length _ rfl (HO.out.alloc _) ⟨w7.heap.size,0,none⟩ 1 1 (exCells qk qn qs qo qd (.slice qp ql qc) qa qb qr qe qf) rfl rfl ?c1 ?c2 ?c3 ?c4 ?c5 ?_)
      case c1 => exact zC9 rfl rfl
      case c2 => exact zNa _ _ _ _ _ _ _ _ _ _ _ _ _
      case c3 => have:=HBD.out; unfold maxLen; omega
      case c4 => have:=HBD.out; omega
      case c5 => rw [zC]; omega
      intro v' w8 hown' hgrow _ hat
      have HA8:=vH (ArgSq.push HH.out HX.out HWR.out hsB HIQ.out HV1.out HK.out hown' hgrow hat)
      clear hown' hgrow hat HO HK HV1 HX HIQ HWR hsX hsB
      go_wp2_with fail
      go_roundg m
      case measure => omega
      case rel => exact ⟨_,_,HA8.out,H5.out,by have:=HBM.out; simp; omega⟩
theorem zFP (w:World)(R:Nat)(S:Value)(ts:List RT)(s:Q)(h:Qr w R S ts s)(rec:Nat → Q → Qe.Out)(hrec:QRecOk ts rec)(g:Nat)(hg:g ≤ 1000000000)(x:List Ex × Q)(hx:Qe.args ts rec g s = some x) :
 Calls Tryd.prog 109 #[.pointer (some ⟨R,0,none⟩)] w (ArgsPq w R S ts x):=by
 cases hv:Qe.is ts (Qe.opens ts s [40]) false [41] with
 | true =>
   rw [zIs hx hv]
   exact zIC w R S ts s h hv
 | false =>
   obtain ⟨e0,s2,l3,s3,he,h3,rfl⟩:=zIr hx hv
   exact zIB w R S ts s h rec hrec g hg hv e0 s2 he l3 s3 h3
def IsOff (g:Nat → Prop)(w:World)(B:Nat)(e:Ex)(vs:List Value):Prop:=
 ∀ w':World,w.heap.size ≤ w'.heap.size → (∀ bl,B ≤ bl → bl < w.heap.size → ¬ g bl → w'.heap[bl]? = w.heap[bl]?) → Is w' B e vs
theorem IsOff.now {g:Nat → Prop}{w:World}{B:Nat}{e:Ex}{vs:List Value}(h:IsOff g w B e vs):Is w B e vs:=h w (Nat.le_refl _) fun _ _ _ _ => rfl
theorem IsOff.of {g:Nat → Prop}{w:World}{B B2:Nat}{e:Ex}{vs:List Value}(h:Is w B2 e vs)(hB:B ≤ B2)(hg:∀ k,g k → k < B2):IsOff g w B e vs:=
 fun w' hs hk => Is.lower hB _ (Is.keep hs (fun bl h1 h2 => hk bl (Nat.le_trans hB h1) h2 (fun e => by have:=hg _ e; omega)) _ h)
theorem IsOff.top {g:Nat → Prop}{w:World}{B:Nat}{e:Ex}{vs:List Value}(h:Is w B e vs)(hg:∀ k,g k → w.heap.size ≤ k):IsOff g w B e vs:=
 fun w' hs hk => Is.keep hs (fun bl h1 h2 => hk bl h1 h2 (fun e => by have:=hg _ e; omega)) _ h
theorem IsOff.go {g:Nat → Prop}{w w1:World}{B:Nat}{e:Ex}{vs:List Value}(h:IsOff g w B e vs)(hs:w.heap.size ≤ w1.heap.size)(hk:∀ bl,B ≤ bl → bl < w.heap.size → ¬ g bl → w1.heap[bl]? = w.heap[bl]?):IsOff g w1 B e vs:=
 fun w' hs' hk' => h w' (Nat.le_trans hs hs') fun bl h1 h2 h3 => (hk' bl h1 (Nat.lt_of_lt_of_le h2 hs) h3).trans (hk bl h1 h2 h3)
theorem IsOff.below {g:Nat → Prop}{w w1:World}{B:Nat}{e:Ex}{vs:List Value}(h:IsOff g w B e vs)(hb:Below w.heap.size w w1):IsOff g w1 B e vs:=h.go hb.size fun bl _ h2 _ => hb.block bl h2
theorem IsOff.gr {g:Nat → Prop}{w w1:World}{R B:Nat}{e:Ex}{vs:List Value}(h:IsOff g w B e vs)(hR:R < B)(hg:Gr R w w1):IsOff g w1 B e vs:=h.go hg.size fun bl h1 h2 _ => hg.block bl h2 (by omega)
theorem IsOff.alloc {g:Nat → Prop}{w:World}{B:Nat}{e:Ex}{vs:List Value}(h:IsOff g w B e vs)(o:Obj):IsOff g (w.alloc o) B e vs:=h.below ((Below.refl _ _).alloc (Nat.le_refl _) _)
theorem IsOff.put11 {g:Nat → Prop}{w:World}{N B:Nat}{e:Ex}{vs:List Value}(h:IsOff g w B e vs)(hN:g N){c0 c1 c2 c3 c4 c5 c6 c7 c8 c9 c10:Value}:IsOff g (((((((((((w.setCell ⟨N,0,none⟩ c0).setCell ⟨N,1,none⟩ c1).setCell ⟨N,2,none⟩ c2).setCell ⟨N,3,none⟩ c3).setCell ⟨N,4,none⟩ c4).setCell ⟨N,5,none⟩ c5).setCell ⟨N,6,none⟩ c6).setCell ⟨N,7,none⟩ c7).setCell ⟨N,8,none⟩ c8).setCell ⟨N,9,none⟩ c9).setCell ⟨N,10,none⟩ c10) B e vs:=
 h.go (by simp only [zY]; exact Nat.le_refl _) fun bl _ hb hne => by
  obtain ⟨o,ho⟩:∃ o,w.heap[bl]? = some o:=⟨_,Array.getElem?_eq_getElem hb⟩
  rw [ho]
  exact zQ ho (fun he => hne (by rw [he]; exact hN))
theorem IsOff.node1 {g:Nat → Prop}{w:World}{B bl:Nat}{T:TypeId}{e:Ex}{vs:List Value}{A:Array Value}(hb:w.heap[bl]? = some (.cells A T (0,0)))(hne:B ≤ bl)(hg:¬ g bl)(hi:IsOff g w B e vs)(hA:A = ⟨vs⟩)(kind num:Int)(name ofn:List UInt8)(dims at_:Int)(c:Nat) :
 IsOff g w B (Ex.of kind num name ofn dims [e] at_) (exCells kind num name ofn dims (.slice (some ⟨bl,0,none⟩) 1 c) at_ 0 0 0 0):=
 fun w' hs hk => Is.node1 ((hk bl hne (zA hb) hg).trans hb) hne (hi w' hs hk) hA kind num name ofn dims at_ c
theorem IsOff.node2 {g:Nat → Prop}{w:World}{B bl:Nat}{T:TypeId}{e e2:Ex}{vs vs2:List Value}{A:Array Value}(hb:w.heap[bl]? = some (.cells A T (0,0)))(hne:B ≤ bl)(hg:¬ g bl)(hi:IsOff g w B e vs)(hi2:IsOff g w B e2 vs2)(hA:A = ⟨vs ++ vs2⟩)(kind num:Int)(name ofn:List UInt8)(dims at_:Int)(c:Nat) :
 IsOff g w B (Ex.of kind num name ofn dims [e,e2] at_) (exCells kind num name ofn dims (.slice (some ⟨bl,0,none⟩) 2 c) at_ 0 0 0 0):=
 fun w' hs hk => Is.node2 ((hk bl hne (zA hb) hg).trans hb) hne (hi w' hs hk) (hi2 w' hs hk) hA kind num name ofn dims at_ c
def Own (eb rb:Nat)(k:Nat):Prop:=k = eb ∨ k = rb
structure Hoq (w wr:World) (R:Nat) (S:Value) (ts:List RT) (B eb rb:Nat) (kind num:Int) (name ofn:List UInt8) (dims:Int) (p:Option Addr) (ln c:Nat) (at_ b r d ref:Int) (e:Ex) (s:Q):Prop where
 f:Fq w wr R S ts s [(eb,.cells #[.int .i64 kind,.int .i64 num,.string (cbs name),.string (cbs ofn),.int .i64 dims,.slice p ln c,.int .i64 at_,.int .i64 b,.int .i64 r,.int .i64 d,.int .i64 ref] 45),(rb,.cells vE 45)] []
 is:IsOff (Own eb rb) wr B e (exCells kind num name ofn dims (.slice p ln c) at_ b r d ref)
theorem Fq.sub {w wr:World}{R:Nat}{S:Value}{ts:List RT}{s:Q}{L L2:List (Nat × Obj)}{T:List (Nat × Ex × List Value)}(h:Fq w wr R S ts s L T)(hs:∀ p ∈ L2,p ∈ L):Fq w wr R S ts s L2 []:=⟨h.qr,h.gr,fun p hp => h.keep p (hs p hp),fun _p hp => (List.not_mem_nil hp).elim⟩
theorem Fq.write {w u:World}{R:Nat}{S:Value}{ts:List RT}{s0 s:Q}{L:List (Nat × Obj)}{T:List (Nat × Ex × List Value)}{eb rb:Nat}{ob:Obj}{o0 o1 o2 o3 o4 o5 o6 o7 o8 o9 o10:Value}{ty:TypeId}(h:Fq w u R S ts s L T)(h0:Qr w R S ts s0)(he:(eb,.cells #[o0,o1,o2,o3,o4,o5,o6,o7,o8,o9,o10] ty) ∈ L)(hr:(rb,ob) ∈ L)(hw:w.heap.size ≤ eb)(hne:rb ≠ eb){c0 c1 c2 c3 c4 c5 c6 c7 c8 c9 c10:Value} :
 Fq w (((((((((((u.setCell ⟨eb,0,none⟩ c0).setCell ⟨eb,1,none⟩ c1).setCell ⟨eb,2,none⟩ c2).setCell ⟨eb,3,none⟩ c3).setCell ⟨eb,4,none⟩ c4).setCell ⟨eb,5,none⟩ c5).setCell ⟨eb,6,none⟩ c6).setCell ⟨eb,7,none⟩ c7).setCell ⟨eb,8,none⟩ c8).setCell ⟨eb,9,none⟩ c9).setCell ⟨eb,10,none⟩ c10) R S ts s [(eb,.cells #[c0,c1,c2,c3,c4,c5,c6,c7,c8,c9,c10] ty),(rb,ob)] []:=by
 have hn:=(Nw.start h.gr).put11 (B:=eb) hw (c0:=c0) (c1:=c1) (c2:=c2) (c3:=c3) (c4:=c4) (c5:=c5) (c6:=c6) (c7:=c7) (c8:=c8) (c9:=c9) (c10:=c10)
 refine ⟨h0.fin h.qr hn,hn.gr,fun p hp => ?_,fun p hp => (List.not_mem_nil hp).elim⟩
 rcases List.mem_cons.1 hp with rfl | hp
 ·exact ⟨zSi (h.keep _ he).1,(h.keep _ he).2⟩
 ·rcases List.mem_cons.1 hp with rfl | hp
  ·exact ⟨zQ (h.keep _ hr).1 hne,(h.keep _ hr).2⟩
  ·exact (List.not_mem_nil hp).elim
theorem zMK {ts:List RT}{rec:Nat → Q → Qe.Out}{e:Ex}{s:Q}{x:Ex × Q}(h:Qe.behind ts rec 0 e s = some x):False:=by
 rw [Qe.behind] at h; cases h
theorem zOV {ts:List RT}{rec:Nat → Q → Qe.Out}{g:Nat}{e:Ex}{s:Q}{x:Ex × Q}(h:Qe.behind ts rec (g + 1) e s = some x)(hv:Qe.is ts s false [46] = true):Qe.behind ts rec g (Ex.of 5 0 (Qe.name ts (Qe.next s)).1 [] 0 [e] (tokAt ts s.k).at_) (Qe.name ts (Qe.next s)).2 = some x:=by
 rw [Qe.behind,if_pos hv] at h; exact h
theorem zML {ts:List RT}{rec:Nat → Q → Qe.Out}{g:Nat}{e:Ex}{s:Q}{x:Ex × Q}(h:Qe.behind ts rec (g + 1) e s = some x)(hv:Qe.is ts s false [46] = false)(hv2:Qe.is ts s false [91] = true) :
 ∃ i s2,rec 0 (Qe.opens ts s [91]) = some (i,s2) ∧ Qe.behind ts rec g (Ex.of 6 0 [] [] 0 [e,i] (tokAt ts s.k).at_) (Qe.closes ts s2 [93]) = some x:=by
 rw [Qe.behind,if_neg (by rw [hv]; decide),if_pos hv2] at h
 split at h
 ·cases h
 ·rename_i i s2 he
  exact ⟨i,s2,he,h⟩
theorem zOU {ts:List RT}{rec:Nat → Q → Qe.Out}{g:Nat}{e:Ex}{s:Q}{x:Ex × Q}(h:Qe.behind ts rec (g + 1) e s = some x)(hv:Qe.is ts s false [46] = false)(hv2:Qe.is ts s false [91] = false):x = (e,s):=by
 rw [Qe.behind,if_neg (by rw [hv]; decide),if_neg (by rw [hv2]; decide)] at h
 simpa using h.symm
end Go.Proofs.YteadgahhchlgeaaDoor
