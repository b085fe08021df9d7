/-
  The contracts of the answer's reader (runrigref3) over the p
-/
import Derived.Test.YtjleggpbghmobaaK01
import Derived.Test.YtjleggpbghmobaaK08
import Derived.Test.YtjleggpbghmobaaK09
import Derived.Test.YtjleggpbghmobaaK10
import Derived.Deep.RegionHeld3
import Derived.Deep.LoopGhost
set_option maxRecDepth 8000
set_option maxHeartbeats 8000000
namespace Go.Proofs.Ytjleggpbghmobaa
open Go.RowKit
open Px (RT tokAt isT)
open Pe (inc dec Ex)
open Qe (Q)
structure Fq (w wr:World) (R:Nat) (S:Value) (ts:List RT) (s:Q) (L:List (Nat × Obj)) (T:List (Nat × Ex × List Value)):Prop where
 qr:Qr wr R S ts s
 gr:Gr R w wr
 keep:∀ p ∈ L,wr.heap[p.1]? = some p.2 ∧ p.1 ≠ R
 trees:∀ p ∈ T,Is wr p.1 p.2.1 p.2.2 ∧ w.heap.size < p.1 ∧ R < p.1
theorem Fq.start {w:World}{R:Nat}{S:Value}{ts:List RT}{s:Q}(h:Qr w R S ts s):Fq w w R S ts s [] []:=⟨h,Gr.refl _ _,fun _ hp => (List.not_mem_nil hp).elim,fun _ hp => (List.not_mem_nil hp).elim⟩
theorem Fq.go {w wr w':World}{R:Nat}{S:Value}{ts:List RT}{s:Q}{L:List (Nat × Obj)}{T:List (Nat × Ex × List Value)}(h:Fq w wr R S ts s L T)(hb:Below wr.heap.size wr w'):Fq w w' R S ts s L T:=
 ⟨h.qr.go hb,h.gr.trans (Gr.of hb),fun p hp => ⟨(hb.block _ (zA (h.keep p hp).1)).trans (h.keep p hp).1,(h.keep p hp).2⟩,fun p hp => ⟨(h.trees p hp).1.below hb,(h.trees p hp).2⟩⟩
theorem Fq.step {w wr w':World}{R:Nat}{S:Value}{ts:List RT}{s s2:Q}{L:List (Nat × Obj)}{T:List (Nat × Ex × List Value)}(h:Fq w wr R S ts s L T)(hr:Qr w' R S ts s2)(hg:Gr R wr w'):Fq w w' R S ts s2 L T:=
 ⟨hr,h.gr.trans hg,fun p hp => ⟨hg.box (h.keep p hp).1 (h.keep p hp).2,(h.keep p hp).2⟩,fun p hp => ⟨(h.trees p hp).1.gr (h.trees p hp).2.2 hg,(h.trees p hp).2⟩⟩
theorem Fq.alloc {w wr:World}{R:Nat}{S:Value}{ts:List RT}{s:Q}{L:List (Nat × Obj)}{T:List (Nat × Ex × List Value)}(h:Fq w wr R S ts s L T)(o:Obj):Fq w (wr.alloc o) R S ts s ((wr.heap.size,o) :: L) T:=by
 have h1:=h.go ((Below.refl _ _).alloc (Nat.le_refl _) o)
 refine ⟨h1.qr,h1.gr,fun p hp => ?_,h1.trees⟩
 rcases List.mem_cons.1 hp with rfl | hp
 ·exact ⟨heap_alloc_new _ _,Nat.ne_of_gt h.qr.lt⟩
 ·exact h1.keep p hp
theorem Fq.tree {w wr:World}{R:Nat}{S:Value}{ts:List RT}{s:Q}{L:List (Nat × Obj)}{T:List (Nat × Ex × List Value)}(h:Fq w wr R S ts s L T){B:Nat}{e:Ex}{vs:List Value}(hi:Is wr B e vs)(hB:w.heap.size < B)(hR:R < B):Fq w wr R S ts s L ((B,e,vs) :: T):=
 ⟨h.qr,h.gr,h.keep,fun p hp => (List.mem_cons.1 hp).elim (fun e => by subst e; exact ⟨hi,hB,hR⟩) (h.trees p)⟩
theorem Fq.set_k {w wr:World}{R:Nat}{S:Value}{ts:List RT}{s:Q}{L:List (Nat × Obj)}{T:List (Nat × Ex × List Value)}(h:Fq w wr R S ts s L T)(q:Int):Fq w (wr.setCell ⟨R,1,none⟩ (.int .i64 q)) R S ts ⟨q,s.o,s.E,s.F⟩ L T:=
 h.step (h.qr.set_k q) ((Gr.refl R wr).set 1 _)
theorem Fq.set_o {w wr:World}{R:Nat}{S:Value}{ts:List RT}{s:Q}{L:List (Nat × Obj)}{T:List (Nat × Ex × List Value)}(h:Fq w wr R S ts s L T)(q:Int):Fq w (wr.setCell ⟨R,2,none⟩ (.int .i64 q)) R S ts ⟨s.k,q,s.E,s.F⟩ L T:=
 h.step (h.qr.set_o q) ((Gr.refl R wr).set 2 _)
def QPost (B:Nat)(w:World)(R:Nat)(S:Value)(ts:List RT)(x:Ex × Q)(e:Ending)(w':World):Prop:=
 ∃ (kind num:Int) (name ofn:List UInt8) (dims:Int) (p:Option Addr) (n c:Nat) (at_ b r d ref:Int),
   e = .returned (.agg #[.int .i64 kind,.int .i64 num,.string (cbs name),.string (cbs ofn),.int .i64 dims,.slice p n c,.int .i64 at_,.int .i64 b,.int .i64 r,.int .i64 d,.int .i64 ref]) ∧
   Is w' B x.1 (exCells kind num name ofn dims (.slice p n c) at_ b r d ref) ∧ Qr w' R S ts x.2 ∧ Gr R w w'
def QRecOk (ts:List RT)(rec:Nat → Q → Qe.Out):Prop:=∀ (n:Nat)(s:Q)(x:Ex × Q),n ≤ 5 → rec n s = some x → ∀ (w:World)(R:Nat)(S:Value),Qr w R S ts s →
 Calls Try.prog 62 #[.pointer (some ⟨R,0,none⟩),.int .i64 (n:Int)] w (QPost w.heap.size w R S ts x)
theorem zDH {ts:List RT}{rec:Nat → Q → Qe.Out}{s:Q}{x:Ex × Q}(h:Qe.inner ts rec s = some x):∃ e s2,rec 0 (Qe.opens ts s [40]) = some (e,s2) ∧ x = (e,Qe.closes ts s2 [41]):=by
 unfold Qe.inner at h
 split at h
 ·cases h
 ·rename_i e s2 he
  exact ⟨e,s2,he,by simpa using h.symm⟩
theorem zDg {ts:List RT}{rec:Nat → Q → Qe.Out}{s:Q}{t:List UInt8}{kind:Int}{x:Ex × Q}(h:Qe.prefixed ts rec s t kind = some x):∃ e s2,rec 5 (Qe.opens ts s t) = some (e,s2) ∧ x = (Ex.of kind 0 [] [] 0 [e] (tokAt ts s.k).at_,⟨s2.k,dec s2.o,s2.E,s2.F⟩):=by
 unfold Qe.prefixed at h
 split at h
 ·cases h
 ·rename_i e s2 he
  exact ⟨e,s2,he,by simpa using h.symm⟩
theorem is_text {ts:List RT}{s:Q}{wd:Bool}{t:List UInt8}(h:Qe.is ts s wd t = true):s.E = 0 ∧ (tokAt ts s.k).kind = (if wd then 3 else 4) ∧ (tokAt ts s.k).text = t:=by
 unfold Qe.is isT at h
 simp only [Bool.and_eq_true,beq_iff_eq,decide_eq_true_eq] at h
 exact ⟨h.1,h.2.1,h.2.2⟩
theorem zBA (w:World)(R:Nat)(S:Value)(ts:List RT)(s:Q)(h:Qr w R S ts s)(rec:Nat → Q → Qe.Out)(hrec:QRecOk ts rec)(x:Ex × Q)(hx:Qe.inner ts rec s = some x) :
 Calls Try.prog 69 #[.pointer (some ⟨R,0,none⟩)] w (QPost w.heap.size w R S ts x):=by
 obtain ⟨e0,s2,he,rfl⟩:=zDH hx
 have HE:=vH (fun w1 hh => hrec 0 _ (e0,s2) (by decide) he w1 R S hh)
 clear hrec hx he
 have hlt:=h.lt
 have HH:=vH h
 have F:=vH ((Fq.start h).alloc (.cells vE 120))
 clear h
 go_in
 go_wp2_with fail
 refine (zAm _ R S ts _ F.out.qr ⟨#[40]⟩ (zAb _ (by decide))).mono ?_
 rintro e u1 ⟨rfl,hr,hg⟩
 replace F:=vH (F.out.step hr hg)
 clear hr hg
 go_wp2_with fail
 have hRB:=F.out.qr.lt
 have hNB:=zA (F.out.keep _ vA).1
 refine (HE.out _ F.out.qr).mono ?_
 rintro e u2 ⟨qk,qn,qs,qo,qd,qp,ql,qc,qa,qb,qr,qe,qf,rfl,hi,hr,hg⟩
 replace F:=vH ((F.out.step hr hg).tree hi hNB hRB)
 clear hi hr hg hRB hNB
 go_wp2_with fail
 replace F:=vH (F.out.alloc (.cells #[.int .i64 qk,.int .i64 qn,.string (cbs qs),.string (cbs qo),.int .i64 qd,.slice qp ql qc,.int .i64 qa,.int .i64 qb,.int .i64 qr,.int .i64 qe,.int .i64 qf] 120))
 refine (zAk _ R S ts _ F.out.qr ⟨#[41]⟩ (zAb _ (by decide))).mono ?_
 rintro e u3 ⟨rfl,hr,hg⟩
 replace F:=vH (F.out.step hr hg)
 clear hr hg
 have hk:=(F.out.keep _ vA)
 obtain ⟨⟨x0,x1,x2,x3,x4,x5,x6,x7,x8,x9,xX⟩,y0,y1,y2,y3,y4,y5,y6,y7,y8,y9,yX⟩:=hen hk.1
 have hlx:=zA hk.1
 have hnx:=hk.2
 clear hk
 have hk:=(F.out.keep _ vB)
 obtain ⟨⟨d0,d1,d2,d3,d4,d5,d6,d7,d8,d9,dX⟩,g0,g1,g2,g3,g4,g5,g6,g7,g8,g9,gX⟩:=hen hk.1
 have hld:=zA hk.1
 have hnd:=hk.2
 clear hk
 go_wp2_with fail
 have hn:=(Nw.start F.out.gr).pv (.int .i64 qk) (.int .i64 qn) (.string (cbs qs)) (.string (cbs qo)) (.int .i64 qd) (.slice qp ql qc) (.int .i64 qa) (.int .i64 qb) (.int .i64 qr) (.int .i64 qe) (.int .i64 qf)
 exact bodyPost_ret (v:=.agg #[.int .i64 qk,.int .i64 qn,.string (cbs qs),.string (cbs qo),.int .i64 qd,.slice qp ql qc,.int .i64 qa,.int .i64 qb,.int .i64 qr,.int .i64 qe,.int .i64 qf]) (by simp [results,Try.results69,go_sem,d0,d1,d2,d3,d4,d5,d6,d7,d8,d9,dX]) rfl ⟨_,_,_,_,_,_,_,_,_,_,_,_,_,rfl,Is.lower (Nat.le_of_lt (F.out.trees _ vA).2.1) _ ((F.out.trees _ vA).1.put11 (F.out.trees _ vA).2.1),HH.out.fin F.out.qr hn,hn.gr⟩
theorem zFB {ts:List RT}{rec:Nat → Q → Qe.Out}{s:Q}{a:Int}{x:Ex × Q}(h:Qe.fresh ts rec s a = some x)(hv:Qe.is ts s false [91] = false):x = (Ex.of 8 0 [] (Qe.name ts s).1 0 [] a,(Qe.name ts s).2):=by
 simp only [Qe.fresh,hv,Bool.false_eq_true,if_false,Option.some.injEq] at h
 exact h.symm
theorem zEH {ts:List RT}{rec:Nat → Q → Qe.Out}{s:Q}{a:Int}{x:Ex × Q}(h:Qe.fresh ts rec s a = some x)(hv:Qe.is ts s false [91] = true):∃ e s2,Qe.inner ts rec (Qe.take ts (Qe.of ts (Qe.next s)).2.2 false [93]) = some (e,s2) ∧ x = (Ex.of 9 0 [] (Qe.of ts (Qe.next s)).1 (Qe.of ts (Qe.next s)).2.1 [e] a,s2):=by
 simp only [Qe.fresh,hv,if_true] at h
 split at h
 ·cases h
 ·rename_i e s2 he
  exact ⟨e,s2,he,by simpa using h.symm⟩
theorem zFI (w:World)(R:Nat)(S:Value)(ts:List RT)(s:Q)(h:Qr w R S ts s)(a:Int)(hv:Qe.is ts s false [91] = false) :
 Calls Try.prog 68 #[.pointer (some ⟨R,0,none⟩),.int .i64 a] w (QPost w.heap.size w R S ts (Ex.of 8 0 [] (Qe.name ts s).1 0 [] a,(Qe.name ts s).2)):=by
 have hq:=fun w1 hh => zAj w1 R S ts s hh
 generalize Qe.name ts s = y at hq ⊢
 obtain ⟨nm,s2⟩:=y
 dsimp only at hq ⊢
 have HQ:=vH hq
 have HV:=vH hv
 clear hq hv
 have hlt:=h.lt
 have HH:=vH h
 have F:=vH ((Fq.start h).alloc (.cells vE 120))
 clear h
 go_in
 go_wp2_with fail
 refine (zG _ R S ts _ F.out.qr ⟨#[91]⟩ (by decide) false (by decide)).mono ?_
 rintro e u1 ⟨rfl,hb⟩
 replace F:=vH (F.out.go hb)
 clear hb
 rw [HV.out]
 go_wp2_with fail
 refine (HQ.out _ F.out.qr).mono ?_
 rintro e u2 ⟨rfl,hr,hg⟩
 replace F:=vH (F.out.step hr hg)
 clear hr hg
 have hk:=(F.out.keep _ vA)
 obtain ⟨⟨d0,d1,d2,d3,d4,d5,d6,d7,d8,d9,dX⟩,g0,g1,g2,g3,g4,g5,g6,g7,g8,g9,gX⟩:=hen hk.1
 have hld:=zA hk.1
 have hnd:=hk.2
 clear hk
 go_wp2_with fail
 have hn:=(Nw.start F.out.gr).pv (.int .i64 8) (.int .i64 0) (.string ⟨#[]⟩) (.string (cbs nm)) (.int .i64 0) (.slice none 0 0) (.int .i64 a) (.int .i64 0) (.int .i64 0) (.int .i64 0) (.int .i64 0)
 exact bodyPost_ret (v:=.agg #[.int .i64 8,.int .i64 0,.string ⟨#[]⟩,.string (cbs nm),.int .i64 0,.slice none 0 0,.int .i64 a,.int .i64 0,.int .i64 0,.int .i64 0,.int .i64 0]) (by simp [results,Try.results68,go_sem,d0,d1,d2,d3,d4,d5,d6,d7,d8,d9,dX]) rfl ⟨_,_,_,_,_,_,_,_,_,_,_,_,_,rfl,Is.leaf 8 0 [] nm 0 a,HH.out.fin F.out.qr hn,hn.gr⟩
theorem zEQ (w:World)(R:Nat)(S:Value)(ts:List RT)(s:Q)(h:Qr w R S ts s)(rec:Nat → Q → Qe.Out)(hrec:QRecOk ts rec)(a:Int)(hv:Qe.is ts s false [91] = true)(e0:Ex)(s2:Q)(he:Qe.inner ts rec (Qe.take ts (Qe.of ts (Qe.next s)).2.2 false [93]) = some (e0,s2)) :
 Calls Try.prog 68 #[.pointer (some ⟨R,0,none⟩),.int .i64 a] w (QPost w.heap.size w R S ts (Ex.of 9 0 [] (Qe.of ts (Qe.next s)).1 (Qe.of ts (Qe.next s)).2.1 [e0] a,s2)):=by
 have hq:=fun w1 hh => zBz w1 R S ts (Qe.next s) hh
 generalize Qe.of ts (Qe.next s) = y at hq he ⊢
 obtain ⟨nm,dm,s1⟩:=y
 dsimp only at hq he ⊢
 have HQ:=vH hq
 have HV:=vH hv
 have HE:=vH (fun w1 hh => zBA w1 R S ts _ hh rec hrec (e0,s2) he)
 clear hq hv hrec he
 have hlt:=h.lt
 have HH:=vH h
 have F:=vH ((Fq.start h).alloc (.cells vE 120))
 clear h
 go_in
 go_wp2_with fail
 refine (zG _ R S ts _ F.out.qr ⟨#[91]⟩ (by decide) false (by decide)).mono ?_
 rintro e u1 ⟨rfl,hb⟩
 replace F:=vH (F.out.go hb)
 clear hb
 rw [HV.out]
 obtain ⟨⟨c0,c1,c2,c3,c4⟩,fr,hRl⟩:=F.out.qr.cells
 have fr1:=fr 1
 have fr2:=fr 2
 clear fr
 go_wp2_with fail
 clear c0 c1 c2 c3 c4 fr1 fr2 hRl
 replace F:=vH (F.out.set_k (inc s.k))
 refine (HQ.out _ F.out.qr).mono ?_
 rintro e u2 ⟨rfl,hr,hg⟩
 replace F:=vH (F.out.step hr hg)
 clear hr hg
 go_wp2_with fail
 have hNB0:=zA (F.out.keep _ vA).1
 replace F:=vH (F.out.alloc (.cells #[.string (cbs nm),.int .i64 dm] 45))
 refine (zH _ R S ts _ F.out.qr ⟨#[93]⟩ (by decide) false (by decide)).mono ?_
 rintro e u3 ⟨rfl,hr,hg⟩
 replace F:=vH (F.out.step hr hg)
 clear hr hg
 have hk:=(F.out.keep _ vA)
 obtain ⟨⟨x0,x1⟩,⟨y0,y1⟩,hlx⟩:=duo hk.1
 clear hk y0 y1
 have hk:=(F.out.keep _ vB)
 obtain ⟨⟨d0,d1,d2,d3,d4,d5,d6,d7,d8,d9,dX⟩,g0,g1,g2,g3,g4,g5,g6,g7,g8,g9,gX⟩:=hen hk.1
 have hld:=zA hk.1
 have hnd:=hk.2
 clear hk
 go_wp2_with fail
 replace F:=vH (F.out.go (Below.refl _ _).drew)
 have hRB:=F.out.qr.lt
 have hNB:=zA (F.out.keep _ vB).1
 have hne:=Nat.ne_of_gt hNB0
 have HK1:=vH (F.out.keep _ vA).1
 go_region_held3 (fun w' => w'.cell? ⟨u2.heap.size,0,none⟩ = some (.string (cbs nm)) ∧ w'.cell? ⟨u2.heap.size,1,none⟩ = some (.int .i64 dm)) (with_reducible first | exact (duo HK1.out).1 | exact (duo HK2.out).1 | exact (duo (zD _ HK2.out)).1 | exact (duo (zO HK2.out hne)).1 | exact (duo (zD _ (zO HK2.out hne))).1) (first
  | (go_at_call 69; (with_reducible refine Calls.mono (HE.out _ F.out.qr) ?_); rintro e u4 ⟨qk,qn,qs,qo,qd,qp,ql,qc,qa,qb,qr,qe,qf,rfl,hi,hr,hg⟩; have F4:=vH ((F.out.step hr hg).tree hi hNB hRB); have HK2:=vH (F4.out.keep _ vA).1; clear d0 d1 d2 d3 d4 d5 d6 d7 d8 d9 dX g0 g1 g2 g3 g4 g5 g6 g7 g8 g9 gX hld hnd hr hi hg; have hk:=(F4.out.keep _ vB); obtain ⟨⟨v0,v1,v2,v3,v4,v5,v6,v7,v8,v9,vX⟩,p0,p1,p2,p3,p4,p5,p6,p7,p8,p9,pX⟩:=hen hk.1; have hlv:=zA hk.1; have hnv:=hk.2; clear hk))
 clear F HK1 HK2 hRB hNB hne
 have F:=F4
 clear F4
 go_wp2_with fail
 have hn:=((Nw.start F.out.gr).pv (.int .i64 9) (.int .i64 0) (.string ⟨#[]⟩) (.string (cbs nm)) (.int .i64 dm) (.slice (some ⟨u4.heap.size,0,none⟩) 1 1) (.int .i64 a) (.int .i64 0) (.int .i64 0) (.int .i64 0) (.int .i64 0)).alloc (.cells #[.int .i64 qk,.int .i64 qn,.string (cbs qs),.string (cbs qo),.int .i64 qd,.slice qp ql qc,.int .i64 qa,.int .i64 qb,.int .i64 qr,.int .i64 qe,.int .i64 qf] 120)
 have hbx:=zBv (w:=u4) (N:=w.heap.size) (o:=.cells #[.int .i64 qk,.int .i64 qn,.string (cbs qs),.string (cbs qo),.int .i64 qd,.slice qp ql qc,.int .i64 qa,.int .i64 qb,.int .i64 qr,.int .i64 qe,.int .i64 qf] 120) (c0:=.int .i64 9) (c1:=.int .i64 0) (c2:=.string ⟨#[]⟩) (c3:=.string (cbs nm)) (c4:=.int .i64 dm) (c5:=.slice (some ⟨u4.heap.size,0,none⟩) 1 1) (c6:=.int .i64 a) (c7:=.int .i64 0) (c8:=.int .i64 0) (c9:=.int .i64 0) (c10:=.int .i64 0)
 have hle:w.heap.size ≤ u4.heap.size:=Nat.le_of_lt (zA (F.out.keep _ vB).1)
 exact bodyPost_ret (v:=.agg #[.int .i64 9,.int .i64 0,.string ⟨#[]⟩,.string (cbs nm),.int .i64 dm,.slice (some ⟨u4.heap.size,0,none⟩) 1 1,.int .i64 a,.int .i64 0,.int .i64 0,.int .i64 0,.int .i64 0]) (by simp [results,Try.results68,go_sem,hlv,v0,v1,v2,v3,v4,v5,v6,v7,v8,v9,vX]) rfl ⟨_,_,_,_,_,_,_,_,_,_,_,_,_,rfl,Is.node1 hbx hle (Is.lower (Nat.le_of_lt (F.out.trees _ vA).2.1) _ (((F.out.trees _ vA).1.put11 (F.out.trees _ vA).2.1).alloc _)) rfl 9 0 [] nm dm a 1,HH.out.fin F.out.qr hn,hn.gr⟩
theorem zER (w:World)(R:Nat)(S:Value)(ts:List RT)(s:Q)(h:Qr w R S ts s)(rec:Nat → Q → Qe.Out)(hrec:QRecOk ts rec)(a:Int)(x:Ex × Q)(hx:Qe.fresh ts rec s a = some x) :
 Calls Try.prog 68 #[.pointer (some ⟨R,0,none⟩),.int .i64 a] w (QPost w.heap.size w R S ts x):=by
 cases hv:Qe.is ts s false [91] with
 | true =>
   obtain ⟨e0,s2,he,rfl⟩:=zEH hx hv
   exact zEQ w R S ts s h rec hrec a hv e0 s2 he
 | false =>
   rw [zFB hx hv]
   exact zFI w R S ts s h a hv
def IsOff (g:Nat → Prop)(w:World)(B:Nat)(e:Ex)(vs:List Value):Prop:=
 ∀ w':World,w.heap.size ≤ w'.heap.size → (∀ bl,B ≤ bl → bl < w.heap.size → ¬ g bl → w'.heap[bl]? = w.heap[bl]?) → Is w' B e vs
theorem IsOff.now {g:Nat → Prop}{w:World}{B:Nat}{e:Ex}{vs:List Value}(h:IsOff g w B e vs):Is w B e vs:=h w (Nat.le_refl _) fun _ _ _ _ => rfl
theorem IsOff.of {g:Nat → Prop}{w:World}{B B2:Nat}{e:Ex}{vs:List Value}(h:Is w B2 e vs)(hB:B ≤ B2)(hg:∀ k,g k → k < B2):IsOff g w B e vs:=
 fun w' hs hk => Is.lower hB _ (Is.keep hs (fun bl h1 h2 => hk bl (Nat.le_trans hB h1) h2 (fun e => by have:=hg _ e; omega)) _ h)
theorem IsOff.top {g:Nat → Prop}{w:World}{B:Nat}{e:Ex}{vs:List Value}(h:Is w B e vs)(hg:∀ k,g k → w.heap.size ≤ k):IsOff g w B e vs:=
 fun w' hs hk => Is.keep hs (fun bl h1 h2 => hk bl h1 h2 (fun e => by have:=hg _ e; omega)) _ h
theorem IsOff.go {g:Nat → Prop}{w w1:World}{B:Nat}{e:Ex}{vs:List Value}(h:IsOff g w B e vs)(hs:w.heap.size ≤ w1.heap.size)(hk:∀ bl,B ≤ bl → bl < w.heap.size → ¬ g bl → w1.heap[bl]? = w.heap[bl]?):IsOff g w1 B e vs:=
 fun w' hs' hk' => h w' (Nat.le_trans hs hs') fun bl h1 h2 h3 => (hk' bl h1 (Nat.lt_of_lt_of_le h2 hs) h3).trans (hk bl h1 h2 h3)
theorem IsOff.below {g:Nat → Prop}{w w1:World}{B:Nat}{e:Ex}{vs:List Value}(h:IsOff g w B e vs)(hb:Below w.heap.size w w1):IsOff g w1 B e vs:=h.go hb.size fun bl _ h2 _ => hb.block bl h2
theorem IsOff.gr {g:Nat → Prop}{w w1:World}{R B:Nat}{e:Ex}{vs:List Value}(h:IsOff g w B e vs)(hR:R < B)(hg:Gr R w w1):IsOff g w1 B e vs:=h.go hg.size fun bl h1 h2 _ => hg.block bl h2 (by omega)
theorem IsOff.alloc {g:Nat → Prop}{w:World}{B:Nat}{e:Ex}{vs:List Value}(h:IsOff g w B e vs)(o:Obj):IsOff g (w.alloc o) B e vs:=h.below ((Below.refl _ _).alloc (Nat.le_refl _) _)
theorem IsOff.put11 {g:Nat → Prop}{w:World}{N B:Nat}{e:Ex}{vs:List Value}(h:IsOff g w B e vs)(hN:g N){c0 c1 c2 c3 c4 c5 c6 c7 c8 c9 c10:Value}:IsOff g (((((((((((w.setCell ⟨N,0,none⟩ c0).setCell ⟨N,1,none⟩ c1).setCell ⟨N,2,none⟩ c2).setCell ⟨N,3,none⟩ c3).setCell ⟨N,4,none⟩ c4).setCell ⟨N,5,none⟩ c5).setCell ⟨N,6,none⟩ c6).setCell ⟨N,7,none⟩ c7).setCell ⟨N,8,none⟩ c8).setCell ⟨N,9,none⟩ c9).setCell ⟨N,10,none⟩ c10) B e vs:=
 h.go (by simp only [zR]; exact Nat.le_refl _) fun bl _ hb hne => by
  obtain ⟨o,ho⟩:∃ o,w.heap[bl]? = some o:=⟨_,Array.getElem?_eq_getElem hb⟩
  rw [ho]
  exact zO ho (fun he => hne (by rw [he]; exact hN))
theorem IsOff.node1 {g:Nat → Prop}{w:World}{B bl:Nat}{T:TypeId}{e:Ex}{vs:List Value}{A:Array Value}(hb:w.heap[bl]? = some (.cells A T (0,0)))(hne:B ≤ bl)(hg:¬ g bl)(hi:IsOff g w B e vs)(hA:A = ⟨vs⟩)(kind num:Int)(name ofn:List UInt8)(dims at_:Int)(c:Nat) :
 IsOff g w B (Ex.of kind num name ofn dims [e] at_) (exCells kind num name ofn dims (.slice (some ⟨bl,0,none⟩) 1 c) at_ 0 0 0 0):=
 fun w' hs hk => Is.node1 ((hk bl hne (zA hb) hg).trans hb) hne (hi w' hs hk) hA kind num name ofn dims at_ c
theorem IsOff.node2 {g:Nat → Prop}{w:World}{B bl:Nat}{T:TypeId}{e e2:Ex}{vs vs2:List Value}{A:Array Value}(hb:w.heap[bl]? = some (.cells A T (0,0)))(hne:B ≤ bl)(hg:¬ g bl)(hi:IsOff g w B e vs)(hi2:IsOff g w B e2 vs2)(hA:A = ⟨vs ++ vs2⟩)(kind num:Int)(name ofn:List UInt8)(dims at_:Int)(c:Nat) :
 IsOff g w B (Ex.of kind num name ofn dims [e,e2] at_) (exCells kind num name ofn dims (.slice (some ⟨bl,0,none⟩) 2 c) at_ 0 0 0 0):=
 fun w' hs hk => Is.node2 ((hk bl hne (zA hb) hg).trans hb) hne (hi w' hs hk) (hi2 w' hs hk) hA kind num name ofn dims at_ c
def Own (eb rb:Nat)(k:Nat):Prop:=k = eb ∨ k = rb
structure Hoq (w wr:World) (R:Nat) (S:Value) (ts:List RT) (B eb rb:Nat) (kind num:Int) (name ofn:List UInt8) (dims:Int) (p:Option Addr) (ln c:Nat) (at_ b r d ref:Int) (e:Ex) (s:Q):Prop where
 f:Fq w wr R S ts s [(eb,.cells #[.int .i64 kind,.int .i64 num,.string (cbs name),.string (cbs ofn),.int .i64 dims,.slice p ln c,.int .i64 at_,.int .i64 b,.int .i64 r,.int .i64 d,.int .i64 ref] 120),(rb,.cells vE 120)] []
 is:IsOff (Own eb rb) wr B e (exCells kind num name ofn dims (.slice p ln c) at_ b r d ref)
theorem Fq.sub {w wr:World}{R:Nat}{S:Value}{ts:List RT}{s:Q}{L L2:List (Nat × Obj)}{T:List (Nat × Ex × List Value)}(h:Fq w wr R S ts s L T)(hs:∀ p ∈ L2,p ∈ L):Fq w wr R S ts s L2 []:=⟨h.qr,h.gr,fun p hp => h.keep p (hs p hp),fun _p hp => (List.not_mem_nil hp).elim⟩
theorem Fq.write {w u:World}{R:Nat}{S:Value}{ts:List RT}{s0 s:Q}{L:List (Nat × Obj)}{T:List (Nat × Ex × List Value)}{eb rb:Nat}{ob:Obj}{o0 o1 o2 o3 o4 o5 o6 o7 o8 o9 o10:Value}{ty:TypeId}(h:Fq w u R S ts s L T)(h0:Qr w R S ts s0)(he:(eb,.cells #[o0,o1,o2,o3,o4,o5,o6,o7,o8,o9,o10] ty) ∈ L)(hr:(rb,ob) ∈ L)(hw:w.heap.size ≤ eb)(hne:rb ≠ eb){c0 c1 c2 c3 c4 c5 c6 c7 c8 c9 c10:Value} :
 Fq w (((((((((((u.setCell ⟨eb,0,none⟩ c0).setCell ⟨eb,1,none⟩ c1).setCell ⟨eb,2,none⟩ c2).setCell ⟨eb,3,none⟩ c3).setCell ⟨eb,4,none⟩ c4).setCell ⟨eb,5,none⟩ c5).setCell ⟨eb,6,none⟩ c6).setCell ⟨eb,7,none⟩ c7).setCell ⟨eb,8,none⟩ c8).setCell ⟨eb,9,none⟩ c9).setCell ⟨eb,10,none⟩ c10) R S ts s [(eb,.cells #[c0,c1,c2,c3,c4,c5,c6,c7,c8,c9,c10] ty),(rb,ob)] []:=by
 have hn:=(Nw.start h.gr).put11 (B:=eb) hw (c0:=c0) (c1:=c1) (c2:=c2) (c3:=c3) (c4:=c4) (c5:=c5) (c6:=c6) (c7:=c7) (c8:=c8) (c9:=c9) (c10:=c10)
 refine ⟨h0.fin h.qr hn,hn.gr,fun p hp => ?_,fun p hp => (List.not_mem_nil hp).elim⟩
 rcases List.mem_cons.1 hp with rfl | hp
 ·exact ⟨zKN (h.keep _ he).1,(h.keep _ he).2⟩
 ·rcases List.mem_cons.1 hp with rfl | hp
  ·exact ⟨zO (h.keep _ hr).1 hne,(h.keep _ hr).2⟩
  ·exact (List.not_mem_nil hp).elim
theorem zHz {ts:List RT}{rec:Nat → Q → Qe.Out}{e:Ex}{s:Q}{x:Ex × Q}(h:Qe.behind ts rec 0 e s = some x):False:=by
 rw [Qe.behind] at h; cases h
theorem zIR {ts:List RT}{rec:Nat → Q → Qe.Out}{g:Nat}{e:Ex}{s:Q}{x:Ex × Q}(h:Qe.behind ts rec (g + 1) e s = some x)(hv:Qe.is ts s false [46] = true):Qe.behind ts rec g (Ex.of 5 0 (Qe.name ts (Qe.next s)).1 [] 0 [e] (tokAt ts s.k).at_) (Qe.name ts (Qe.next s)).2 = some x:=by
 rw [Qe.behind,if_pos hv] at h; exact h
theorem zHA {ts:List RT}{rec:Nat → Q → Qe.Out}{g:Nat}{e:Ex}{s:Q}{x:Ex × Q}(h:Qe.behind ts rec (g + 1) e s = some x)(hv:Qe.is ts s false [46] = false)(hv2:Qe.is ts s false [91] = true) :
 ∃ i s2,rec 0 (Qe.opens ts s [91]) = some (i,s2) ∧ Qe.behind ts rec g (Ex.of 6 0 [] [] 0 [e,i] (tokAt ts s.k).at_) (Qe.closes ts s2 [93]) = some x:=by
 rw [Qe.behind,if_neg (by rw [hv]; decide),if_pos hv2] at h
 split at h
 ·cases h
 ·rename_i i s2 he
  exact ⟨i,s2,he,h⟩
theorem zIQ {ts:List RT}{rec:Nat → Q → Qe.Out}{g:Nat}{e:Ex}{s:Q}{x:Ex × Q}(h:Qe.behind ts rec (g + 1) e s = some x)(hv:Qe.is ts s false [46] = false)(hv2:Qe.is ts s false [91] = false):x = (e,s):=by
 rw [Qe.behind,if_neg (by rw [hv]; decide),if_neg (by rw [hv2]; decide)] at h
 simpa using h.symm
end Go.Proofs.Ytjleggpbghmobaa
