/-
  The contracts of the project's reader of statements: express
-/
import Derived.Test.YtjleggpbghmobaaK02
import Derived.Test.YtjleggpbghmobaaK01
import Derived.Test.YtjleggpbghmobaaK08
import Derived.Test.YtjleggpbghmobaaK11
import Derived.Test.YtjleggpbghmobaaK13
import Derived.Test.YtjleggpbghmobaaK14
import Derived.Test.YtjleggpbghmobaaK15
import Derived.Deep.RegionLawGrows
import Derived.Lib.SmallJoins
import Derived.Deep.RegionHeld3
import Derived.Shelf.Abstract
set_option maxRecDepth 8000
set_option maxHeartbeats 8000000
namespace Go.Proofs.Ytjleggpbghmobaa
open Go.RowKit
open Px (RT tokAt)
open Pe
open Ps (Sm PX)
section
variable {σ:Type} {w wr:World} {R:Nat} {K : σ → World → Prop} {s s2 : σ} {L:List (Nat × Obj)} {T:List (Nat × World)}
theorem Fr.put1 {b:Nat}{Ty:TypeId}{A A2:Array Value}(h:Fr w R K s L T wr)(i:Nat)(hi:L[i]? = some (b,.cells A Ty (0,0)))(j:Nat)(u:Value)(hA:A.setIfInBounds j u = A2):Fr w R K s (L.set i (b,.cells A2 Ty (0,0))) T (wr.setCell ⟨b,j,none⟩ u):=
 h.set i hi rfl u _ (zAn (h.keep _ (List.mem_of_getElem? hi)).1 j u hA)
theorem zX {α:Type}{L:List α}{i:Nat}{a : α}(hi:L[i]? = some a)(b : α):(L.set i b)[i]? = some b:=List.getElem?_set_self (List.getElem?_eq_some_iff.1 hi).1
theorem Fr.put9 {b:Nat}{Ty:TypeId}{c0 c1 c2 c3 c4 c5 c6 c7 c8 x0 x1 x2 x3 x4 x5 x6 x7 x8:Value}(h:Fr w R K s L T wr)(i:Nat)(hi:L[i]? = some (b,.cells #[x0,x1,x2,x3,x4,x5,x6,x7,x8] Ty (0,0))):Fr w R K s (L.set i (b,.cells #[c0,c1,c2,c3,c4,c5,c6,c7,c8] Ty (0,0))) T (((((((((wr.setCell ⟨b,0,none⟩ c0).setCell ⟨b,1,none⟩ c1).setCell ⟨b,2,none⟩ c2).setCell ⟨b,3,none⟩ c3).setCell ⟨b,4,none⟩ c4).setCell ⟨b,5,none⟩ c5).setCell ⟨b,6,none⟩ c6).setCell ⟨b,7,none⟩ c7).setCell ⟨b,8,none⟩ c8):=by
 have h0:=h.put1 i hi 0 c0 (A2:=#[c0,x1,x2,x3,x4,x5,x6,x7,x8]) rfl
 have h1:=h0.put1 i (zX hi _) 1 c1 (A2:=#[c0,c1,x2,x3,x4,x5,x6,x7,x8]) rfl
 rw [List.set_set] at h1
 have h2:=h1.put1 i (zX hi _) 2 c2 (A2:=#[c0,c1,c2,x3,x4,x5,x6,x7,x8]) rfl
 rw [List.set_set] at h2
 have h3:=h2.put1 i (zX hi _) 3 c3 (A2:=#[c0,c1,c2,c3,x4,x5,x6,x7,x8]) rfl
 rw [List.set_set] at h3
 have h4:=h3.put1 i (zX hi _) 4 c4 (A2:=#[c0,c1,c2,c3,c4,x5,x6,x7,x8]) rfl
 rw [List.set_set] at h4
 have h5:=h4.put1 i (zX hi _) 5 c5 (A2:=#[c0,c1,c2,c3,c4,c5,x6,x7,x8]) rfl
 rw [List.set_set] at h5
 have h6:=h5.put1 i (zX hi _) 6 c6 (A2:=#[c0,c1,c2,c3,c4,c5,c6,x7,x8]) rfl
 rw [List.set_set] at h6
 have h7:=h6.put1 i (zX hi _) 7 c7 (A2:=#[c0,c1,c2,c3,c4,c5,c6,c7,x8]) rfl
 rw [List.set_set] at h7
 have h8:=h7.put1 i (zX hi _) 8 c8 (A2:=#[c0,c1,c2,c3,c4,c5,c6,c7,c8]) rfl
 rw [List.set_set] at h8
 exact h8
theorem Fr.pw {b:Nat}{Ty:TypeId}{x0 x1 x2 x3 x4 x5 x6 x7 x8:Value}(h:Fr w R K s L T wr)(i:Nat)(hi:L[i]? = some (b,.cells #[x0,x1,x2,x3,x4,x5,x6,x7,x8] Ty (0,0)))(c0 c1 c2 c3 c4 c5 c6 c7 c8:Value):Fr w R K s (L.set i (b,.cells #[c0,c1,c2,c3,c4,c5,c6,c7,c8] Ty (0,0))) T (((((((((wr.setCell ⟨b,0,none⟩ c0).setCell ⟨b,1,none⟩ c1).setCell ⟨b,2,none⟩ c2).setCell ⟨b,3,none⟩ c3).setCell ⟨b,4,none⟩ c4).setCell ⟨b,5,none⟩ c5).setCell ⟨b,6,none⟩ c6).setCell ⟨b,7,none⟩ c7).setCell ⟨b,8,none⟩ c8):=h.put9 i hi
theorem Fr.put11 {b:Nat}{Ty:TypeId} {c0 c1 c2 c3 c4 c5 c6 c7 c8 c9 c10 x0 x1 x2 x3 x4 x5 x6 x7 x8 x9 x10:Value}(h:Fr w R K s L T wr)(i:Nat)(hi:L[i]? = some (b,.cells #[x0,x1,x2,x3,x4,x5,x6,x7,x8,x9,x10] Ty (0,0))):Fr w R K s (L.set i (b,.cells #[c0,c1,c2,c3,c4,c5,c6,c7,c8,c9,c10] Ty (0,0))) T (((((((((((wr.setCell ⟨b,0,none⟩ c0).setCell ⟨b,1,none⟩ c1).setCell ⟨b,2,none⟩ c2).setCell ⟨b,3,none⟩ c3).setCell ⟨b,4,none⟩ c4).setCell ⟨b,5,none⟩ c5).setCell ⟨b,6,none⟩ c6).setCell ⟨b,7,none⟩ c7).setCell ⟨b,8,none⟩ c8).setCell ⟨b,9,none⟩ c9).setCell ⟨b,10,none⟩ c10):=by
 have h0:=h.put1 i hi 0 c0 (A2:=#[c0,x1,x2,x3,x4,x5,x6,x7,x8,x9,x10]) rfl
 have h1:=h0.put1 i (zX hi _) 1 c1 (A2:=#[c0,c1,x2,x3,x4,x5,x6,x7,x8,x9,x10]) rfl
 rw [List.set_set] at h1
 have h2:=h1.put1 i (zX hi _) 2 c2 (A2:=#[c0,c1,c2,x3,x4,x5,x6,x7,x8,x9,x10]) rfl
 rw [List.set_set] at h2
 have h3:=h2.put1 i (zX hi _) 3 c3 (A2:=#[c0,c1,c2,c3,x4,x5,x6,x7,x8,x9,x10]) rfl
 rw [List.set_set] at h3
 have h4:=h3.put1 i (zX hi _) 4 c4 (A2:=#[c0,c1,c2,c3,c4,x5,x6,x7,x8,x9,x10]) rfl
 rw [List.set_set] at h4
 have h5:=h4.put1 i (zX hi _) 5 c5 (A2:=#[c0,c1,c2,c3,c4,c5,x6,x7,x8,x9,x10]) rfl
 rw [List.set_set] at h5
 have h6:=h5.put1 i (zX hi _) 6 c6 (A2:=#[c0,c1,c2,c3,c4,c5,c6,x7,x8,x9,x10]) rfl
 rw [List.set_set] at h6
 have h7:=h6.put1 i (zX hi _) 7 c7 (A2:=#[c0,c1,c2,c3,c4,c5,c6,c7,x8,x9,x10]) rfl
 rw [List.set_set] at h7
 have h8:=h7.put1 i (zX hi _) 8 c8 (A2:=#[c0,c1,c2,c3,c4,c5,c6,c7,c8,x9,x10]) rfl
 rw [List.set_set] at h8
 have h9:=h8.put1 i (zX hi _) 9 c9 (A2:=#[c0,c1,c2,c3,c4,c5,c6,c7,c8,c9,x10]) rfl
 rw [List.set_set] at h9
 have h10:=h9.put1 i (zX hi _) 10 c10 (A2:=#[c0,c1,c2,c3,c4,c5,c6,c7,c8,c9,c10]) rfl
 rw [List.set_set] at h10
 exact h10
theorem Fr.alloc2 (h:Fr w R K s L T wr)(o:Obj){b:Nat}(hb:wr.heap.size = b):Fr w R K s ((b,o) :: L) T (wr.alloc o):=by
 subst hb
 exact h.alloc o
end
section
variable {w wr:World} {R M1 M2:Nat} {S:Value} {ts:List RT} {s:St} {L:List (Nat × Obj)} {T:List (Nat × World)}
end
end Go.Proofs.Ytjleggpbghmobaa
namespace Go.Proofs.Ytjleggpbghmobaa
open Go.RowKit
open Px (RT tokAt)
open Pe
open Ps (Sm PX)
theorem KidsAt.own {w:World}{base B n c:Nat}{p:Option Addr}{l:List Ex}{vss:List (List Value)}(h:w.ownsRow base 120 11 (.slice p n c) l.length vss.flatten)(hB:B ≤ base)(hl:vss.length = l.length)
 (hi:∀ (i:Nat) e vs,l[i]? = some e → vss[i]? = some vs → Is w B e vs):KidsAt w B p l:=by
 rcases h.2 with ⟨hv,h0⟩ | ⟨g,cap,cur,hv,hb,hc,hn,hcap,hsize,htake⟩
 ·exact .inl (List.eq_nil_of_length_eq_zero h0)
 ·simp only [Value.slice.injEq] at hv
  obtain ⟨rfl,rfl,rfl⟩:=hv
  refine .inr ⟨g,0,rfl,zA hc,Nat.le_trans hB hb,At.of_row hc l 0 vss hl hi fun i hlt => ?_⟩
  rw [← htake] at hlt ⊢
  have hlt2:i < l.length * 11:=by simp at hlt; omega
  simp [hlt2]
theorem Is.kind {w:World}{B:Nat}{e:Ex}{zk zn:Int}{zs zo:List UInt8}{zd:Int}{kv:Value}{za zb zr ze zf:Int}(h:Is w B e (exCells zk zn zs zo zd kv za zb zr ze zf)):Ps.kindOf e = zk ∧ cbs (Ps.nameOf e) = cbs zs:=by
 cases e
 rw [Is] at h
 obtain ⟨p,c,hv,-⟩:=h
 simp only [exCells,List.cons.injEq,Value.int.injEq,Value.string.injEq,true_and] at hv
 exact ⟨hv.1.symm,hv.2.2.1.symm⟩
theorem SIs.named {w:World}{B:Nat}{x:Sm}{kind:Int}{name ofn n2:List UInt8}{dims:Int}{ev bv lv:Value}{at_ ref:Int}(h:SIs w B x (smCells kind n2 ofn dims ev bv lv at_ ref))(hn:cbs n2 = cbs name):SIs w B x (smCells kind name ofn dims ev bv lv at_ ref):=by
 have:smCells kind name ofn dims ev bv lv at_ ref = smCells kind n2 ofn dims ev bv lv at_ ref:=by simp only [smCells,hn]
 rw [this]
 exact h
theorem zHX {w:World}{B:Nat}{e e2:Ex}{vs vs2:List Value}(h:Is w B e vs)(h2:Is w B e2 vs2):∀ (i:Nat) e' vs',[e,e2][i]? = some e' → [vs,vs2][i]? = some vs' → Is w B e' vs'
 | 0,e',vs',he,hv => by
   simp at he hv
   subst he hv
   exact h
 | 1,e',vs',he,hv => by
   simp at he hv
   subst he hv
   exact h2
 | i + 2,e',vs',he,hv => by simp at he
theorem zK3 {w w2:World}(h:w.grownBy w2 none):Below w.heap.size w w2:=⟨h.os,h.tape,h.output,h.size,fun k hk => h.block k hk (by simp)⟩
theorem Fr.grown {σ:Type}{w wa w8:World}{R:Nat}{K : σ → World → Prop}{s : σ}{L:List (Nat × Obj)}{T:List (Nat × World)}(h:Fr w R K s L T wa)(hg:wa.grownBy w8 none):Fr w R K s L ((wa.heap.size,w8) :: T) w8:=
 (h.go (zK3 hg)).tree h.gr.size fun p hp => zA (h.keep p hp).1
theorem Fr.tail {σ:Type}{w wr:World}{R:Nat}{K : σ → World → Prop}{s : σ}{a:Nat × Obj}{L:List (Nat × Obj)}{T:List (Nat × World)}(h:Fr w R K s (a :: L) T wr):Fr w R K s L T wr:=
 ⟨h.rd,h.gr,h.lt,h.held,fun p hp => h.keep p (List.Mem.tail _ hp),(List.pairwise_cons.1 h.nd).2,h.ag,fun p hp => h.sep p (List.Mem.tail _ hp)⟩
end Go.Proofs.Ytjleggpbghmobaa
namespace Go.Proofs.Ytjleggpbghmobaa
open Go.RowKit
open Px (RT tokAt isT)
open Pe (inc dec Ex)
open Qe (Q)
theorem zFG (w:World)(R:Nat)(S:Value)(ts:List RT)(s:Q)(h:Qr w R S ts s)(rec:Nat → Q → Qe.Out)(hrec:QRecOk ts rec)(hv1:Qe.is ts s false [45] = true)(e0:Ex)(s2:Q)(he:rec 5 (Qe.opens ts s [45]) = some (e0,s2)) :
 Calls Try.prog 64 #[.pointer (some ⟨R,0,none⟩)] w (QPost w.heap.size w R S ts (Ex.of 12 0 [] [] 0 [e0] (tokAt ts s.k).at_,⟨s2.k,dec s2.o,s2.E,s2.F⟩)):=by
 have HE:=vH (fun w1 hh => hrec 5 _ (e0,s2) (by decide) he w1 R S hh)
 have HV1:=vH hv1
 have htx:=(is_text hv1).2.2
 have htk:=fun w1 hh => zAa w1 R S ts s hh
 generalize tokAt ts s.k = t at htk htx ⊢
 obtain ⟨tk,tx,tn,ta⟩:=t
 dsimp only at htx ⊢
 subst htx
 unfold tokW at htk
 dsimp only at htk
 have HTK:=vH htk
 clear htk hrec he hv1
 have hlt:=h.lt
 have HH:=vH h
 have F:=vH ((Fq.start h).alloc (.cells vE 120))
 clear h
 go_in
 go_wp2_with fail
 refine (HTK.out _ F.out.qr).mono ?_
 rintro e u1 ⟨rfl,hb⟩
 replace F:=vH (F.out.go hb)
 clear hb
 have hNB0:=zA (F.out.keep _ vA).1
 go_wp2_with fail
 replace F:=vH (F.out.alloc (.cells #[.int .i64 tk,.string (cbs [45]),.int .i64 tn,.int .i64 ta] 71))
 refine (zG _ R S ts _ F.out.qr ⟨#[45]⟩ (by decide) false (by decide)).mono ?_
 rintro e u2 ⟨rfl,hb⟩
 replace F:=vH (F.out.go hb)
 clear hb
 try rw [HV1.out]
 have hk:=(F.out.keep _ vA)
 obtain ⟨⟨t0,t1,t2,t3⟩,q0,q1,q2,q3⟩:=quad hk.1
 have hlt:=zA hk.1
 have hnt:=hk.2
 have hmt:=Ne.symm hnt
 clear hk q0 q1 q2 q3
 go_wp2_with fail
 clear t0 t1 t2 t3 hlt hnt hmt
 refine (zAm _ R S ts _ F.out.qr ⟨#[45]⟩ (zAb _ (by decide))).mono ?_
 rintro e u3 ⟨rfl,hr,hg⟩
 replace F:=vH (F.out.step hr hg)
 clear hr hg
 go_wp2_with fail
 have hRB:=F.out.qr.lt
 have hNB:=zA (F.out.keep _ vB).1
 refine (HE.out _ F.out.qr).mono ?_
 rintro e u4 ⟨qk,qn,qs,qo,qd,qp,ql,qc,qa,qb,qr,qe,qf,rfl,hi,hr,hg⟩
 replace F:=vH ((F.out.step hr hg).tree hi hNB hRB)
 clear hi hr hg hRB hNB
 obtain ⟨⟨c0,c1,c2,c3,c4⟩,fr,hRl⟩:=F.out.qr.cells
 have fr1:=fr 1
 have fr2:=fr 2
 clear fr
 have hk:=(F.out.keep _ vA)
 obtain ⟨⟨t0,t1,t2,t3⟩,q0,q1,q2,q3⟩:=quad hk.1
 have hlt:=zA hk.1
 have hnt:=hk.2
 have hmt:=Ne.symm hnt
 clear hk q0 q1 q2 q3
 have hk:=(F.out.keep _ vB)
 obtain ⟨⟨d0,d1,d2,d3,d4,d5,d6,d7,d8,d9,dX⟩,g0,g1,g2,g3,g4,g5,g6,g7,g8,g9,gX⟩:=hen hk.1
 have hld:=zA hk.1
 have hnd:=hk.2
 clear hk
 go_wp2_with fail
 replace F:=vH (F.out.set_o (dec s2.o))
 have hn:=(((Nw.start F.out.gr).pv (.int .i64 12) (.int .i64 0) (.string ⟨#[]⟩) (.string ⟨#[]⟩) (.int .i64 0) (.slice (some ⟨u4.heap.size + 1,0,none⟩) 1 1) (.int .i64 ta) (.int .i64 0) (.int .i64 0) (.int .i64 0) (.int .i64 0)).alloc (.cells #[.int .i64 qk,.int .i64 qn,.string (cbs qs),.string (cbs qo),.int .i64 qd,.slice qp ql qc,.int .i64 qa,.int .i64 qb,.int .i64 qr,.int .i64 qe,.int .i64 qf] 120)).alloc (.cells #[.int .i64 qk,.int .i64 qn,.string (cbs qs),.string (cbs qo),.int .i64 qd,.slice qp ql qc,.int .i64 qa,.int .i64 qb,.int .i64 qr,.int .i64 qe,.int .i64 qf] 120)
 have hbx:=zCJ (w:=u4.setCell ⟨R,2,none⟩ (.int .i64 (dec s2.o))) (N:=w.heap.size) (o:=.cells #[.int .i64 qk,.int .i64 qn,.string (cbs qs),.string (cbs qo),.int .i64 qd,.slice qp ql qc,.int .i64 qa,.int .i64 qb,.int .i64 qr,.int .i64 qe,.int .i64 qf] 120) (o2:=.cells #[.int .i64 qk,.int .i64 qn,.string (cbs qs),.string (cbs qo),.int .i64 qd,.slice qp ql qc,.int .i64 qa,.int .i64 qb,.int .i64 qr,.int .i64 qe,.int .i64 qf] 120) (c0:=.int .i64 12) (c1:=.int .i64 0) (c2:=.string ⟨#[]⟩) (c3:=.string ⟨#[]⟩) (c4:=.int .i64 0) (c5:=.slice (some ⟨u4.heap.size + 1,0,none⟩) 1 1) (c6:=.int .i64 ta) (c7:=.int .i64 0) (c8:=.int .i64 0) (c9:=.int .i64 0) (c10:=.int .i64 0)
 rw [zR] at hbx
 have hle:w.heap.size ≤ u4.heap.size + 1:=by omega
 exact bodyPost_ret (v:=.agg #[.int .i64 12,.int .i64 0,.string ⟨#[]⟩,.string ⟨#[]⟩,.int .i64 0,.slice (some ⟨u4.heap.size + 1,0,none⟩) 1 1,.int .i64 ta,.int .i64 0,.int .i64 0,.int .i64 0,.int .i64 0]) (by simp [results,Try.results64,go_sem,hld,d0,d1,d2,d3,d4,d5,d6,d7,d8,d9,dX]) rfl ⟨_,_,_,_,_,_,_,_,_,_,_,_,_,rfl,Is.node1 hbx hle (Is.lower (Nat.le_of_lt (F.out.trees _ vA).2.1) _ ((((F.out.trees _ vA).1.put11 (F.out.trees _ vA).2.1).alloc _).alloc _)) rfl 12 0 [] [] 0 ta 1,HH.out.fin F.out.qr hn,hn.gr⟩
theorem zFH (w:World)(R:Nat)(S:Value)(ts:List RT)(s:Q)(h:Qr w R S ts s)(rec:Nat → Q → Qe.Out)(hrec:QRecOk ts rec)(hv0:Qe.is ts s false [45] = false)(hv1:Qe.is ts s false [33] = true)(e0:Ex)(s2:Q)(he:rec 5 (Qe.opens ts s [33]) = some (e0,s2)) :
 Calls Try.prog 64 #[.pointer (some ⟨R,0,none⟩)] w (QPost w.heap.size w R S ts (Ex.of 13 0 [] [] 0 [e0] (tokAt ts s.k).at_,⟨s2.k,dec s2.o,s2.E,s2.F⟩)):=by
 have HE:=vH (fun w1 hh => hrec 5 _ (e0,s2) (by decide) he w1 R S hh)
 have HV1:=vH hv1
 have HV0:=vH hv0
 have htx:=(is_text hv1).2.2
 have htk:=fun w1 hh => zAa w1 R S ts s hh
 generalize tokAt ts s.k = t at htk htx ⊢
 obtain ⟨tk,tx,tn,ta⟩:=t
 dsimp only at htx ⊢
 subst htx
 unfold tokW at htk
 dsimp only at htk
 have HTK:=vH htk
 clear htk hrec he hv1 hv0
 have hlt:=h.lt
 have HH:=vH h
 have F:=vH ((Fq.start h).alloc (.cells vE 120))
 clear h
 go_in
 go_wp2_with fail
 refine (HTK.out _ F.out.qr).mono ?_
 rintro e u1 ⟨rfl,hb⟩
 replace F:=vH (F.out.go hb)
 clear hb
 have hNB0:=zA (F.out.keep _ vA).1
 go_wp2_with fail
 replace F:=vH (F.out.alloc (.cells #[.int .i64 tk,.string (cbs [33]),.int .i64 tn,.int .i64 ta] 71))
 refine (zG _ R S ts _ F.out.qr ⟨#[45]⟩ (by decide) false (by decide)).mono ?_
 rintro e u2 ⟨rfl,hb⟩
 replace F:=vH (F.out.go hb)
 clear hb
 try rw [HV0.out]
 go_wp2_with fail
 refine (zG _ R S ts _ F.out.qr ⟨#[33]⟩ (by decide) false (by decide)).mono ?_
 rintro e u3 ⟨rfl,hb⟩
 replace F:=vH (F.out.go hb)
 clear hb
 try rw [HV1.out]
 have hk:=(F.out.keep _ vA)
 obtain ⟨⟨t0,t1,t2,t3⟩,q0,q1,q2,q3⟩:=quad hk.1
 have hlt:=zA hk.1
 have hnt:=hk.2
 have hmt:=Ne.symm hnt
 clear hk q0 q1 q2 q3
 go_wp2_with fail
 clear t0 t1 t2 t3 hlt hnt hmt
 refine (zAm _ R S ts _ F.out.qr ⟨#[33]⟩ (zAb _ (by decide))).mono ?_
 rintro e u4 ⟨rfl,hr,hg⟩
 replace F:=vH (F.out.step hr hg)
 clear hr hg
 go_wp2_with fail
 have hRB:=F.out.qr.lt
 have hNB:=zA (F.out.keep _ vB).1
 refine (HE.out _ F.out.qr).mono ?_
 rintro e u5 ⟨qk,qn,qs,qo,qd,qp,ql,qc,qa,qb,qr,qe,qf,rfl,hi,hr,hg⟩
 replace F:=vH ((F.out.step hr hg).tree hi hNB hRB)
 clear hi hr hg hRB hNB
 obtain ⟨⟨c0,c1,c2,c3,c4⟩,fr,hRl⟩:=F.out.qr.cells
 have fr1:=fr 1
 have fr2:=fr 2
 clear fr
 have hk:=(F.out.keep _ vA)
 obtain ⟨⟨t0,t1,t2,t3⟩,q0,q1,q2,q3⟩:=quad hk.1
 have hlt:=zA hk.1
 have hnt:=hk.2
 have hmt:=Ne.symm hnt
 clear hk q0 q1 q2 q3
 have hk:=(F.out.keep _ vB)
 obtain ⟨⟨d0,d1,d2,d3,d4,d5,d6,d7,d8,d9,dX⟩,g0,g1,g2,g3,g4,g5,g6,g7,g8,g9,gX⟩:=hen hk.1
 have hld:=zA hk.1
 have hnd:=hk.2
 clear hk
 go_wp2_with fail
 replace F:=vH (F.out.set_o (dec s2.o))
 have hn:=(((Nw.start F.out.gr).pv (.int .i64 13) (.int .i64 0) (.string ⟨#[]⟩) (.string ⟨#[]⟩) (.int .i64 0) (.slice (some ⟨u5.heap.size + 1,0,none⟩) 1 1) (.int .i64 ta) (.int .i64 0) (.int .i64 0) (.int .i64 0) (.int .i64 0)).alloc (.cells #[.int .i64 qk,.int .i64 qn,.string (cbs qs),.string (cbs qo),.int .i64 qd,.slice qp ql qc,.int .i64 qa,.int .i64 qb,.int .i64 qr,.int .i64 qe,.int .i64 qf] 120)).alloc (.cells #[.int .i64 qk,.int .i64 qn,.string (cbs qs),.string (cbs qo),.int .i64 qd,.slice qp ql qc,.int .i64 qa,.int .i64 qb,.int .i64 qr,.int .i64 qe,.int .i64 qf] 120)
 have hbx:=zCJ (w:=u5.setCell ⟨R,2,none⟩ (.int .i64 (dec s2.o))) (N:=w.heap.size) (o:=.cells #[.int .i64 qk,.int .i64 qn,.string (cbs qs),.string (cbs qo),.int .i64 qd,.slice qp ql qc,.int .i64 qa,.int .i64 qb,.int .i64 qr,.int .i64 qe,.int .i64 qf] 120) (o2:=.cells #[.int .i64 qk,.int .i64 qn,.string (cbs qs),.string (cbs qo),.int .i64 qd,.slice qp ql qc,.int .i64 qa,.int .i64 qb,.int .i64 qr,.int .i64 qe,.int .i64 qf] 120) (c0:=.int .i64 13) (c1:=.int .i64 0) (c2:=.string ⟨#[]⟩) (c3:=.string ⟨#[]⟩) (c4:=.int .i64 0) (c5:=.slice (some ⟨u5.heap.size + 1,0,none⟩) 1 1) (c6:=.int .i64 ta) (c7:=.int .i64 0) (c8:=.int .i64 0) (c9:=.int .i64 0) (c10:=.int .i64 0)
 rw [zR] at hbx
 have hle:w.heap.size ≤ u5.heap.size + 1:=by omega
 exact bodyPost_ret (v:=.agg #[.int .i64 13,.int .i64 0,.string ⟨#[]⟩,.string ⟨#[]⟩,.int .i64 0,.slice (some ⟨u5.heap.size + 1,0,none⟩) 1 1,.int .i64 ta,.int .i64 0,.int .i64 0,.int .i64 0,.int .i64 0]) (by simp [results,Try.results64,go_sem,hld,d0,d1,d2,d3,d4,d5,d6,d7,d8,d9,dX]) rfl ⟨_,_,_,_,_,_,_,_,_,_,_,_,_,rfl,Is.node1 hbx hle (Is.lower (Nat.le_of_lt (F.out.trees _ vA).2.1) _ ((((F.out.trees _ vA).1.put11 (F.out.trees _ vA).2.1).alloc _).alloc _)) rfl 13 0 [] [] 0 ta 1,HH.out.fin F.out.qr hn,hn.gr⟩
theorem zGL {ts:List RT}{rec:Nat → Q → Qe.Out}{g:Nat}{s:Q}{x:Ex × Q}(h:Qe.unary ts rec g s = some x)(hv:Qe.is ts s false [45] = false)(hv2:Qe.is ts s false [33] = false):∃ e s2,Qe.first ts rec g s = some (e,s2) ∧ Qe.behind ts rec g e s2 = some x:=by
 rw [Qe.unary,if_neg (by rw [hv]; decide),if_neg (by rw [hv2]; decide)] at h
 split at h
 ·cases h
 ·rename_i e s2 he
  exact ⟨e,s2,he,h⟩
theorem zDJ (w:World)(R:Nat)(S:Value)(ts:List RT)(s:Q)(h:Qr w R S ts s)(rec:Nat → Q → Qe.Out)(hrec:QRecOk ts rec)(hv0:Qe.is ts s false [45] = false)(hv1:Qe.is ts s false [33] = false)(gg:Nat)(hgg:gg ≤ 1000000000)(e0:Ex)(s1:Q)(he:Qe.first ts rec gg s = some (e0,s1))(x:Ex × Q)(hx:Qe.behind ts rec gg e0 s1 = some x) :
 Calls Try.prog 64 #[.pointer (some ⟨R,0,none⟩)] w (QPost w.heap.size w R S ts x):=by
 have HE:=vH (fun w1 hh => zES w1 R S ts s hh rec hrec gg hgg (e0,s1) he)
 have HX:=vH hx
 have HREC:=vH hrec
 have HV0:=vH hv0
 have HV1:=vH hv1
 have htk:=fun w1 hh => zAa w1 R S ts s hh
 generalize tokAt ts s.k = t at htk
 unfold tokW at htk
 have HTK:=vH htk
 clear htk hrec he hx hv0 hv1 hgg
 have hlt:=h.lt
 have HH:=vH h
 have F:=vH ((Fq.start h).alloc (.cells vE 120))
 clear h
 go_in
 go_wp2_with fail
 refine (HTK.out _ F.out.qr).mono ?_
 rintro e u1 ⟨rfl,hb⟩
 replace F:=vH (F.out.go hb)
 clear hb
 go_wp2_with fail
 replace F:=vH (F.out.alloc (.cells (vT t) 71))
 refine (zG _ R S ts _ F.out.qr ⟨#[45]⟩ (by decide) false (by decide)).mono ?_
 rintro e u2 ⟨rfl,hb⟩
 replace F:=vH (F.out.go hb)
 clear hb
 try rw [HV0.out]
 go_wp2_with fail
 refine (zG _ R S ts _ F.out.qr ⟨#[33]⟩ (by decide) false (by decide)).mono ?_
 rintro e u3 ⟨rfl,hb⟩
 replace F:=vH (F.out.go hb)
 clear hb
 try rw [HV1.out]
 go_wp2_with fail
 have hRB:=F.out.qr.lt
 have hNB:=zA (F.out.keep _ vB).1
 refine (HE.out _ F.out.qr).mono ?_
 rintro e u4 ⟨qk,qn,qs,qo,qd,qp,ql,qc,qa,qb,qr,qe,qf,rfl,hi,hr,hg⟩
 replace F:=vH ((F.out.step hr hg).tree hi hNB hRB)
 clear hi hr hg hRB hNB
 go_wp2_with fail
 have HTR:=vH (F.out.trees _ vA)
 refine (zDL _ R S ts s1 F.out.qr rec HREC.out (w.heap.size + 1) (by omega) (Nat.succ_le_of_lt (zA (F.out.keep _ vB).1)) gg e0 qk qn qs qo qd qp ql qc qa qb qr qe qf (Is.lower HTR.out.2.1 _ HTR.out.1) x HX.out).mono ?_
 rintro e u9 ⟨zk,zn,zs,zo,zd,zp,zl,zc,za,zb,zr,ze,zf,rfl,hi,hr,hg⟩
 replace F:=vH ((F.out.step hr hg).tree hi (Nat.lt_succ_self _) (by omega))
 clear hi hr hg HTR
 have hk:=(F.out.keep _ vB)
 obtain ⟨⟨d0,d1,d2,d3,d4,d5,d6,d7,d8,d9,dX⟩,g0,g1,g2,g3,g4,g5,g6,g7,g8,g9,gX⟩:=hen hk.1
 have hld:=zA hk.1
 have hnd:=hk.2
 clear hk
 go_wp2_with fail
 have hn:=(Nw.start F.out.gr).pv (.int .i64 zk) (.int .i64 zn) (.string (cbs zs)) (.string (cbs zo)) (.int .i64 zd) (.slice zp zl zc) (.int .i64 za) (.int .i64 zb) (.int .i64 zr) (.int .i64 ze) (.int .i64 zf)
 exact bodyPost_ret (v:=.agg #[.int .i64 zk,.int .i64 zn,.string (cbs zs),.string (cbs zo),.int .i64 zd,.slice zp zl zc,.int .i64 za,.int .i64 zb,.int .i64 zr,.int .i64 ze,.int .i64 zf]) (by simp [results,Try.results64,go_sem,d0,d1,d2,d3,d4,d5,d6,d7,d8,d9,dX]) rfl ⟨_,_,_,_,_,_,_,_,_,_,_,_,_,rfl,Is.lower (Nat.le_of_lt (F.out.trees _ vA).2.1) _ ((F.out.trees _ vA).1.put11 (F.out.trees _ vA).2.1),HH.out.fin F.out.qr hn,hn.gr⟩
theorem zEO (w:World)(R:Nat)(S:Value)(ts:List RT)(s:Q)(h:Qr w R S ts s)(rec:Nat → Q → Qe.Out)(hrec:QRecOk ts rec)(gg:Nat)(hgg:gg ≤ 1000000000)(x:Ex × Q)(hx:Qe.unary ts rec gg s = some x) :
 Calls Try.prog 64 #[.pointer (some ⟨R,0,none⟩)] w (QPost w.heap.size w R S ts x):=by
 cases hv:Qe.is ts s false [45] with
 | true =>
   rw [Qe.unary,if_pos hv] at hx
   obtain ⟨e0,s2,he,rfl⟩:=zDg hx
   exact zFG w R S ts s h rec hrec hv e0 s2 he
 | false =>
   cases hv2:Qe.is ts s false [33] with
   | true =>
     rw [Qe.unary,if_neg (by rw [hv]; decide),if_pos hv2] at hx
     obtain ⟨e0,s2,he,rfl⟩:=zDg hx
     exact zFH w R S ts s h rec hrec hv hv2 e0 s2 he
   | false =>
     obtain ⟨e0,s1,he,hb⟩:=zGL hx hv hv2
     exact zDJ w R S ts s h rec hrec hv hv2 gg hgg e0 s1 he x hb
theorem zFJ (w:World)(R:Nat)(S:Value)(ts:List RT)(s:Q)(h:Qr w R S ts s)(rec:Nat → Q → Qe.Out)(hrec:QRecOk ts rec)(gg:Nat)(hgg:gg ≤ 1000000000)(x:Ex × Q)(hx:Qe.unary ts rec gg s = some x) :
 Calls Try.prog 62 #[.pointer (some ⟨R,0,none⟩),.int .i64 5] w (QPost w.heap.size w R S ts x):=by
 have HE:=vH (fun w1 hh => zEO w1 R S ts s hh rec hrec gg hgg x hx)
 clear hrec hx hgg
 have hlt:=h.lt
 have HH:=vH h
 have F:=vH ((Fq.start h).alloc (.cells vE 120))
 clear h
 go_in
 go_wp2_with fail
 have hRB:=F.out.qr.lt
 have hNB:=zA (F.out.keep _ vA).1
 refine (HE.out _ F.out.qr).mono ?_
 rintro e u1 ⟨qk,qn,qs,qo,qd,qp,ql,qc,qa,qb,qr,qe,qf,rfl,hi,hr,hg⟩
 replace F:=vH ((F.out.step hr hg).tree hi hNB hRB)
 clear hi hr hg hRB hNB
 have hk:=(F.out.keep _ vA)
 obtain ⟨⟨d0,d1,d2,d3,d4,d5,d6,d7,d8,d9,dX⟩,g0,g1,g2,g3,g4,g5,g6,g7,g8,g9,gX⟩:=hen hk.1
 have hld:=zA hk.1
 have hnd:=hk.2
 clear hk
 go_wp2_with fail
 have hn:=(Nw.start F.out.gr).pv (.int .i64 qk) (.int .i64 qn) (.string (cbs qs)) (.string (cbs qo)) (.int .i64 qd) (.slice qp ql qc) (.int .i64 qa) (.int .i64 qb) (.int .i64 qr) (.int .i64 qe) (.int .i64 qf)
 exact bodyPost_ret (v:=.agg #[.int .i64 qk,.int .i64 qn,.string (cbs qs),.string (cbs qo),.int .i64 qd,.slice qp ql qc,.int .i64 qa,.int .i64 qb,.int .i64 qr,.int .i64 qe,.int .i64 qf]) (by simp [results,Try.results62,go_sem,d0,d1,d2,d3,d4,d5,d6,d7,d8,d9,dX]) rfl ⟨_,_,_,_,_,_,_,_,_,_,_,_,_,rfl,Is.lower (Nat.le_of_lt (F.out.trees _ vA).2.1) _ ((F.out.trees _ vA).1.put11 (F.out.trees _ vA).2.1),HH.out.fin F.out.qr hn,hn.gr⟩
theorem zH9 (ts:List RT):∀ f,f ≤ 1000000000 → QRecOk ts (Qe.run ts f):=by
 intro f
 induction f with
 | zero => intro _ n s x _ hx; cases hx
 | succ f ih =>
   intro hf n s x hn hx w R S h
   have hrec:=ih (by omega)
   rw [Qe.run] at hx
   dsimp only at hx
   by_cases h5:n = 5
   ·subst h5
    rw [if_pos rfl] at hx
    exact zFJ w R S ts s h _ hrec f (by omega) x hx
   ·rw [if_neg h5] at hx
    split at hx
    ·cases hx
    ·rename_i e0 s1 he
     exact zFK w R S ts s h _ hrec n (by omega) f e0 s1 he x hx
open Ps (Sm kindOf nameOf)
def QrK (R:Nat)(S:Value)(ts:List RT)(s:Q)(w:World):Prop:=Qr w R S ts s
section
variable {w wr:World} {R:Nat} {S:Value} {ts:List RT} {s:Q} {L:List (Nat × Obj)} {T:List (Nat × World)}
theorem Fr.ofq (h:Qr w R S ts s):Fr w R (QrK R S ts) s [] [] w:=Fr.start (QrK R S ts) h h.lt fun _ _ _ n hA => Qr.fin h hA n
theorem Fr.qr (h:Fr w R (QrK R S ts) s L T wr):Qr wr R S ts s:=h.rd
theorem Fr.setk (h:Fr w R (QrK R S ts) s L T wr):Fr w R (QrK R S ts) (Qe.next s) L T (wr.setCell ⟨R,1,none⟩ (.int .i64 (inc s.k))):=
 h.step (h.qr.set_k (inc s.k)) ((Gr.refl R wr).set 1 _)
end
def QStPost (w:World)(R:Nat)(S:Value)(ts:List RT)(x:Sm × Q)(e:Ending)(w':World):Prop:=
 ∃ (kind:Int) (name ofn:List UInt8) (dims:Int) (ep:Option Addr) (el ec:Nat) (bp:Option Addr) (bl bc:Nat) (lp:Option Addr) (ll lc:Nat) (at_ ref:Int),
   e = .returned (.agg #[.int .i64 kind,.string (cbs name),.string (cbs ofn),.int .i64 dims,.slice ep el ec,.slice bp bl bc,.slice lp ll lc,.int .i64 at_,.int .i64 ref]) ∧
   SIs w' w.heap.size x.1 (smCells kind name ofn dims (.slice ep el ec) (.slice bp bl bc) (.slice lp ll lc) at_ ref) ∧ Qr w' R S ts x.2 ∧ Gr R w w'
def QBlPost (w:World)(R:Nat)(S:Value)(ts:List RT)(x:List Sm × Q)(e:Ending)(w':World):Prop:=
 ∃ (p:Option Addr) (c:Nat),e = .returned (.slice p x.1.length (x.1.length + c)) ∧ SsAt w' w.heap.size p x.1 ∧ Qr w' R S ts x.2 ∧ Gr R w w'
def QXOk (ts:List RT)(rx:Qs.RX):Prop:=∀ (s:Q)(x:Ex × Q),rx s = some x → ∀ (w:World)(R:Nat)(S:Value),Qr w R S ts s →
 Calls Try.prog 62 #[.pointer (some ⟨R,0,none⟩),.int .i64 0] w (QPost w.heap.size w R S ts x)
def QBlOk (ts:List RT)(recB:Q → Qs.OutB):Prop:=∀ (s:Q)(x:List Sm × Q),recB s = some x → ∀ (w:World)(R:Nat)(S:Value),Qr w R S ts s →
 Calls Try.prog 41 #[.pointer (some ⟨R,0,none⟩)] w (QBlPost w R S ts x)
def QStOk (ts:List RT)(recS:Q → Qs.Out):Prop:=∀ (s:Q)(x:Sm × Q),recS s = some x → ∀ (w:World)(R:Nat)(S:Value),Qr w R S ts s →
 Calls Try.prog 55 #[.pointer (some ⟨R,0,none⟩)] w (QStPost w R S ts x)
theorem zKR (ts:List RT)(f:Nat)(hf:f ≤ 1000000000):QXOk ts (Qe.run ts f 0):=fun s x hx w R S h => zH9 ts f hf 0 s x (by decide) hx w R S h
theorem KidsAt.two {w:World}{B bl:Nat}{T:TypeId}{e e2:Ex}{vs vs2:List Value}{A:Array Value}(hb:w.heap[bl]? = some (.cells A T (0,0)))(hne:B ≤ bl)(hi:Is w B e vs)(hi2:Is w B e2 vs2)(hA:A = ⟨vs ++ vs2⟩):KidsAt w B (some ⟨bl,0,none⟩) [e,e2]:=by
 subst hA
 refine .inr ⟨bl,0,rfl,zA hb,hne,At.of_row hb [e,e2] 0 [vs,vs2] rfl (zHX hi hi2) fun i _ => ?_⟩
 simp
end Go.Proofs.Ytjleggpbghmobaa
