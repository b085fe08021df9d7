/-
  The answer's reader of programs (runrigref3): a parameter; a
-/
import Derived.Test.YteadgahhchlgeaaDoorK21
import Derived.Test.YteadgahhchlgeaaDoorK02
import Derived.Test.YteadgahhchlgeaaDoorK23
set_option maxRecDepth 8000
set_option maxHeartbeats 8000000
namespace Go.Proofs.YteadgahhchlgeaaDoor
open Go.RowKit
open Px (RT tokAt isT)
open Pe (inc dec Ex)
open Qe (Q)
open Ps (Sm)
open Pg (Pm Rc Fc Gm)
theorem zCf {w1:World}{R:Nat}{S:Value}{ts:List RT}{s:Q}{t:RT}(hT:tokAt ts s.k = t)(h:Qr w1 R S ts s) :
 Calls Tryd.prog 17 #[.pointer (some ⟨R,0,none⟩)] w1 fun e w' => e = .returned (.agg #[.int .i64 t.kind,.string (cbs t.text),.int .i64 t.num,.int .i64 t.at_]) ∧ Below w1.heap.size w1 w':=by
 subst hT
 exact zAt w1 R S ts s h
theorem zIk (w:World)(R:Nat)(S:Value)(ts:List RT)(s:Q)(h:Qr w R S ts s) :
 Calls Tryd.prog 21 #[.pointer (some ⟨R,0,none⟩)] w fun e w' => e = .returned (pmW (Qg.param ts s).1) ∧ Qr w' R S ts (Qg.param ts s).2 ∧ Gr R w w':=by
 obtain ⟨nm,s1,hN⟩:∃ nm s1,Qe.name ts s = (nm,s1):=⟨_,_,rfl⟩
 obtain ⟨on,d,s3,hO⟩:∃ on d s3,Qe.of ts (Qe.take ts s1 false [58]) = (on,d,s3):=⟨_,_,_,rfl⟩
 obtain ⟨t,hT⟩:∃ t,tokAt ts s.k = t:=⟨_,rfl⟩
 have hx:Qg.param ts s = (⟨nm,on,d,t.at_⟩,s3):=by simp only [Qg.param,hN,hO,hT]
 rw [hx]
 have HN:=vH hN
 have HO:=vH hO
 have HT:=vH hT
 have F:=vH ((Fr.ofq h).alloc (.cells #[.string ⟨#[]⟩,.string ⟨#[]⟩,.int .i64 0,.int .i64 0] 78))
 have hfd:∀ w1:World,(Instr.field 71 (.agg #[.int .i64 t.kind,.string (cbs t.text),.int .i64 t.num,.int .i64 t.at_]) 3).run Tryd.prog w1 = .ok (.int .i64 t.at_) w1:=fun _ => by kernel_rfl
 clear h hx hN hO hT
 go_in
 go_wp2_with fail
 refine (zCf HT.out F.out.qr).mono ?_
 rintro e w1 ⟨rfl,hb⟩
 replace F:=vH (F.out.go hb)
 clear hb
 go_wp2_with fail
 obtain ⟨b,w5,hb5,hw5,f5⟩:∃ b w5,b = w1.heap.size ∧ w5 = w1.alloc (.cells #[.string ⟨#[]⟩,.string ⟨#[]⟩,.int .i64 0,.int .i64 t.at_] 78) ∧ Fr w R (QrK R S ts) s [(b,.cells #[.string ⟨#[]⟩,.string ⟨#[]⟩,.int .i64 0,.int .i64 t.at_] 78 (0,0)),(w.heap.size,.cells #[.string ⟨#[]⟩,.string ⟨#[]⟩,.int .i64 0,.int .i64 0] 78 (0,0))] [] w5:=⟨_,_,rfl,rfl,F.out.alloc _⟩
 rw [← hw5,← hb5]
 replace F:=vH f5
 clear hb5 hw5 f5
 have hnd:=F.out.below1
 have hne:=Ne.symm hnd
 dsimp only at hnd hne
 have hN1:=zAG _ R S ts s F.out.qr
 rw [HN.out] at hN1
 refine hN1.mono ?_
 rintro e w2 ⟨rfl,hc,hg⟩
 replace F:=vH (F.out.step hc hg)
 clear hc hg hN1
 have hk:=F.out.keep _ vA
 obtain ⟨⟨d0,d1,d2,d3⟩,p0,p1,p2,p3⟩:=quad hk.1
 have hld:=zA hk.1
 clear hk
 go_wp2_with fail
 replace F:=vH (F.out.put1 0 rfl 0 (.string (cbs nm)) rfl)
 refine (zJ _ R S ts s1 F.out.qr ⟨#[58]⟩ (by decide) false (by decide)).mono ?_
 rintro e w3 ⟨rfl,hc,hg⟩
 replace F:=vH (F.out.step hc hg)
 clear hc hg d0 d1 d2 d3 p0 p1 p2 p3 hld
 go_wp2_with fail
 have hO1:=zCT _ R S ts _ F.out.qr
 rw [show Qe.take ts s1 false [58] = Qe.take ts s1 false (⟨#[58]⟩:ByteArray).data.toList from rfl] at HO
 rw [HO.out] at hO1
 refine hO1.mono ?_
 rintro e w4 ⟨rfl,hc,hg⟩
 replace F:=vH (F.out.step hc hg)
 clear hc hg hO1
 have hk:=F.out.keep _ vA
 obtain ⟨⟨d0,d1,d2,d3⟩,p0,p1,p2,p3⟩:=quad hk.1
 have hld:=zA hk.1
 clear hk
 have hk:=F.out.keep _ vB
 obtain ⟨⟨a0,a1,a2,a3⟩,q0,q1,q2,q3⟩:=quad hk.1
 have hla:=zA hk.1
 clear hk
 go_wp2_with fail
 replace F:=vH (F.out.put1 0 rfl 1 (.string (cbs on)) rfl)
 replace F:=vH (F.out.put1 0 rfl 2 (.int .i64 (d:Nat)) rfl)
 replace F:=vH (F.out.put4 1 rfl (c0:=.string (cbs nm)) (c1:=.string (cbs on)) (c2:=.int .i64 (d:Nat)) (c3:=.int .i64 t.at_))
 exact bodyPost_ret (v:=pmW ⟨nm,on,d,t.at_⟩) (by simp [pmW,results,Tryd.results21,go_sem,a0,a1,a2,a3]) rfl ⟨rfl,F.out.qr,F.out.gr⟩
theorem zCS {w1:World}{R:Nat}{S:Value}{ts:List RT}{s s2:Q}{y:Pm}(hy:Qg.param ts s = (y,s2))(h:Qr w1 R S ts s) :
 Calls Tryd.prog 21 #[.pointer (some ⟨R,0,none⟩)] w1 fun e w' => e = .returned (.agg #[.string (cbs y.name),.string (cbs y.ofn),.int .i64 y.dims,.int .i64 y.at_]) ∧ Qr w' R S ts s2 ∧ Gr R w1 w':=by
 have:=zIk w1 R S ts s h
 rw [hy] at this
 exact this
structure QSt (w:World) (R:Nat) (S:Value) (ts:List RT) (B b:Nat) (T:TypeId) (A Z:Array Value) (v:Value) (l:List Pm) (s:Q) (wr:World):Prop where
 qr:Qr wr R S ts s
 gr:Gr R w wr
 row:wr.heap[b]? = some (.cells A T (0,0))
 res:wr.heap[w.heap.size]? = some (.cells Z T (0,0))
 l1:w.heap.size < b
 l2:b < B
 l3:B ≤ wr.heap.size
 own:wr.ownsRow B 78 4 v l.length (l.flatMap pmCells)
 h0:∃ s0,Qr w R S ts s0
section
variable {w wr w' w3:World} {R B b:Nat} {S v v':Value} {T:TypeId} {A Z A2:Array Value} {ts:List RT} {l:List Pm} {s s':Q}
theorem QSt.rlt (h:QSt w R S ts B b T A Z v l s wr):R < w.heap.size:=by obtain ⟨s0,h0⟩:=h.h0; exact h0.lt
theorem QSt.step (h:QSt w R S ts B b T A Z v l s wr)(hc:Qr w' R S ts s')(hg:Gr R wr w'):QSt w R S ts B b T A Z v l s' w':=by
 have hr:=h.rlt
 have h1:=h.l1
 have h2:=h.l2
 exact ⟨hc,h.gr.trans hg,hg.box h.row (by omega),hg.box h.res (by omega),h1,h2,Nat.le_trans h.l3 hg.size,zJ1 h.own hg (by omega),h.h0⟩
theorem QSt.go (h:QSt w R S ts B b T A Z v l s wr)(hb:Below wr.heap.size wr w'):QSt w R S ts B b T A Z v l s w':=h.step (h.qr.go hb) (Gr.of hb)
theorem QSt.drew (h:QSt w R S ts B b T A Z v l s wr):QSt w R S ts B b T A Z v l s wr.drew:=h.go (Below.refl _ _).drew
theorem QSt.put (h:QSt w R S ts B b T A Z v l s wr)(i:Nat)(u:Value)(hA:A.setIfInBounds i u = A2):QSt w R S ts B b T A2 Z v l s (wr.setCell ⟨b,i,none⟩ u):=by
 have hr:=h.rlt
 have h1:=h.l1
 have h2:=h.l2
 have hn:=(Nw.start h.gr).set (p:=⟨b,i,none⟩) (by show w.heap.size ≤ b; omega) u
 have hk:∀ bl,bl ≠ b → (wr.setCell ⟨b,i,none⟩ u).heap[bl]? = wr.heap[bl]?:=fun bl hb => Below.heap_setCell wr ⟨b,i,none⟩ u bl hb
 obtain ⟨s0,h0⟩:=h.h0
 refine ⟨Qr.fin h0 h.qr hn,hn.gr,zAR h.row i u hA,(hk _ (by omega)).trans h.res,h1,h2,by rw [zY]; exact h.l3,zHp h.own fun k e => hk k ?_,s0,h0⟩
 have:=(h.own.lt k e).1
 omega
theorem QSt.push {x:Pm}{o:Obj}(h:QSt w R S ts B b T A Z v l s wr)(hown:w3.ownsRow B 78 4 v' (l.length + 1) (l.flatMap pmCells ++ pmCells x))(hgrow:(wr.alloc o).grownBy w3 v.ownBlock):QSt w R S ts B b T A Z v' (l ++ [x]) s w3:=by
 have hr:=h.rlt
 have h1:=h.l1
 have h2:=h.l2
 have h3:=h.l3
 have hv:∀ k,v.ownBlock = some k → B ≤ k:=fun k hk => (h.own.lt k hk).1
 have hs:wr.heap.size ≤ w3.heap.size:=by have:=hgrow.size; rw [zC] at this; omega
 have hlow:∀ bl,bl < B → w3.heap[bl]? = wr.heap[bl]?:=fun bl hb =>
  (hgrow.block bl (by rw [zC]; omega) (fun e => by have:=hv bl e.symm; omega)).trans (heap_alloc_old _ _ (by omega))
 have hgr:Gr R w w3:=⟨hgrow.os.trans h.gr.os,hgrow.tape.trans h.gr.tape,hgrow.output.trans h.gr.output,Nat.le_trans h.gr.size hs,fun i hi hn => (hlow i (by omega)).trans (h.gr.block i hi hn)⟩
 obtain ⟨s0,h0⟩:=h.h0
 exact ⟨Qr.fin h0 h.qr ⟨⟨hgrow.os,hgrow.tape,hgrow.output,hs,fun i hi => hlow i (by omega)⟩,hgr⟩,hgr,(hlow b h2).trans h.row,(hlow _ (by omega)).trans h.res,h1,h2,Nat.le_trans h3 hs,by rw [zFR,List.length_append]; exact hown,s0,h0⟩
end
theorem zM7 {ts:List RT}{g:Nat}{l:List Pm}{s:Q}{x:List Pm × Q}(h:Qg.fieldLoop ts (g + 1) l s = some x)(hv:¬ (s.E = 0 ∧ Qe.is ts s false [125] = false)):x = (l,s):=by
 rw [Qg.fieldLoop,if_neg hv] at h
 exact (Option.some.inj h).symm
theorem zOu {ts:List RT}{g:Nat}{l:List Pm}{s:Q}{x:List Pm × Q}(h:Qg.fieldLoop ts (g + 1) l s = some x)(hE:s.E = 0)(hv:Qe.is ts s false [125] = false)(hf:(tokAt ts s.k).kind = 1 ∧ l.length = 8):x = (l,Qe.fail ts s 4):=by
 rw [Qg.fieldLoop,if_pos ⟨hE,hv⟩,if_pos hf] at h
 exact (Option.some.inj h).symm
theorem zOt {ts:List RT}{g:Nat}{l:List Pm}{s:Q}{x:List Pm × Q}(h:Qg.fieldLoop ts (g + 1) l s = some x)(hE:s.E = 0)(hv:Qe.is ts s false [125] = false)(hf:¬ ((tokAt ts s.k).kind = 1 ∧ l.length = 8)) :
 ∃ y s2,Qg.param ts s = (y,s2) ∧ Qg.fieldLoop ts g (l ++ [y]) (Qe.take ts s2 false [59]) = some x:=by
 rw [Qg.fieldLoop,if_pos ⟨hE,hv⟩,if_neg hf] at h
 exact ⟨_,_,rfl,h⟩
def QRcPost (w:World)(R:Nat)(S:Value)(ts:List RT)(x:Rc × Q)(e:Ending)(w':World):Prop:=
 ∃ v0 p n c a,e = .returned (.agg #[.string v0,.slice p n c,.int .i64 a]) ∧ RIs w' w.heap.size x.1 [.string v0,.slice p n c,.int .i64 a] ∧ Qr w' R S ts x.2 ∧ Gr R w w'
theorem zE4 {w w7:World}{R B b:Nat}{S:Value}{ts:List RT}{s s7:Q}{nm:List UInt8}{a:Int}{Z:Array Value}{p:Option Addr}{c:Nat}{l:List Pm}(h0:Qr w R S ts s)
 (G:QSt w R S ts B b 75 #[.string (cbs nm),.slice p l.length c,.int .i64 a] Z (.slice p l.length c) l s7 w7) :
 QRcPost w R S ts (⟨nm,l,a⟩,s7) (.returned (.agg #[.string (cbs nm),.slice p l.length c,.int .i64 a])) (((w7.setCell ⟨w.heap.size,0,none⟩ (.string (cbs nm))).setCell ⟨w.heap.size,1,none⟩ (.slice p l.length c)).setCell ⟨w.heap.size,2,none⟩ (.int .i64 a)):=by
 have h1:=G.l1
 have h2:=G.l2
 have hn:=(((Nw.start G.gr).set (p:=⟨w.heap.size,0,none⟩) (Nat.le_refl _) (.string (cbs nm))).set (p:=⟨w.heap.size,1,none⟩) (Nat.le_refl _) (.slice p l.length c)).set (p:=⟨w.heap.size,2,none⟩) (Nat.le_refl _) (.int .i64 a)
 have hag:Ag B w7 (((w7.setCell ⟨w.heap.size,0,none⟩ (.string (cbs nm))).setCell ⟨w.heap.size,1,none⟩ (.slice p l.length c)).setCell ⟨w.heap.size,2,none⟩ (.int .i64 a)):=
  (((Ag.refl _ _).set (.inl (by show w.heap.size < _; omega)) _).set (.inl (by show w.heap.size < _; omega)) _).set (.inl (by show w.heap.size < _; omega)) _
 exact ⟨_,p,_,c,_,rfl,⟨p,c,rfl,((PsAt.own G.own).2.ag hag).lower (by omega)⟩,Qr.fin h0 G.qr hn,hn.gr⟩
theorem zGv (w:World)(R:Nat)(S:Value)(ts:List RT)(s:Q)(h:Qr w R S ts s)(g:Nat)(hg:g ≤ 900000000)(x:Rc × Q)(hx:Qg.record ts g s = some x) :
 Calls Tryd.prog 20 #[.pointer (some ⟨R,0,none⟩)] w (QRcPost w R S ts x):=by
 obtain ⟨nm,s1,hN⟩:∃ nm s1,Qe.name ts s = (nm,s1):=⟨_,_,rfl⟩
 obtain ⟨t,hT⟩:∃ t,tokAt ts s.k = t:=⟨_,rfl⟩
 obtain ⟨l3,s3,h3,rfl⟩:∃ l3 s3,Qg.fieldLoop ts g [] (Qe.take ts s1 false [123]) = some (l3,s3) ∧ x = (⟨nm,l3,t.at_⟩,Qe.take ts s3 false [125]):=by
  unfold Qg.record at hx
  rw [hN,hT] at hx
  split at hx
  ·cases hx
  ·rename_i l s2 hl
   exact ⟨l,s2,hl,(Option.some.inj hx).symm⟩
 have HN:=vH hN
 have HT:=vH hT
 have H3:=vH h3
 have HH:=vH h
 have HG9:=vH hg
 have hlt:=h.lt
 have F:=vH ((Fr.ofq h).alloc (.cells #[.string ⟨#[]⟩,.slice none 0 0,.int .i64 0] 75))
 have hfd:∀ w1:World,(Instr.field 71 (.agg #[.int .i64 t.kind,.string (cbs t.text),.int .i64 t.num,.int .i64 t.at_]) 3).run Tryd.prog w1 = .ok (.int .i64 t.at_) w1:=fun _ => by kernel_rfl
 have hfk:∀ (w1:World) (t:RT),(Instr.field 71 (.agg #[.int .i64 t.kind,.string (cbs t.text),.int .i64 t.num,.int .i64 t.at_]) 0).run Tryd.prog w1 = .ok (.int .i64 t.kind) w1:=fun _ _ => by kernel_rfl
 obtain ⟨i0,hi0,hz0,hz1,hz2⟩:=info_parts zKt
 clear h hx hN hT h3 hg
 go_in
 go_wp2_with fail
 refine (zCf HT.out F.out.qr).mono ?_
 rintro e w1 ⟨rfl,hb⟩
 replace F:=vH (F.out.go hb)
 clear hb
 go_wp2_with fail
 obtain ⟨b,w5,hb5,hw5,f5⟩:∃ b w5,b = w1.heap.size ∧ w5 = w1.alloc (.cells #[.string ⟨#[]⟩,.slice none 0 0,.int .i64 t.at_] 75) ∧ Fr w R (QrK R S ts) s [(b,.cells #[.string ⟨#[]⟩,.slice none 0 0,.int .i64 t.at_] 75 (0,0)),(w.heap.size,.cells #[.string ⟨#[]⟩,.slice none 0 0,.int .i64 0] 75 (0,0))] [] w5:=⟨_,_,rfl,rfl,F.out.alloc _⟩
 rw [← hw5,← hb5]
 replace F:=vH f5
 clear hb5 hw5 f5
 have hnd:=F.out.below1
 have hne:=Ne.symm hnd
 have hbw:=(F.out.keep _ vA).2
 dsimp only at hnd hne hbw
 have hN1:=zAG _ R S ts s F.out.qr
 rw [HN.out] at hN1
 refine hN1.mono ?_
 rintro e w2 ⟨rfl,hc,hg⟩
 replace F:=vH (F.out.step hc hg)
 clear hc hg hN1
 have hk:=F.out.keep _ vA
 obtain ⟨⟨d0,d1,d2⟩,p0,p1,p2⟩:=tri hk.1
 have hld:=zA hk.1
 clear hk
 go_wp2_with fail
 replace F:=vH (F.out.put1 0 rfl 0 (.string (cbs nm)) rfl)
 refine (zJ _ R S ts s1 F.out.qr ⟨#[123]⟩ (by decide) false (by decide)).mono ?_
 rintro e u1 ⟨rfl,hc,hg⟩
 replace F:=vH (F.out.step hc hg)
 clear hc hg d0 d1 d2 p0 p1 p2 hld
 obtain ⟨Bq,hBq⟩:∃ Bq,Bq = u1.heap.size:=⟨_,rfl⟩
 have hZ:QSt w R S ts Bq b 75 #[.string (cbs nm),.slice none 0 0,.int .i64 t.at_] #[.string ⟨#[]⟩,.slice none 0 0,.int .i64 0] (.slice none 0 0) [] (Qe.take ts s1 false [123]) u1:=
  ⟨F.out.qr,F.out.gr,(F.out.keep _ vA).1,(F.out.keep _ vB).1,by omega,by rw [hBq]; exact zA (F.out.keep _ vA).1,by rw [hBq]; exact Nat.le_refl _,World.ownsRow_nil _ _ _ _,s,HH.out⟩
 have G:=vH hZ
 clear hZ hBq F
 go_wp2_with fail
 go_loopg [] g (fun n wr => ∃ pl pc l s4,QSt w R S ts Bq b 75 #[.string (cbs nm),.slice pl l.length pc,.int .i64 t.at_] #[.string ⟨#[]⟩,.slice none 0 0,.int .i64 0] (.slice pl l.length pc) l s4 wr ∧ Qg.fieldLoop ts n l s4 = some (l3,s3) ∧ l.length + n ≤ 1000000000)
 case atStart => exact ⟨_,_,_,_,G.out,H3.out,by have:=HG9.out; simp; omega⟩
 case round =>
  obtain ⟨pl,pc,l,s4,ha,h3,hbd⟩:=hrel
  have GA:=vH ha
  have H4:=vH h3
  have HBD:=vH hbd
  clear ha h3 hbd G H3
  cases gk with
  | zero => exact absurd H4.out (by rw [Qg.fieldLoop]; simp)
  | succ m =>
    go_wp2_with fail
    refine (zAS _ R S ts s4 GA.out.qr).mono ?_
    rintro e w5 ⟨rfl,hw5⟩
    subst hw5
    cases hE:(s4.E == 0) with
    | false =>
      obtain ⟨rfl,rfl⟩:=Prod.mk.inj (zM7 H4.out (fun hh => by simp [hh.1] at hE))
      try rw [hE]
      clear hE H4
      go_wp2_with fail
      refine (zJ _ R S ts _ GA.out.qr ⟨#[125]⟩ (by decide) false (by decide)).mono ?_
      rintro e w7 ⟨rfl,hc,hg⟩
      replace GA:=vH (GA.out.step hc hg)
      clear hc hg
      obtain ⟨⟨d0,d1,d2⟩,p0,p1,p2⟩:=tri GA.out.row
      have hld:=zA GA.out.row
      obtain ⟨⟨a0,a1,a2⟩,q0,q1,q2⟩:=tri GA.out.res
      have hla:=zA GA.out.res
      go_wp2_with fail
      exact bodyPost_ret (v:=.agg #[.string (cbs nm),.slice pl l3.length pc,.int .i64 t.at_]) (by simp [results,Tryd.results20,go_sem,a0,a1,a2]) rfl (zE4 HH.out GA.out)
    | true =>
      have HE:=vH (show s4.E = 0 by simpa using hE)
      try rw [hE]
      clear hE
      go_wp2_with fail
      refine (zI _ R S ts s4 GA.out.qr ⟨#[125]⟩ (by decide) false (by decide)).mono ?_
      rintro e w6 ⟨rfl,hb⟩
      replace GA:=vH (GA.out.go hb)
      clear hb
      cases hv:Qe.is ts s4 false [125] with
      | true =>
        obtain ⟨rfl,rfl⟩:=Prod.mk.inj (zM7 H4.out (fun hh => by rw [hv] at hh; cases hh.2))
        try rw [hv]
        clear hv H4 HE
        go_wp2_with fail
        refine (zJ _ R S ts _ GA.out.qr ⟨#[125]⟩ (by decide) false (by decide)).mono ?_
        rintro e w7 ⟨rfl,hc,hg⟩
        replace GA:=vH (GA.out.step hc hg)
        clear hc hg
        obtain ⟨⟨d0,d1,d2⟩,p0,p1,p2⟩:=tri GA.out.row
        have hld:=zA GA.out.row
        obtain ⟨⟨a0,a1,a2⟩,q0,q1,q2⟩:=tri GA.out.res
        have hla:=zA GA.out.res
        go_wp2_with fail
        exact bodyPost_ret (v:=.agg #[.string (cbs nm),.slice pl l3.length pc,.int .i64 t.at_]) (by simp [results,Tryd.results20,go_sem,a0,a1,a2]) rfl (zE4 HH.out GA.out)
      | false =>
        have HV:=vH hv
        try rw [hv]
        clear hv
        obtain ⟨t4,hT4⟩:∃ t4,tokAt ts s4.k = t4:=⟨_,rfl⟩
        have HT4:=vH hT4
        have hft:=fun w1 => hfk w1 t4
        go_wp2_with fail
        refine (zCf HT4.out GA.out.qr).mono ?_
        rintro e w8 ⟨rfl,hb⟩
        replace GA:=vH (GA.out.go hb)
        clear hb
        obtain ⟨⟨d0,d1,d2⟩,p0,p1,p2⟩:=tri GA.out.row
        have hld:=zA GA.out.row
        by_cases hf:t4.kind = 1 ∧ l.length = 8
        ·have hkb:(t4.kind == 1) = true:=by simpa using hf.1
         have hlb:((l.length:Int) == 8) = true:=by rw [hf.2]; rfl
         obtain ⟨rfl,rfl⟩:=Prod.mk.inj (zOu H4.out HE.out HV.out ⟨by rw [hT4]; exact hf.1,hf.2⟩)
         clear hT4 hf H4
         go_wp2_with fail
         clear d0 d1 d2 p0 p1 p2 hld
         refine (zAn _ R S ts _ GA.out.qr 4).mono ?_
         rintro e w9 ⟨rfl,hc,hg⟩
         replace GA:=vH (GA.out.step hc hg)
         clear hc hg
         go_wp2_with fail
         refine (zJ _ R S ts _ GA.out.qr ⟨#[125]⟩ (by decide) false (by decide)).mono ?_
         rintro e w7 ⟨rfl,hc,hg⟩
         replace GA:=vH (GA.out.step hc hg)
         clear hc hg
         obtain ⟨⟨d0,d1,d2⟩,p0,p1,p2⟩:=tri GA.out.row
         have hld:=zA GA.out.row
         obtain ⟨⟨a0,a1,a2⟩,q0,q1,q2⟩:=tri GA.out.res
         have hla:=zA GA.out.res
         go_wp2_with fail
         exact bodyPost_ret (v:=.agg #[.string (cbs nm),.slice pl l3.length pc,.int .i64 t.at_]) (by simp [results,Tryd.results20,go_sem,a0,a1,a2]) rfl (zE4 HH.out GA.out)
        ·have HF:=vH (show ¬ ((tokAt ts s4.k).kind = 1 ∧ l.length = 8) by rw [hT4]; exact hf)
         have hcase:(t4.kind == 1) = false ∨ (t4.kind == 1) = true ∧ ((l.length:Int) == 8) = false:=by
          by_cases hk:t4.kind = 1
          ·exact .inr ⟨by simpa using hk,by have:=fun e => hf ⟨hk,e⟩; simp; omega⟩
          ·exact .inl (by simpa using hk)
         clear hT4 hf
         rcases hcase with hkb | ⟨hkb,hlb⟩
         all_goals
          go_wp2_with fail
          obtain ⟨y,s5,hy,h5⟩:=zOt H4.out HE.out HV.out HF.out
          have HY:=vH hy
          have H5:=vH h5
          clear hy h5 H4 HF d0 d1 d2 p0 p1 p2 hld
          go_wp2_with fail
          replace GA:=vH GA.out.drew
          obtain ⟨⟨d0,d1,d2⟩,p0,p1,p2⟩:=tri GA.out.row
          have hld:=zA GA.out.row
          have hBle:=GA.out.l3
          go_region_law (first
              | (refine zAB rfl (.tmp 33) (.tmp 36) 23 rfl Bq 78 i0 _ 4 48 Tryd.underlying23 hi0 hz0 hz1 hz2 rfl (by decide) (.slice pl l.length pc) l.length (l.flatMap pmCells) (by simp [Act.eval]) (GQ.out.own.alloc _) ⟨wq.heap.size,0,none⟩ 1 1 (pmCells y) (by simp [Act.eval]) rfl (zC9 rfl rfl) (zJV y) (by have:=HBD.out; unfold maxLen; omega) (by have:=HBD.out; omega) (by rw [zC]; have:=GQ.out.l3; omega) ?_; intro v' w8 hown hgrow hat; have G8:=vH (GQ.out.push hown hgrow); obtain ⟨np,nc,hnv⟩:=zBy hown; subst hnv; clear hown hgrow hat; clear d0 d1 d2 p0 p1 p2 hld; obtain ⟨⟨d0,d1,d2⟩,p0,p1,p2⟩:=tri G8.out.row; have hld:=zA G8.out.row)
              | (go_simp; go_wp2_with (go_at_call 21; (with_reducible refine Calls.mono (zCS HY.out GA.out.qr) ?_); rintro e wq ⟨rfl,hc,hg⟩; have GQ:=vH (GA.out.step hc hg); clear hc hg; clear d0 d1 d2 p0 p1 p2 hld; obtain ⟨⟨d0,d1,d2⟩,p0,p1,p2⟩:=tri GQ.out.row; have hld:=zA GQ.out.row)))
          all_goals
              go_wp2_with fail
              clear d0 d1 d2 p0 p1 p2 hld
              have G9:=vH (G8.out.put 1 (.slice np (l.length + 1) nc) rfl)
              refine (zJ _ R S ts _ G9.out.qr ⟨#[59]⟩ (by decide) false (by decide)).mono ?_
              rintro e w9 ⟨rfl,hc,hg⟩
              replace G9:=vH (G9.out.step hc hg)
              clear hc hg
              go_wp2_with fail
              go_roundg m
              case measure => omega
              case rel => exact ⟨_,_,_,_,by simpa using G9.out,H5.out,by have:=HBD.out; simp; omega⟩
end Go.Proofs.YteadgahhchlgeaaDoor
