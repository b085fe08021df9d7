/-
  The answer's Make.
-/
import Derived.Test.YtjleggpbghmobaaK01
import Derived.Test.YtjleggpbghmobaaK30
import Derived.Test.YtjleggpbghmobaaK34
set_option maxRecDepth 8000
namespace Go.Proofs.Ytjleggpbghmobaa
open Go.RowKit
open Pg (Pm Rc Fc Gm)
open Hs (Nm TypH FldH ShpH SigH HdsH find tyOf fdOf shOf sgOf resOf recNames flt fltPs fltRs fltFs fltFn fltMain make hd qf mainOf mainTo zDQ zE1 zE2 mainN plainF badRes zU zS zAg zBe zCX)
theorem zD5 {w:World}{B:Nat}{q:Option Addr}{l:List Rc}{j:Nat}{x:Rc}(h:LAt RcIs 3 w B q l)(hx:l[j]? = some x) :
 ∃ bl off,q = some ⟨bl,off,none⟩ ∧ bl < w.heap.size ∧ ∀ i (y:Rc),l[i]? = some y → ∃ fp fc,LAt PIs 4 w B fp y.fields ∧ ∀ w1,Below w.heap.size w w1 → w1.cell? ⟨bl,off + i * 3,none⟩ = some (.string (cbs y.name)) ∧ w1.cell? ⟨bl,off + i * 3 + 1,none⟩ = some (.slice fp y.fields.length fc) ∧ w1.cell? ⟨bl,off + i * 3 + 2,none⟩ = some (.int .i64 y.at_):=by
 rcases h with rfl | ⟨bl,off,hq,hbl,-,ha⟩
 ·simp at hx
 ·refine ⟨bl,off,hq,hbl,fun i y hy => ?_⟩
  obtain ⟨vs,⟨fp,fc,rfl,hf⟩,hc⟩:=ha i y hy
  exact ⟨fp,fc,hf,fun w1 hb => ⟨zK hb (hc 0 _ (by decide) rfl),zK hb (hc 1 _ (by decide) rfl),zK hb (hc 2 _ (by decide) rfl)⟩⟩
theorem zD9 {w:World}{B:Nat}{q:Option Addr}{l:List Nm}{j:Nat}{x:Nm}(h:LAt NIs 1 w B q l)(hx:l[j]? = some x) :
 ∃ bl off,q = some ⟨bl,off,none⟩ ∧ bl < w.heap.size ∧ ∀ i (y:Nm),l[i]? = some y → ∀ w1,Below w.heap.size w w1 → w1.cell? ⟨bl,off + i,none⟩ = some (.string (cbs y)):=by
 rcases h with rfl | ⟨bl,off,hq,hbl,-,ha⟩
 ·simp at hx
 ·refine ⟨bl,off,hq,hbl,fun i y hy w1 hb => ?_⟩
  obtain ⟨vs,hi,hc⟩:=ha i y hy
  rw [NIs] at hi
  subst hi
  have:=zK hb (hc 0 _ (by decide) rfl)
  rw [Nat.mul_one,Nat.add_zero] at this
  exact this
theorem zHu {w:World}{B:Nat}{q:Option Addr}{l:List Fc}{j:Nat}{x:Fc}(h:LAt FcIs 7 w B q l)(hx:l[j]? = some x) :
 ∃ bl off,q = some ⟨bl,off,none⟩ ∧ bl < w.heap.size ∧ ∀ i (y:Fc),l[i]? = some y → ∃ fp fc bq bn bd,LAt PIs 4 w B fp y.params ∧ ∀ w1,Below w.heap.size w w1 → w1.cell? ⟨bl,off + i * 7,none⟩ = some (.string (cbs y.name)) ∧ w1.cell? ⟨bl,off + i * 7 + 1,none⟩ = some (.slice fp y.params.length fc) ∧ w1.cell? ⟨bl,off + i * 7 + 2,none⟩ = some (.bool y.has) ∧ w1.cell? ⟨bl,off + i * 7 + 3,none⟩ = some (.string (cbs y.rn)) ∧ w1.cell? ⟨bl,off + i * 7 + 4,none⟩ = some (.int .i64 y.rd) ∧ w1.cell? ⟨bl,off + i * 7 + 5,none⟩ = some (.slice bq bn bd) ∧ w1.cell? ⟨bl,off + i * 7 + 6,none⟩ = some (.int .i64 y.at_):=by
 rcases h with rfl | ⟨bl,off,hq,hbl,-,ha⟩
 ·simp at hx
 ·refine ⟨bl,off,hq,hbl,fun i y hy => ?_⟩
  obtain ⟨vs,⟨fp,fc,bq,bn,bd,rfl,hf⟩,hc⟩:=ha i y hy
  exact ⟨fp,fc,bq,bn,bd,hf,fun w1 hb => ⟨zK hb (hc 0 _ (by decide) rfl),zK hb (hc 1 _ (by decide) rfl),zK hb (hc 2 _ (by decide) rfl),zK hb (hc 3 _ (by decide) rfl),zK hb (hc 4 _ (by decide) rfl),zK hb (hc 5 _ (by decide) rfl),zK hb (hc 6 _ (by decide) rfl)⟩⟩
structure MqSt (w:World) (o1:Obj) (wr:World):Prop where
 be:Below w.heap.size w wr
 bx:wr.heap[w.heap.size]? = some o1
 rs:wr.heap[w.heap.size + 1]? = some (.cells #[.slice none 0 0,.slice none 0 0,.slice none 0 0,.int .i64 0] 36 (0,0))
 ft:wr.heap[w.heap.size + 1 + 1]? = some (.cells #[.int .i64 (0),.int .i64 0] 29 (0,0))
section
variable {w wr w1:World} {o1:Obj}
theorem MqSt.go (h:MqSt w o1 wr)(hb:Below wr.heap.size wr w1):MqSt w o1 w1:=
 ⟨zE h.be hb h.be.size,(hb.block _ (zA h.bx)).trans h.bx,(hb.block _ (zA h.rs)).trans h.rs,(hb.block _ (zA h.ft)).trans h.ft⟩
theorem MqSt.sz (h:MqSt w o1 wr):w.heap.size + 3 ≤ wr.heap.size:=zA h.ft
theorem MqSt.grown {v:Value}{o:Obj}(h:MqSt w o1 wr)(hv:∀ k,v.ownBlock = some k → w.heap.size + 3 ≤ k)(hgrow:(wr.alloc o).grownBy w1 v.ownBlock):MqSt w o1 w1:=by
 have hk:∀ i,i < wr.heap.size → i < w.heap.size + 3 → w1.heap[i]? = wr.heap[i]?:=fun i h1 h2 =>
  (hgrow.block i (by rw [zB]; omega) (fun e => by have:=hv i e.symm; omega)).trans (heap_alloc_old _ _ h1)
 have hs:wr.heap.size ≤ w1.heap.size:=by have:=hgrow.size; rw [zB] at this; omega
 exact ⟨⟨hgrow.os.trans h.be.os,hgrow.tape.trans h.be.tape,hgrow.output.trans h.be.output,Nat.le_trans h.be.size hs,fun i hi => (hk i (Nat.lt_of_lt_of_le hi h.be.size) (by omega)).trans (h.be.block i hi)⟩,
  (hk _ (zA h.bx) (by omega)).trans h.bx,(hk _ (zA h.rs) (by omega)).trans h.rs,(hk _ (zA h.ft) (by omega)).trans h.ft⟩
theorem MqSt.set (h:MqSt w o1 wr){p:Addr}(hp:w.heap.size + 3 ≤ p.block)(u:Value):MqSt w o1 (wr.setCell p u):=
 ⟨zJ h.be (by omega) u,zN h.bx (by omega) u,zN h.rs (by omega) u,zN h.ft (by omega) u⟩
theorem MqSt.bad (h:MqSt w o1 wr)(a:Int):Below w.heap.size w ((((((wr.setCell ⟨w.heap.size + 1,0,none⟩ (.slice none 0 0)).setCell ⟨w.heap.size + 1,1,none⟩ (.slice none 0 0)).setCell ⟨w.heap.size + 1,2,none⟩ (.slice none 0 0)).setCell ⟨w.heap.size + 1,3,none⟩ (.int .i64 0)).setCell ⟨w.heap.size + 1 + 1,0,none⟩ (.int .i64 3)).setCell ⟨w.heap.size + 1 + 1,1,none⟩ (.int .i64 a)):=
 zJ (zJ (zJ (zJ (zJ (zJ h.be (Nat.le_succ _) _) (Nat.le_succ _) _) (Nat.le_succ _) _) (Nat.le_succ _) _) (Nat.le_succ_of_le (Nat.le_succ _)) _) (Nat.le_succ_of_le (Nat.le_succ _)) _
end
theorem zIl {B:Nat}{w w':World}{v:Value}{o:Obj}(hg:(w.alloc o).grownBy w' v.ownBlock)(hv:∀ k,v.ownBlock = some k → B ≤ k):w.heap.size ≤ w'.heap.size ∧ (w'.os = w.os ∧ w'.tape = w.tape ∧ w'.output = w.output) ∧ ∀ i,i < w.heap.size → i < B → w'.heap[i]? = w.heap[i]?:=
 ⟨by have:=hg.size; rw [zB] at this; omega,⟨hg.os,hg.tape,hg.output⟩,fun i h1 h2 => (hg.block i (by rw [zB]; omega) (fun e => by have:=hv i e.symm; omega)).trans (heap_alloc_old _ _ h1)⟩
theorem six {w1:World}{B:Nat}{T:TypeId}{c0 c1 c2 c3 c4 c5:Value}(h:w1.heap[B]? = some (.cells #[c0,c1,c2,c3,c4,c5] T (0,0))) :
 (w1.cell? ⟨B,0,none⟩ = some c0 ∧ w1.cell? ⟨B,1,none⟩ = some c1 ∧ w1.cell? ⟨B,2,none⟩ = some c2 ∧ w1.cell? ⟨B,3,none⟩ = some c3 ∧ w1.cell? ⟨B,4,none⟩ = some c4 ∧ w1.cell? ⟨B,5,none⟩ = some c5) ∧
 w1.frozen? ⟨B,3,none⟩ = false ∧ w1.frozen? ⟨B,4,none⟩ = false ∧ w1.frozen? ⟨B,5,none⟩ = false:=by
 refine ⟨⟨?_,?_,?_,?_,?_,?_⟩,?_,?_,?_⟩ <;> first | exact frozen_of_row _ _ _ _ _ h | (rw [cell_of_row _ _ _ _ _ _ h]; rfl)
structure FnSt (wx wy wr wz:World) (oF oH oS:Obj) (w:World):Prop where
 be:Below wx.heap.size wx w
 hf:w.heap[wr.heap.size]? = some oF
 hh:w.heap[wx.heap.size]? = some oH
 hs:w.heap[wz.heap.size]? = some oS
 az:Ag wr.heap.size wz w
 ar:Ag wy.heap.size wr w
 ay:Ag (wx.heap.size + 1) wy w
section
variable {wx wy wr wz w w1:World} {oF oH oS:Obj} {a:Array Value} {T:TypeId} {b:Nat × Nat}
theorem FnSt.go (h:FnSt wx wy wr wz oF oH oS w)(hb:Below w.heap.size w w1):FnSt wx wy wr wz oF oH oS w1:=
 ⟨zE h.be hb h.be.size,(hb.block _ (zA h.hf)).trans h.hf,(hb.block _ (zA h.hh)).trans h.hh,(hb.block _ (zA h.hs)).trans h.hs,h.az.trans (Ag.below hb),h.ar.trans (Ag.below hb),h.ay.trans (Ag.below hb)⟩
theorem FnSt.setS (h:FnSt wx wy wr wz oF oH (.cells a T b) w)(h1:wx.heap.size < wy.heap.size)(h2:wy.heap.size ≤ wr.heap.size)(h3:wr.heap.size < wz.heap.size)(i:Nat)(u:Value):FnSt wx wy wr wz oF oH (.cells (a.setIfInBounds i u) T b) (w.setCell ⟨wz.heap.size,i,none⟩ u):=
 ⟨zJ h.be (by show wx.heap.size ≤ wz.heap.size; omega) _,zN h.hf (by show wr.heap.size ≠ wz.heap.size; omega) u,zN h.hh (by show wx.heap.size ≠ wz.heap.size; omega) u,Lib.heap_setCell_same h.hs (i:=i) (v:=u),h.az.set (.inr (Nat.le_refl _)) u,h.ar.set (.inr (Nat.le_of_lt h3)) u,h.ay.set (.inr (by show wy.heap.size ≤ wz.heap.size; omega)) u⟩
theorem FnSt.setH (h:FnSt wx wy wr wz oF (.cells a T b) oS w)(h1:wx.heap.size < wy.heap.size)(h2:wy.heap.size ≤ wr.heap.size)(h3:wr.heap.size < wz.heap.size)(i:Nat)(u:Value):FnSt wx wy wr wz oF (.cells (a.setIfInBounds i u) T b) oS (w.setCell ⟨wx.heap.size,i,none⟩ u):=
 ⟨zJ h.be (Nat.le_refl _) _,zN h.hf (by show wr.heap.size ≠ wx.heap.size; omega) u,Lib.heap_setCell_same h.hh (i:=i) (v:=u),zN h.hs (by show wz.heap.size ≠ wx.heap.size; omega) u,h.az.set (.inl (by show wx.heap.size < wr.heap.size; omega)) u,h.ar.set (.inl h1) u,h.ay.set (.inl (Nat.lt_succ_self _)) u⟩
end
set_option maxHeartbeats 16000000 in
theorem zJE (w:World)(g:Gm)(q1 q2 q3:Option Addr)(k1 k2 k3:Nat)(h1:LAt RcIs 3 w 0 q1 g.recs)(h2:LAt PIs 4 w 0 q2 g.globals)(h3:LAt FcIs 7 w 0 q3 g.funcs)(hs:GmSm g) :
 Calls Try.prog 11 #[.agg #[.slice q1 g.recs.length k1,.slice q2 g.globals.length k2,.slice q3 g.funcs.length k3]] w (MkPost w (make g)):=by
 have H1:=vH h1
 have H2:=vH h2
 have H3:=vH h3
 have HS:=vH hs
 obtain ⟨y,hy⟩:∃ y,make g = y:=⟨_,rfl⟩
 rw [hy]
 have HY:=vH hy
 obtain ⟨wa,hwa⟩:∃ wa,wa = ((w.alloc (.cells #[.slice q1 g.recs.length k1,.slice q2 g.globals.length k2,.slice q3 g.funcs.length k3] 26)).alloc (.cells #[.slice none 0 0,.slice none 0 0,.slice none 0 0,.int .i64 0] 36)).alloc (.cells #[.int .i64 (0),.int .i64 0] 29):=⟨_,rfl⟩
 have G0:=vH (show MqSt w (.cells #[.slice q1 g.recs.length k1,.slice q2 g.globals.length k2,.slice q3 g.funcs.length k3] 26 (0,0)) wa from
  ⟨by rw [hwa]; exact zC (zC (zC (Below.refl _ _))),by rw [hwa]; exact zD _ (zD _ (heap_alloc_new w _)),
   by rw [hwa]; refine zD _ ?_; have:=heap_alloc_new (w.alloc (.cells #[.slice q1 g.recs.length k1,.slice q2 g.globals.length k2,.slice q3 g.funcs.length k3] 26)) (.cells #[.slice none 0 0,.slice none 0 0,.slice none 0 0,.int .i64 0] 36); rw [zB] at this; exact this,
   by rw [hwa]; have:=heap_alloc_new ((w.alloc (.cells #[.slice q1 g.recs.length k1,.slice q2 g.globals.length k2,.slice q3 g.funcs.length k3] 26)).alloc (.cells #[.slice none 0 0,.slice none 0 0,.slice none 0 0,.int .i64 0] 36)) (.cells #[.int .i64 (0),.int .i64 0] 29); rw [zB,zB] at this; exact this⟩)
 have HNM:=vH (zF1 wa g q1 q2 q3 k1 k2 k3 (h1.ag (fun _ _ h => h.ag (Ag.below G0.out.be)) (Ag.below G0.out.be)) hs.recs)
 obtain ⟨⟨x0,x1,x2⟩,-⟩:=tri G0.out.bx
 clear h1 h2 h3 hs hy
 go_in
 go_upto_region 1 with fail
 rw [← hwa]
 clear hwa
 go_wp2_with fail
 refine HNM.out.mono ?_
 rintro e w1 ⟨nq,nk,rfl,hnl,hb⟩
 have G:=vH (G0.out.go hb)
 have HN:=vH (zHJ hnl (Nat.zero_le _))
 clear hnl hb G0 HNM x0 x1 x2
 obtain ⟨⟨x0,x1,x2⟩,-⟩:=tri G.out.bx
 go_wp2_with fail
 clear x0 x1 x2
 go_loopg [5] g.recs.length (fun n i wr => ∃ j:Nat,n + j = g.recs.length ∧ i = .int .i64 (j:Int) ∧ Below w1.heap.size w1 wr ∧ fltRs [] g.recs = fltRs ((g.recs.take j).map (fun x:Rc => x.name)) (g.recs.drop j))
 case atStart => exact ⟨0,rfl,rfl,Below.refl _ _,rfl⟩
 case round =>
  obtain ⟨j,hj,rfl,hbr,hf⟩:=hrel
  have HJ:=vH hj
  have HF:=vH hf
  have HBR:=vH hbr
  clear hj hf hbr
  cases gk with
  | zero =>
    obtain rfl:j = g.recs.length:=by have:=HJ.out; omega
    have hd1:decide ((g.recs.length:Int) < (g.recs.length:Int)) = false:=decide_eq_false (by omega)
    have hF:fltRs [] g.recs = none:=by have h:=HF.out; rw [List.drop_length,fltRs] at h; exact h
    replace HF:=vH hF
    replace G:=vH (G.out.go HBR.out)
    replace HN:=vH (zCU HN.out (Ag.below HBR.out))
    clear hF HJ HBR
    obtain ⟨rs,hrs⟩:∃ rs,recNames g = rs:=⟨_,rfl⟩
    rw [hrs] at HN
    have HRS:=vH hrs
    have hrl:g.recs.length = rs.length:=by rw [← hrs]; unfold recNames; rw [List.length_map]
    have HRL:=vH hrl
    clear hrs hrl
    obtain ⟨⟨x0,x1,x2⟩,-⟩:=tri G.out.bx
    obtain ⟨wx,hwx⟩:∃ wx,wx = wr:=⟨_,rfl⟩
    obtain ⟨wm,hwm⟩:∃ wm,wm = wr.alloc (.cells #[.slice none 0 0,.slice none 0 0,.slice none 0 0,.int .i64 (-1)] 36):=⟨_,rfl⟩
    have HBM:=vH (show Below wx.heap.size wx wm by rw [hwm,hwx]; exact zC (Below.refl _ _))
    have HHM:=vH (show wm.heap[wx.heap.size]? = some (.cells #[.slice none 0 0,.slice none 0 0,.slice none 0 0,.int .i64 (-1)] 36 (0,0)) by rw [hwm,hwx]; exact heap_alloc_new wr _)
    rw [← hwx] at G HN
    go_upto_region 11 with fail
    rw [← hwm,← hwx]
    clear x0 x1 x2 hwm hwx
    go_wp2_with fail
    go_loopg [8] g.recs.length (fun n i wr => ∃ (j:Nat) (v:Value),n + j = g.recs.length ∧ i = .int .i64 (j:Int) ∧ Below wx.heap.size wx wr ∧ wr.heap[wx.heap.size]? = some (.cells #[v,.slice none 0 0,.slice none 0 0,.int .i64 (-1)] 36 (0,0)) ∧ OwnL ShIs 55 2 (exs v) (wx.heap.size + 1) v ((g.recs.take j).map (shOf rs)) wr ∧ fltFs rs g.recs = fltFs rs (g.recs.drop j))
    case atStart => exact ⟨0,_,rfl,rfl,HBM.out,HHM.out,OwnL.nil _,rfl⟩
    case round =>
        obtain ⟨j,v,hj,rfl,hbr,hh,ho,hf⟩:=hrel
        have HJ:=vH hj
        have HF2:=vH hf
        have HBR:=vH hbr
        have HH:=vH hh
        have OL:=vH ho
        clear hj hf hbr hh ho
        cases gk with
        | zero =>
          obtain rfl:j = g.recs.length:=by have:=HJ.out; omega
          have hd1:decide ((g.recs.length:Int) < (g.recs.length:Int)) = false:=decide_eq_false (by omega)
          have hF:fltFs rs g.recs = none:=by have h:=HF2.out; rw [List.drop_length,fltFs] at h; exact h
          have HR1:=vH (show (fltRs [] g.recs).or (fltFs rs g.recs) = none by rw [HF.out,hF]; rfl)
          have hO:=OL.out
          rw [List.take_length] at hO
          obtain ⟨lp,lc,hlv,hlr⟩:=hO.done ShIs.len
          rw [List.length_map] at hlv
          subst hlv
          have HLR:=vH hlr
          clear hO hF hlr HJ OL HF2
          have GQ:=vH (G.out.go HBR.out)
          obtain ⟨⟨u0,u1,u2⟩,-⟩:=tri GQ.out.bx
          have HFQ:=vH (zBm wr rs nq nk g.globals q2 k2 (zCU HN.out (Ag.below HBR.out)) (by rw [← HRL.out]; exact HS.out.recs) (zEX H2.out (Ag.below GQ.out.be)) HS.out.globals)
          rw [← HRL.out] at HFQ
          cases hfp:fltPs rs [] g.globals with
          | some a =>
            have hqf:qf rs g.globals = ([],3,a):=by unfold qf; rw [hfp]
            rw [hqf] at HFQ
            have hfl:flt g = some a:=by
             unfold flt
             rw [← zBe,HRS.out,HR1.out,hfp]
             rfl
            obtain rfl:(HdsH.zero,(3:Int),a) = y:=by rw [← HY.out]; unfold make; rw [hfl]
            clear hqf hfl hfp
            go_wp2_with fail
            refine HFQ.out.mono ?_
            rintro e w5 ⟨ep,ek,rfl,-,hb⟩
            have G5:=vH (GQ.out.go hb)
            have HE5:=vH (heap_alloc_new w5 (.cells #[.int .i64 3,.int .i64 a] 29))
            clear hb u0 u1 u2
            obtain ⟨wz,hwz⟩:∃ wz,wz = w5.alloc (.cells #[.int .i64 3,.int .i64 a] 29):=⟨_,rfl⟩
            have G6:=vH (G5.out.go (show Below w5.heap.size w5 wz by rw [hwz]; exact zC (Below.refl _ _)))
            rw [← hwz] at HE5
            obtain ⟨⟨e0,e1⟩,-⟩:=duo HE5.out
            go_upto_region 19 with fail
            rw [← hwz]
            clear hwz
            obtain ⟨⟨r0,r1,r2,r3⟩,s0,s1,s2,s3⟩:=quad G6.out.rs
            obtain ⟨⟨f0,f1⟩,t0,t1⟩:=duo G6.out.ft
            have hlr:=zA G6.out.rs
            have hlf:=zA G6.out.ft
            have hn1:w.heap.size + 1 ≠ w.heap.size + 1 + 1:=by omega
            have hn2:=Ne.symm hn1
            have hn3:w5.heap.size ≠ w.heap.size + 1:=by have:=G5.out.sz; omega
            go_wp2_with fail
            go_region
            all_goals
             go_wp2_with fail
             exact bodyPost_ret (v:=.tuple #[.agg #[.slice none 0 0,.slice none 0 0,.slice none 0 0,.int .i64 0],.agg #[.int .i64 3,.int .i64 a]]) (by simp [results,Try.results11,go_sem,r0,r1,r2,r3,f0,f1]) rfl
              ⟨none,0,0,none,0,0,none,0,0,0,rfl,HdIs.zero,zAc (G6.out.bad _)⟩
          | none =>
            have hqf:qf rs g.globals = (g.globals.map (fdOf rs),0,0):=by unfold qf; rw [hfp]
            rw [hqf] at HFQ
            have HR2:=vH (show (fltRs [] g.recs).or ((fltFs rs g.recs).or (fltPs rs [] g.globals)) = none by rw [← zBe,HR1.out,hfp]; rfl)
            clear hqf hfp
            go_wp2_with fail
            refine HFQ.out.mono ?_
            rintro e w5 ⟨ep,ek,he5,hla,hb⟩
            dsimp only at he5 hla
            rw [List.length_map] at he5
            subst he5
            obtain ⟨wz,hwz⟩:∃ wz,wz = w5.alloc (.cells #[.int .i64 (0),.int .i64 0] 29):=⟨_,rfl⟩
            have hbz:Below wr.heap.size wr wz:=by rw [hwz]; exact zC hb
            have HEZ:=vH (show wz.heap[w5.heap.size]? = some (.cells #[.int .i64 (0),.int .i64 0] 29 (0,0)) by rw [hwz]; exact heap_alloc_new w5 _)
            have HLG:=vH (show LAt FdIs 4 wz wr.heap.size ep (g.globals.map (fdOf rs)) by rw [hwz]; exact zAK hla (Ag.below (zC (Below.refl _ _))))
            have HBZ:=vH (zE HBR.out hbz HBR.out.size)
            have HHZ:=vH ((hbz.block _ (zA HH.out)).trans HH.out)
            replace HLR:=vH (HLR.out.ag (fun _ _ h => h.ag (Ag.below hbz)) (Ag.below hbz))
            have HWX:=vH (show wx.heap.size + 1 ≤ wr.heap.size from zA HH.out)
            obtain ⟨⟨e0,e1⟩,-⟩:=duo HEZ.out
            obtain ⟨⟨a0,a1,a2,a3⟩,f0,f1,f2,f3⟩:=quad HHZ.out
            have hla2:=zA HHZ.out
            clear hla hb hbz u0 u1 u2
            go_upto_region 19 with fail
            rw [← hwz]
            clear hwz
            go_upto_region 22 with fail
            obtain ⟨wy,hwy⟩:∃ wy,wy = wz.setCell ⟨wx.heap.size,1,none⟩ (.slice ep g.globals.length ek):=⟨_,rfl⟩
            have HBY:=vH (show Below wx.heap.size wx wy by rw [hwy]; exact zJ HBZ.out (Nat.le_refl _) _)
            have HHY:=vH (show wy.heap[wx.heap.size]? = some (.cells #[.slice lp g.recs.length lc,.slice ep g.globals.length ek,.slice none 0 0,.int .i64 (-1)] 36 (0,0)) by rw [hwy]; exact Lib.heap_setCell_same HHZ.out (i:=1) (v:=.slice ep g.globals.length ek))
            have hsetA:=Ag.set (Ag.refl (wx.heap.size + 1) wz) (p:=⟨wx.heap.size,1,none⟩) (.inl (Nat.lt_succ_self _)) (.slice ep g.globals.length ek)
            rw [← hwy] at hsetA
            replace HLR:=vH (HLR.out.ag (fun _ _ h => h.ag hsetA) hsetA)
            replace HLG:=vH (zAK (zAB HLG.out HWX.out) hsetA)
            rw [← hwy]
            clear hwy hsetA e0 e1 a0 a1 a2 a3 f0 f1 f2 f3 hla2
            have HSY:=vH (show wx.heap.size + 1 ≤ wy.heap.size from zA HHY.out)
            go_wp2_with fail
            go_loopg [13] g.funcs.length (fun n i wr => ∃ (j:Nat) (v:Value) (mn:Int),n + j = g.funcs.length ∧ i = .int .i64 (j:Int) ∧ Below wx.heap.size wx wr ∧ wr.heap[wx.heap.size]? = some (.cells #[.slice lp g.recs.length lc,.slice ep g.globals.length ek,v,.int .i64 mn] 36 (0,0)) ∧ OwnL SgIs 60 6 (exs v) wy.heap.size v ((g.funcs.take j).map (sgOf rs)) wr ∧ Ag (wx.heap.size + 1) wy wr ∧ mn = mainTo (g.funcs.take j) ∧ fltFn rs [] g.funcs = fltFn rs ((g.funcs.take j).map (fun x:Fc => x.name)) (g.funcs.drop j))
            case atStart => exact ⟨0,_,-1,rfl,rfl,HBY.out,HHY.out,OwnL.nil _,Ag.refl _ _,rfl,rfl⟩
            case round =>
             obtain ⟨j,v,mn,hj,rfl,hbr,hh,ho,hag,hmn,hf⟩:=hrel
             obtain ⟨wo,hwo⟩:∃ wo,wo = wr:=⟨_,rfl⟩
             subst hwo
             have HJ:=vH hj
             have HF4:=vH hf
             have HBR:=vH hbr
             have HH:=vH hh
             have OL:=vH ho
             have HAG:=vH hag
             have HMN:=vH hmn
             clear hj hf hbr hh ho hag hmn
             cases gk with
             | zero =>
               obtain rfl:j = g.funcs.length:=by have:=HJ.out; omega
               have hd1:decide ((g.funcs.length:Int) < (g.funcs.length:Int)) = false:=decide_eq_false (by omega)
               have hF:fltFn rs [] g.funcs = none:=by have h:=HF4.out; rw [List.drop_length,fltFn] at h; exact h
               have hO:=OL.out
               rw [List.take_length] at hO
               obtain ⟨sp,sc,hlv,hls⟩:=hO.done SgIs.len
               rw [List.length_map] at hlv
               subst hlv
               have hM:=HMN.out
               rw [List.take_length] at hM
               have hfl0:flt g = fltMain g.funcs:=by unfold flt; rw [← zBe,← zBe,zBe (fltRs [] g.recs),HRS.out,HR2.out,hF]; rfl
               have GQ:=vH (G.out.go HBR.out)
               obtain ⟨⟨u0,u1,u2⟩,-⟩:=tri GQ.out.bx
               obtain ⟨⟨a0,a1,a2,a3⟩,-⟩:=quad HH.out
               by_cases hneg:mn < 0
               ·have hm0:fltMain g.funcs = some 0:=Iff.mp zE1 (by rw [← hM]; exact hneg)
                obtain rfl:(HdsH.zero,(3:Int),(0:Int)) = y:=by rw [← HY.out]; unfold make; rw [hfl0,hm0]
                have hd2:decide (mn < 0) = true:=decide_eq_true hneg
                clear hF hO hls hM hfl0 hm0 hneg
                go_wp2_with fail
                refine (zB1 _ 0).mono ?_
                rintro e w5 ⟨rfl,hb⟩
                have G5:=vH (GQ.out.go hb)
                clear hb u0 u1 u2 a0 a1 a2 a3
                obtain ⟨⟨r0,r1,r2,r3⟩,s0,s1,s2,s3⟩:=quad G5.out.rs
                obtain ⟨⟨f0,f1⟩,t0,t1⟩:=duo G5.out.ft
                have hlr:=zA G5.out.rs
                have hlf:=zA G5.out.ft
                have hn1:w.heap.size + 1 ≠ w.heap.size + 1 + 1:=by omega
                have hn2:=Ne.symm hn1
                go_wp2_with fail
                exact bodyPost_ret (v:=.tuple #[.agg #[.slice none 0 0,.slice none 0 0,.slice none 0 0,.int .i64 0],.agg #[.int .i64 3,.int .i64 0]]) (by simp [results,Try.results11,go_sem,r0,r1,r2,r3,f0,f1]) rfl
                 ⟨none,0,0,none,0,0,none,0,0,0,rfl,HdIs.zero,G5.out.bad _⟩
               ·obtain ⟨hm1,hm2⟩:=zE2 (fs:=g.funcs) (by rw [← hM]; exact hneg)
                obtain rfl:(hd g,(0:Int),(0:Int)) = y:=by rw [← HY.out]; unfold make; rw [hfl0,hm2]
                have hd2:decide (mn < 0) = false:=decide_eq_false hneg
                have HHD:=vH (show HdIs wo (wx.heap.size + 1) (hd g) [.slice lp g.recs.length lc,.slice ep g.globals.length ek,.slice sp g.funcs.length sc,.int .i64 mn] from
                 ⟨lp,lc,ep,ek,sp,sc,by rw [hM,hm1]; unfold hd; simp only [List.length_map],by unfold hd; rw [HRS.out]; exact HLR.out.ag (fun _ _ h => h.ag HAG.out) HAG.out,by unfold hd; rw [HRS.out]; exact zAK HLG.out HAG.out,by unfold hd; rw [HRS.out]; exact hls.lower (fun _ _ h => h.lower HSY.out) HSY.out⟩)
                clear hF hO hls hM hfl0 hm1 hm2 hneg
                obtain ⟨⟨r0,r1,r2,r3⟩,s0,s1,s2,s3⟩:=quad GQ.out.rs
                obtain ⟨⟨g0,g1⟩,t0,t1⟩:=duo GQ.out.ft
                have hlr:=zA GQ.out.rs
                have hlf:=zA GQ.out.ft
                have hn1:w.heap.size + 1 ≠ w.heap.size + 1 + 1:=by omega
                have hn2:=Ne.symm hn1
                have HWS:=vH (show w.heap.size + 3 ≤ wx.heap.size from G.out.sz)
                go_wp2_with fail
                exact bodyPost_ret (v:=.tuple #[.agg #[.slice lp g.recs.length lc,.slice ep g.globals.length ek,.slice sp g.funcs.length sc,.int .i64 mn],.agg #[.int .i64 (0),.int .i64 0]]) (by simp [results,Try.results11,go_sem,r0,r1,r2,r3,g0,g1]) rfl
                 ⟨lp,_,lc,ep,_,ek,sp,_,sc,mn,rfl,by
                  have hws:=HWS.out
                  exact (HHD.out.ag (((((((Ag.refl (wx.heap.size + 1) wo).set (p:=⟨w.heap.size + 1,0,none⟩) (.inl (by show w.heap.size + 1 < _; omega)) (.slice lp g.recs.length lc)).set (p:=⟨w.heap.size + 1,1,none⟩) (.inl (by show w.heap.size + 1 < _; omega)) (.slice ep g.globals.length ek)).set (p:=⟨w.heap.size + 1,2,none⟩) (.inl (by show w.heap.size + 1 < _; omega)) (.slice sp g.funcs.length sc)).set (p:=⟨w.heap.size + 1,3,none⟩) (.inl (by show w.heap.size + 1 < _; omega)) (.int .i64 mn)).set (p:=⟨w.heap.size + 1 + 1,0,none⟩) (.inl (by show w.heap.size + 1 + 1 < _; omega)) (.int .i64 (0))).set (p:=⟨w.heap.size + 1 + 1,1,none⟩) (.inl (by show w.heap.size + 1 + 1 < _; omega)) (.int .i64 (0)))).lower (by omega),
                  zJ (zJ (zJ (zJ (zJ (zJ GQ.out.be (p:=⟨w.heap.size + 1,0,none⟩) (Nat.le_succ _) _) (p:=⟨w.heap.size + 1,1,none⟩) (Nat.le_succ _) _) (p:=⟨w.heap.size + 1,2,none⟩) (Nat.le_succ _) _) (p:=⟨w.heap.size + 1,3,none⟩) (Nat.le_succ _) _) (p:=⟨w.heap.size + 1 + 1,0,none⟩) (Nat.le_succ_of_le (Nat.le_succ _)) _) (p:=⟨w.heap.size + 1 + 1,1,none⟩) (Nat.le_succ_of_le (Nat.le_succ _)) _⟩
             | succ m =>
               have hjl:j < g.funcs.length:=by have:=HJ.out; omega
               have hd1:decide ((j:Int) < (g.funcs.length:Int)) = true:=decide_eq_true (by omega)
               have hi1:(j:Int) < (g.funcs.length:Int):=by omega
               have hd2:decide (g.funcs.length ≤ j) = false:=decide_eq_false (by omega)
               have hdw:wrap64 ((j:Int) + 1) = ((j + 1:Nat):Int):=by have:=HS.out.funcs; simp [wrap64]; omega
               have he:=List.getElem?_eq_getElem hjl
               have hsm:=HS.out.func1 _ (List.getElem_mem hjl)
               generalize g.funcs[j] = x at he hsm
               have HSM:=vH hsm
               have HE:=vH he
               have HTF:=vH (zU (sgOf rs) he)
               have HTK:=vH (show g.funcs.take (j + 1) = g.funcs.take j ++ [x] by rw [List.take_add_one,he]; rfl)
               have HTN:=vH (zU (fun x:Fc => x.name) he)
               have HDR:=vH (zS he)
               obtain ⟨bF,oF,hqF,hbF,hcF⟩:=zHu H3.out he
               obtain ⟨fp,fc,bq,bn,bd,hlat,hxF⟩:=hcF j x he
               have HLAT:=vH hlat
               have GQ:=vH (G.out.go HBR.out)
               obtain ⟨y0,y1,y2,y3,y4,y5,y6⟩:=hxF _ GQ.out.be
               have HCF:=vH (fun i (y:Fc) (hy:g.funcs[i]? = some y) (w2:World) (hb:Below w.heap.size w w2) => (show w2.cell? ⟨bF,oF + i * 7,none⟩ = some (.string (cbs y.name)) by obtain ⟨_,_,_,_,_,-,h⟩:=hcF i y hy; exact (h w2 hb).1))
               obtain rfl:some ⟨bF,oF,none⟩ = q3:=hqF.symm
               obtain ⟨⟨u0,u1,u2⟩,-⟩:=tri GQ.out.bx
               obtain ⟨wf,hwf⟩:∃ wf,wf = wo.alloc (.cells #[.string (cbs x.name),.slice fp x.params.length fc,.bool x.has,.string (cbs x.rn),.int .i64 x.rd,.slice bq bn bd,.int .i64 x.at_] 81):=⟨_,rfl⟩
               have hbf:Below wo.heap.size wo wf:=by rw [hwf]; exact zC (Below.refl _ _)
               have HXF:=vH (show wf.heap[wo.heap.size]? = some (.cells #[.string (cbs x.name),.slice fp x.params.length fc,.bool x.has,.string (cbs x.rn),.int .i64 x.rd,.slice bq bn bd,.int .i64 x.at_] 81 (0,0)) by rw [hwf]; exact heap_alloc_new wo _)
               have HBF:=vH (zE HBR.out hbf HBR.out.size)
               have HBWF:=vH hbf
               have hbl3:bF ≠ wo.heap.size:=Nat.ne_of_lt (Nat.lt_of_lt_of_le hbF GQ.out.be.size)
               clear he hsm hlat hcF hxF hqF hbf
               go_upto_region 26 with fail
               obtain ⟨b14,hb14⟩:∃ b,wo.heap.size = b:=⟨_,rfl⟩
               rw [← hwf,hb14]
               rw [hb14] at HXF
               have HB14:=vH hb14
               clear hb14 hwf y0 y1 y2 y3 y4 y5 y6 u0 u1 u2 hbl3
               go_wp2_with fail
               go_loopg [15] j (fun n kv wq => ∃ i:Nat,n + i = j ∧ kv = .int .i64 (i:Int) ∧ Below wf.heap.size wf wq ∧ x.name ∉ (g.funcs.take i).map (fun x:Fc => x.name))
               case atStart => exact ⟨0,rfl,rfl,Below.refl _ _,by simp⟩
               case round =>
                obtain ⟨i,hi,rfl,hbq,hnot⟩:=hrel
                have HI:=vH hi
                have HBQ:=vH hbq
                have HNOT:=vH hnot
                have GI:=vH (G.out.go (zE HBF.out hbq HBF.out.size))
                have HXQ:=vH ((hbq.block _ (zA HXF.out)).trans HXF.out)
                clear hi hbq hnot
                obtain ⟨⟨u0,u1,u2⟩,-⟩:=tri GI.out.bx
                obtain ⟨⟨v0,v1,v2,v3,v4,v5,v6⟩,-⟩:=sept HXQ.out
                cases gk with
                | zero =>
                  obtain rfl:i = j:=by have:=HI.out; omega
                  have hd4:decide ((i:Int) < (i:Int)) = false:=decide_eq_false (by omega)
                  have hd6:decide (i < i) = false:=decide_eq_false (Nat.lt_irrefl _)
                  have hdr:=HF4.out
                  rw [HDR.out,fltFn,if_neg HNOT.out] at hdr
                  have HDR4:=vH hdr
                  have HBI:=vH (zE HBF.out HBQ.out HBF.out.size)
                  have HFQ:=vH (zBm wr rs nq nk x.params fp fc (zCU HN.out (Ag.below HBI.out)) (by rw [← HRL.out]; exact HS.out.recs) (zEX HLAT.out (Ag.below GI.out.be)) HSM.out.2.2.1)
                  rw [← HRL.out] at HFQ
                  clear hdr
                  cases hfp:fltPs rs [] x.params with
                  | some a =>
                    have hqf:qf rs x.params = ([],3,a):=by unfold qf; rw [hfp]
                    rw [hqf] at HFQ
                    have hfl:flt g = some a:=by
                     unfold flt
                     rw [← zBe,← zBe,zBe (fltRs [] g.recs),HRS.out,HR2.out,HDR4.out,hfp]
                     rfl
                    obtain rfl:(HdsH.zero,(3:Int),a) = y:=by rw [← HY.out]; unfold make; rw [hfl]
                    clear hqf hfl hfp
                    go_wp2_with fail
                    refine HFQ.out.mono ?_
                    rintro e w5 ⟨ep,ek,rfl,-,hb⟩
                    have G5:=vH (GI.out.go hb)
                    have HE5:=vH (heap_alloc_new w5 (.cells #[.int .i64 3,.int .i64 a] 29))
                    clear hb u0 u1 u2 v0 v1 v2 v3 v4 v5 v6
                    obtain ⟨wz,hwz⟩:∃ wz,wz = w5.alloc (.cells #[.int .i64 3,.int .i64 a] 29):=⟨_,rfl⟩
                    have G6:=vH (G5.out.go (show Below w5.heap.size w5 wz by rw [hwz]; exact zC (Below.refl _ _)))
                    rw [← hwz] at HE5
                    obtain ⟨⟨e0,e1⟩,-⟩:=duo HE5.out
                    go_upto_region 32 with fail
                    rw [← hwz]
                    clear hwz
                    obtain ⟨⟨r0,r1,r2,r3⟩,s0,s1,s2,s3⟩:=quad G6.out.rs
                    obtain ⟨⟨f0,f1⟩,t0,t1⟩:=duo G6.out.ft
                    have hlr:=zA G6.out.rs
                    have hlf:=zA G6.out.ft
                    have hn1:w.heap.size + 1 ≠ w.heap.size + 1 + 1:=by omega
                    have hn2:=Ne.symm hn1
                    have hn3:w5.heap.size ≠ w.heap.size + 1:=by have:=G5.out.sz; omega
                    go_wp2_with fail
                    go_region
                    all_goals
                     go_wp2_with fail
                     exact bodyPost_ret (v:=.tuple #[.agg #[.slice none 0 0,.slice none 0 0,.slice none 0 0,.int .i64 0],.agg #[.int .i64 3,.int .i64 a]]) (by simp [results,Try.results11,go_sem,r0,r1,r2,r3,f0,f1]) rfl
                      ⟨none,0,0,none,0,0,none,0,0,0,rfl,HdIs.zero,zAc (G6.out.bad _)⟩
                  | none =>
                    have hqf:qf rs x.params = (x.params.map (fdOf rs),0,0):=by unfold qf; rw [hfp]
                    rw [hqf] at HFQ
                    have HFP:=vH hfp
                    clear hqf hfp
                    go_wp2_with fail
                    refine HFQ.out.mono ?_
                    rintro e w5 ⟨fq,fk,he5,hla,hb⟩
                    dsimp only at he5 hla
                    rw [List.length_map] at he5
                    subst he5
                    obtain ⟨wz,hwz⟩:∃ wz,wz = w5.alloc (.cells #[.int .i64 (0),.int .i64 0] 29):=⟨_,rfl⟩
                    have hbz:Below wr.heap.size wr wz:=by rw [hwz]; exact zC hb
                    have HEZ:=vH (show wz.heap[w5.heap.size]? = some (.cells #[.int .i64 (0),.int .i64 0] 29 (0,0)) by rw [hwz]; exact heap_alloc_new w5 _)
                    have HLA:=vH (show LAt FdIs 4 wz wr.heap.size fq (x.params.map (fdOf rs)) by rw [hwz]; exact zAK hla (Ag.below (zC (Below.refl _ _))))
                    have GZ:=vH (GI.out.go hbz)
                    have HXZ:=vH ((hbz.block _ (zA HXQ.out)).trans HXQ.out)
                    have HBZ:=vH (zE HBQ.out hbz HBQ.out.size)
                    obtain ⟨⟨e0,e1⟩,-⟩:=duo HEZ.out
                    clear hla hb hbz u0 u1 u2 v0 v1 v2 v3 v4 v5 v6
                    obtain ⟨⟨v0,v1,v2,v3,v4,v5,v6⟩,-⟩:=sept HXZ.out
                    go_upto_region 34 with fail
                    rw [← hwz]
                    clear hwz
                    obtain ⟨ws,hws⟩:∃ ws,ws = wz.alloc (.cells #[.string (cbs x.name),.slice fq x.params.length fk,.bool x.has,.int .i64 (0),.int .i64 0,.int .i64 0] 60):=⟨_,rfl⟩
                    have hbs:Below wz.heap.size wz ws:=by rw [hws]; exact zC (Below.refl _ _)
                    have HBZS:=vH hbs
                    have HSG:=vH (show ws.heap[wz.heap.size]? = some (.cells #[.string (cbs x.name),.slice fq x.params.length fk,.bool x.has,.int .i64 (0),.int .i64 0,.int .i64 0] 60 (0,0)) by rw [hws]; exact heap_alloc_new wz _)
                    have HLS:=vH (show LAt FdIs 4 ws wr.heap.size fq (x.params.map (fdOf rs)) from zAK HLA.out (Ag.below hbs))
                    have GS:=vH (GZ.out.go hbs)
                    have HXS:=vH ((hbs.block _ (zA HXZ.out)).trans HXZ.out)
                    have HBS:=vH (zE HBZ.out hbs HBZ.out.size)
                    have HBRS:=vH (zE HBWF.out HBS.out HBWF.out.size)
                    clear hbs
                    go_upto_region 35 with fail
                    rw [← hws]
                    clear hws v0 v1 v2 v3 v4 v5 v6
                    obtain ⟨⟨v0,v1,v2,v3,v4,v5,v6⟩,-⟩:=sept HXS.out
                    have F0:=vH (show FnSt wx wy wo wz (.cells #[.string (cbs x.name),.slice fp x.params.length fc,.bool x.has,.string (cbs x.rn),.int .i64 x.rd,.slice bq bn bd,.int .i64 x.at_] 81 (0,0)) (.cells #[.slice lp g.recs.length lc,.slice ep g.globals.length ek,v,.int .i64 mn] 36 (0,0)) (.cells #[.string (cbs x.name),.slice fq x.params.length fk,.bool x.has,.int .i64 (0),.int .i64 0,.int .i64 0] 60 (0,0)) ws from
                     ⟨zE HBF.out HBS.out HBF.out.size,by rw [HB14.out]; exact HXS.out,(HBRS.out.block _ (zA HH.out)).trans HH.out,HSG.out,Ag.below HBZS.out,Ag.below HBRS.out,HAG.out.trans (Ag.below HBRS.out)⟩)
                    have HA1:=vH (show wx.heap.size < wy.heap.size from HSY.out)
                    have HA2:=vH (show wy.heap.size ≤ wo.heap.size from HAG.out.size)
                    have HA3:=vH (show wo.heap.size < wz.heap.size by have:=zA HXZ.out; rw [← HB14.out] at this; exact this)
                    have HNM:=vH (show mainTo (g.funcs.take (i + 1)) = if x.name = mainN ∧ plainF x = true then ((g.funcs.take i).length:Int) else mainTo (g.funcs.take i) by rw [HTK.out]; exact zDQ _ _ HNOT.out)
                    have HJL:=vH hi1
                    have HLB:=vH (show LAt FdIs 4 wz wo.heap.size fq (x.params.map (fdOf rs)) from zAB HLA.out (Nat.le_trans HBWF.out.size HBQ.out.size))
                    clear HXS HSG HXZ HEZ GI GZ HBQ HXQ
                    cases hhas:x.has with
                    | true =>
                      rw [hhas] at v2
                      have HHAS:=vH hhas
                      clear hhas
                      obtain ⟨t,ht⟩:∃ t,tyOf rs x.rn x.rd = t:=⟨_,rfl⟩
                      have htq0:=zFc ws rs nq nk (zCU HN.out (Ag.below F0.out.be)) x.rn x.rd (by rw [← HRL.out]; exact HS.out.recs)
                      rw [ht,← HRL.out] at htq0
                      obtain ⟨⟨tb,tr,td⟩,ok⟩:=t
                      unfold tyV at htq0
                      dsimp only at htq0
                      have HTT:=vH htq0
                      have HT:=vH ht
                      clear ht htq0
                      go_wp2_with fail
                      refine HTT.out.mono ?_
                      rintro e w6 ⟨rfl,hb⟩
                      obtain ⟨w7,hw7⟩:∃ w7,w7 = w6.alloc (.cells #[.int .i64 tb,.int .i64 tr,.int .i64 td] 47):=⟨_,rfl⟩
                      have HB7:=vH (show Below ws.heap.size ws w7 by rw [hw7]; exact zC hb)
                      have F7:=vH (F0.out.go HB7.out)
                      have HT8:=vH (show w7.heap[w6.heap.size]? = some (.cells #[.int .i64 tb,.int .i64 tr,.int .i64 td] 47 (0,0)) by rw [hw7]; exact heap_alloc_new w6 _)
                      have HW6:=vH (show wz.heap.size < w6.heap.size from Nat.lt_of_lt_of_le (zA F0.out.hs) hb.size)
                      clear hb v0 v1 v2 v3 v4 v5 v6
                      go_upto_region 37 with fail
                      rw [← hw7]
                      clear hw7
                      obtain ⟨⟨v0,v1,v2,v3,v4,v5,v6⟩,-⟩:=sept F7.out.hf
                      rw [HB14.out] at v0 v1 v2 v3 v4 v5 v6
                      obtain ⟨⟨z0,z1,z2⟩,-⟩:=tri HT8.out
                      cases ok with
                      | false =>
                        have hbr:badRes rs x = some x.at_:=by unfold badRes; rw [HHAS.out,HT.out]; rfl
                        have hfl:flt g = some x.at_:=by
                         unfold flt
                         rw [← zBe,← zBe,zBe (fltRs [] g.recs),HRS.out,HR2.out,HDR4.out,HFP.out,hbr]
                         rfl
                        obtain rfl:(HdsH.zero,(3:Int),x.at_) = y:=by rw [← HY.out]; unfold make; rw [hfl]
                        clear hbr hfl
                        go_wp2_with fail
                        refine (zB1 _ x.at_).mono ?_
                        rintro e w5 ⟨rfl,hb⟩
                        have G5:=vH ((GS.out.go HB7.out).go hb)
                        clear hb v0 v1 v2 v3 v4 v5 v6 z0 z1 z2
                        obtain ⟨⟨r0,r1,r2,r3⟩,s0,s1,s2,s3⟩:=quad G5.out.rs
                        obtain ⟨⟨f0,f1⟩,t0,t1⟩:=duo G5.out.ft
                        have hlr:=zA G5.out.rs
                        have hlf:=zA G5.out.ft
                        have hn1:w.heap.size + 1 ≠ w.heap.size + 1 + 1:=by omega
                        have hn2:=Ne.symm hn1
                        go_wp2_with fail
                        exact bodyPost_ret (v:=.tuple #[.agg #[.slice none 0 0,.slice none 0 0,.slice none 0 0,.int .i64 0],.agg #[.int .i64 3,.int .i64 x.at_]]) (by simp [results,Try.results11,go_sem,r0,r1,r2,r3,f0,f1]) rfl
                         ⟨none,0,0,none,0,0,none,0,0,0,rfl,HdIs.zero,G5.out.bad _⟩
                      | true =>
                        obtain ⟨⟨b0,b1,b2,b3,b4,b5⟩,c3,c4,c5⟩:=six F7.out.hs
                        have hlS:=zA F7.out.hs
                        have hne6:w6.heap.size ≠ wz.heap.size:=by have:=HW6.out; omega
                        go_upto_region 40 with fail
                        obtain ⟨w8,hw8⟩:∃ w8,w8 = ((w7.setCell ⟨wz.heap.size,3,none⟩ (.int .i64 tb)).setCell ⟨wz.heap.size,4,none⟩ (.int .i64 tr)).setCell ⟨wz.heap.size,5,none⟩ (.int .i64 td):=⟨_,rfl⟩
                        have hres:resOf rs x = ⟨tb,tr,td⟩:=by unfold resOf; rw [if_pos HHAS.out,HT.out]
                        have hbr:badRes rs x = none:=by unfold badRes; exact if_neg (fun h => by have h2:=h.2; rw [HT.out] at h2; cases h2)
                        have HF5:=vH (show fltFn rs [] g.funcs = fltFn rs ((g.funcs.take (i + 1)).map (fun x:Fc => x.name)) (g.funcs.drop (i + 1)) by rw [HDR4.out,HFP.out,hbr,HTN.out]; rfl)
                        clear hbr
                        have F8:=vH (show FnSt wx wy wo wz (.cells #[.string (cbs x.name),.slice fp x.params.length fc,.bool x.has,.string (cbs x.rn),.int .i64 x.rd,.slice bq bn bd,.int .i64 x.at_] 81 (0,0)) (.cells #[.slice lp g.recs.length lc,.slice ep g.globals.length ek,v,.int .i64 mn] 36 (0,0)) (.cells #[.string (cbs x.name),.slice fq x.params.length fk,.bool x.has,.int .i64 (resOf rs x).b,.int .i64 (resOf rs x).r,.int .i64 (resOf rs x).d] 60 (0,0)) w8 from by rw [hw8,hres]; exact ((F7.out.setS HA1.out HA2.out HA3.out 3 (.int .i64 tb)).setS HA1.out HA2.out HA3.out 4 (.int .i64 tr)).setS HA1.out HA2.out HA3.out 5 (.int .i64 td))
                        rw [← hw8]
                        clear hw8 hres F7 b0 b1 b2 b3 b4 b5 c3 c4 c5 hlS hne6 z0 z1 z2 v0 v1 v2 v3 v4 v5 v6
                        obtain ⟨⟨v0,v1,v2,v3,v4,v5,v6⟩,-⟩:=sept F8.out.hf
                        rw [HB14.out] at v0 v1 v2 v3 v4 v5 v6
                        rw [HHAS.out] at v2
                        have hxl:(cbs x.name).toList = x.name:=zI _
                        by_cases hnm:x.name = mainN
                        ·have hb1:(x.name == ([109,97,105,110]:List UInt8)) = true:=by rw [hnm]; rfl
                         by_cases hl0:x.params.length = 0
                         ·have hb2:((x.params.length:Int) == 0) = true:=by rw [hl0]; rfl
                          have hpl:plainF x = false:=by unfold plainF; rw [HHAS.out,List.isEmpty_iff_length_eq_zero.2 hl0]; rfl
                          have HM2:=vH (show mn = mainTo (g.funcs.take (i + 1)) by rw [HNM.out,if_neg (fun h => by rw [hpl] at h; exact absurd h.2 (by decide))]; exact HMN.out)
                          clear hnm hl0 hpl
                          go_upto_region 42 with fail
                          obtain ⟨wt,hwt⟩:∃ wt,wt = w8:=⟨_,rfl⟩
                          have FT:=vH F8.out
                          rw [← hwt] at FT ⊢
                          clear hwt F8 v0 v1 v2 v3 v4 v5 v6 hb1 hb2 hxl
                          have HEX:=vH (show ∀ k,exs v k → wy.heap.size ≤ k ∧ k < wo.heap.size from OL.out.lt)
                          have OLT:=vH (OL.out.agg FT.out.ar)
                          have hol:((g.funcs.take i).map (sgOf rs)).length = i:=by rw [List.length_map,List.length_take]; have:=HJL.out; omega
                          clear OL
                          generalize (g.funcs.take i).map (sgOf rs) = out at OLT HTF hol
                          have HOL:=vH hol
                          obtain ⟨vp,vc,hls⟩:=OLT.out.slice
                          subst hls
                          obtain ⟨vss,hl1,hl2,hl3⟩:=id OLT.out
                          have HL1:=vH hl1
                          have HO:=vH hl2
                          have HK3:=vH hl3
                          clear hl1 hl2 hl3 hol
                          obtain ⟨⟨a0,a1,a2,a3⟩,f0,f1,f2,f3⟩:=quad FT.out.hh
                          obtain ⟨⟨b0,b1,b2,b3,b4,b5⟩,-⟩:=six FT.out.hs
                          obtain ⟨i0,hi0,hz0,hz1,hz2⟩:=info_parts zIA
                          go_wp2_with (at_builtin; refine wpList_append_own_at _ rfl _ _ 34 rfl wy.heap.size 60 i0 _ 6 72 Try.underlying34 hi0 hz0 hz1 hz2 rfl (by decide) _ out.length _ rfl (HO.out.alloc _) ⟨wt.heap.size,0,none⟩ 1 1 [.string (cbs x.name),.slice fq x.params.length fk,.bool x.has,.int .i64 (resOf rs x).b,.int .i64 (resOf rs x).r,.int .i64 (resOf rs x).d] rfl rfl ?c1 ?c2 ?c3 ?c4 ?c5 ?_)
                          case c1 => exact zAE rfl rfl
                          case c2 => exact zH6 _ _ _ _ _ _ _ _
                          case c3 => have:=HOL.out; have:=HJL.out; have:=HS.out.funcs; unfold maxLen; omega
                          case c4 => have:=HOL.out; have:=HJL.out; have:=HS.out.funcs; omega
                          case c5 => rw [zB]; have:=HA2.out; have:=FT.out.ar.size; omega
                          intro v' w9 hown hgrow _ hat
                          have O9:=vH (OwnL.more (x:=sgOf rs x) HO.out HL1.out HK3.out (But.of (B2:=wo.heap.size) (I:=fun w2 => SgIs w2 wy.heap.size (sgOf rs x) [.string (cbs x.name),.slice fq x.params.length fk,.bool x.has,.int .i64 (resOf rs x).b,.int .i64 (resOf rs x).r,.int .i64 (resOf rs x).d]) (fun w' g => zJp (zAB (zAK (zAK HLB.out FT.out.az) g) HA2.out)) HA2.out (fun k hk => (HEX.out k hk).2)) hown hgrow hat)
                          have K9:=vH (zIl (v:=.slice vp out.length vc) hgrow (fun k hk => (HEX.out k hk).1))
                          obtain ⟨np,nc,hnv⟩:=zT hown
                          subst hnv
                          clear hown hgrow hat a0 a1 a2 a3 f0 f1 f2 f3 b0 b1 b2 b3 b4 b5
                          have HB9:=vH (show Below wx.heap.size wx w9 from ⟨K9.out.2.1.1.trans FT.out.be.os,K9.out.2.1.2.1.trans FT.out.be.tape,K9.out.2.1.2.2.trans FT.out.be.output,Nat.le_trans FT.out.be.size K9.out.1,fun i hi => (K9.out.2.2 i (Nat.lt_of_lt_of_le hi FT.out.be.size) (Nat.lt_trans hi HA1.out)).trans (FT.out.be.block i hi)⟩)
                          have HH9:=vH ((K9.out.2.2 _ (zA FT.out.hh) HA1.out).trans FT.out.hh)
                          have A9:=vH (show Ag (wx.heap.size + 1) wy w9 from ⟨Nat.le_trans FT.out.ay.size K9.out.1,fun bl h1 h2 => (K9.out.2.2 bl (Nat.lt_of_lt_of_le h2 FT.out.ay.size) h2).trans (FT.out.ay.block bl h1 h2)⟩)
                          obtain ⟨⟨a0,a1,a2,a3⟩,f0,f1,f2,f3⟩:=quad HH9.out
                          have hlh:=zA HH9.out
                          go_wp2_with fail
                          have HHA:=vH (Lib.heap_setCell_same HH9.out (i:=2) (v:=.slice np (out.length + 1) nc))
                          have OA:=vH (O9.out.agg (Ag.set (Ag.refl _ _) (p:=⟨wx.heap.size,2,none⟩) (.inl HA1.out) (.slice np (out.length + 1) nc)))
                          have AA:=vH (A9.out.set (p:=⟨wx.heap.size,2,none⟩) (.inl (Nat.lt_succ_self _)) (.slice np (out.length + 1) nc))
                          go_roundg m
                          case measure => omega
                          case rel => exact ⟨i + 1,_,mn,by have:=HJ.out; omega,by first | rfl | simp [hdw],zJ HB9.out (p:=⟨wx.heap.size,2,none⟩) (Nat.le_refl _) _,HHA.out,by rw [HTF.out]; exact OA.out,AA.out,HM2.out,HF5.out⟩
                         ·have hb2:((x.params.length:Int) == 0) = false:=by rw [beq_eq_false_iff_ne]; omega
                          have HM2:=vH (show mn = mainTo (g.funcs.take (i + 1)) by rw [HNM.out,if_neg (fun h => by have h2:=h.2; unfold plainF at h2; rw [Bool.and_eq_true] at h2; exact hl0 (by rw [List.isEmpty_iff_length_eq_zero.1 h2.1]))]; exact HMN.out)
                          clear hnm hl0
                          go_upto_region 42 with fail
                          obtain ⟨wt,hwt⟩:∃ wt,wt = w8:=⟨_,rfl⟩
                          have FT:=vH F8.out
                          rw [← hwt] at FT ⊢
                          clear hwt F8 v0 v1 v2 v3 v4 v5 v6 hb1 hb2 hxl
                          have HEX:=vH (show ∀ k,exs v k → wy.heap.size ≤ k ∧ k < wo.heap.size from OL.out.lt)
                          have OLT:=vH (OL.out.agg FT.out.ar)
                          have hol:((g.funcs.take i).map (sgOf rs)).length = i:=by rw [List.length_map,List.length_take]; have:=HJL.out; omega
                          clear OL
                          generalize (g.funcs.take i).map (sgOf rs) = out at OLT HTF hol
                          have HOL:=vH hol
                          obtain ⟨vp,vc,hls⟩:=OLT.out.slice
                          subst hls
                          obtain ⟨vss,hl1,hl2,hl3⟩:=id OLT.out
                          have HL1:=vH hl1
                          have HO:=vH hl2
                          have HK3:=vH hl3
                          clear hl1 hl2 hl3 hol
                          obtain ⟨⟨a0,a1,a2,a3⟩,f0,f1,f2,f3⟩:=quad FT.out.hh
                          obtain ⟨⟨b0,b1,b2,b3,b4,b5⟩,-⟩:=six FT.out.hs
                          obtain ⟨i0,hi0,hz0,hz1,hz2⟩:=info_parts zIA
                          go_wp2_with (at_builtin; refine wpList_append_own_at _ rfl _ _ 34 rfl wy.heap.size 60 i0 _ 6 72 Try.underlying34 hi0 hz0 hz1 hz2 rfl (by decide) _ out.length _ rfl (HO.out.alloc _) ⟨wt.heap.size,0,none⟩ 1 1 [.string (cbs x.name),.slice fq x.params.length fk,.bool x.has,.int .i64 (resOf rs x).b,.int .i64 (resOf rs x).r,.int .i64 (resOf rs x).d] rfl rfl ?c1 ?c2 ?c3 ?c4 ?c5 ?_)
                          case c1 => exact zAE rfl rfl
                          case c2 => exact zH6 _ _ _ _ _ _ _ _
                          case c3 => have:=HOL.out; have:=HJL.out; have:=HS.out.funcs; unfold maxLen; omega
                          case c4 => have:=HOL.out; have:=HJL.out; have:=HS.out.funcs; omega
                          case c5 => rw [zB]; have:=HA2.out; have:=FT.out.ar.size; omega
                          intro v' w9 hown hgrow _ hat
                          have O9:=vH (OwnL.more (x:=sgOf rs x) HO.out HL1.out HK3.out (But.of (B2:=wo.heap.size) (I:=fun w2 => SgIs w2 wy.heap.size (sgOf rs x) [.string (cbs x.name),.slice fq x.params.length fk,.bool x.has,.int .i64 (resOf rs x).b,.int .i64 (resOf rs x).r,.int .i64 (resOf rs x).d]) (fun w' g => zJp (zAB (zAK (zAK HLB.out FT.out.az) g) HA2.out)) HA2.out (fun k hk => (HEX.out k hk).2)) hown hgrow hat)
                          have K9:=vH (zIl (v:=.slice vp out.length vc) hgrow (fun k hk => (HEX.out k hk).1))
                          obtain ⟨np,nc,hnv⟩:=zT hown
                          subst hnv
                          clear hown hgrow hat a0 a1 a2 a3 f0 f1 f2 f3 b0 b1 b2 b3 b4 b5
                          have HB9:=vH (show Below wx.heap.size wx w9 from ⟨K9.out.2.1.1.trans FT.out.be.os,K9.out.2.1.2.1.trans FT.out.be.tape,K9.out.2.1.2.2.trans FT.out.be.output,Nat.le_trans FT.out.be.size K9.out.1,fun i hi => (K9.out.2.2 i (Nat.lt_of_lt_of_le hi FT.out.be.size) (Nat.lt_trans hi HA1.out)).trans (FT.out.be.block i hi)⟩)
                          have HH9:=vH ((K9.out.2.2 _ (zA FT.out.hh) HA1.out).trans FT.out.hh)
                          have A9:=vH (show Ag (wx.heap.size + 1) wy w9 from ⟨Nat.le_trans FT.out.ay.size K9.out.1,fun bl h1 h2 => (K9.out.2.2 bl (Nat.lt_of_lt_of_le h2 FT.out.ay.size) h2).trans (FT.out.ay.block bl h1 h2)⟩)
                          obtain ⟨⟨a0,a1,a2,a3⟩,f0,f1,f2,f3⟩:=quad HH9.out
                          have hlh:=zA HH9.out
                          go_wp2_with fail
                          have HHA:=vH (Lib.heap_setCell_same HH9.out (i:=2) (v:=.slice np (out.length + 1) nc))
                          have OA:=vH (O9.out.agg (Ag.set (Ag.refl _ _) (p:=⟨wx.heap.size,2,none⟩) (.inl HA1.out) (.slice np (out.length + 1) nc)))
                          have AA:=vH (A9.out.set (p:=⟨wx.heap.size,2,none⟩) (.inl (Nat.lt_succ_self _)) (.slice np (out.length + 1) nc))
                          go_roundg m
                          case measure => omega
                          case rel => exact ⟨i + 1,_,mn,by have:=HJ.out; omega,by first | rfl | simp [hdw],zJ HB9.out (p:=⟨wx.heap.size,2,none⟩) (Nat.le_refl _) _,HHA.out,by rw [HTF.out]; exact OA.out,AA.out,HM2.out,HF5.out⟩
                        ·have hb1:(x.name == ([109,97,105,110]:List UInt8)) = false:=by rw [beq_eq_false_iff_ne]; exact hnm
                         have HM2:=vH (show mn = mainTo (g.funcs.take (i + 1)) by rw [HNM.out,if_neg (fun h => hnm h.1)]; exact HMN.out)
                         clear hnm
                         go_upto_region 42 with fail
                         obtain ⟨wt,hwt⟩:∃ wt,wt = w8:=⟨_,rfl⟩
                         have FT:=vH F8.out
                         rw [← hwt] at FT ⊢
                         clear hwt F8 v0 v1 v2 v3 v4 v5 v6 hb1 hxl
                         have HEX:=vH (show ∀ k,exs v k → wy.heap.size ≤ k ∧ k < wo.heap.size from OL.out.lt)
                         have OLT:=vH (OL.out.agg FT.out.ar)
                         have hol:((g.funcs.take i).map (sgOf rs)).length = i:=by rw [List.length_map,List.length_take]; have:=HJL.out; omega
                         clear OL
                         generalize (g.funcs.take i).map (sgOf rs) = out at OLT HTF hol
                         have HOL:=vH hol
                         obtain ⟨vp,vc,hls⟩:=OLT.out.slice
                         subst hls
                         obtain ⟨vss,hl1,hl2,hl3⟩:=id OLT.out
                         have HL1:=vH hl1
                         have HO:=vH hl2
                         have HK3:=vH hl3
                         clear hl1 hl2 hl3 hol
                         obtain ⟨⟨a0,a1,a2,a3⟩,f0,f1,f2,f3⟩:=quad FT.out.hh
                         obtain ⟨⟨b0,b1,b2,b3,b4,b5⟩,-⟩:=six FT.out.hs
                         obtain ⟨i0,hi0,hz0,hz1,hz2⟩:=info_parts zIA
                         go_wp2_with (at_builtin; refine wpList_append_own_at _ rfl _ _ 34 rfl wy.heap.size 60 i0 _ 6 72 Try.underlying34 hi0 hz0 hz1 hz2 rfl (by decide) _ out.length _ rfl (HO.out.alloc _) ⟨wt.heap.size,0,none⟩ 1 1 [.string (cbs x.name),.slice fq x.params.length fk,.bool x.has,.int .i64 (resOf rs x).b,.int .i64 (resOf rs x).r,.int .i64 (resOf rs x).d] rfl rfl ?c1 ?c2 ?c3 ?c4 ?c5 ?_)
                         case c1 => exact zAE rfl rfl
                         case c2 => exact zH6 _ _ _ _ _ _ _ _
                         case c3 => have:=HOL.out; have:=HJL.out; have:=HS.out.funcs; unfold maxLen; omega
                         case c4 => have:=HOL.out; have:=HJL.out; have:=HS.out.funcs; omega
                         case c5 => rw [zB]; have:=HA2.out; have:=FT.out.ar.size; omega
                         intro v' w9 hown hgrow _ hat
                         have O9:=vH (OwnL.more (x:=sgOf rs x) HO.out HL1.out HK3.out (But.of (B2:=wo.heap.size) (I:=fun w2 => SgIs w2 wy.heap.size (sgOf rs x) [.string (cbs x.name),.slice fq x.params.length fk,.bool x.has,.int .i64 (resOf rs x).b,.int .i64 (resOf rs x).r,.int .i64 (resOf rs x).d]) (fun w' g => zJp (zAB (zAK (zAK HLB.out FT.out.az) g) HA2.out)) HA2.out (fun k hk => (HEX.out k hk).2)) hown hgrow hat)
                         have K9:=vH (zIl (v:=.slice vp out.length vc) hgrow (fun k hk => (HEX.out k hk).1))
                         obtain ⟨np,nc,hnv⟩:=zT hown
                         subst hnv
                         clear hown hgrow hat a0 a1 a2 a3 f0 f1 f2 f3 b0 b1 b2 b3 b4 b5
                         have HB9:=vH (show Below wx.heap.size wx w9 from ⟨K9.out.2.1.1.trans FT.out.be.os,K9.out.2.1.2.1.trans FT.out.be.tape,K9.out.2.1.2.2.trans FT.out.be.output,Nat.le_trans FT.out.be.size K9.out.1,fun i hi => (K9.out.2.2 i (Nat.lt_of_lt_of_le hi FT.out.be.size) (Nat.lt_trans hi HA1.out)).trans (FT.out.be.block i hi)⟩)
                         have HH9:=vH ((K9.out.2.2 _ (zA FT.out.hh) HA1.out).trans FT.out.hh)
                         have A9:=vH (show Ag (wx.heap.size + 1) wy w9 from ⟨Nat.le_trans FT.out.ay.size K9.out.1,fun bl h1 h2 => (K9.out.2.2 bl (Nat.lt_of_lt_of_le h2 FT.out.ay.size) h2).trans (FT.out.ay.block bl h1 h2)⟩)
                         obtain ⟨⟨a0,a1,a2,a3⟩,f0,f1,f2,f3⟩:=quad HH9.out
                         have hlh:=zA HH9.out
                         go_wp2_with fail
                         have HHA:=vH (Lib.heap_setCell_same HH9.out (i:=2) (v:=.slice np (out.length + 1) nc))
                         have OA:=vH (O9.out.agg (Ag.set (Ag.refl _ _) (p:=⟨wx.heap.size,2,none⟩) (.inl HA1.out) (.slice np (out.length + 1) nc)))
                         have AA:=vH (A9.out.set (p:=⟨wx.heap.size,2,none⟩) (.inl (Nat.lt_succ_self _)) (.slice np (out.length + 1) nc))
                         go_roundg m
                         case measure => omega
                         case rel => exact ⟨i + 1,_,mn,by have:=HJ.out; omega,by first | rfl | simp [hdw],zJ HB9.out (p:=⟨wx.heap.size,2,none⟩) (Nat.le_refl _) _,HHA.out,by rw [HTF.out]; exact OA.out,AA.out,HM2.out,HF5.out⟩
                    | false =>
                      rw [hhas] at v2
                      have HHAS:=vH hhas
                      clear hhas
                      go_upto_region 40 with fail
                      obtain ⟨w8,hw8⟩:∃ w8,w8 = ws:=⟨_,rfl⟩
                      have hres:resOf rs x = ⟨0,0,0⟩:=by unfold resOf; rw [HHAS.out]; rfl
                      have hbr:badRes rs x = none:=by unfold badRes; exact if_neg (fun h => by have h2:=h.1; rw [HHAS.out] at h2; exact absurd h2 (by decide))
                      have HF5:=vH (show fltFn rs [] g.funcs = fltFn rs ((g.funcs.take (i + 1)).map (fun x:Fc => x.name)) (g.funcs.drop (i + 1)) by rw [HDR4.out,HFP.out,hbr,HTN.out]; rfl)
                      clear hbr
                      have F8:=vH (show FnSt wx wy wo wz (.cells #[.string (cbs x.name),.slice fp x.params.length fc,.bool x.has,.string (cbs x.rn),.int .i64 x.rd,.slice bq bn bd,.int .i64 x.at_] 81 (0,0)) (.cells #[.slice lp g.recs.length lc,.slice ep g.globals.length ek,v,.int .i64 mn] 36 (0,0)) (.cells #[.string (cbs x.name),.slice fq x.params.length fk,.bool x.has,.int .i64 (resOf rs x).b,.int .i64 (resOf rs x).r,.int .i64 (resOf rs x).d] 60 (0,0)) w8 from by rw [hw8,hres]; exact F0.out)
                      rw [← hw8]
                      clear hw8 hres v0 v1 v2 v3 v4 v5 v6
                      obtain ⟨⟨v0,v1,v2,v3,v4,v5,v6⟩,-⟩:=sept F8.out.hf
                      rw [HB14.out] at v0 v1 v2 v3 v4 v5 v6
                      rw [HHAS.out] at v2
                      have hxl:(cbs x.name).toList = x.name:=zI _
                      by_cases hnm:x.name = mainN
                      ·have hb1:(x.name == ([109,97,105,110]:List UInt8)) = true:=by rw [hnm]; rfl
                       by_cases hl0:x.params.length = 0
                       ·have hb2:((x.params.length:Int) == 0) = true:=by rw [hl0]; rfl
                        have hpl:plainF x = true:=by unfold plainF; rw [HHAS.out,List.isEmpty_iff_length_eq_zero.2 hl0]; rfl
                        have HM2:=vH (show (i:Int) = mainTo (g.funcs.take (i + 1)) by rw [HNM.out,if_pos ⟨hnm,hpl⟩,List.length_take,Nat.min_eq_left (by have:=HJL.out; omega)])
                        clear hnm hl0 hpl
                        obtain ⟨⟨a0,a1,a2,a3⟩,f0,f1,f2,f3⟩:=quad F8.out.hh
                        have hlh:=zA F8.out.hh
                        go_upto_region 42 with fail
                        obtain ⟨wt,hwt⟩:∃ wt,wt = w8.setCell ⟨wx.heap.size,3,none⟩ (.int .i64 (i:Int)):=⟨_,rfl⟩
                        have FT:=vH (F8.out.setH HA1.out HA2.out HA3.out 3 (.int .i64 (i:Int)))
                        rw [← hwt] at FT ⊢
                        clear a0 a1 a2 a3 f0 f1 f2 f3 hlh hwt F8 v0 v1 v2 v3 v4 v5 v6 hb1 hb2 hxl
                        have HEX:=vH (show ∀ k,exs v k → wy.heap.size ≤ k ∧ k < wo.heap.size from OL.out.lt)
                        have OLT:=vH (OL.out.agg FT.out.ar)
                        have hol:((g.funcs.take i).map (sgOf rs)).length = i:=by rw [List.length_map,List.length_take]; have:=HJL.out; omega
                        clear OL
                        generalize (g.funcs.take i).map (sgOf rs) = out at OLT HTF hol
                        have HOL:=vH hol
                        obtain ⟨vp,vc,hls⟩:=OLT.out.slice
                        subst hls
                        obtain ⟨vss,hl1,hl2,hl3⟩:=id OLT.out
                        have HL1:=vH hl1
                        have HO:=vH hl2
                        have HK3:=vH hl3
                        clear hl1 hl2 hl3 hol
                        obtain ⟨⟨a0,a1,a2,a3⟩,f0,f1,f2,f3⟩:=quad FT.out.hh
                        obtain ⟨⟨b0,b1,b2,b3,b4,b5⟩,-⟩:=six FT.out.hs
                        obtain ⟨i0,hi0,hz0,hz1,hz2⟩:=info_parts zIA
                        go_wp2_with (at_builtin; refine wpList_append_own_at _ rfl _ _ 34 rfl wy.heap.size 60 i0 _ 6 72 Try.underlying34 hi0 hz0 hz1 hz2 rfl (by decide) _ out.length _ rfl (HO.out.alloc _) ⟨wt.heap.size,0,none⟩ 1 1 [.string (cbs x.name),.slice fq x.params.length fk,.bool x.has,.int .i64 (resOf rs x).b,.int .i64 (resOf rs x).r,.int .i64 (resOf rs x).d] rfl rfl ?c1 ?c2 ?c3 ?c4 ?c5 ?_)
                        case c1 => exact zAE rfl rfl
                        case c2 => exact zH6 _ _ _ _ _ _ _ _
                        case c3 => have:=HOL.out; have:=HJL.out; have:=HS.out.funcs; unfold maxLen; omega
                        case c4 => have:=HOL.out; have:=HJL.out; have:=HS.out.funcs; omega
                        case c5 => rw [zB]; have:=HA2.out; have:=FT.out.ar.size; omega
                        intro v' w9 hown hgrow _ hat
                        have O9:=vH (OwnL.more (x:=sgOf rs x) HO.out HL1.out HK3.out (But.of (B2:=wo.heap.size) (I:=fun w2 => SgIs w2 wy.heap.size (sgOf rs x) [.string (cbs x.name),.slice fq x.params.length fk,.bool x.has,.int .i64 (resOf rs x).b,.int .i64 (resOf rs x).r,.int .i64 (resOf rs x).d]) (fun w' g => zJp (zAB (zAK (zAK HLB.out FT.out.az) g) HA2.out)) HA2.out (fun k hk => (HEX.out k hk).2)) hown hgrow hat)
                        have K9:=vH (zIl (v:=.slice vp out.length vc) hgrow (fun k hk => (HEX.out k hk).1))
                        obtain ⟨np,nc,hnv⟩:=zT hown
                        subst hnv
                        clear hown hgrow hat a0 a1 a2 a3 f0 f1 f2 f3 b0 b1 b2 b3 b4 b5
                        have HB9:=vH (show Below wx.heap.size wx w9 from ⟨K9.out.2.1.1.trans FT.out.be.os,K9.out.2.1.2.1.trans FT.out.be.tape,K9.out.2.1.2.2.trans FT.out.be.output,Nat.le_trans FT.out.be.size K9.out.1,fun i hi => (K9.out.2.2 i (Nat.lt_of_lt_of_le hi FT.out.be.size) (Nat.lt_trans hi HA1.out)).trans (FT.out.be.block i hi)⟩)
                        have HH9:=vH ((K9.out.2.2 _ (zA FT.out.hh) HA1.out).trans FT.out.hh)
                        have A9:=vH (show Ag (wx.heap.size + 1) wy w9 from ⟨Nat.le_trans FT.out.ay.size K9.out.1,fun bl h1 h2 => (K9.out.2.2 bl (Nat.lt_of_lt_of_le h2 FT.out.ay.size) h2).trans (FT.out.ay.block bl h1 h2)⟩)
                        obtain ⟨⟨a0,a1,a2,a3⟩,f0,f1,f2,f3⟩:=quad HH9.out
                        have hlh:=zA HH9.out
                        go_wp2_with fail
                        have HHA:=vH (Lib.heap_setCell_same HH9.out (i:=2) (v:=.slice np (out.length + 1) nc))
                        have OA:=vH (O9.out.agg (Ag.set (Ag.refl _ _) (p:=⟨wx.heap.size,2,none⟩) (.inl HA1.out) (.slice np (out.length + 1) nc)))
                        have AA:=vH (A9.out.set (p:=⟨wx.heap.size,2,none⟩) (.inl (Nat.lt_succ_self _)) (.slice np (out.length + 1) nc))
                        go_roundg m
                        case measure => omega
                        case rel => exact ⟨i + 1,_,(i:Int),by have:=HJ.out; omega,by first | rfl | simp [hdw],zJ HB9.out (p:=⟨wx.heap.size,2,none⟩) (Nat.le_refl _) _,HHA.out,by rw [HTF.out]; exact OA.out,AA.out,HM2.out,HF5.out⟩
                       ·have hb2:((x.params.length:Int) == 0) = false:=by rw [beq_eq_false_iff_ne]; omega
                        have HM2:=vH (show mn = mainTo (g.funcs.take (i + 1)) by rw [HNM.out,if_neg (fun h => by have h2:=h.2; unfold plainF at h2; rw [Bool.and_eq_true] at h2; exact hl0 (by rw [List.isEmpty_iff_length_eq_zero.1 h2.1]))]; exact HMN.out)
                        clear hnm hl0
                        go_upto_region 42 with fail
                        obtain ⟨wt,hwt⟩:∃ wt,wt = w8:=⟨_,rfl⟩
                        have FT:=vH F8.out
                        rw [← hwt] at FT ⊢
                        clear hwt F8 v0 v1 v2 v3 v4 v5 v6 hb1 hb2 hxl
                        have HEX:=vH (show ∀ k,exs v k → wy.heap.size ≤ k ∧ k < wo.heap.size from OL.out.lt)
                        have OLT:=vH (OL.out.agg FT.out.ar)
                        have hol:((g.funcs.take i).map (sgOf rs)).length = i:=by rw [List.length_map,List.length_take]; have:=HJL.out; omega
                        clear OL
                        generalize (g.funcs.take i).map (sgOf rs) = out at OLT HTF hol
                        have HOL:=vH hol
                        obtain ⟨vp,vc,hls⟩:=OLT.out.slice
                        subst hls
                        obtain ⟨vss,hl1,hl2,hl3⟩:=id OLT.out
                        have HL1:=vH hl1
                        have HO:=vH hl2
                        have HK3:=vH hl3
                        clear hl1 hl2 hl3 hol
                        obtain ⟨⟨a0,a1,a2,a3⟩,f0,f1,f2,f3⟩:=quad FT.out.hh
                        obtain ⟨⟨b0,b1,b2,b3,b4,b5⟩,-⟩:=six FT.out.hs
                        obtain ⟨i0,hi0,hz0,hz1,hz2⟩:=info_parts zIA
                        go_wp2_with (at_builtin; refine wpList_append_own_at _ rfl _ _ 34 rfl wy.heap.size 60 i0 _ 6 72 Try.underlying34 hi0 hz0 hz1 hz2 rfl (by decide) _ out.length _ rfl (HO.out.alloc _) ⟨wt.heap.size,0,none⟩ 1 1 [.string (cbs x.name),.slice fq x.params.length fk,.bool x.has,.int .i64 (resOf rs x).b,.int .i64 (resOf rs x).r,.int .i64 (resOf rs x).d] rfl rfl ?c1 ?c2 ?c3 ?c4 ?c5 ?_)
                        case c1 => exact zAE rfl rfl
                        case c2 => exact zH6 _ _ _ _ _ _ _ _
                        case c3 => have:=HOL.out; have:=HJL.out; have:=HS.out.funcs; unfold maxLen; omega
                        case c4 => have:=HOL.out; have:=HJL.out; have:=HS.out.funcs; omega
                        case c5 => rw [zB]; have:=HA2.out; have:=FT.out.ar.size; omega
                        intro v' w9 hown hgrow _ hat
                        have O9:=vH (OwnL.more (x:=sgOf rs x) HO.out HL1.out HK3.out (But.of (B2:=wo.heap.size) (I:=fun w2 => SgIs w2 wy.heap.size (sgOf rs x) [.string (cbs x.name),.slice fq x.params.length fk,.bool x.has,.int .i64 (resOf rs x).b,.int .i64 (resOf rs x).r,.int .i64 (resOf rs x).d]) (fun w' g => zJp (zAB (zAK (zAK HLB.out FT.out.az) g) HA2.out)) HA2.out (fun k hk => (HEX.out k hk).2)) hown hgrow hat)
                        have K9:=vH (zIl (v:=.slice vp out.length vc) hgrow (fun k hk => (HEX.out k hk).1))
                        obtain ⟨np,nc,hnv⟩:=zT hown
                        subst hnv
                        clear hown hgrow hat a0 a1 a2 a3 f0 f1 f2 f3 b0 b1 b2 b3 b4 b5
                        have HB9:=vH (show Below wx.heap.size wx w9 from ⟨K9.out.2.1.1.trans FT.out.be.os,K9.out.2.1.2.1.trans FT.out.be.tape,K9.out.2.1.2.2.trans FT.out.be.output,Nat.le_trans FT.out.be.size K9.out.1,fun i hi => (K9.out.2.2 i (Nat.lt_of_lt_of_le hi FT.out.be.size) (Nat.lt_trans hi HA1.out)).trans (FT.out.be.block i hi)⟩)
                        have HH9:=vH ((K9.out.2.2 _ (zA FT.out.hh) HA1.out).trans FT.out.hh)
                        have A9:=vH (show Ag (wx.heap.size + 1) wy w9 from ⟨Nat.le_trans FT.out.ay.size K9.out.1,fun bl h1 h2 => (K9.out.2.2 bl (Nat.lt_of_lt_of_le h2 FT.out.ay.size) h2).trans (FT.out.ay.block bl h1 h2)⟩)
                        obtain ⟨⟨a0,a1,a2,a3⟩,f0,f1,f2,f3⟩:=quad HH9.out
                        have hlh:=zA HH9.out
                        go_wp2_with fail
                        have HHA:=vH (Lib.heap_setCell_same HH9.out (i:=2) (v:=.slice np (out.length + 1) nc))
                        have OA:=vH (O9.out.agg (Ag.set (Ag.refl _ _) (p:=⟨wx.heap.size,2,none⟩) (.inl HA1.out) (.slice np (out.length + 1) nc)))
                        have AA:=vH (A9.out.set (p:=⟨wx.heap.size,2,none⟩) (.inl (Nat.lt_succ_self _)) (.slice np (out.length + 1) nc))
                        go_roundg m
                        case measure => omega
                        case rel => exact ⟨i + 1,_,mn,by have:=HJ.out; omega,by first | rfl | simp [hdw],zJ HB9.out (p:=⟨wx.heap.size,2,none⟩) (Nat.le_refl _) _,HHA.out,by rw [HTF.out]; exact OA.out,AA.out,HM2.out,HF5.out⟩
                      ·have hb1:(x.name == ([109,97,105,110]:List UInt8)) = false:=by rw [beq_eq_false_iff_ne]; exact hnm
                       have HM2:=vH (show mn = mainTo (g.funcs.take (i + 1)) by rw [HNM.out,if_neg (fun h => hnm h.1)]; exact HMN.out)
                       clear hnm
                       go_upto_region 42 with fail
                       obtain ⟨wt,hwt⟩:∃ wt,wt = w8:=⟨_,rfl⟩
                       have FT:=vH F8.out
                       rw [← hwt] at FT ⊢
                       clear hwt F8 v0 v1 v2 v3 v4 v5 v6 hb1 hxl
                       have HEX:=vH (show ∀ k,exs v k → wy.heap.size ≤ k ∧ k < wo.heap.size from OL.out.lt)
                       have OLT:=vH (OL.out.agg FT.out.ar)
                       have hol:((g.funcs.take i).map (sgOf rs)).length = i:=by rw [List.length_map,List.length_take]; have:=HJL.out; omega
                       clear OL
                       generalize (g.funcs.take i).map (sgOf rs) = out at OLT HTF hol
                       have HOL:=vH hol
                       obtain ⟨vp,vc,hls⟩:=OLT.out.slice
                       subst hls
                       obtain ⟨vss,hl1,hl2,hl3⟩:=id OLT.out
                       have HL1:=vH hl1
                       have HO:=vH hl2
                       have HK3:=vH hl3
                       clear hl1 hl2 hl3 hol
                       obtain ⟨⟨a0,a1,a2,a3⟩,f0,f1,f2,f3⟩:=quad FT.out.hh
                       obtain ⟨⟨b0,b1,b2,b3,b4,b5⟩,-⟩:=six FT.out.hs
                       obtain ⟨i0,hi0,hz0,hz1,hz2⟩:=info_parts zIA
                       go_wp2_with (at_builtin; refine wpList_append_own_at _ rfl _ _ 34 rfl wy.heap.size 60 i0 _ 6 72 Try.underlying34 hi0 hz0 hz1 hz2 rfl (by decide) _ out.length _ rfl (HO.out.alloc _) ⟨wt.heap.size,0,none⟩ 1 1 [.string (cbs x.name),.slice fq x.params.length fk,.bool x.has,.int .i64 (resOf rs x).b,.int .i64 (resOf rs x).r,.int .i64 (resOf rs x).d] rfl rfl ?c1 ?c2 ?c3 ?c4 ?c5 ?_)
                       case c1 => exact zAE rfl rfl
                       case c2 => exact zH6 _ _ _ _ _ _ _ _
                       case c3 => have:=HOL.out; have:=HJL.out; have:=HS.out.funcs; unfold maxLen; omega
                       case c4 => have:=HOL.out; have:=HJL.out; have:=HS.out.funcs; omega
                       case c5 => rw [zB]; have:=HA2.out; have:=FT.out.ar.size; omega
                       intro v' w9 hown hgrow _ hat
                       have O9:=vH (OwnL.more (x:=sgOf rs x) HO.out HL1.out HK3.out (But.of (B2:=wo.heap.size) (I:=fun w2 => SgIs w2 wy.heap.size (sgOf rs x) [.string (cbs x.name),.slice fq x.params.length fk,.bool x.has,.int .i64 (resOf rs x).b,.int .i64 (resOf rs x).r,.int .i64 (resOf rs x).d]) (fun w' g => zJp (zAB (zAK (zAK HLB.out FT.out.az) g) HA2.out)) HA2.out (fun k hk => (HEX.out k hk).2)) hown hgrow hat)
                       have K9:=vH (zIl (v:=.slice vp out.length vc) hgrow (fun k hk => (HEX.out k hk).1))
                       obtain ⟨np,nc,hnv⟩:=zT hown
                       subst hnv
                       clear hown hgrow hat a0 a1 a2 a3 f0 f1 f2 f3 b0 b1 b2 b3 b4 b5
                       have HB9:=vH (show Below wx.heap.size wx w9 from ⟨K9.out.2.1.1.trans FT.out.be.os,K9.out.2.1.2.1.trans FT.out.be.tape,K9.out.2.1.2.2.trans FT.out.be.output,Nat.le_trans FT.out.be.size K9.out.1,fun i hi => (K9.out.2.2 i (Nat.lt_of_lt_of_le hi FT.out.be.size) (Nat.lt_trans hi HA1.out)).trans (FT.out.be.block i hi)⟩)
                       have HH9:=vH ((K9.out.2.2 _ (zA FT.out.hh) HA1.out).trans FT.out.hh)
                       have A9:=vH (show Ag (wx.heap.size + 1) wy w9 from ⟨Nat.le_trans FT.out.ay.size K9.out.1,fun bl h1 h2 => (K9.out.2.2 bl (Nat.lt_of_lt_of_le h2 FT.out.ay.size) h2).trans (FT.out.ay.block bl h1 h2)⟩)
                       obtain ⟨⟨a0,a1,a2,a3⟩,f0,f1,f2,f3⟩:=quad HH9.out
                       have hlh:=zA HH9.out
                       go_wp2_with fail
                       have HHA:=vH (Lib.heap_setCell_same HH9.out (i:=2) (v:=.slice np (out.length + 1) nc))
                       have OA:=vH (O9.out.agg (Ag.set (Ag.refl _ _) (p:=⟨wx.heap.size,2,none⟩) (.inl HA1.out) (.slice np (out.length + 1) nc)))
                       have AA:=vH (A9.out.set (p:=⟨wx.heap.size,2,none⟩) (.inl (Nat.lt_succ_self _)) (.slice np (out.length + 1) nc))
                       go_roundg m
                       case measure => omega
                       case rel => exact ⟨i + 1,_,mn,by have:=HJ.out; omega,by first | rfl | simp [hdw],zJ HB9.out (p:=⟨wx.heap.size,2,none⟩) (Nat.le_refl _) _,HHA.out,by rw [HTF.out]; exact OA.out,AA.out,HM2.out,HF5.out⟩
                | succ m2 =>
                  have hil:i < j:=by have:=HI.out; omega
                  have hd4:decide ((i:Int) < (j:Int)) = true:=decide_eq_true (by omega)
                  have hd6:decide (i < j) = true:=decide_eq_true hil
                  have hi2:(i:Int) < (g.funcs.length:Int):=by omega
                  have hd5:decide (g.funcs.length ≤ i) = false:=decide_eq_false (by omega)
                  have hdw2:wrap64 ((i:Int) + 1) = ((i + 1:Nat):Int):=by have:=HS.out.funcs; simp [wrap64]; omega
                  have hey:=List.getElem?_eq_getElem (show i < g.funcs.length by omega)
                  generalize g.funcs[i] = y2 at hey
                  have HT2:=vH (zU (fun p:Fc => p.name) hey)
                  have y0:=HCF.out i y2 hey _ GI.out.be
                  have hyl:(cbs y2.name).toList = y2.name:=zI _
                  have hxl:(cbs x.name).toList = x.name:=zI _
                  by_cases hsame:y2.name = x.name
                  ·have hb1:(y2.name == x.name) = true:=by simpa using hsame
                   have hmem:x.name ∈ (g.funcs.take j).map (fun p:Fc => p.name):=(zCX (fun p:Fc => p.name)).2 ⟨i,y2,hil,hey,hsame⟩
                   have hdr:=HF4.out
                   rw [HDR.out,fltFn,if_pos hmem] at hdr
                   have hfl:flt g = some x.at_:=by
                    unfold flt
                    rw [← zBe,← zBe,zBe (fltRs [] g.recs),HRS.out,HR2.out,hdr]
                    rfl
                   obtain rfl:(HdsH.zero,(3:Int),x.at_) = y:=by rw [← HY.out]; unfold make; rw [hfl]
                   clear hmem hdr hfl hsame hey hil
                   go_wp2_with fail
                   go_quiet (fail)
                   go_wp2_with fail
                   refine (zB1 _ x.at_).mono ?_
                   rintro e w5 ⟨rfl,hb⟩
                   have G5:=vH ((GI.out.go (zF (Below.refl _ _) _)).go hb)
                   clear hb u0 u1 u2 v0 v1 v2 v3 v4 v5 v6 y0
                   obtain ⟨⟨r0,r1,r2,r3⟩,s0,s1,s2,s3⟩:=quad G5.out.rs
                   obtain ⟨⟨f0,f1⟩,t0,t1⟩:=duo G5.out.ft
                   have hlr:=zA G5.out.rs
                   have hlf:=zA G5.out.ft
                   have hn1:w.heap.size + 1 ≠ w.heap.size + 1 + 1:=by omega
                   have hn2:=Ne.symm hn1
                   go_wp2_with fail
                   exact bodyPost_ret (v:=.tuple #[.agg #[.slice none 0 0,.slice none 0 0,.slice none 0 0,.int .i64 0],.agg #[.int .i64 3,.int .i64 x.at_]]) (by simp [results,Try.results11,go_sem,r0,r1,r2,r3,f0,f1]) rfl
                    ⟨none,0,0,none,0,0,none,0,0,0,rfl,HdIs.zero,G5.out.bad _⟩
                  ·have hb1:(y2.name == x.name) = false:=by rw [beq_eq_false_iff_ne]; exact hsame
                   have HNS:=vH (show x.name ∉ (g.funcs.take (i + 1)).map (fun p:Fc => p.name) by rw [HT2.out]; intro h; rcases List.mem_append.1 h with h | h; exact HNOT.out h; exact hsame (List.mem_singleton.1 h).symm)
                   clear hsame hey hil
                   go_wp2_with fail
                   go_quiet (fail)
                   go_wp2_with fail
                   go_roundg m2
                   case measure => omega
                   case rel => exact ⟨i + 1,by have:=HI.out; omega,by first | rfl | simp [hdw2],zF HBQ.out _,HNS.out⟩
        | succ m =>
          have hjl:j < g.recs.length:=by have:=HJ.out; omega
          have hd1:decide ((j:Int) < (g.recs.length:Int)) = true:=decide_eq_true (by omega)
          have hi1:(j:Int) < (g.recs.length:Int):=by omega
          have hd2:decide (g.recs.length ≤ j) = false:=decide_eq_false (by omega)
          have hdw:wrap64 ((j:Int) + 1) = ((j + 1:Nat):Int):=by have:=HS.out.recs; simp [wrap64]; omega
          have he:=List.getElem?_eq_getElem hjl
          have hsm:=HS.out.rec1 _ (List.getElem_mem hjl)
          generalize g.recs[j] = x at he hsm
          have HTF:=vH (zU (shOf rs) he)
          have HDR:=vH (zS he)
          have hne:rs[j]? = some x.name:=by rw [← HRS.out]; unfold recNames; rw [List.getElem?_map,he]; rfl
          obtain ⟨bl,off,hbl0,hbl,hcc⟩:=zD9 HN.out hne
          obtain ⟨bR,oR,hqR,hbR,hcR⟩:=zD5 H1.out he
          obtain ⟨fp,fc,hlat,hxR⟩:=hcR j x he
          have GQ:=vH (G.out.go HBR.out)
          have hn0:=hcc j x.name hne _ HBR.out
          have hr1:=(hxR _ GQ.out.be).2.1
          have HN0:=vH (hcc j x.name hne)
          have HFQ:=vH (zBm wr rs nq nk x.fields fp fc (zCU HN.out (Ag.below HBR.out)) (by rw [← HRL.out]; exact HS.out.recs) (zEX hlat (Ag.below GQ.out.be)) hsm.2.1)
          rw [← HRL.out] at HFQ
          obtain rfl:some ⟨bl,off,none⟩ = nq:=hbl0.symm
          obtain rfl:some ⟨bR,oR,none⟩ = q1:=hqR.symm
          obtain ⟨⟨u0,u1,u2⟩,-⟩:=tri GQ.out.bx
          clear he hsm hne hcc hcR hxR hlat hbl0 hqR
          have HRL0:=vH (show ((fltRs [] g.recs).or (fltFs rs g.recs)) = fltFs rs g.recs by rw [HF.out]; rfl)
          cases hfp:fltPs rs [] x.fields with
          | some a =>
            have hqf:qf rs x.fields = ([],3,a):=by unfold qf; rw [hfp]
            rw [hqf] at HFQ
            have hfl:flt g = some a:=by
             unfold flt
             rw [← zBe,HRS.out,HRL0.out,HF2.out,HDR.out,fltFs,hfp]
             rfl
            obtain rfl:(HdsH.zero,(3:Int),a) = y:=by rw [← HY.out]; unfold make; rw [hfl]
            clear hqf hfl hfp
            go_wp2_with fail
            refine HFQ.out.mono ?_
            rintro e w5 ⟨ep,ek,rfl,-,hb⟩
            have G5:=vH (GQ.out.go hb)
            have HE5:=vH (heap_alloc_new w5 (.cells #[.int .i64 3,.int .i64 a] 29))
            clear hb u0 u1 u2 hr1 hn0
            obtain ⟨wz,hwz⟩:∃ wz,wz = w5.alloc (.cells #[.int .i64 3,.int .i64 a] 29):=⟨_,rfl⟩
            have G6:=vH (G5.out.go (show Below w5.heap.size w5 wz by rw [hwz]; exact zC (Below.refl _ _)))
            rw [← hwz] at HE5
            obtain ⟨⟨e0,e1⟩,-⟩:=duo HE5.out
            go_upto_region 15 with fail
            rw [← hwz]
            clear hwz
            obtain ⟨⟨r0,r1,r2,r3⟩,s0,s1,s2,s3⟩:=quad G6.out.rs
            obtain ⟨⟨f0,f1⟩,t0,t1⟩:=duo G6.out.ft
            have hlr:=zA G6.out.rs
            have hlf:=zA G6.out.ft
            have hn1:w.heap.size + 1 ≠ w.heap.size + 1 + 1:=by omega
            have hn2:=Ne.symm hn1
            have hn3:w5.heap.size ≠ w.heap.size + 1:=by have:=G5.out.sz; omega
            go_wp2_with fail
            go_region
            all_goals
             go_wp2_with fail
             exact bodyPost_ret (v:=.tuple #[.agg #[.slice none 0 0,.slice none 0 0,.slice none 0 0,.int .i64 0],.agg #[.int .i64 3,.int .i64 a]]) (by simp [results,Try.results11,go_sem,r0,r1,r2,r3,f0,f1]) rfl
              ⟨none,0,0,none,0,0,none,0,0,0,rfl,HdIs.zero,zAc (G6.out.bad _)⟩
          | none =>
            have hqf:qf rs x.fields = (x.fields.map (fdOf rs),0,0):=by unfold qf; rw [hfp]
            rw [hqf] at HFQ
            have HFP:=vH hfp
            clear hqf hfp
            go_wp2_with fail
            refine HFQ.out.mono ?_
            rintro e w5 ⟨ep,ek,he5,hla,hb⟩
            dsimp only at he5 hla
            rw [List.length_map] at he5
            subst he5
            obtain ⟨wz,hwz⟩:∃ wz,wz = w5.alloc (.cells #[.int .i64 (0),.int .i64 0] 29):=⟨_,rfl⟩
            have hbz:Below wr.heap.size wr wz:=by rw [hwz]; exact zC hb
            have HEZ:=vH (show wz.heap[w5.heap.size]? = some (.cells #[.int .i64 (0),.int .i64 0] 29 (0,0)) by rw [hwz]; exact heap_alloc_new w5 _)
            have HLA:=vH (show LAt FdIs 4 wz wr.heap.size ep (x.fields.map (fdOf rs)) by rw [hwz]; exact zAK hla (Ag.below (zC (Below.refl _ _))))
            have HBZ:=vH (zE HBR.out hbz HBR.out.size)
            have HHZ:=vH ((hbz.block _ (zA HH.out)).trans HH.out)
            have HEX:=vH (show ∀ k,exs v k → wx.heap.size + 1 ≤ k ∧ k < wr.heap.size from OL.out.lt)
            replace OL:=vH (OL.out.agg (Ag.below hbz))
            have HWX:=vH (show wx.heap.size + 1 ≤ wr.heap.size from zA HH.out)
            have HWZ:=vH (show wr.heap.size ≤ wz.heap.size from hbz.size)
            have hol:((g.recs.take j).map (shOf rs)).length = j:=by rw [List.length_map,List.length_take]; omega
            generalize (g.recs.take j).map (shOf rs) = out at OL HTF hol
            have HOL:=vH hol
            obtain ⟨lp,lc,hls⟩:=OL.out.slice
            subst hls
            obtain ⟨vss,hl1,hl2,hl3⟩:=id OL.out
            have HL1:=vH hl1
            have HO:=vH hl2
            have HK3:=vH hl3
            obtain ⟨⟨e0,e1⟩,-⟩:=duo HEZ.out
            obtain ⟨⟨a0,a1,a2,a3⟩,f0,f1,f2,f3⟩:=quad HHZ.out
            have hla2:=zA HHZ.out
            have hnz:=HN0.out _ HBZ.out
            clear hla hb hbz hol u0 u1 u2 hr1 hn0 hl1 hl2 hl3
            go_upto_region 15 with fail
            rw [← hwz]
            clear hwz
            go_wp2_with fail
            obtain ⟨i0,hi0,hz0,hz1,hz2⟩:=info_parts zGc
            go_region_law (first
             | (refine zP rfl (.tmp 76) (.tmp 83) 32 rfl (wx.heap.size + 1) 55 i0 _ 2 40 Try.underlying32 hi0 hz0 hz1 hz2 rfl (by decide) (.slice lp out.length lc) out.length vss.flatten (by simp [Act.eval]) (zD7 (HO.out.alloc _)) ⟨wz.heap.size,0,none⟩ 1 1 [.string (cbs x.name),.slice ep x.fields.length ek] (by simp [Act.eval]) rfl (zAE rfl rfl) (zFm _ _ _ _) (by have:=HOL.out; have:=HJ.out; have:=HS.out.recs; unfold maxLen; omega) (by have:=HOL.out; have:=HJ.out; have:=HS.out.recs; omega) (by show wx.heap.size + 1 ≤ (wz.alloc _).heap.size; rw [zB]; have:=HWX.out; have:=HWZ.out; omega) ?_; intro v' w8 hown hgrow hat; have O8:=vH (OwnL.more (x:=shOf rs x) HO.out HL1.out HK3.out (But.of (B2:=wr.heap.size) (I:=fun w2 => ShIs w2 (wx.heap.size + 1) (shOf rs x) [.string (cbs x.name),.slice ep x.fields.length ek]) (fun w' g => zHG (zAB (zAK HLA.out g) HWX.out)) HWX.out (fun k hk => (HEX.out k hk).2)) hown (zBF hgrow) (by rw [← zB wz _]; exact hat)); have K8:=vH (zIl (v:=.slice lp out.length lc) (zBF hgrow) (fun k hk => (HEX.out k hk).1)); have HH8:=vH ((K8.out.2.2 _ (zA HHZ.out) (Nat.lt_succ_self _)).trans HHZ.out); obtain ⟨np,nc,hnv⟩:=zT hown; subst hnv; clear hown hgrow hat; clear a0 a1 a2 a3 f0 f1 f2 f3 hla2; obtain ⟨⟨a0,a1,a2,a3⟩,f0,f1,f2,f3⟩:=quad HH8.out; have hla2:=zA HH8.out)
             | (go_simp; fail))
            all_goals
             go_wp2_with fail
             have HB8:=vH (show Below wx.heap.size wx w8 from ⟨K8.out.2.1.1.trans HBZ.out.os,K8.out.2.1.2.1.trans HBZ.out.tape,K8.out.2.1.2.2.trans HBZ.out.output,Nat.le_trans HBZ.out.size K8.out.1,fun i hi => (K8.out.2.2 i (Nat.lt_of_lt_of_le hi HBZ.out.size) (Nat.lt_succ_of_lt hi)).trans (HBZ.out.block i hi)⟩)
             have HH9:=vH (Lib.heap_setCell_same HH8.out (i:=0) (v:=.slice np (out.length + 1) nc))
             have O9:=vH (O8.out.agg (Ag.set (Ag.refl _ _) (p:=⟨wx.heap.size,0,none⟩) (.inl (Nat.lt_succ_self _)) (.slice np (out.length + 1) nc)))
             go_roundg m
             case measure => omega
             case rel => exact ⟨j + 1,_,by have:=HJ.out; omega,by first | rfl | simp [hdw],zJ HB8.out (p:=⟨wx.heap.size,0,none⟩) (Nat.le_refl _) _,HH9.out,by rw [HTF.out]; exact O9.out,by rw [HF2.out,HDR.out,fltFs,HFP.out]; rfl⟩
  | succ m =>
    have hjl:j < g.recs.length:=by have:=HJ.out; omega
    have hd1:decide ((j:Int) < (g.recs.length:Int)) = true:=decide_eq_true (by omega)
    have hi1:(j:Int) < (g.recs.length:Int):=by omega
    have hd2:decide (g.recs.length ≤ j) = false:=decide_eq_false (by omega)
    have hdw:wrap64 ((j:Int) + 1) = ((j + 1:Nat):Int):=by have:=HS.out.recs; simp [wrap64]; omega
    have he:=List.getElem?_eq_getElem hjl
    generalize g.recs[j] = x at he
    have HE:=vH he
    have HTN:=vH (zU (fun p:Rc => p.name) he)
    have HDR:=vH (zS he)
    have hne:(recNames g)[j]? = some x.name:=by unfold recNames; rw [List.getElem?_map,he]; rfl
    obtain ⟨bl,off,hbl0,hbl,hcc⟩:=zD9 HN.out hne
    have HCC:=vH hcc
    have HNE:=vH hne
    obtain rfl:some ⟨bl,off,none⟩ = nq:=hbl0.symm
    obtain ⟨bR,oR,hqR,hbR,hcR⟩:=zD5 H1.out he
    obtain ⟨fpR,fcR,-,hxR⟩:=hcR j x he
    have HAT:=vH (fun w2 hb => (hxR w2 hb).2.2)
    obtain rfl:some ⟨bR,oR,none⟩ = q1:=hqR.symm
    clear hcc he hbl0 hne hcR hxR hqR
    go_wp2_with fail
    go_loopg [6] j (fun n kv wq => ∃ i:Nat,n + i = j ∧ kv = .int .i64 (i:Int) ∧ Below w1.heap.size w1 wq ∧ x.name ∉ (g.recs.take i).map (fun p:Rc => p.name))
    case atStart => exact ⟨0,rfl,rfl,HBR.out,by simp⟩
    case round =>
        obtain ⟨i,hi,rfl,hbq,hnot⟩:=hrel
        have HI:=vH hi
        have HBQ:=vH hbq
        have HNOT:=vH hnot
        clear hi hbq hnot
        cases gk with
        | zero =>
          obtain rfl:i = j:=by have:=HI.out; omega
          have hd4:decide ((i:Int) < (i:Int)) = false:=decide_eq_false (by omega)
          have hd6:decide (i < i) = false:=decide_eq_false (Nat.lt_irrefl _)
          have hdr:=HF.out
          rw [HDR.out,fltRs,if_neg HNOT.out,← HTN.out] at hdr
          have HD2:=vH hdr
          clear hdr
          go_wp2_with fail
          go_roundg m
          case measure => omega
          case rel => exact ⟨i + 1,by have:=HJ.out; omega,by first | rfl | simp [hdw],HBQ.out,HD2.out⟩
        | succ m2 =>
          have hil:i < j:=by have:=HI.out; omega
          have hd4:decide ((i:Int) < (j:Int)) = true:=decide_eq_true (by omega)
          have hd6:decide (i < j) = true:=decide_eq_true hil
          have hi2:(i:Int) < (g.recs.length:Int):=by omega
          have hd5:decide (g.recs.length ≤ i) = false:=decide_eq_false (by omega)
          have hdw2:wrap64 ((i:Int) + 1) = ((i + 1:Nat):Int):=by have:=HS.out.recs; simp [wrap64]; omega
          have hey:=List.getElem?_eq_getElem (show i < g.recs.length by omega)
          generalize g.recs[i] = y2 at hey
          have HT2:=vH (zU (fun p:Rc => p.name) hey)
          have hney:(recNames g)[i]? = some y2.name:=by unfold recNames; rw [List.getElem?_map,hey]; rfl
          have y0:=HCC.out i y2.name hney _ HBQ.out
          have x0:=HCC.out j x.name HNE.out _ HBQ.out
          have hyl:(cbs y2.name).toList = y2.name:=zI _
          have hxl:(cbs x.name).toList = x.name:=zI _
          clear hney
          by_cases hsame:y2.name = x.name
          ·have hb1:(y2.name == x.name) = true:=by simpa using hsame
           have hmem:x.name ∈ (g.recs.take j).map (fun p:Rc => p.name):=(zCX (fun p:Rc => p.name)).2 ⟨i,y2,hil,hey,hsame⟩
           have hdr:=HF.out
           rw [HDR.out,fltRs,if_pos hmem] at hdr
           have hfl:flt g = some x.at_:=by unfold flt; rw [hdr]; rfl
           obtain rfl:(HdsH.zero,(3:Int),x.at_) = y:=by rw [← HY.out]; unfold make; rw [hfl]
           have GQ:=vH (G.out.go HBQ.out)
           obtain ⟨⟨u0,u1,u2⟩,-⟩:=tri GQ.out.bx
           have x2:=HAT.out _ GQ.out.be
           have HI3:=vH hi1
           clear hmem hdr hfl hsame hey hil
           go_wp2_with fail
           go_quiet (fail)
           go_wp2_with fail
           refine (zB1 _ x.at_).mono ?_
           rintro e w5 ⟨rfl,hb⟩
           have G5:=vH ((GQ.out.go (zF (Below.refl _ _) _)).go hb)
           clear hb u0 u1 u2 x2 x0 y0
           obtain ⟨⟨r0,r1,r2,r3⟩,s0,s1,s2,s3⟩:=quad G5.out.rs
           obtain ⟨⟨f0,f1⟩,t0,t1⟩:=duo G5.out.ft
           have hlr:=zA G5.out.rs
           have hlf:=zA G5.out.ft
           have hn1:w.heap.size + 1 ≠ w.heap.size + 1 + 1:=by omega
           have hn2:=Ne.symm hn1
           go_wp2_with fail
           exact bodyPost_ret (v:=.tuple #[.agg #[.slice none 0 0,.slice none 0 0,.slice none 0 0,.int .i64 0],.agg #[.int .i64 3,.int .i64 x.at_]]) (by simp [results,Try.results11,go_sem,r0,r1,r2,r3,f0,f1]) rfl
            ⟨none,0,0,none,0,0,none,0,0,0,rfl,HdIs.zero,G5.out.bad _⟩
          ·have hb1:(y2.name == x.name) = false:=by rw [beq_eq_false_iff_ne]; exact hsame
           clear hey hil
           have HNS:=vH (show x.name ∉ (g.recs.take (i + 1)).map (fun p:Rc => p.name) by rw [HT2.out]; intro h; rcases List.mem_append.1 h with h | h; exact HNOT.out h; exact hsame (List.mem_singleton.1 h).symm)
           clear hsame
           go_wp2_with fail
           go_quiet (fail)
           go_wp2_with fail
           go_roundg m2
           case measure => omega
           case rel => exact ⟨i + 1,by have:=HI.out; omega,by first | rfl | simp [hdw2],zF HBQ.out _,HNS.out⟩
end Go.Proofs.Ytjleggpbghmobaa
