/-
  The project's program: all that is known of a program, or th
-/
import Derived.Test.YtjleggpbghmobaaK01
import Derived.Test.YtjleggpbghmobaaK28
set_option maxRecDepth 8000
namespace Go.Proofs.Ytjleggpbghmobaa
open Go.RowKit
open Pg (Pm Rc Fc Gm)
open Hs (Nm TypH FldH ShpH SigH HdsH find refuse tyOf zAg zBe fdOf shOf sgOf resOf recNames flt fltPs fltRs fltFs fltFn fltMain zCD zCF zU zS)
structure GmSm (g:Gm):Prop where
 recs:g.recs.length ≤ 9000000000
 globals:g.globals.length ≤ 9000000000
 funcs:g.funcs.length ≤ 9000000000
 rec1:∀ r ∈ g.recs,r.name.length ≤ 281474976710656 ∧ r.fields.length ≤ 9000000000 ∧ ∀ p ∈ r.fields,PmSm p
 glob1:∀ p ∈ g.globals,PmSm p
 func1:∀ f ∈ g.funcs,f.name.length ≤ 281474976710656 ∧ f.rn.length ≤ 281474976710656 ∧ f.params.length ≤ 9000000000 ∧ ∀ p ∈ f.params,PmSm p
def hdX (g:Gm):HdsH:=⟨g.recs.map (shOf (recNames g)),g.globals.map (fdOf (recNames g)),g.funcs.map (sgOf (recNames g)),(mainIx g.funcs:Int)⟩
def PrPost (w:World)(R M:Nat)(g:Gm)(e:Ending)(w':World):Prop:=
 ∃ p n c q m d r k f mn,e = .returned (.agg #[.slice p n c,.slice q m d,.slice r k f,.int .i64 mn]) ∧ HdIs w' w.heap.size (hdX g) [.slice p n c,.slice q m d,.slice r k f,.int .i64 mn] ∧ ChkM w' R M (flt g) ∧ GrTw R M w w'
theorem rcAt {w0 w wr:World}{R M:Nat}{q:Option Addr}{l:List Rc}(h:LAt RcIs 3 w0 0 q l)(h0:Below w0.heap.size w0 w)(hg:GrTw R M w wr)(hR:w0.heap.size ≤ R)(hM:w0.heap.size ≤ M):LAt RcIs 3 wr 0 q l:=
 h.ag (fun _ _ h => h.ag ⟨Nat.le_trans h0.size hg.size,fun bl _ hl => (hg.block bl (Nat.lt_of_lt_of_le hl h0.size) (by omega) (by omega)).trans (h0.block bl hl)⟩) ⟨Nat.le_trans h0.size hg.size,fun bl _ hl => (hg.block bl (Nat.lt_of_lt_of_le hl h0.size) (by omega) (by omega)).trans (h0.block bl hl)⟩
theorem fcAt {w0 w wr:World}{R M:Nat}{q:Option Addr}{l:List Fc}(h:LAt FcIs 7 w0 0 q l)(h0:Below w0.heap.size w0 w)(hg:GrTw R M w wr)(hR:w0.heap.size ≤ R)(hM:w0.heap.size ≤ M):LAt FcIs 7 wr 0 q l:=
 h.ag (fun _ _ h => h.ag ⟨Nat.le_trans h0.size hg.size,fun bl _ hl => (hg.block bl (Nat.lt_of_lt_of_le hl h0.size) (by omega) (by omega)).trans (h0.block bl hl)⟩) ⟨Nat.le_trans h0.size hg.size,fun bl _ hl => (hg.block bl (Nat.lt_of_lt_of_le hl h0.size) (by omega) (by omega)).trans (h0.block bl hl)⟩
theorem zJD {w0 w wr:World}{R M:Nat}(h0:Below w0.heap.size w0 w)(hg:GrTw R M w wr)(hR:w0.heap.size ≤ R)(hM:w0.heap.size ≤ M):Below w0.heap.size w0 wr:=
 ⟨hg.os.trans h0.os,hg.tape.trans h0.tape,hg.output.trans h0.output,Nat.le_trans h0.size hg.size,fun bl hl => (hg.block bl (Nat.lt_of_lt_of_le hl h0.size) (by omega) (by omega)).trans (h0.block bl hl)⟩
theorem agTw {R b B:Nat}{w w':World}(h:GrTw R b w w')(hR:R < B)(hb:b < B ∨ w.heap.size ≤ b):Ag B w w':=⟨h.size,fun bl h1 h2 => h.block bl h2 (by omega) (by omega)⟩
theorem Ag.tw {R b B:Nat}{w4 w w':World}(h:Ag B w4 w)(hg:GrTw R b w w')(hR:R < B)(hb:w4.heap.size ≤ b):Ag B w4 w':=⟨Nat.le_trans h.size hg.size,fun bl h1 h2 => (hg.block bl (Nat.lt_of_lt_of_le h2 h.size) (by omega) (by omega)).trans (h.block bl h1 h2)⟩
theorem Ag.own {B:Nat}{w4 w w':World}{v:Value}{o:Obj}(h:Ag B w4 w)(hg:(w.alloc o).grownBy w' v.ownBlock)(hv:∀ k,v.ownBlock = some k → w4.heap.size ≤ k):Ag B w4 w':=
 ⟨by have:=hg.size; rw [zB] at this; have:=h.size; omega,fun bl h1 h2 => ((hg.block bl (by rw [zB]; have:=h.size; omega) (fun e => by have:=hv bl e.symm; omega)).trans (heap_alloc_old _ _ (Nat.lt_of_lt_of_le h2 h.size))).trans (h.block bl h1 h2)⟩
theorem zJp {w:World}{B:Nat}{rs:List Nm}{x:Fc}{p:Option Addr}{k:Nat}(h:LAt FdIs 4 w B p (x.params.map (fdOf rs))):SgIs w B (sgOf rs x) [.string (cbs x.name),.slice p x.params.length k,.bool x.has,.int .i64 (resOf rs x).b,.int .i64 (resOf rs x).r,.int .i64 (resOf rs x).d]:=
 ⟨p,k,by unfold sgOf; rw [List.length_map],h⟩
theorem GrTw.setNew {R b:Nat}{w w1:World}(h:GrTw R b w w1){p:Addr}(hp:w.heap.size ≤ p.block)(u:Value):GrTw R b w (w1.setCell p u):=
 ⟨h.os,h.tape,h.output,by rw [zR]; exact h.size,fun i h1 h2 h3 => (Below.heap_setCell w1 p u i (by omega)).trans (h.block i h1 h2 h3)⟩
theorem zJS {wf:World}{B:Nat}{g:Gm}{rs:List Nm}{lp gp vp:Option Addr}{lc gk vc:Nat}(hrs:recNames g = rs)(h1:LAt ShIs 2 wf B lp (g.recs.map (shOf rs)))(h2:LAt FdIs 4 wf B gp (g.globals.map (fdOf rs)))(h3:LAt SgIs 6 wf B vp (g.funcs.map (sgOf rs))) :
 HdIs wf B (hdX g) [.slice lp g.recs.length lc,.slice gp g.globals.length gk,.slice vp g.funcs.length vc,.int .i64 (mainIx g.funcs:Int)]:=by
 subst hrs
 exact ⟨lp,lc,gp,gk,vp,vc,by simp [hdX],h1,h2,h3⟩
theorem zHG {w:World}{B:Nat}{rs:List Nm}{x:Rc}{p:Option Addr}{k:Nat}(h:LAt FdIs 4 w B p (x.fields.map (fdOf rs))):ShIs w B (shOf rs x) [.string (cbs x.name),.slice p x.fields.length k]:=
 ⟨p,k,by unfold shOf; rw [List.length_map],h⟩
set_option maxHeartbeats 16000000 in
theorem zDj (w0 w:World)(R M:Nat)(g:Gm)(q1 q2 q3:Option Addr)(k1 k2 k3:Nat)(h0:Below w0.heap.size w0 w)(hR0:w0.heap.size ≤ R)(hM0:w0.heap.size ≤ M)(hp1:LAt RcIs 3 w0 0 q1 g.recs)(hp2:LAt PIs 4 w0 0 q2 g.globals)(hp3:LAt FcIs 7 w0 0 q3 g.funcs)(hc:ChkM w R M none)(hm:NamM w M [])(hne:M ≠ R)(hs:GmSm g) :
 Calls Try.prog 29 #[.pointer (some ⟨R,0,none⟩),.agg #[.slice q1 g.recs.length k1,.slice q2 g.globals.length k2,.slice q3 g.funcs.length k3]] w (PrPost w R M g):=by
 have hmm:∀ (t:TypeId) (w:World),(Instr.makeMap t none).run Try.prog w = .ok (.map (some w.heap.size)) (w.alloc (.map #[] 0)):=fun _ _ => rfl
 have HMD:=vH (fun u (hg:GrTw R M w u) => zJD h0 hg hR0 hM0)
 have HR0:=vH hR0
 have H1:=vH (fun u (hg:GrTw R M w u) => rcAt hp1 h0 hg hR0 hM0)
 have H3:=vH (fun u (hg:GrTw R M w u) => fcAt hp3 h0 hg hR0 hM0)
 have HP2:=vH hp2
 have HP3:=vH hp3
 have HP1:=vH hp1
 have HS:=vH hs
 have HR:=vH hc.lt
 have HM:=vH hm.lt
 have HNE:=vH hne
 have HFL:=vH (show flt g = (fltRs [] g.recs).or ((fltFs (recNames g) g.recs).or ((fltPs (recNames g) [] g.globals).or ((fltFn (recNames g) [] g.funcs).or (fltMain g.funcs)))) from rfl)
 obtain ⟨wa,hwa⟩:∃ wa,wa = ((w.alloc (.cells #[.slice q1 g.recs.length k1,.slice q2 g.globals.length k2,.slice q3 g.funcs.length k3] 26)).alloc (.cells #[.slice none 0 0,.slice none 0 0,.slice none 0 0,.int .i64 0] 36)).alloc (.cells #[.slice none 0 0,.slice none 0 0,.slice none 0 0,.int .i64 0] 36):=⟨_,rfl⟩
 have hba:Below w.heap.size w wa:=by rw [hwa]; exact zC (zC (zC (Below.refl _ _)))
 have G0:=vH (show PrSt w R M (.cells #[.slice q1 g.recs.length k1,.slice q2 g.globals.length k2,.slice q3 g.funcs.length k3] 26 (0,0)) [] (.slice none 0 0) (.slice none 0 0) (.slice none 0 0) (.int .i64 0) none wa from
  ⟨hc.below hba,hm.below hba,GrTw.of (Gr.of hba),by rw [hwa]; exact zD _ (zD _ (heap_alloc_new w _)),by rw [hwa]; refine zD _ ?_; have:=heap_alloc_new (w.alloc (.cells #[.slice q1 g.recs.length k1,.slice q2 g.globals.length k2,.slice q3 g.funcs.length k3] 26)) (.cells #[.slice none 0 0,.slice none 0 0,.slice none 0 0,.int .i64 0] 36); rw [zB] at this; exact this,
   by rw [hwa]; have:=heap_alloc_new ((w.alloc (.cells #[.slice q1 g.recs.length k1,.slice q2 g.globals.length k2,.slice q3 g.funcs.length k3] 26)).alloc (.cells #[.slice none 0 0,.slice none 0 0,.slice none 0 0,.int .i64 0] 36)) (.cells #[.slice none 0 0,.slice none 0 0,.slice none 0 0,.int .i64 0] 36); rw [zB,zB] at this; exact this⟩)
 clear h0 hR0 hM0 hp1 hp2 hp3 hc hm hne hs hba
 obtain ⟨⟨x0,x1,x2⟩,-⟩:=tri G0.out.bx
 go_in
 go_wp2_with fail
 rw [← hwa]
 clear hwa x0 x1 x2
 go_loopg [16] g.recs.length (fun n i wr => ∃ (j:Nat) (c':Option Int),n + j = g.recs.length ∧ i = .int .i64 (j:Int) ∧ PrSt w R M (.cells #[.slice q1 g.recs.length k1,.slice q2 g.globals.length k2,.slice q3 g.funcs.length k3] 26 (0,0)) ((g.recs.take j).map (fun x => x.name)) (.slice none 0 0) (.slice none 0 0) (.slice none 0 0) (.int .i64 0) c' wr ∧ fltRs [] g.recs = c'.or (fltRs ((g.recs.take j).map (fun x => x.name)) (g.recs.drop j)))
 case atStart => exact ⟨0,none,rfl,rfl,G0.out,rfl⟩
 case round =>
  obtain ⟨j,c',hj,rfl,hg,hf⟩:=hrel
  have G:=vH hg
  have HF:=vH hf
  have HJ:=vH hj
  clear hg hf hj G0
  cases gk with
  | zero =>
    obtain rfl:j = g.recs.length:=by have:=HJ.out; omega
    have hd1:decide ((g.recs.length:Int) < (g.recs.length:Int)) = false:=decide_eq_false (by omega)
    have hF:fltRs [] g.recs = c':=by have h:=HF.out; rw [List.drop_length,fltRs,zAg] at h; exact h
    have hG:=G.out
    rw [List.take_length] at hG
    replace G:=vH hG
    replace HF:=vH hF
    clear hG hF HJ
    have hG2:=G.out
    rw [show g.recs.map (fun x:Rc => x.name) = recNames g from rfl] at hG2
    generalize hrs:recNames g = rs at hG2 HFL
    have HRS:=vH hrs
    replace G:=vH hG2
    clear hG2 hrs
    obtain ⟨⟨x0,x1,x2⟩,-⟩:=tri G.out.bx
    go_wp2_with fail
    clear x0 x1 x2
    go_loopg [36] g.recs.length (fun n i wr => ∃ (j:Nat) (c2:Option Int) (v:Value),n + j = g.recs.length ∧ i = .int .i64 (j:Int) ∧ PrSt w R M _ rs v (.slice none 0 0) (.slice none 0 0) (.int .i64 0) c2 wr ∧ OwnL ShIs 55 2 (exs v) (w.heap.size + 3) v ((g.recs.take j).map (shOf rs)) wr ∧ c'.or (fltFs rs g.recs) = c2.or (fltFs rs (g.recs.drop j)))
    case atStart => exact ⟨0,c',_,rfl,rfl,G.out,OwnL.nil _,rfl⟩
    case round =>
        obtain ⟨j,c2,v,hj,rfl,hg,ho,hf⟩:=hrel
        have G:=vH hg
        have OL:=vH ho
        have HF2:=vH hf
        have HJ:=vH hj
        clear hg ho hf hj
        cases gk with
        | zero =>
          obtain rfl:j = g.recs.length:=by have:=HJ.out; omega
          have hd1:decide ((g.recs.length:Int) < (g.recs.length:Int)) = false:=decide_eq_false (by omega)
          have hF:c'.or (fltFs rs g.recs) = c2:=by have h:=HF2.out; rw [List.drop_length,fltFs,zAg] at h; exact h
          have hO:=OL.out
          rw [List.take_length] at hO
          obtain ⟨lp,lc,hlv,hlr⟩:=hO.done ShIs.len
          rw [List.length_map] at hlv
          subst hlv
          have HLR:=vH hlr
          replace HF2:=vH hF
          clear hO hF hlr HJ OL
          obtain ⟨⟨x0,x1,x2⟩,-⟩:=tri G.out.bx
          obtain ⟨⟨a0,a1,a2,a3⟩,f0,f1,f2,f3⟩:=quad G.out.hb
          have hla:=zA G.out.hb
          go_wp2_with fail
          refine (zBn w0 wr R M c2 rs g.globals q2 k2 (HMD.out wr G.out.gt) HR0.out HP2.out G.out.ck G.out.rcn HNE.out HS.out.glob1 HS.out.globals).mono ?_
          rintro e w3 ⟨gp,gk,rfl,hlg,hck,hg⟩
          have HLG:=vH (zAB hlg (show w.heap.size + 3 ≤ wr.heap.size from G.out.lt))
          replace HLR:=vH (HLR.out.ag (fun _ _ h => h.ag (Ag.gr hg (by have:=HR.out; omega))) (Ag.gr hg (by have:=HR.out; omega)))
          replace G:=vH (G.out.step HR.out HM.out HNE.out hck hg)
          clear hlg hck hg a0 a1 a2 a3 f0 f1 f2 f3 hla x0 x1 x2
          obtain ⟨⟨x0,x1,x2⟩,-⟩:=tri G.out.bx
          obtain ⟨⟨a0,a1,a2,a3⟩,f0,f1,f2,f3⟩:=quad G.out.hb
          have hla:=zA G.out.hb
          go_upto_region 14 with fail
          obtain ⟨w4,hw4⟩:∃ w4,w4 = w3.setCell ⟨w.heap.size + 2,1,none⟩ (.slice gp g.globals.length gk):=⟨_,rfl⟩
          obtain ⟨wm,hwm⟩:∃ wm,wm = w4.alloc (.map #[] 0):=⟨_,rfl⟩
          have hsz4:w4.heap.size = w3.heap.size:=by rw [hw4,zR]
          obtain ⟨b,hb⟩:∃ b,w4.heap.size = b:=⟨_,rfl⟩
          have hG4:=G.out.put (i:=1) (u:=.slice gp g.globals.length gk) HR.out HM.out rfl
          rw [← hw4] at hG4
          have hL4:=HLR.out.ag (fun _ _ h => h.ag (Ag.set (Ag.refl _ _) (p:=⟨w.heap.size + 2,1,none⟩) (.inl (Nat.lt_succ_self _)) (.slice gp g.globals.length gk))) (Ag.set (Ag.refl _ _) (p:=⟨w.heap.size + 2,1,none⟩) (.inl (Nat.lt_succ_self _)) (.slice gp g.globals.length gk))
          have hL5:=zAK HLG.out (Ag.set (Ag.refl _ _) (p:=⟨w.heap.size + 2,1,none⟩) (.inl (Nat.lt_succ_self _)) (.slice gp g.globals.length gk))
          rw [← hw4] at hL4 hL5
          replace HLR:=vH hL4
          replace HLG:=vH hL5
          have hbm:Below w4.heap.size w4 wm:=by rw [hwm]; exact zC (Below.refl _ _)
          have NB:=vH (show NamM wm b [] by rw [hwm,← hb]; exact NamM.made w4)
          have HSM:=vH (show wm.heap.size = b + 1 by rw [hwm,zB,hb])
          have HBL:=vH (show w.heap.size + 3 ≤ b by rw [← hb]; exact hG4.lt)
          replace G:=vH (hG4.go hbm)
          have HAG:=vH (show Ag (w.heap.size + 3) w4 wm from Ag.below hbm)
          have HW4:=vH hb
          rw [← hsz4,hb,← hw4,← hwm]
          clear hG4 hL4 hL5 hbm hsz4 hb hw4 hwm a0 a1 a2 a3 f0 f1 f2 f3 hla x0 x1 x2
          obtain ⟨⟨x0,x1,x2⟩,-⟩:=tri G.out.bx
          go_wp2_with fail
          clear x0 x1 x2
          obtain ⟨c3,hc3⟩:∃ c3,c2.or (fltPs rs [] g.globals) = c3:=⟨_,rfl⟩
          rw [hc3] at G
          have HC3:=vH hc3
          clear hc3
          go_loopg [63] g.funcs.length (fun n i wr => ∃ (j:Nat) (c4:Option Int) (v:Value),n + j = g.funcs.length ∧ i = .int .i64 (j:Int) ∧ PrSt w R M _ rs (.slice lp g.recs.length lc) (.slice gp g.globals.length gk) v (.int .i64 0) c4 wr ∧ NamM wr b ((g.funcs.take j).map (fun x => x.name)) ∧ OwnL SgIs 60 6 (exs v) wm.heap.size v ((g.funcs.take j).map (sgOf rs)) wr ∧ Ag (w.heap.size + 3) w4 wr ∧ c3.or (fltFn rs [] g.funcs) = c4.or (fltFn rs ((g.funcs.take j).map (fun x => x.name)) (g.funcs.drop j)) ∧ wm.heap.size ≤ wr.heap.size)
          case atStart => exact ⟨0,c3,_,rfl,rfl,G.out,NB.out,OwnL.nil _,HAG.out,rfl,Nat.le_refl _⟩
          case round =>
           obtain ⟨j,c4,v,hj,rfl,hg,hnb,ho,hag,hf,hwm⟩:=hrel
           have G:=vH hg
           have OL:=vH ho
           have HF3:=vH hf
           have HJ:=vH hj
           have NB:=vH hnb
           have HAG:=vH hag
           have HWM:=vH hwm
           clear hg ho hf hj hnb hag hwm
           cases gk with
           | zero =>
             obtain rfl:j = g.funcs.length:=by have:=HJ.out; omega
             have hd1:decide ((g.funcs.length:Int) < (g.funcs.length:Int)) = false:=decide_eq_false (by omega)
             have hF:c3.or (fltFn rs [] g.funcs) = c4:=by have h:=HF3.out; rw [List.drop_length,fltFn,zAg] at h; exact h
             have hO:=OL.out
             have hN:=NB.out
             rw [List.take_length] at hO hN
             obtain ⟨vp,vc,hlv,hls⟩:=hO.done SgIs.len
             rw [List.length_map] at hlv
             subst hlv
             have HLS:=vH hls
             have HFT:=vH (show c4.or (fltMain g.funcs) = flt g by rw [HFL.out,HF.out,← zBe,HF2.out,← zBe,HC3.out,← zBe,hF])
             have HX:=vH (zCY w0 wr R M b c4 g.funcs q3 k3 (HMD.out wr G.out.gt) HR0.out HP3.out G.out.ck hN HS.out.funcs (fun f hf => (HS.out.func1 f hf).2.2.1))
             clear hO hN hF hls HJ OL NB
             obtain ⟨⟨x0,x1,x2⟩,-⟩:=tri G.out.bx
             go_wp2_with fail
             refine HX.out.mono ?_
             rintro e w6 ⟨rfl,hck,hg⟩
             rw [HFT.out] at hck
             have hRb:=HR.out
             have hBb:=HBL.out
             have hsm:=HSM.out
             have A6:=HAG.out.trans (Ag.gr hg (show R < w.heap.size + 3 by omega))
             have hls6:=HLS.out.ag (fun _ _ h => h.ag (Ag.gr hg (show R < wm.heap.size by omega))) (Ag.gr hg (show R < wm.heap.size by omega))
             have G9:=vH ((G.out.step HR.out HM.out HNE.out hck hg).put (i:=3) (u:=.int .i64 (mainIx g.funcs:Int)) HR.out HM.out rfl)
             have hs3:=Ag.set (Ag.refl (w.heap.size + 3) w6) (p:=⟨w.heap.size + 2,3,none⟩) (.inl (Nat.lt_succ_self _)) (.int .i64 (mainIx g.funcs:Int))
             have hs4:=Ag.set (Ag.refl wm.heap.size w6) (p:=⟨w.heap.size + 2,3,none⟩) (.inl (by show w.heap.size + 2 < wm.heap.size; omega)) (.int .i64 (mainIx g.funcs:Int))
             have A7:=vH (A6.trans hs3)
             have HLS7:=vH (hls6.ag (fun _ _ h => h.ag hs4) hs4)
             have hk:=(G.out.step HR.out HM.out HNE.out hck hg).hb
             obtain ⟨⟨a0,a1,a2,a3⟩,f0,f1,f2,f3⟩:=quad hk
             have hla:=zA hk
             have hk2:=(G.out.step HR.out HM.out HNE.out hck hg).rsl
             obtain ⟨⟨r0,r1,r2,r3⟩,s0,s1,s2,s3⟩:=quad hk2
             have hlr:=zA hk2
             have hne1:w.heap.size + 1 ≠ w.heap.size + 1 + 1:=by omega
             have hne2:=Ne.symm hne1
             clear A6 hls6 hs3 hs4 hk hk2 hck hg x0 x1 x2 hRb hBb hsm
             go_wp2_with fail
             have hB1:w.heap.size + 1 < wm.heap.size:=by have:=HSM.out; have:=HBL.out; omega
             have AF:=vH ((((A7.out.set (p:=⟨w.heap.size + 1,0,none⟩) (.inl (Nat.lt_succ_of_lt (Nat.lt_succ_self _))) (.slice lp g.recs.length lc)).set (p:=⟨w.heap.size + 1,1,none⟩) (.inl (Nat.lt_succ_of_lt (Nat.lt_succ_self _))) (.slice gp g.globals.length gk)).set (p:=⟨w.heap.size + 1,2,none⟩) (.inl (Nat.lt_succ_of_lt (Nat.lt_succ_self _))) (.slice vp g.funcs.length vc)).set (p:=⟨w.heap.size + 1,3,none⟩) (.inl (Nat.lt_succ_of_lt (Nat.lt_succ_self _))) (.int .i64 (mainIx g.funcs:Int)))
             have AS:=vH (((((Ag.refl wm.heap.size (w6.setCell ⟨w.heap.size + 2,3,none⟩ (.int .i64 (mainIx g.funcs:Int)))).set (p:=⟨w.heap.size + 1,0,none⟩) (.inl hB1) (.slice lp g.recs.length lc)).set (p:=⟨w.heap.size + 1,1,none⟩) (.inl hB1) (.slice gp g.globals.length gk)).set (p:=⟨w.heap.size + 1,2,none⟩) (.inl hB1) (.slice vp g.funcs.length vc)).set (p:=⟨w.heap.size + 1,3,none⟩) (.inl hB1) (.int .i64 (mainIx g.funcs:Int)))
             exact bodyPost_ret (v:=.agg #[.slice lp g.recs.length lc,.slice gp g.globals.length gk,.slice vp g.funcs.length vc,.int .i64 (mainIx g.funcs:Int)]) (by simp [results,Try.results29,go_sem,r0,r1,r2,r3]) rfl
              ⟨lp,_,lc,gp,_,gk,vp,_,vc,_,rfl,zJS HRS.out ((HLR.out.ag (fun _ _ h => h.ag AF.out) AF.out).lower (fun _ _ h => h.lower (Nat.le_add_right _ 3)) (Nat.le_add_right _ 3)) (zAB (zAK HLG.out AF.out) (Nat.le_add_right _ 3)) ((HLS7.out.ag (fun _ _ h => h.ag AS.out) AS.out).lower (fun _ _ h => h.lower (Nat.le_of_lt (Nat.lt_of_succ_lt hB1))) (Nat.le_of_lt (Nat.lt_of_succ_lt hB1))),
               ((((G9.out.ck.set (p:=⟨w.heap.size + 1,0,none⟩) (Nat.ne_of_lt (Nat.lt_succ_of_lt HR.out)) (.slice lp g.recs.length lc)).set (p:=⟨w.heap.size + 1,1,none⟩) (Nat.ne_of_lt (Nat.lt_succ_of_lt HR.out)) (.slice gp g.globals.length gk)).set (p:=⟨w.heap.size + 1,2,none⟩) (Nat.ne_of_lt (Nat.lt_succ_of_lt HR.out)) (.slice vp g.funcs.length vc)).set (p:=⟨w.heap.size + 1,3,none⟩) (Nat.ne_of_lt (Nat.lt_succ_of_lt HR.out)) (.int .i64 (mainIx g.funcs:Int))),
               ((((G9.out.gt.setNew (p:=⟨w.heap.size + 1,0,none⟩) (Nat.le_succ _) (.slice lp g.recs.length lc)).setNew (p:=⟨w.heap.size + 1,1,none⟩) (Nat.le_succ _) (.slice gp g.globals.length gk)).setNew (p:=⟨w.heap.size + 1,2,none⟩) (Nat.le_succ _) (.slice vp g.funcs.length vc)).setNew (p:=⟨w.heap.size + 1,3,none⟩) (Nat.le_succ _) (.int .i64 (mainIx g.funcs:Int)))⟩
           | succ m =>
             have hjl:j < g.funcs.length:=by have:=HJ.out; omega
             have hd1:decide ((j:Int) < (g.funcs.length:Int)) = true:=decide_eq_true (by omega)
             have hi1:(j:Int) < (g.funcs.length:Int):=by omega
             have hd2:decide (g.funcs.length ≤ j) = false:=decide_eq_false (by omega)
             have hdw:wrap64 ((j:Int) + 1) = ((j + 1:Nat):Int):=by have:=HS.out.funcs; simp [wrap64]; omega
             have he:=List.getElem?_eq_getElem hjl
             have hsm:=HS.out.func1 _ (List.getElem_mem hjl)
             generalize g.funcs[j] = x at he hsm
             have HTF:=vH (zU (sgOf rs) he)
             have HTN:=vH (zU (fun x:Fc => x.name) he)
             have HDR:=vH (zS he)
             obtain ⟨bl,off,vs,hbl0,hbl,⟨fp,fc,bq,bn,bd,rfl,hlat⟩,hcc⟩:=HP3.out.get he
             have hmd:=HMD.out wr G.out.gt
             have y0:=zK hmd (hcc 0 _ (by decide) rfl)
             have y1:=zK hmd (hcc 1 _ (by decide) rfl)
             have y2:=zK hmd (hcc 2 _ (by decide) rfl)
             have y3:=zK hmd (hcc 3 _ (by decide) rfl)
             have y4:=zK hmd (hcc 4 _ (by decide) rfl)
             have y5:=zK hmd (hcc 5 _ (by decide) rfl)
             have y6:=zK hmd (hcc 6 _ (by decide) rfl)
             simp only [Nat.add_zero] at y0
             have HSG:=vH (fun (u:World) (c1:Option Int) (h1:Below w0.heap.size w0 u) (h2:ChkM u R M c1) (h3:NamM u M rs) => zGH w0 u R M c1 rs x fp fc (.slice bq bn bd) h1 HR0.out hlat h2 h3 HNE.out hsm.2.2.2 hsm.2.2.1 hsm.1 hsm.2.1)
             have hol:((g.funcs.take j).map (sgOf rs)).length = j:=by rw [List.length_map,List.length_take]; omega
             have hnl:((g.funcs.take j).map (fun x:Fc => x.name)).length = j:=by rw [List.length_map,List.length_take]; omega
             generalize (g.funcs.take j).map (sgOf rs) = out at OL HTF hol
             generalize (g.funcs.take j).map (fun x:Fc => x.name) = nms at NB HF3 HTN hnl
             have HOL:=vH hol
             obtain ⟨vp,vc,hls⟩:=OL.out.slice
             subst hls
             have hbl3:bl ≠ wr.heap.size:=Nat.ne_of_lt (Nat.lt_of_lt_of_le hbl hmd.size)
             obtain ⟨wb,hwb⟩:∃ wb,wb = wr.alloc (.cells #[.string (cbs x.name),.slice fp x.params.length fc,.bool x.has,.string (cbs x.rn),.int .i64 x.rd,.slice bq bn bd,.int .i64 x.at_] 81):=⟨_,rfl⟩
             have HBX:=vH (show wb.heap[wr.heap.size]? = some (.cells #[.string (cbs x.name),.slice fp x.params.length fc,.bool x.has,.string (cbs x.rn),.int .i64 x.rd,.slice bq bn bd,.int .i64 x.at_] 81 (0,0)) by rw [hwb]; exact heap_alloc_new wr _)
             have hbw:Below wr.heap.size wr wb:=by rw [hwb]; exact zC (Below.refl _ _)
             replace G:=vH (G.out.go hbw)
             replace OL:=vH (OL.out.agg (Ag.below hbw))
             replace NB:=vH (NB.out.below hbw)
             replace HAG:=vH (HAG.out.trans (Ag.below hbw))
             have HWL:=vH (show b < wr.heap.size ∧ wr.heap.size < wb.heap.size ∧ R < b ∧ M < b by have:=HWM.out; have:=HSM.out; have:=HR.out; have:=HM.out; have:=HBL.out; have:=zA HBX.out; omega)
             have hdec:=zBo wb R M b c4 nms x.name x.at_ G.out.ck NB.out (by have:=HWL.out; omega) (Nat.le_trans hsm.1 (by decide)) (by have:=HJ.out; have:=HS.out.funcs; omega)
             rw [hnl] at hdec
             have HDC:=vH hdec
             obtain ⟨⟨b0,b1,b2,b3,b4,b5,b6⟩,-⟩:=sept HBX.out
             clear hol hnl he hsm hcc hlat hmd hbl hbw hdec
             obtain rfl:some ⟨bl,off,none⟩ = q3:=hbl0.symm
             clear hbl0
             go_wp2_with fail
             rw [← hwb]
             refine HDC.out.mono ?_
             rintro e w5 ⟨rfl,hck,hnm,hgt⟩
             replace G:=vH (G.out.two HR.out HM.out HNE.out (by have:=HBL.out; omega) hck hgt)
             replace NB:=vH hnm
             replace OL:=vH (OL.out.agg (agTw hgt (by have:=HWL.out; have:=HSM.out; omega) (.inl (by have:=HSM.out; omega))))
             replace HAG:=vH (HAG.out.tw hgt (by have:=HR.out; omega) (Nat.le_of_eq HW4.out))
             replace HBX:=vH ((hgt.block wr.heap.size (zA HBX.out) (by have:=HWL.out; omega) (by have:=HWL.out; omega)).trans HBX.out)
             replace HWM:=vH (show wm.heap.size ≤ w5.heap.size by have:=hgt.size; have:=HWL.out; have:=HWM.out; omega)
             replace G:=vH G.out.drew
             replace NB:=vH (NB.out.below (zAc (Below.refl w5.heap.size w5)))
             replace OL:=vH (OL.out.agg (Ag.below (zAc (Below.refl w5.heap.size w5))))
             replace HAG:=vH (HAG.out.trans (Ag.below (zAc (Below.refl w5.heap.size w5))))
             replace HBX:=vH (show w5.drew.heap[wr.heap.size]? = _ from HBX.out)
             have HSZ:=vH (show w5.heap.size ≤ w5.drew.heap.size from Nat.le_refl _)
             have HEX:=vH (show ∀ k,exs (.slice vp out.length vc) k → wm.heap.size ≤ k ∧ k < w5.heap.size from OL.out.lt)
             obtain ⟨vss,hl1,hl2,hl3⟩:=id OL.out
             have HL:=vH hl1
             have HO:=vH hl2
             have HK3:=vH hl3
             clear hck hnm hgt hwb y0 y1 y2 y3 y4 y5 y6 hbl3 b0 b1 b2 b3 b4 b5 b6 hl1 hl2 hl3
             go_wp2_with fail
             obtain ⟨i0,hi0,hz0,hz1,hz2⟩:=info_parts zIA
             obtain ⟨⟨a0,a1,a2,a3⟩,f0,f1,f2,f3⟩:=quad G.out.hb
             have hla:=zA G.out.hb
             obtain ⟨⟨b0,b1,b2,b3,b4,b5,b6⟩,-⟩:=sept HBX.out
             go_region_law (first
              | (refine zP rfl (.tmp 77) (.tmp 81) 34 rfl wm.heap.size 60 i0 _ 6 72 Try.underlying34 hi0 hz0 hz1 hz2 rfl (by decide) (.slice vp out.length vc) out.length vss.flatten (by simp [Act.eval]) (HO.out.alloc _) ⟨wq.heap.size,0,none⟩ 1 1 [.string (cbs x.name),.slice ep x.params.length ek,.bool x.has,.int .i64 (resOf rs x).b,.int .i64 (resOf rs x).r,.int .i64 (resOf rs x).d] (by simp [Act.eval]) rfl (zAE rfl rfl) (zH6 _ _ _ _ _ _ _ _) (by have:=HOL.out; have:=HJ.out; have:=HS.out.funcs; unfold maxLen; omega) (by have:=HOL.out; have:=HJ.out; have:=HS.out.funcs; omega) (by rw [zB]; have:=HWQ.out; omega) ?_; intro v' w8 hown hgrow hat; have G8:=vH (G.out.grown HR.out HM.out (fun k hk => (by have:=(HEX.out k hk).1; have:=HSM.out; have:=HBL.out; omega)) hgrow); have A8:=vH (HAG.out.own (v:=.slice vp out.length vc) hgrow (fun k hk => (by have:=(HEX.out k hk).1; have:=HSM.out; have:=HW4.out; omega))); have N8:=vH (NB.out.kept ((hgrow.block b (by rw [zB]; have:=NB.out.lt; omega) (fun e => by have:=(HEX.out b e.symm).1; have:=HSM.out; omega)).trans (heap_alloc_old _ _ NB.out.lt))); have O8:=vH (OwnL.more (x:=sgOf rs x) HO.out HL.out HK3.out (But.of (B2:=w5.heap.size) (I:=fun w2 => SgIs w2 wm.heap.size (sgOf rs x) [.string (cbs x.name),.slice ep x.params.length ek,.bool x.has,.int .i64 (resOf rs x).b,.int .i64 (resOf rs x).r,.int .i64 (resOf rs x).d]) (fun w' g => zJp (zAB (zAK HLA.out g) HWM.out)) HWM.out (fun k hk => (HEX.out k hk).2)) hown hgrow (by rw [zB] at hat; exact hat)); have S8:=vH (show wm.heap.size ≤ w8.heap.size by have:=hgrow.size; rw [zB] at this; have:=HWQ.out; omega); obtain ⟨np,nc,hnv⟩:=zT hown; subst hnv; clear hown hgrow hat; clear a0 a1 a2 a3 f0 f1 f2 f3 hla; obtain ⟨⟨a0,a1,a2,a3⟩,f0,f1,f2,f3⟩:=quad G8.out.hb; have hla:=zA G8.out.hb)
              | (go_simp; go_wp2_with (go_at_call 45; (with_reducible refine Calls.mono (HSG.out _ _ (HMD.out _ G.out.gt) G.out.ck G.out.rcn) ?_); rintro e wq ⟨ep,ek,rfl,hla2,hck,hg⟩; have HLA:=vH (zAB hla2 HSZ.out); have HWQ:=vH (show wm.heap.size ≤ wq.heap.size from Nat.le_trans (Nat.le_trans HWM.out HSZ.out) hg.size); have GN:=vH (G.out.step HR.out HM.out HNE.out hck hg); have G:=GN; have NN:=vH (NB.out.gr hg (by have:=HWL.out; omega)); have NB:=NN; have AN:=vH (HAG.out.trans (Ag.gr hg (by have:=HR.out; omega))); have HAG:=AN; have ON:=vH (OL.out.agg (Ag.gr hg (by have:=HWL.out; have:=HSM.out; omega))); have OL:=ON; obtain ⟨vss,hl1,hl2,hl3⟩:=id OL.out; have HL:=vH hl1; have HO:=vH hl2; have HK3:=vH hl3; clear hla2 hck hg hl1 hl2 hl3 a0 a1 a2 a3 f0 f1 f2 f3 hla b0 b1 b2 b3 b4 b5 b6; obtain ⟨⟨a0,a1,a2,a3⟩,f0,f1,f2,f3⟩:=quad G.out.hb; have hla:=zA G.out.hb)))
             all_goals
              go_wp2_with fail
              have G9:=vH (G8.out.put (i:=2) (u:=.slice np (out.length + 1) nc) HR.out HM.out rfl)
              have O9:=vH (O8.out.agg (Ag.set (Ag.refl _ _) (p:=⟨w.heap.size + 2,2,none⟩) (.inl (by have:=HSM.out; have:=HBL.out; show w.heap.size + 2 < wm.heap.size; omega)) (.slice np (out.length + 1) nc)))
              have A9:=vH (A8.out.trans (Ag.set (Ag.refl _ _) (p:=⟨w.heap.size + 2,2,none⟩) (.inl (Nat.lt_succ_self _)) (.slice np (out.length + 1) nc)))
              have N9:=vH (N8.out.kept (Below.heap_setCell w8 ⟨w.heap.size + 2,2,none⟩ (.slice np (out.length + 1) nc) b (by have:=HBL.out; show b ≠ w.heap.size + 2; omega)))
              go_roundg m
              case measure => omega
              case rel => exact ⟨j + 1,_,_,by have:=HJ.out; omega,by first | rfl | simp [hdw],G9.out,by rw [HTN.out]; exact N9.out,by rw [HTF.out]; exact O9.out,A9.out,by rw [HF3.out,HDR.out,zCF,HTN.out],by rw [zR]; exact S8.out⟩
        | succ m =>
          have hjl:j < g.recs.length:=by have:=HJ.out; omega
          have hd1:decide ((j:Int) < (g.recs.length:Int)) = true:=decide_eq_true (by omega)
          have hi1:(j:Int) < (g.recs.length:Int):=by omega
          have hd2:decide (g.recs.length ≤ j) = false:=decide_eq_false (by omega)
          have hdw:wrap64 ((j:Int) + 1) = ((j + 1:Nat):Int):=by have:=HS.out.recs; simp [wrap64]; omega
          have he:=List.getElem?_eq_getElem hjl
          have hsm:=HS.out.rec1 _ (List.getElem_mem hjl)
          generalize g.recs[j] = x at he hsm
          have HCN:=vH (show (cbs x.name).size ≤ 281474976710656 by rw [zBZ]; exact hsm.1)
          have HTF:=vH (zU (shOf rs) he)
          have HDR:=vH (zS he)
          obtain ⟨bl,off,vs,hbl0,hbl,⟨fp,fc,rfl,hlat⟩,hcc⟩:=HP1.out.get he
          have hmd:=HMD.out wr G.out.gt
          have y0:=zK hmd (hcc 0 _ (by decide) rfl)
          have y1:=zK hmd (hcc 1 _ (by decide) rfl)
          have y2:=zK hmd (hcc 2 _ (by decide) rfl)
          simp only [Nat.add_zero] at y0
          have HFD:=vH (fun (u:World) (c1:Option Int) (h1:Below w0.heap.size w0 u) (h2:ChkM u R M c1) (h3:NamM u M rs) => zBn w0 u R M c1 rs x.fields fp fc h1 HR0.out hlat h2 h3 HNE.out hsm.2.2 hsm.2.1)
          have hol:((g.recs.take j).map (shOf rs)).length = j:=by rw [List.length_map,List.length_take]; omega
          generalize (g.recs.take j).map (shOf rs) = out at OL HTF hol
          have HOL:=vH hol
          obtain ⟨lp,lc,hls⟩:=OL.out.slice
          subst hls
          have hwle:=G.out.lt
          have hbl3:bl ≠ wr.heap.size:=Nat.ne_of_lt (Nat.lt_of_lt_of_le hbl hmd.size)
          obtain ⟨wb,hwb⟩:∃ wb,wb = wr.alloc (.cells #[.string (cbs x.name),.slice fp x.fields.length fc,.int .i64 x.at_] 53):=⟨_,rfl⟩
          have HBX:=vH (show wb.heap[wr.heap.size]? = some (.cells #[.string (cbs x.name),.slice fp x.fields.length fc,.int .i64 x.at_] 53 (0,0)) by rw [hwb]; exact heap_alloc_new wr _)
          have hbw:Below wr.heap.size wr wb:=by rw [hwb]; exact zC (Below.refl _ _)
          replace G:=vH (G.out.go hbw).drew
          replace OL:=vH ((OL.out.agg (Ag.below hbw)).agg (Ag.below (zAc (Below.refl wb.heap.size wb))))
          have HWL:=vH (show w.heap.size + 3 ≤ wr.heap.size ∧ wr.heap.size < wb.heap.size from ⟨hwle,zA HBX.out⟩)
          have HWB:=vH (show w.heap.size + 3 ≤ wb.heap.size by have:=HWL.out; omega)
          have HSZ:=vH (show wb.heap.size ≤ wb.drew.heap.size from Nat.le_refl _)
          have HEX:=vH (show ∀ k,exs (.slice lp out.length lc) k → w.heap.size + 3 ≤ k ∧ k < wb.heap.size from OL.out.lt)
          replace HBX:=vH (show wb.drew.heap[wr.heap.size]? = _ from HBX.out)
          obtain ⟨vss,hl1,hl2,hl3⟩:=id OL.out
          have HL:=vH hl1
          have HO:=vH hl2
          have HK3:=vH hl3
          clear hol he hsm hcc hwle hlat hmd hbl hbw hl1 hl2 hl3
          obtain rfl:some ⟨bl,off,none⟩ = q1:=hbl0.symm
          clear hbl0
          go_wp2_with fail
          rw [← hwb]
          clear hwb y0 y1 y2 hbl3
          obtain ⟨i0,hi0,hz0,hz1,hz2⟩:=info_parts zGc
          obtain ⟨⟨a0,a1,a2,a3⟩,f0,f1,f2,f3⟩:=quad G.out.hb
          have hla:=zA G.out.hb
          obtain ⟨⟨b0,b1,b2⟩,-⟩:=tri HBX.out
          go_region_law (first
           | (refine zP rfl (.tmp 41) (.tmp 50) 32 rfl (w.heap.size + 3) 55 i0 _ 2 40 Try.underlying32 hi0 hz0 hz1 hz2 rfl (by decide) (.slice lp out.length lc) out.length vss.flatten (by simp [Act.eval]) (HO.out.alloc _) ⟨wq.heap.size,0,none⟩ 1 1 [.string (cbs x.name),.slice ep x.fields.length ek] (by simp [Act.eval]) rfl (zAE rfl rfl) (zFm _ _ _ _) (by have:=HOL.out; have:=HJ.out; have:=HS.out.recs; unfold maxLen; omega) (by have:=HOL.out; have:=HJ.out; have:=HS.out.recs; omega) (by rw [zB]; have:=G.out.lt; omega) ?_; intro v' w8 hown hgrow hat; have G8:=vH (G.out.grown HR.out HM.out (fun k hk => (HEX.out k hk).1) hgrow); have O8:=vH (OwnL.more (x:=shOf rs x) HO.out HL.out HK3.out (But.of (B2:=wb.heap.size) (I:=fun w2 => ShIs w2 (w.heap.size + 3) (shOf rs x) [.string (cbs x.name),.slice ep x.fields.length ek]) (fun w' g => zHG (zAB (zAK HLA.out g) HWB.out)) HWB.out (fun k hk => (HEX.out k hk).2)) hown hgrow (by rw [zB] at hat; exact hat)); obtain ⟨np,nc,hnv⟩:=zT hown; subst hnv; clear hown hgrow hat; clear a0 a1 a2 a3 f0 f1 f2 f3 hla; obtain ⟨⟨a0,a1,a2,a3⟩,f0,f1,f2,f3⟩:=quad G8.out.hb; have hla:=zA G8.out.hb)
           | (go_simp; go_wp2_with (first
             | (go_at_call 43; (with_reducible refine Calls.mono (clone_any _ (cbs x.name) HCN.out) ?_); rintro e wq ⟨rfl,hb⟩; have GN:=vH (G.out.go hb); have G:=GN; have HBN:=vH ((hb.block _ (zA HBX.out)).trans HBX.out); have HBX:=HBN; have ON:=vH (OL.out.agg (Ag.below hb)); have OL:=ON; have HSN:=vH (Nat.le_trans HSZ.out hb.size); have HSZ:=HSN; (try (have HLN:=vH (zAK HLA.out (Ag.below hb)); have HLA:=HLN)); obtain ⟨vss,hl1,hl2,hl3⟩:=id OL.out; have HL:=vH hl1; have HO:=vH hl2; have HK3:=vH hl3; clear hb hl1 hl2 hl3 a0 a1 a2 a3 f0 f1 f2 f3 hla b0 b1 b2; obtain ⟨⟨a0,a1,a2,a3⟩,f0,f1,f2,f3⟩:=quad G.out.hb; have hla:=zA G.out.hb; obtain ⟨⟨b0,b1,b2⟩,-⟩:=tri HBX.out)
             | (go_at_call 44; (with_reducible refine Calls.mono (HFD.out _ _ (HMD.out _ G.out.gt) G.out.ck G.out.rcn) ?_); rintro e wq ⟨ep,ek,rfl,hla2,hck,hg⟩; have HLA:=vH (zAB hla2 HSZ.out); have GN:=vH (G.out.step HR.out HM.out HNE.out hck hg); have G:=GN; have HBN:=vH (hg.box HBX.out (by have:=HR.out; have:=HWL.out; omega)); have HBX:=HBN; have ON:=vH (OL.out.agg (Ag.gr hg (by have:=HR.out; omega))); have OL:=ON; have HSN:=vH (Nat.le_trans HSZ.out hg.size); have HSZ:=HSN; obtain ⟨vss,hl1,hl2,hl3⟩:=id OL.out; have HL:=vH hl1; have HO:=vH hl2; have HK3:=vH hl3; clear hla2 hck hg hl1 hl2 hl3 a0 a1 a2 a3 f0 f1 f2 f3 hla b0 b1 b2; obtain ⟨⟨a0,a1,a2,a3⟩,f0,f1,f2,f3⟩:=quad G.out.hb; have hla:=zA G.out.hb; obtain ⟨⟨b0,b1,b2⟩,-⟩:=tri HBX.out))))
          all_goals
           go_wp2_with fail
           have G9:=vH (G8.out.put (i:=0) (u:=.slice np (out.length + 1) nc) HR.out HM.out rfl)
           have O9:=vH (O8.out.agg (Ag.set (Ag.refl _ _) (p:=⟨w.heap.size + 2,0,none⟩) (.inl (Nat.lt_succ_self _)) (.slice np (out.length + 1) nc)))
           go_roundg m
           case measure => omega
           case rel => exact ⟨j + 1,_,_,by have:=HJ.out; omega,by first | rfl | simp [hdw],G9.out,by rw [HTF.out]; exact O9.out,by rw [HF2.out,HDR.out,fltFs,← zBe]⟩
  | succ m =>
    have hjl:j < g.recs.length:=by have:=HJ.out; omega
    have hd1:decide ((j:Int) < (g.recs.length:Int)) = true:=decide_eq_true (by omega)
    have hi1:(j:Int) < (g.recs.length:Int):=by omega
    have hd2:decide (g.recs.length ≤ j) = false:=decide_eq_false (by omega)
    have hdw:wrap64 ((j:Int) + 1) = ((j + 1:Nat):Int):=by have:=HS.out.recs; simp [wrap64]; omega
    have he:=List.getElem?_eq_getElem hjl
    have hsm:=HS.out.rec1 _ (List.getElem_mem hjl)
    generalize g.recs[j] = x at he hsm
    have HSM:=vH (show x.name.length ≤ 281474976710656 from hsm.1)
    have HTN:=vH (zU (fun x:Rc => x.name) he)
    have HDR:=vH (zS he)
    obtain ⟨bl,off,vs,hbl0,hbl,⟨fp,fc,rfl,-⟩,hcc⟩:=(H1.out wr G.out.gt).get he
    subst hbl0
    have y0:=hcc 0 _ (by decide) rfl
    have y1:=hcc 1 _ (by decide) rfl
    have y2:=hcc 2 _ (by decide) rfl
    simp only [Nat.add_zero] at y0
    have hnl:((g.recs.take j).map (fun x:Rc => x.name)).length = j:=by rw [List.length_map,List.length_take]; omega
    generalize (g.recs.take j).map (fun x:Rc => x.name) = nms at G HF HTN hnl
    have hwle:=G.out.lt
    obtain ⟨wb,hwb⟩:∃ wb,wb = wr.alloc (.cells #[.string (cbs x.name),.slice fp x.fields.length fc,.int .i64 x.at_] 53):=⟨_,rfl⟩
    have HBX:=vH (show wb.heap[wr.heap.size]? = some (.cells #[.string (cbs x.name),.slice fp x.fields.length fc,.int .i64 x.at_] 53 (0,0)) by rw [hwb]; exact heap_alloc_new wr _)
    have hgb:=G.out.go (zC (o:=.cells #[.string (cbs x.name),.slice fp x.fields.length fc,.int .i64 x.at_] 53) (Below.refl _ _))
    rw [← hwb] at hgb
    replace G:=vH hgb
    have hck:=G.out.ck
    unfold ChkM at hck
    have hdec:=zBo wb.drew R M M c' nms x.name x.at_ G.out.drew.ck G.out.drew.rcn HNE.out (Nat.le_trans HSM.out (by decide)) (by have:=HJ.out; have:=HS.out.recs; omega)
    rw [hnl] at hdec
    have HDC:=vH hdec
    obtain ⟨⟨c0,c1,c2⟩,-⟩:=tri hck
    obtain ⟨⟨b0,b1,b2⟩,-⟩:=tri HBX.out
    have HSK:=vH (show wb.drew.cell? ⟨R,0,none⟩ = some (.map (some M)) ∧ wb.drew.cell? ⟨wr.heap.size,0,none⟩ = some (.string (cbs x.name)) ∧ wb.drew.cell? ⟨wr.heap.size,2,none⟩ = some (.int .i64 x.at_) from ⟨c0,b0,b2⟩)
    have HWL:=vH hwle
    have hbl3:bl ≠ wr.heap.size:=Nat.ne_of_lt hbl
    clear hdec hnl hwle he hsm hcc hgb hck c0 c1 c2 b0 b1 b2
    go_wp2_with fail
    rw [← hwb]
    clear hwb
    go_region_held3 (fun w' => w'.cell? ⟨R,0,none⟩ = some (.map (some M)) ∧ w'.cell? ⟨wr.heap.size,0,none⟩ = some (.string (cbs x.name)) ∧ w'.cell? ⟨wr.heap.size,2,none⟩ = some (.int .i64 x.at_)) (with_reducible exact HSK.out)
        (first
        | (go_at_call 42; (with_reducible refine Calls.mono HDC.out ?_); rintro e w2 ⟨rfl,hck,hnm,hgt⟩; have GN:=vH (G.out.drew.named HR.out HM.out hck hnm hgt); have HBN:=vH ((hgt.block wr.heap.size (zA HBX.out) (by have:=HR.out; have:=HWL.out; omega) (by have:=HM.out; have:=HWL.out; omega)).trans HBX.out); have HSK:=vH (show w2.cell? ⟨R,0,none⟩ = some (.map (some M)) ∧ w2.cell? ⟨wr.heap.size,0,none⟩ = some (.string (cbs x.name)) ∧ w2.cell? ⟨wr.heap.size,2,none⟩ = some (.int .i64 x.at_) from ⟨(tri hck).1.1,(tri HBN.out).1.1,(tri HBN.out).1.2.2⟩)))
    all_goals
        go_wp2_with fail
        go_roundg m
        case measure => omega
        case rel => exact ⟨j + 1,_,by have:=HJ.out; omega,by first | rfl | simp [hdw],by rw [HTN.out]; exact GN.out,by rw [HF.out,HDR.out,zCD,HTN.out]⟩
end Go.Proofs.Ytjleggpbghmobaa
