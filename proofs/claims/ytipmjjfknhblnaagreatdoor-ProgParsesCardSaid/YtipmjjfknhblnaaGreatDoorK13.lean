/-
  The contracts of the project's reader: what stands behind a
-/
import Derived.Test.YtipmjjfknhblnaaGreatDoorK11
import Derived.Test.YtipmjjfknhblnaaGreatDoorK09
import Derived.Test.YtipmjjfknhblnaaGreatDoorK12
import Derived.Test.YtipmjjfknhblnaaGreatDoorK02
import Derived.Deep.RegionWith
set_option maxRecDepth 8000
set_option maxHeartbeats 8000000
namespace Go.Proofs.YtipmjjfknhblnaaGreatDoor
open Go.RowKit
open Px (RT tokAt)
open Pe
theorem zJF {ts:List RT}{rec:Nat → St → Out}{e:Ex}{s:St}{x:Ex × St}(h:sufLoop ts rec 0 e s = some x):False:=by
 rw [sufLoop] at h; cases h
theorem zLr {ts:List RT}{rec:Nat → St → Out}{g:Nat}{e:Ex}{s:St}{x:Ex × St}(h:sufLoop ts rec (g + 1) e s = some x)(hk:(peek ts s.c).kind ≠ 4):x = (e,s):=by
 rw [sufLoop,if_neg hk] at h
 simpa using h.symm
theorem zH1 {ts:List RT}{rec:Nat → St → Out}{g:Nat}{e:Ex}{s:St}{x:Ex × St}(h:sufLoop ts rec (g + 1) e s = some x)(hk:(peek ts s.c).kind = 4)(h1:(peek ts s.c).text ≠ [46])(h2:(peek ts s.c).text ≠ [91]):x = (e,s):=by
 rw [sufLoop,if_pos hk,if_neg h1,if_neg h2] at h
 simpa using h.symm
theorem zLs {ts:List RT}{rec:Nat → St → Out}{g:Nat}{e:Ex}{s:St}{x:Ex × St}(h:sufLoop ts rec (g + 1) e s = some x)(hk:(peek ts s.c).kind = 4)(h1:(peek ts s.c).text = [46]):sufLoop ts rec g (field ts e s).1 (field ts e s).2 = some x:=by
 rw [sufLoop,if_pos hk,if_pos h1] at h
 exact h
theorem zJG {ts:List RT}{rec:Nat → St → Out}{g:Nat}{e:Ex}{s:St}{x:Ex × St}(h:sufLoop ts rec (g + 1) e s = some x)(hk:(peek ts s.c).kind = 4)(h1:(peek ts s.c).text = [91]):∃ e2 s2,item ts rec e s = some (e2,s2) ∧ sufLoop ts rec g e2 s2 = some x:=by
 rw [sufLoop,if_pos hk,if_neg (by rw [h1]; decide),if_pos h1] at h
 split at h
 ·cases h
 ·rename_i e2 s2 he
  exact ⟨e2,s2,he,h⟩
theorem zLu {l:List UInt8}(h:l = [46]){w:World}{M:Nat}(hb:w.heap[M]? = some (.map mapSuffix 2)) :
 (Instr.lookup 190 (.map (some M)) (.string (cbs l)) true).run Tryz.prog w = .ok (.tuple #[.func (.func 173) #[] #[],.bool true]) w:=by
 subst h
 exact zFd hb
theorem zLt {l:List UInt8}(h:l = [91]){w:World}{M:Nat}(hb:w.heap[M]? = some (.map mapSuffix 2)) :
 (Instr.lookup 190 (.map (some M)) (.string (cbs l)) true).run Tryz.prog w = .ok (.tuple #[.func (.func 174) #[] #[],.bool true]) w:=by
 subst h
 exact zFc hb
theorem zLV {ts:List RT}{rec:Nat → St → Out}{g:Nat}{s:St}{x:Ex × St}(h:postfix_ ts rec g s = some x):∃ e s2,primary ts rec g s = some (e,s2) ∧ sufLoop ts rec g e s2 = some x:=by
 unfold postfix_ at h
 split at h
 ·cases h
 ·rename_i e s2 he
  exact ⟨e,s2,he,h⟩
theorem zFF (w:World)(R M1 M2 M3:Nat)(S:Value)(ts:List RT)(s:St)(h:Rs w R M1 M2 M3 S ts s)(rec:Nat → St → Out)(hrec:RecOk ts rec)(gg:Nat)(hgg:gg ≤ 1000000000)(x:Ex × St)(hx:postfix_ ts rec gg s = some x) :
 Calls Tryz.prog 182 #[.pointer (some ⟨R,0,none⟩)] w (ExPost w.heap.size w R M1 M2 M3 S ts x):=by
 obtain ⟨e0,s1,he,hx⟩:=zLV hx
 have HX:=vH hx
 have HE:=vH (fun w1 hh => zFE w1 R M1 M2 M3 S ts s hh rec hrec gg hgg (e0,s1) he)
 have HREC:=vH hrec
 clear hrec hx he hgg
 have hb0:Below w.heap.size w (w.alloc (.cells vE 111)):=(Below.refl w.heap.size w).alloc (Nat.le_refl _) _
 have hlt:=h.lt
 have HH:=vH h
 have HR:=vH (h.go hb0)
 have HG:=vH (Gr.refl R (w.alloc (.cells vE 111)))
 clear h hb0
 go_in
 go_wp2_with fail
 refine (HE.out _ HR.out).mono ?_
 rintro e w1 ⟨qk,qn,qs,qo,qd,qp,ql,qc,qa,qb,qr,qe,qf,rfl,hi,hr,hg⟩
 have HN1:Hid (w.heap.size < w1.heap.size):=(Nat.lt_of_lt_of_le (by rw [zB]; exact Nat.lt_succ_self _:w.heap.size < (w.alloc (.cells vE 111)).heap.size) (HG.out.trans hg).size)
 have HO:=vH (show Hold w (w1.alloc (.cells #[.int .i64 qk,.int .i64 qn,.string (cbs qs),.string (cbs qo),.int .i64 qd,.slice qp ql qc,.int .i64 qa,.int .i64 qb,.int .i64 qr,.int .i64 qe,.int .i64 qf] 111)) R M1 M2 M3 S ts w1.heap.size qk qn qs qo qd qp ql qc qa qb qr qe qf e0 s1 from
  ⟨hr.go ((Below.refl _ _).alloc (Nat.le_refl _) _),(HG.out.trans hg).alloc _,heap_alloc_new w1 _,(IsBut.top hi (by rw [zB]; exact Nat.le_refl _)).alloc _,HN1.out⟩)
 have HR0:=HR
 clear hi hr hg HR HG HE
 go_wp2_with fail
 go_loopg [] gg (fun m wr => ∃ e s4 kind num name ofn dims p ln c at_ b r d ref,Hold w wr R M1 M2 M3 S ts w1.heap.size kind num name ofn dims p ln c at_ b r d ref e s4 ∧ sufLoop ts rec m e s4 = some x)
 case atStart => exact ⟨_,_,_,_,_,_,_,_,_,_,_,_,_,_,_,HO.out,HX.out⟩
 case round =>
  obtain ⟨e,s4,kind,num,name,ofn,dims,p,ln,c,at_,b,r,d,ref,ho,hx⟩:=hrel
  have HO1:=vH ho
  have HX1:=vH hx
  clear ho hx HO HX
  cases gk with
  | zero => exact (zJF HX1.out).elim
  | succ m =>
    have HPK:=vH (fun w1 hh => zU w1 R 192 S [.int .i64 s4.o,.map (some M1),.map (some M2),.map (some M3)] ts s4.c hh)
    obtain ⟨t,ht⟩:∃ t,peek ts s4.c = t:=⟨_,rfl⟩
    have HT:=vH ht
    rw [ht] at HPK
    unfold tokW at HPK
    have hfd0:∀ w1:World,(Instr.field 52 (.agg #[.int .i64 t.kind,.string (cbs t.text),.int .i64 t.num,.int .i64 t.at_]) 0).run Tryz.prog w1 = .ok (.int .i64 t.kind) w1:=fun _ => by kernel_rfl
    have hfd1:∀ w1:World,(Instr.field 52 (.agg #[.int .i64 t.kind,.string (cbs t.text),.int .i64 t.num,.int .i64 t.at_]) 1).run Tryz.prog w1 = .ok (.string (cbs t.text)) w1:=fun _ => by kernel_rfl
    clear ht
    cases hk:(t.kind == 4) with
    | false =>
      have hx:=zLr HX1.out (by rw [HT.out]; simpa using hk)
      subst hx
      go_wp2_with fail
      refine (HPK.out _ HO1.out.rs.cu).mono ?_
      rintro e' w2 ⟨rfl,hb⟩
      have HO2:=vH (HO1.out.go hlt (HO1.out.rs.go hb) (Gr.of hb))
      clear hb HO1
      obtain ⟨⟨x0,x1,x2,x3,x4,x5,x6,x7,x8,x9,xX⟩,y0,y1,y2,y3,y4,y5,y6,y7,y8,y9,yX⟩:=hen HO2.out.box
      have hlb:=zA HO2.out.box
      have hk:=mine HO2.out.gr hlt
      obtain ⟨⟨d0,d1,d2,d3,d4,d5,d6,d7,d8,d9,dX⟩,g0,g1,g2,g3,g4,g5,g6,g7,g8,g9,gX⟩:=hen hk
      have hl:=zA hk
      have hnb:=Nat.ne_of_lt HO2.out.lt
      have hnb2:=Ne.symm hnb
      clear hk
      go_wp2_with fail
      have hn:=(Nw.start ((Gr.alloc (Gr.refl R w) _).trans HO2.out.gr)).pv (.int .i64 kind) (.int .i64 num) (.string (cbs name)) (.string (cbs ofn)) (.int .i64 dims) (.slice p ln c) (.int .i64 at_) (.int .i64 b) (.int .i64 r) (.int .i64 d) (.int .i64 ref)
      exact bodyPost_ret (v:=.agg #[.int .i64 kind,.int .i64 num,.string (cbs name),.string (cbs ofn),.int .i64 dims,.slice p ln c,.int .i64 at_,.int .i64 b,.int .i64 r,.int .i64 d,.int .i64 ref]) (by simp [results,Tryz.results182,go_sem,d0,d1,d2,d3,d4,d5,d6,d7,d8,d9,dX]) rfl ⟨_,_,_,_,_,_,_,_,_,_,_,_,_,rfl,Is.lower (Nat.le_succ _) _ (HO2.out.is.now.put11 (N:=w.heap.size) (Nat.lt_succ_self _)),HH.out.fin HO2.out.rs hn,hn.gr⟩
    | true =>
      have HK4:=vH (show (peek ts s4.c).kind = 4 from by rw [HT.out]; simpa using hk)
      go_wp2_with fail
      refine (HPK.out _ HO1.out.rs.cu).mono ?_
      rintro e' w2 ⟨rfl,hb⟩
      have HO2:=vH (HO1.out.go hlt (HO1.out.rs.go hb) (Gr.of hb))
      clear hb HO1
      obtain ⟨o4,o5,o6,o7,f4⟩:=HO2.out.rs.open_
      clear o4 o5 o6 f4
      have HRD:=vH (HO2.out.rs.go (Below.refl _ _).drew)
      have HEB0:Hid (w1.heap.size < w2.heap.size):=zA HO2.out.box
      by_cases h1:t.text = [46]
      ·have H5:=vH (zLs HX1.out HK4.out (by rw [HT.out]; exact h1))
       have H1:=vH h1
       clear h1 HX1
       go_wp2_with fail
       go_region_held3 (fun w' => w'.cell? ⟨R,7,none⟩ = some (.map (some M3))) (first | exact o7 | exact oo) (first
        | (go_at_call 36; (with_reducible refine Calls.mono (HPK.out _ HRD.out.cu) ?_); rintro e' w3 ⟨rfl,hb⟩; have HO3:=vH (HO2.out.go hlt (HRD.out.go hb) ((Gr.of (Below.refl _ _).drew).trans (Gr.of hb))); clear hb; have oo:=HO3.out.rs.open_; replace oo:=oo.2.2.2.1; have hlk:=zLu H1.out HO3.out.rs.m3))
       clear HO2 HRD oo o7
       obtain ⟨⟨x0,x1,x2,x3,x4,x5,x6,x7,x8,x9,xX⟩,y0,y1,y2,y3,y4,y5,y6,y7,y8,y9,yX⟩:=hen HO3.out.box
       have hlb:=zA HO3.out.box
       have hk:=mine HO3.out.gr hlt
       obtain ⟨⟨d0,d1,d2,d3,d4,d5,d6,d7,d8,d9,dX⟩,g0,g1,g2,g3,g4,g5,g6,g7,g8,g9,gX⟩:=hen hk
       have hl:=zA hk
       have hnb:=Nat.ne_of_lt HO3.out.lt
       have hnb2:=Ne.symm hnb
       clear hk
       go_wp2_with fail
       have HB1:w.heap.size + 1 ≤ w3.heap.size:=Nat.le_of_lt (Nat.lt_of_le_of_lt (show w.heap.size + 1 ≤ w1.heap.size from HN1.out) (zA HO3.out.box))
       have HGB:∀ q,some w1.heap.size = some q → q < w3.heap.size:=fun q hq => by injection hq with hq; rw [← hq]; exact zA HO3.out.box
       refine (zJj w3 R M1 M2 M3 S ts s4 HO3.out.rs (w.heap.size + 1) (some w1.heap.size) HGB e kind num name ofn dims p ln c at_ b r d ref (by omega) HB1 HO3.out.is).mono ?_
       clear HB1 HGB
       rintro e' w4 ⟨zk,zn,zs,zo,zd,zp,zl,zc,za,zb,zr,ze,zf,rfl,hi,hr,hg⟩
       have HO4:=vH (HO3.out.go hlt hr hg)
       have HIZ:=vH hi
       clear x0 x1 x2 x3 x4 x5 x6 x7 x8 x9 xX y0 y1 y2 y3 y4 y5 y6 y7 y8 y9 yX d0 d1 d2 d3 d4 d5 d6 d7 d8 d9 dX g0 g1 g2 g3 g4 g5 g6 g7 g8 g9 gX hlb hl hnb hnb2 hi hr hg HO3
       obtain ⟨⟨x0,x1,x2,x3,x4,x5,x6,x7,x8,x9,xX⟩,y0,y1,y2,y3,y4,y5,y6,y7,y8,y9,yX⟩:=hen HO4.out.box
       have hlb:=zA HO4.out.box
       have hk:=mine HO4.out.gr hlt
       obtain ⟨⟨d0,d1,d2,d3,d4,d5,d6,d7,d8,d9,dX⟩,g0,g1,g2,g3,g4,g5,g6,g7,g8,g9,gX⟩:=hen hk
       have hl:=zA hk
       have hnb:=Nat.ne_of_lt HO4.out.lt
       have hnb2:=Ne.symm hnb
       clear hk
       go_wp2_with fail
       go_roundg m
       case measure => omega
       case rel =>
        have hEL:w.heap.size < w1.heap.size:=HN1.out
        have hn:=(Nw.start HO4.out.gr).put11 (B:=w1.heap.size) (by rw [zB]; exact hEL) (c0:=.int .i64 zk) (c1:=.int .i64 zn) (c2:=.string (cbs zs)) (c3:=.string (cbs zo)) (c4:=.int .i64 zd) (c5:=.slice zp zl zc) (c6:=.int .i64 za) (c7:=.int .i64 zb) (c8:=.int .i64 zr) (c9:=.int .i64 ze) (c10:=.int .i64 zf)
        exact ⟨_,_,_,_,_,_,_,_,_,_,_,_,_,_,_,⟨HR0.out.fin HO4.out.rs hn,hn.gr,zJM HO4.out.box,HIZ.out.put11,hEL⟩,H5.out⟩
      ·by_cases h2:t.text = [91]
       ·obtain ⟨e2,s5,hit,h5⟩:=zJG HX1.out HK4.out (by rw [HT.out]; exact h2)
        have H1:=vH h2
        have HIT:=vH hit
        have H5:=vH h5
        clear h1 h2 HX1 hit h5
        go_wp2_with fail
        go_region_held3 (fun w' => w'.cell? ⟨R,7,none⟩ = some (.map (some M3))) (first | exact o7 | exact oo) (first
         | (go_at_call 36; (with_reducible refine Calls.mono (HPK.out _ HRD.out.cu) ?_); rintro e' w3 ⟨rfl,hb⟩; have HO3:=vH (HO2.out.go hlt (HRD.out.go hb) ((Gr.of (Below.refl _ _).drew).trans (Gr.of hb))); clear hb; have oo:=HO3.out.rs.open_; replace oo:=oo.2.2.2.1; have hlk:=zLt H1.out HO3.out.rs.m3))
        clear HO2 HRD oo o7
        obtain ⟨⟨x0,x1,x2,x3,x4,x5,x6,x7,x8,x9,xX⟩,y0,y1,y2,y3,y4,y5,y6,y7,y8,y9,yX⟩:=hen HO3.out.box
        have hlb:=zA HO3.out.box
        have hk:=mine HO3.out.gr hlt
        obtain ⟨⟨d0,d1,d2,d3,d4,d5,d6,d7,d8,d9,dX⟩,g0,g1,g2,g3,g4,g5,g6,g7,g8,g9,gX⟩:=hen hk
        have hl:=zA hk
        have hnb:=Nat.ne_of_lt HO3.out.lt
        have hnb2:=Ne.symm hnb
        clear hk
        go_wp2_with fail
        have HB1:w.heap.size + 1 ≤ w3.heap.size:=Nat.le_of_lt (Nat.lt_of_le_of_lt (show w.heap.size + 1 ≤ w1.heap.size from HN1.out) (zA HO3.out.box))
        have HGB:∀ q,some w1.heap.size = some q → q < w3.heap.size:=fun q hq => by injection hq with hq; rw [← hq]; exact zA HO3.out.box
        refine (zKw w3 R M1 M2 M3 S ts s4 HO3.out.rs rec HREC.out (w.heap.size + 1) (some w1.heap.size) HGB e kind num name ofn dims p ln c at_ b r d ref (by omega) HB1 HO3.out.is (e2,s5) HIT.out).mono ?_
        clear HB1 HGB
        rintro e' w4 ⟨zk,zn,zs,zo,zd,zp,zl,zc,za,zb,zr,ze,zf,rfl,hi,hr,hg⟩
        have HO4:=vH (HO3.out.go hlt hr hg)
        have HIZ:=vH hi
        clear x0 x1 x2 x3 x4 x5 x6 x7 x8 x9 xX y0 y1 y2 y3 y4 y5 y6 y7 y8 y9 yX d0 d1 d2 d3 d4 d5 d6 d7 d8 d9 dX g0 g1 g2 g3 g4 g5 g6 g7 g8 g9 gX hlb hl hnb hnb2 hi hr hg HO3
        obtain ⟨⟨x0,x1,x2,x3,x4,x5,x6,x7,x8,x9,xX⟩,y0,y1,y2,y3,y4,y5,y6,y7,y8,y9,yX⟩:=hen HO4.out.box
        have hlb:=zA HO4.out.box
        have hk:=mine HO4.out.gr hlt
        obtain ⟨⟨d0,d1,d2,d3,d4,d5,d6,d7,d8,d9,dX⟩,g0,g1,g2,g3,g4,g5,g6,g7,g8,g9,gX⟩:=hen hk
        have hl:=zA hk
        have hnb:=Nat.ne_of_lt HO4.out.lt
        have hnb2:=Ne.symm hnb
        clear hk
        go_wp2_with fail
        go_roundg m
        case measure => omega
        case rel =>
         have hEL:w.heap.size < w1.heap.size:=HN1.out
         have hn:=(Nw.start HO4.out.gr).put11 (B:=w1.heap.size) (by rw [zB]; exact hEL) (c0:=.int .i64 zk) (c1:=.int .i64 zn) (c2:=.string (cbs zs)) (c3:=.string (cbs zo)) (c4:=.int .i64 zd) (c5:=.slice zp zl zc) (c6:=.int .i64 za) (c7:=.int .i64 zb) (c8:=.int .i64 zr) (c9:=.int .i64 ze) (c10:=.int .i64 zf)
         exact ⟨_,_,_,_,_,_,_,_,_,_,_,_,_,_,_,⟨HR0.out.fin HO4.out.rs hn,hn.gr,zJM HO4.out.box,HIZ.out.put11,hEL⟩,H5.out⟩
       ·have hx:=zH1 HX1.out HK4.out (by rw [HT.out]; exact h1) (by rw [HT.out]; exact h2)
        subst hx
        have H1:=vH h1
        have H2:=vH h2
        clear h1 h2
        go_wp2_with fail
        go_region_held3 (fun w' => w'.cell? ⟨R,7,none⟩ = some (.map (some M3))) (first | exact o7 | exact oo) (first
         | (go_at_call 36; (with_reducible refine Calls.mono (HPK.out _ HRD.out.cu) ?_); rintro e' w3 ⟨rfl,hb⟩; have HO3:=vH (HO2.out.go hlt (HRD.out.go hb) ((Gr.of (Below.refl _ _).drew).trans (Gr.of hb))); clear hb; have oo:=HO3.out.rs.open_; replace oo:=oo.2.2.2.1; have hlk:=zCJ (cbs t.text) (zAO H1.out) (zAO H2.out) HO3.out.rs.m3))
        clear HO2 HRD oo o7
        obtain ⟨⟨x0,x1,x2,x3,x4,x5,x6,x7,x8,x9,xX⟩,y0,y1,y2,y3,y4,y5,y6,y7,y8,y9,yX⟩:=hen HO3.out.box
        have hlb:=zA HO3.out.box
        have hk:=mine HO3.out.gr hlt
        obtain ⟨⟨d0,d1,d2,d3,d4,d5,d6,d7,d8,d9,dX⟩,g0,g1,g2,g3,g4,g5,g6,g7,g8,g9,gX⟩:=hen hk
        have hl:=zA hk
        have hnb:=Nat.ne_of_lt HO3.out.lt
        have hnb2:=Ne.symm hnb
        clear hk
        go_wp2_with fail
        have hn:=(Nw.start ((Gr.alloc (Gr.refl R w) _).trans HO3.out.gr)).pv (.int .i64 kind) (.int .i64 num) (.string (cbs name)) (.string (cbs ofn)) (.int .i64 dims) (.slice p ln c) (.int .i64 at_) (.int .i64 b) (.int .i64 r) (.int .i64 d) (.int .i64 ref)
        exact bodyPost_ret (v:=.agg #[.int .i64 kind,.int .i64 num,.string (cbs name),.string (cbs ofn),.int .i64 dims,.slice p ln c,.int .i64 at_,.int .i64 b,.int .i64 r,.int .i64 d,.int .i64 ref]) (by simp [results,Tryz.results182,go_sem,d0,d1,d2,d3,d4,d5,d6,d7,d8,d9,dX]) rfl ⟨_,_,_,_,_,_,_,_,_,_,_,_,_,rfl,Is.lower (Nat.le_succ _) _ (HO3.out.is.now.put11 (N:=w.heap.size) (Nat.lt_succ_self _)),HH.out.fin HO3.out.rs hn,hn.gr⟩
theorem zHX (w:World)(R M1 M2 M3:Nat)(S:Value)(ts:List RT)(s:St)(h:Rs w R M1 M2 M3 S ts s)(rec:Nat → St → Out)(hrec:RecOk ts rec)(recU:St → Out)(hU:UnOk ts recU)(gg:Nat)(hgg:gg ≤ 1000000000)(x:Ex × St)(hx:unary ts rec recU gg s = some x) :
 Calls Tryz.prog 175 #[.pointer (some ⟨R,0,none⟩)] w (ExPost w.heap.size w R M1 M2 M3 S ts x):=by
 have HS:=vH (fun w1 hh => zG w1 R 192 S [.int .i64 s.o,.map (some M1),.map (some M2),.map (some M3)] ts s.c hh)
 unfold unary at hx
 cases hv1:sees ts s.c 4 [45] with
 | true =>
   rw [if_pos hv1] at hx
   have HE:=vH (fun w1 hh => zCu w1 R M1 M2 M3 S ts s hh recU hU ⟨#[45]⟩ 12 x hx)
   have HV1:=vH hv1
   clear hrec hU hgg hx hv1
   have hb0:Below w.heap.size w (w.alloc (.cells vE 111)):=(Below.refl w.heap.size w).alloc (Nat.le_refl _) _
   have hlt:=h.lt
   have HH:=vH h
   have HR:=vH (h.go hb0)
   have HG:=vH (Gr.refl R (w.alloc (.cells vE 111)))
   clear h hb0
   go_in
   go_wp2_with fail
   refine (HS.out _ HR.out.cu ⟨#[45]⟩).mono ?_
   rintro e w1 ⟨rfl,hb⟩
   have HGx:=vH (HG.out.below hb)
   have HRx:=vH (HR.out.go hb)
   clear HG HR
   have HG:=HGx
   have HR:=HRx
   clear HGx HRx hb
   rw [HV1.out]
   go_wp2_with fail
   have hRBq:=HR.out.lt
   have hNBq:=Nat.lt_of_lt_of_le (by rw [zB]; exact Nat.lt_succ_self _:w.heap.size < (w.alloc (.cells vE 111)).heap.size) HG.out.size
   refine (HE.out _ HR.out).mono ?_
   rintro e w2 ⟨qk,qn,qs,qo,qd,qp,ql,qc,qa,qb,qr,qe,qf,rfl,hi,hr,hg⟩
   have Hiq:=vH hi
   have HGx:=vH (HG.out.trans hg)
   have HRx:=vH (hr)
   clear HG HR
   have HG:=HGx
   have HR:=HRx
   clear HGx HRx hr hg hi
   have hk:=mine HG.out hlt
   obtain ⟨⟨d0,d1,d2,d3,d4,d5,d6,d7,d8,d9,dX⟩,g0,g1,g2,g3,g4,g5,g6,g7,g8,g9,gX⟩:=hen hk
   have hl:=zA hk
   clear hk
   go_wp2_with fail
   have hn:=(Nw.start ((Gr.alloc (Gr.refl R w) _).trans HG.out)).pv (.int .i64 qk) (.int .i64 qn) (.string (cbs qs)) (.string (cbs qo)) (.int .i64 qd) (.slice qp ql qc) (.int .i64 qa) (.int .i64 qb) (.int .i64 qr) (.int .i64 qe) (.int .i64 qf)
   exact bodyPost_ret (v:=.agg #[.int .i64 qk,.int .i64 qn,.string (cbs qs),.string (cbs qo),.int .i64 qd,.slice qp ql qc,.int .i64 qa,.int .i64 qb,.int .i64 qr,.int .i64 qe,.int .i64 qf]) (by simp [results,Tryz.results175,go_sem,d0,d1,d2,d3,d4,d5,d6,d7,d8,d9,dX]) rfl ⟨_,_,_,_,_,_,_,_,_,_,_,_,_,rfl,Is.lower (Nat.le_of_lt hNBq) _ (Hiq.out.put11 hNBq),HH.out.fin HR.out hn,hn.gr⟩
 | false =>
   rw [hv1,if_neg (by decide)] at hx
   cases hv2:sees ts s.c 4 [33] with
   | true =>
     rw [if_pos hv2] at hx
     have HE:=vH (fun w1 hh => zCu w1 R M1 M2 M3 S ts s hh recU hU ⟨#[33]⟩ 13 x hx)
     have HV1:=vH hv1
     have HV2:=vH hv2
     clear hrec hU hgg hx hv1 hv2
     have hb0:Below w.heap.size w (w.alloc (.cells vE 111)):=(Below.refl w.heap.size w).alloc (Nat.le_refl _) _
     have hlt:=h.lt
     have HH:=vH h
     have HR:=vH (h.go hb0)
     have HG:=vH (Gr.refl R (w.alloc (.cells vE 111)))
     clear h hb0
     go_in
     go_wp2_with fail
     refine (HS.out _ HR.out.cu ⟨#[45]⟩).mono ?_
     rintro e w1 ⟨rfl,hb⟩
     have HGx:=vH (HG.out.below hb)
     have HRx:=vH (HR.out.go hb)
     clear HG HR
     have HG:=HGx
     have HR:=HRx
     clear HGx HRx hb
     rw [HV1.out]
     go_wp2_with fail
     refine (HS.out _ HR.out.cu ⟨#[33]⟩).mono ?_
     rintro e w2 ⟨rfl,hb⟩
     have HGx:=vH (HG.out.below hb)
     have HRx:=vH (HR.out.go hb)
     clear HG HR
     have HG:=HGx
     have HR:=HRx
     clear HGx HRx hb
     rw [HV2.out]
     go_wp2_with fail
     have hRBq:=HR.out.lt
     have hNBq:=Nat.lt_of_lt_of_le (by rw [zB]; exact Nat.lt_succ_self _:w.heap.size < (w.alloc (.cells vE 111)).heap.size) HG.out.size
     refine (HE.out _ HR.out).mono ?_
     rintro e w3 ⟨qk,qn,qs,qo,qd,qp,ql,qc,qa,qb,qr,qe,qf,rfl,hi,hr,hg⟩
     have Hiq:=vH hi
     have HGx:=vH (HG.out.trans hg)
     have HRx:=vH (hr)
     clear HG HR
     have HG:=HGx
     have HR:=HRx
     clear HGx HRx hr hg hi
     have hk:=mine HG.out hlt
     obtain ⟨⟨d0,d1,d2,d3,d4,d5,d6,d7,d8,d9,dX⟩,g0,g1,g2,g3,g4,g5,g6,g7,g8,g9,gX⟩:=hen hk
     have hl:=zA hk
     clear hk
     go_wp2_with fail
     have hn:=(Nw.start ((Gr.alloc (Gr.refl R w) _).trans HG.out)).pv (.int .i64 qk) (.int .i64 qn) (.string (cbs qs)) (.string (cbs qo)) (.int .i64 qd) (.slice qp ql qc) (.int .i64 qa) (.int .i64 qb) (.int .i64 qr) (.int .i64 qe) (.int .i64 qf)
     exact bodyPost_ret (v:=.agg #[.int .i64 qk,.int .i64 qn,.string (cbs qs),.string (cbs qo),.int .i64 qd,.slice qp ql qc,.int .i64 qa,.int .i64 qb,.int .i64 qr,.int .i64 qe,.int .i64 qf]) (by simp [results,Tryz.results175,go_sem,d0,d1,d2,d3,d4,d5,d6,d7,d8,d9,dX]) rfl ⟨_,_,_,_,_,_,_,_,_,_,_,_,_,rfl,Is.lower (Nat.le_of_lt hNBq) _ (Hiq.out.put11 hNBq),HH.out.fin HR.out hn,hn.gr⟩
   | false =>
     rw [hv2,if_neg (by decide)] at hx
     have HE:=vH (fun w1 hh => zFF w1 R M1 M2 M3 S ts s hh rec hrec gg hgg x hx)
     have HV1:=vH hv1
     have HV2:=vH hv2
     clear hrec hU hgg hx hv1 hv2
     have hb0:Below w.heap.size w (w.alloc (.cells vE 111)):=(Below.refl w.heap.size w).alloc (Nat.le_refl _) _
     have hlt:=h.lt
     have HH:=vH h
     have HR:=vH (h.go hb0)
     have HG:=vH (Gr.refl R (w.alloc (.cells vE 111)))
     clear h hb0
     go_in
     go_wp2_with fail
     refine (HS.out _ HR.out.cu ⟨#[45]⟩).mono ?_
     rintro e w1 ⟨rfl,hb⟩
     have HGx:=vH (HG.out.below hb)
     have HRx:=vH (HR.out.go hb)
     clear HG HR
     have HG:=HGx
     have HR:=HRx
     clear HGx HRx hb
     rw [HV1.out]
     go_wp2_with fail
     refine (HS.out _ HR.out.cu ⟨#[33]⟩).mono ?_
     rintro e w2 ⟨rfl,hb⟩
     have HGx:=vH (HG.out.below hb)
     have HRx:=vH (HR.out.go hb)
     clear HG HR
     have HG:=HGx
     have HR:=HRx
     clear HGx HRx hb
     rw [HV2.out]
     go_wp2_with fail
     have hRBq:=HR.out.lt
     have hNBq:=Nat.lt_of_lt_of_le (by rw [zB]; exact Nat.lt_succ_self _:w.heap.size < (w.alloc (.cells vE 111)).heap.size) HG.out.size
     refine (HE.out _ HR.out).mono ?_
     rintro e w3 ⟨qk,qn,qs,qo,qd,qp,ql,qc,qa,qb,qr,qe,qf,rfl,hi,hr,hg⟩
     have Hiq:=vH hi
     have HGx:=vH (HG.out.trans hg)
     have HRx:=vH (hr)
     clear HG HR
     have HG:=HGx
     have HR:=HRx
     clear HGx HRx hr hg hi
     have hk:=mine HG.out hlt
     obtain ⟨⟨d0,d1,d2,d3,d4,d5,d6,d7,d8,d9,dX⟩,g0,g1,g2,g3,g4,g5,g6,g7,g8,g9,gX⟩:=hen hk
     have hl:=zA hk
     clear hk
     go_wp2_with fail
     have hn:=(Nw.start ((Gr.alloc (Gr.refl R w) _).trans HG.out)).pv (.int .i64 qk) (.int .i64 qn) (.string (cbs qs)) (.string (cbs qo)) (.int .i64 qd) (.slice qp ql qc) (.int .i64 qa) (.int .i64 qb) (.int .i64 qr) (.int .i64 qe) (.int .i64 qf)
     exact bodyPost_ret (v:=.agg #[.int .i64 qk,.int .i64 qn,.string (cbs qs),.string (cbs qo),.int .i64 qd,.slice qp ql qc,.int .i64 qa,.int .i64 qb,.int .i64 qr,.int .i64 qe,.int .i64 qf]) (by simp [results,Tryz.results175,go_sem,d0,d1,d2,d3,d4,d5,d6,d7,d8,d9,dX]) rfl ⟨_,_,_,_,_,_,_,_,_,_,_,_,_,rfl,Is.lower (Nat.le_of_lt hNBq) _ (Hiq.out.put11 hNBq),HH.out.fin HR.out hn,hn.gr⟩
theorem zMO (ts:List RT):∀ f,f ≤ 1000000000 → RecOk ts (run ts f).1 ∧ UnOk ts (run ts f).2:=by
 intro f
 induction f with
 | zero => exact fun _ => ⟨fun n s x _ _ h => absurd h (by simp [run]),fun s x h => absurd h (by simp [run])⟩
 | succ f ih =>
   intro hf
   obtain ⟨ih1,ih2⟩:=ih (by omega)
   exact ⟨fun n s x h1 _ hx w R M1 M2 M3 S h => zHK w R M1 M2 M3 S ts s h (run ts f).1 ih1 (run ts f).2 ih2 n h1 f x hx,fun s x hx w R M1 M2 M3 S h => zHX w R M1 M2 M3 S ts s h (run ts f).1 ih1 (run ts f).2 ih2 f (by omega) x hx⟩
theorem zBX (w:World)(p:Option Addr)(n c:Nat)(k o:Int) :
 Calls Tryz.prog 111 #[.slice p n c,.int .i64 k,.int .i64 o] w fun e w' => e = .returned (.agg #[.slice p n c,.int .i64 k,.int .i64 0,.int .i64 0,.int .i64 (min (max o 0) 50)]) ∧ Below w.heap.size w w':=by
 go_in
 go_wp2_with fail
 refine (zFH _ p n c k).mono ?_
 rintro e w1 ⟨rfl,hb1⟩
 have hkx:=zNu hb1
 have HB:=vH (zC ((Below.refl w.heap.size w).alloc (Nat.le_refl _) _) hb1 (by rw [zB]; omega))
 have hl:=zA hkx
 have c0:w1.cell? ⟨w.heap.size,0,none⟩ = some (.slice none 0 0):=by rw [cell_of_row _ _ _ _ _ _ hkx]; rfl
 have c1:w1.cell? ⟨w.heap.size,1,none⟩ = some (.int .i64 0):=by rw [cell_of_row _ _ _ _ _ _ hkx]; rfl
 have c2:w1.cell? ⟨w.heap.size,2,none⟩ = some (.int .i64 0):=by rw [cell_of_row _ _ _ _ _ _ hkx]; rfl
 have c3:w1.cell? ⟨w.heap.size,3,none⟩ = some (.int .i64 0):=by rw [cell_of_row _ _ _ _ _ _ hkx]; rfl
 have c4:w1.cell? ⟨w.heap.size,4,none⟩ = some (.int .i64 0):=by rw [cell_of_row _ _ _ _ _ _ hkx]; rfl
 have g0:=frozen_of_row _ _ 0 _ _ hkx
 have g1:=frozen_of_row _ _ 1 _ _ hkx
 have g2:=frozen_of_row _ _ 2 _ _ hkx
 have g3:=frozen_of_row _ _ 3 _ _ hkx
 have g4:=frozen_of_row _ _ 4 _ _ hkx
 clear hb1 hkx
 go_wp2_with fail
 refine bodyPost_ret (v:=.agg #[.slice p n c,.int .i64 k,.int .i64 0,.int .i64 0,.int .i64 (min (max o 0) 50)]) (by simp [results,Tryz.results111,go_sem,c0,c1,c2,c3,c4]) rfl ⟨rfl,?_⟩
 repeat (refine zO ?_ (Nat.le_refl _))
 exact HB.out
theorem zCs (w:World)(R:Nat)(T:TypeId)(S:Value)(X:List Value)(ts:List RT)(s:Cs)(h:Cu w R T S X ts s)(zk zn:Int)(zs zo:ByteArray)(zd:Int)(zp:Option Addr)(zl zc:Nat)(za zb zr ze zf:Int) :
 Calls Tryz.prog 151 #[.pointer (some ⟨R,0,none⟩),.agg #[.int .i64 zk,.int .i64 zn,.string zs,.string zo,.int .i64 zd,.slice zp zl zc,.int .i64 za,.int .i64 zb,.int .i64 zr,.int .i64 ze,.int .i64 zf]] w fun e w' =>
  e = .returned (.tuple #[if s.E = 0 then .agg #[.int .i64 zk,.int .i64 zn,.string zs,.string zo,.int .i64 zd,.slice zp zl zc,.int .i64 za,.int .i64 zb,.int .i64 zr,.int .i64 ze,.int .i64 zf] else .agg #[.int .i64 0,.int .i64 0,.string ⟨#[]⟩,.string ⟨#[]⟩,.int .i64 0,.slice none 0 0,.int .i64 0,.int .i64 0,.int .i64 0,.int .i64 0,.int .i64 0],.int .i64 (ends s).1,.agg #[.int .i64 (ends s).2.1,.int .i64 (ends s).2.2]]) ∧ Below w.heap.size w w':=by
 obtain ⟨⟨c0,c1,c2,c3⟩,fr,hR⟩:=h.cells
 clear h c0 fr
 obtain ⟨k,E,F⟩:=s
 dsimp only at c1 c2 c3
 obtain ⟨wa,hwa⟩:∃ wa,wa = (((w.alloc (.cells #[.int .i64 zk,.int .i64 zn,.string zs,.string zo,.int .i64 zd,.slice zp zl zc,.int .i64 za,.int .i64 zb,.int .i64 zr,.int .i64 ze,.int .i64 zf] 111)).alloc (.cells vE 111)).alloc (.cells vF 29)):=⟨_,rfl⟩
 have hs:wa.heap.size = w.heap.size + 3:=by rw [hwa]; simp only [zB]
 have hb:Below w.heap.size w wa:=by rw [hwa]; exact (((Below.refl _ _).alloc (Nat.le_refl _) _).alloc (by simp only [zB]; omega) _).alloc (by simp only [zB]; omega) _
 have hkx:wa.heap[w.heap.size]? = some (.cells #[.int .i64 zk,.int .i64 zn,.string zs,.string zo,.int .i64 zd,.slice zp zl zc,.int .i64 za,.int .i64 zb,.int .i64 zr,.int .i64 ze,.int .i64 zf] 111 (0,0)):=by
  rw [hwa]; have:=heap_alloc_new (w) (.cells #[.int .i64 zk,.int .i64 zn,.string zs,.string zo,.int .i64 zd,.slice zp zl zc,.int .i64 za,.int .i64 zb,.int .i64 zr,.int .i64 ze,.int .i64 zf] 111); try simp only [zB] at this
  exact zE _ (zE _ (this))
 have hka:wa.heap[w.heap.size + 1]? = some (.cells vE 111 (0,0)):=by
  rw [hwa]; have:=heap_alloc_new ((w.alloc (.cells #[.int .i64 zk,.int .i64 zn,.string zs,.string zo,.int .i64 zd,.slice zp zl zc,.int .i64 za,.int .i64 zb,.int .i64 zr,.int .i64 ze,.int .i64 zf] 111))) (.cells vE 111); try simp only [zB] at this
  exact zE _ (this)
 have hkb:wa.heap[w.heap.size + 1 + 1]? = some (.cells vF 29 (0,0)):=by
  rw [hwa]; have:=heap_alloc_new (((w.alloc (.cells #[.int .i64 zk,.int .i64 zn,.string zs,.string zo,.int .i64 zd,.slice zp zl zc,.int .i64 za,.int .i64 zb,.int .i64 zr,.int .i64 ze,.int .i64 zf] 111)).alloc (.cells vE 111))) (.cells vF 29); try simp only [zB] at this
  exact this
 have e1:=zW c1 hR hb
 have e2:=zW c2 hR hb
 have e3:=zW c3 hR hb
 have hRa:R < wa.heap.size:=by omega
 obtain ⟨wb,hwb⟩:∃ wb,wb = wa.alloc (.cells vE 111):=⟨_,rfl⟩
 have hb2:Below w.heap.size w wb:=by rw [hwb]; exact hb.alloc (by omega) _
 have q2:=e2
 rw [hwa] at q2
 have HB:=vH hb
 by_cases hE:E = 0
 ·subst hE
  rw [show ends ⟨k,0,F⟩ = (k,0,0) from rfl]
  dsimp only
  rw [if_pos rfl]
  obtain ⟨⟨x0,x1,x2,x3,x4,x5,x6,x7,x8,x9,xX⟩,xg0,xg1,xg2,xg3,xg4,xg5,xg6,xg7,xg8,xg9,xgX⟩:=hen hkx
  have hlx:=zA hkx
  obtain ⟨⟨a0,a1,a2,a3,a4,a5,a6,a7,a8,a9,aX⟩,ag0,ag1,ag2,ag3,ag4,ag5,ag6,ag7,ag8,ag9,agX⟩:=hen hka
  have hla:=zA hka
  obtain ⟨⟨b0,b1⟩,⟨bg0,bg1⟩,hlb⟩:=duo hkb
  clear hkx hka hkb c1 c2 c3 e2 e3 hb hs hb2 hwb
  go_in
  go_wp2_with fail
  rw [← hwa]
  clear hwa q2
  go_region
  go_wp2_with fail
  refine bodyPost_ret (v:=.tuple #[.agg #[.int .i64 zk,.int .i64 zn,.string zs,.string zo,.int .i64 zd,.slice zp zl zc,.int .i64 za,.int .i64 zb,.int .i64 zr,.int .i64 ze,.int .i64 zf],.int .i64 k,.agg #[.int .i64 0,.int .i64 0]]) (by simp [results,Tryz.results151,go_sem,a0,a1,a2,a3,a4,a5,a6,a7,a8,a9,aX,b0,b1]) rfl ⟨rfl,?_⟩
  refine zAM ?_
  repeat (refine zO ?_ (by omega))
  exact HB.out
 ·rw [show ends ⟨k,E,F⟩ = (0,E,F) from if_neg hE]
  dsimp only
  rw [if_neg hE]
  have hd:(E != 0) = true:=by simpa using hE
  have HB2:=vH hb2
  have e2:=zW c2 hR hb2
  have e3:=zW c3 hR hb2
  replace hkx:=by have:=zE (.cells vE 111) hkx; rw [← hwb] at this; exact this
  replace hka:=by have:=zE (.cells vE 111) hka; rw [← hwb] at this; exact this
  replace hkb:=by have:=zE (.cells vE 111) hkb; rw [← hwb] at this; exact this
  have hkz:wb.heap[w.heap.size + 1 + 1 + 1]? = some (.cells vE 111 (0,0)):=by have:=heap_alloc_new wa (.cells vE 111); rw [hs,← hwb] at this; exact this
  have hRb:R < wb.heap.size:=by rw [hwb,zB]; omega
  obtain ⟨⟨x0,x1,x2,x3,x4,x5,x6,x7,x8,x9,xX⟩,xg0,xg1,xg2,xg3,xg4,xg5,xg6,xg7,xg8,xg9,xgX⟩:=hen hkx
  have hlx:=zA hkx
  obtain ⟨⟨a0,a1,a2,a3,a4,a5,a6,a7,a8,a9,aX⟩,ag0,ag1,ag2,ag3,ag4,ag5,ag6,ag7,ag8,ag9,agX⟩:=hen hka
  have hla:=zA hka
  obtain ⟨⟨b0,b1⟩,⟨bg0,bg1⟩,hlb⟩:=duo hkb
  obtain ⟨⟨z0,z1,z2,z3,z4,z5,z6,z7,z8,z9,zX⟩,zg0,zg1,zg2,zg3,zg4,zg5,zg6,zg7,zg8,zg9,zgX⟩:=hen hkz
  have hlz:=zA hkz
  clear hkx hka hkb hkz c1 c2 c3 e1 hb hs hb2 hE
  go_in
  go_wp2_with fail
  rw [← hwa,← hwb]
  clear hwa q2 hwb
  go_region
  go_wp2_with fail
  refine bodyPost_ret (v:=.tuple #[.agg #[.int .i64 0,.int .i64 0,.string ⟨#[]⟩,.string ⟨#[]⟩,.int .i64 0,.slice none 0 0,.int .i64 0,.int .i64 0,.int .i64 0,.int .i64 0,.int .i64 0],.int .i64 0,.agg #[.int .i64 E,.int .i64 F]]) (by simp [results,Tryz.results151,go_sem,a0,a1,a2,a3,a4,a5,a6,a7,a8,a9,aX,b0,b1]) rfl ⟨rfl,?_⟩
  refine zAM ?_
  repeat (refine zO ?_ (by omega))
  exact HB2.out
theorem zD0 (w:World)(R0:Nat)(S:Value)(ts:List RT)(k o:Int)(h:Toks w R0 S ts)(hops:OpsIn w) :
 Calls Tryz.prog 150 #[S,.int .i64 k,.int .i64 o] w fun e w' => ∃ R M1 M2 M3,e = .returned (.pointer (some ⟨R,0,none⟩)) ∧ w.heap.size ≤ R ∧ Rs w' R M1 M2 M3 S ts ⟨⟨k,0,0⟩,clamp o⟩ ∧ Below w.heap.size w w':=by
 obtain ⟨p,n,c,rfl⟩:=h.slice
 have HT:=vH (h.re (Nat.le_refl _))
 obtain ⟨gt,gfr,hg⟩:=hops
 have HO:=vH hg
 clear h hg
 go_in
 go_wp2_with fail
 refine (zBX _ p n c k o).mono ?_
 rintro e w1 ⟨rfl,hb1⟩
 have HB1:=vH hb1
 clear hb1
 go_wp2_with fail
 refine (zCL _ w1.heap.size).mono ?_
 rintro e w2 ⟨rfl,rfl⟩
 go_wp2_with fail
 refine (zCK _).mono ?_
 rintro e w2 ⟨rfl,rfl⟩
 go_wp2_with fail
 refine (zB8 _).mono ?_
 rintro e w2 ⟨rfl,rfl⟩
 go_wp2_with fail
 obtain ⟨o1,ho1⟩:∃ o1:Obj,o1 = .cells #[.slice p n c,.int .i64 k,.int .i64 0,.int .i64 0,.int .i64 (min (max o 0) 50),.map (some (w1.heap.size + 1)),.map (some (w1.heap.size + 1 + 1)),.map (some (w1.heap.size + 1 + 1 + 1))] 192:=⟨_,rfl⟩
 rw [← ho1]
 have hR:∀ (a b d:Obj),(((w1.alloc a).alloc b).alloc d).heap.size = w1.heap.size + 1 + 1 + 1:=fun a b d => by simp only [zB]
 have hb4:Below w1.heap.size w1 ((((w1.alloc o1).alloc (.map (mapKind w1.heap.size) 4)).alloc (.map mapWord 6)).alloc (.map mapSuffix 2)):=
  ((((Below.refl _ _).alloc (Nat.le_refl _) _).alloc (by rw [zB]; omega) _).alloc (by simp only [zB]; omega) _).alloc (by simp only [zB]; omega) _
 have hw:=zA HO.out
 have hs1:=HB1.out.size
 refine bodyPost_ret (v:=.pointer (some ⟨w1.heap.size,0,none⟩)) (by simp [results,Tryz.results150,go_sem]) rfl ⟨w1.heap.size,w1.heap.size + 1,w1.heap.size + 1 + 1,w1.heap.size + 1 + 1 + 1,rfl,hs1,?_,zC HB1.out hb4 hs1⟩
 have k1:=heap_alloc_new (w1.alloc o1) (.map (mapKind w1.heap.size) 4)
 have k2:=heap_alloc_new ((w1.alloc o1).alloc (.map (mapKind w1.heap.size) 4)) (.map mapWord 6)
 have k3:=heap_alloc_new (((w1.alloc o1).alloc (.map (mapKind w1.heap.size) 4)).alloc (.map mapWord 6)) (.map mapSuffix 2)
 simp only [zB] at k1 k2 k3
 refine ⟨⟨?_,((HT.out.below HB1.out).re (Nat.le_refl _)).below hb4⟩,zE _ (zE _ k1),zE _ k2,k3,by omega,by omega,by omega,⟨gt,gfr,(hb4.block _ (by omega)).trans ((HB1.out.block _ hw).trans HO.out)⟩,by omega⟩
 have k0:=zE (.map mapSuffix 2) (zE (.map mapWord 6) (zE (.map (mapKind w1.heap.size) 4) (heap_alloc_new w1 o1)))
 rw [k0,ho1]
 rfl
theorem zCH {B R:Nat}{w w1 w2:World}(h:Below B w w1)(hg:Gr R w1 w2)(hR:B ≤ R)(hB:B ≤ w1.heap.size):Below B w w2:=
 ⟨hg.os.trans h.os,hg.tape.trans h.tape,hg.output.trans h.output,Nat.le_trans h.size hg.size,fun i hi => (hg.block i (by omega) (by omega)).trans (h.block i hi)⟩
theorem zD9 {w w1:World}(h:Below w.heap.size w w1){N:Nat}(hN:w.heap.size ≤ N){c0 c1 c2 c3 c4 c5 c6 c7 c8 c9 c10:Value}:Below w.heap.size w (((((((((((w1.setCell ⟨N,0,none⟩ c0).setCell ⟨N,1,none⟩ c1).setCell ⟨N,2,none⟩ c2).setCell ⟨N,3,none⟩ c3).setCell ⟨N,4,none⟩ c4).setCell ⟨N,5,none⟩ c5).setCell ⟨N,6,none⟩ c6).setCell ⟨N,7,none⟩ c7).setCell ⟨N,8,none⟩ c8).setCell ⟨N,9,none⟩ c9).setCell ⟨N,10,none⟩ c10):=(zO (zO (zO (zO (zO (zO (zO (zO (zO (zO (zO h hN) hN) hN) hN) hN) hN) hN) hN) hN) hN) hN)
theorem zIK (w:World)(R0:Nat)(S:Value)(ts:List RT)(k o:Int)(h:Toks w R0 S ts)(hops:OpsIn w)(f:Nat)(hf:f ≤ 1000000000)(x:Ex × Int × Int × Int)(hx:parse ts f k o = some x) :
 Calls Tryz.prog 144 #[S,.int .i64 k,.int .i64 o] w fun e w' => ∃ (kind num:Int) (name ofn:List UInt8) (dims:Int) (p:Option Addr) (n c:Nat) (at_ b r d ref:Int),
  e = .returned (.tuple #[.agg #[.int .i64 kind,.int .i64 num,.string (cbs name),.string (cbs ofn),.int .i64 dims,.slice p n c,.int .i64 at_,.int .i64 b,.int .i64 r,.int .i64 d,.int .i64 ref],.int .i64 x.2.1,.agg #[.int .i64 x.2.2.1,.int .i64 x.2.2.2]]) ∧
  Is w' w.heap.size x.1 (exCells kind num name ofn dims (.slice p n c) at_ b r d ref) ∧ Below w.heap.size w w':=by
 obtain ⟨p,n,c,rfl⟩:=h.slice
 obtain ⟨e0,s1,he,rfl⟩:∃ e0 s1,(run ts f).1 1 ⟨⟨k,0,0⟩,clamp o⟩ = some (e0,s1) ∧ x = exEnd e0 s1.c:=by
  unfold parse at hx
  split at hx
  ·cases hx
  ·rename_i e0 s1 he
   exact ⟨e0,s1,he,by simpa using hx.symm⟩
 obtain ⟨w0,hw0⟩:∃ w0,w0 = (w.alloc (.cells vE 111)).alloc (.cells vF 29):=⟨_,rfl⟩
 have hb0:Below w.heap.size w w0:=by rw [hw0]; exact ((Below.refl _ _).alloc (Nat.le_refl _) _).alloc (by rw [zB]; omega) _
 have hk1:w0.heap[w.heap.size]? = some (.cells vE 111 (0,0)):=by rw [hw0]; exact zE _ (heap_alloc_new w _)
 have hk2:w0.heap[w.heap.size + 1]? = some (.cells vF 29 (0,0)):=by rw [hw0]; have:=heap_alloc_new (w.alloc (.cells vE 111)) (.cells vF 29); rw [zB] at this; exact this
 have hs0:w0.heap.size = w.heap.size + 2:=by rw [hw0]; simp only [zB]
 have HRUN:=vH ((zMO ts f hf).1)
 have HE:=vH he
 have HT:=vH ((h.below hb0))
 have HOP:Hid (OpsIn w0):=by obtain ⟨gt,gfr,hg⟩:=hops; exact ⟨gt,gfr,(hb0.block _ (zA hg)).trans hg⟩
 have HB0:=vH hb0
 have HK1:=vH hk1
 have HK2:=vH hk2
 have HS0:=vH hs0
 clear h hops he hx hb0 hk1 hk2 hs0
 go_in
 go_wp2_with fail
 rw [← hw0]
 refine (zD0 _ R0 _ ts k o HT.out HOP.out).mono ?_
 rintro e w1 ⟨R,M1,M2,M3,rfl,hR,hr,hb⟩
 have HR:=vH hr
 have HB1:=vH hb
 have HRR:=vH hR
 clear hr hb hR hw0
 obtain ⟨⟨k2,E2,F2⟩,o2⟩:=s1
 by_cases hE:E2 = 0
 ·subst hE
  go_wp2_with fail
  go_region_with (first
   | (go_at_call 152; refine (zAI _ R M1 M2 M3 _ ts _ (HR.out.go (Below.refl _ _).drew) (run ts f).1 HRUN.out _ HE.out).mono ?_; rintro e w2 ⟨qk,qn,qs,qo,qd,qp,ql,qc,qa,qb,qr,qe,qf,rfl,hi,hr,hg⟩; have HR2:=vH hr; have HB2:=vH (zCH HB1.out ((Gr.of (Below.refl w1.heap.size w1).drew).trans hg) HRR.out HB1.out.size); have HI:=vH hi; have HZ:Hid (w1.heap.size ≤ w2.heap.size):=hg.size; have HS1:Hid (w0.heap.size ≤ w1.heap.size):=HB1.out.size; clear hr hg hi)
   | (go_at_call 151; refine (zCs _ R _ _ _ ts _ HR2.out.cu qk qn (cbs qs) (cbs qo) qd qp ql qc qa qb qr qe qf).mono ?_; rw [show ends ⟨k2,0,F2⟩ = (k2,0,0) from rfl]; dsimp only; rw [if_pos rfl]; rintro e w3 ⟨rfl,hb3⟩; have HB3:=vH (zC HB2.out hb3 (Nat.le_trans HS1.out HZ.out)); have HI3:=vH (HI.out.below hb3); have hkd:=(HB3.out.block _ (zA HK1.out)).trans HK1.out; obtain ⟨⟨d0,d1,d2,d3,d4,d5,d6,d7,d8,d9,dX⟩,g0,g1,g2,g3,g4,g5,g6,g7,g8,g9,gX⟩:=hen hkd; have hld:=zA hkd; obtain ⟨⟨b0,b1⟩,⟨h0,h1⟩,hlb⟩:=duo ((HB3.out.block _ (zA HK2.out)).trans HK2.out); clear hkd hb3))
  all_goals go_wp2_with fail
  have hx:exEnd e0 ⟨k2,0,F2⟩ = (e0,k2,0,0):=if_pos rfl
  have hbw:Below w.heap.size w w3:=zC HB0.out HB3.out (by have:=HS0.out; omega)
  have hN1:w.heap.size < w1.heap.size:=by have:=HS0.out; have:=HS1.out; omega
  have hN2:w.heap.size + 1 < w1.heap.size:=by have:=HS0.out; have:=HS1.out; omega
  exact bodyPost_ret (v:=.tuple #[.agg #[.int .i64 qk,.int .i64 qn,.string (cbs qs),.string (cbs qo),.int .i64 qd,.slice qp ql qc,.int .i64 qa,.int .i64 qb,.int .i64 qr,.int .i64 qe,.int .i64 qf],.int .i64 k2,.agg #[.int .i64 0,.int .i64 0]]) (by simp [results,Tryz.results144,go_sem,d0,d1,d2,d3,d4,d5,d6,d7,d8,d9,dX,b0,b1]) rfl ⟨_,_,_,_,_,_,_,_,_,_,_,_,_,by rw [hx],by rw [hx]; exact Is.lower (Nat.le_of_lt hN1) _ (((HI3.out.put11 (N:=w.heap.size) hN1).set (p:=⟨w.heap.size + 1,0,none⟩) hN2 _).set (p:=⟨w.heap.size + 1,1,none⟩) hN2 _),zO (zO (zD9 hbw (Nat.le_refl _)) (Nat.le_succ _)) (Nat.le_succ _)⟩
 ·have HE2:=vH hE
  clear hE
  go_wp2_with fail
  go_region_with (first
   | (go_at_call 152; refine (zAI _ R M1 M2 M3 _ ts _ (HR.out.go (Below.refl _ _).drew) (run ts f).1 HRUN.out _ HE.out).mono ?_; rintro e w2 ⟨qk,qn,qs,qo,qd,qp,ql,qc,qa,qb,qr,qe,qf,rfl,hi,hr,hg⟩; have HR2:=vH hr; have HB2:=vH (zCH HB1.out ((Gr.of (Below.refl w1.heap.size w1).drew).trans hg) HRR.out HB1.out.size); have HI:=vH hi; have HZ:Hid (w1.heap.size ≤ w2.heap.size):=hg.size; have HS1:Hid (w0.heap.size ≤ w1.heap.size):=HB1.out.size; clear hr hg hi)
   | (go_at_call 151; refine (zCs _ R _ _ _ ts _ HR2.out.cu qk qn (cbs qs) (cbs qo) qd qp ql qc qa qb qr qe qf).mono ?_; rw [show ends ⟨k2,E2,F2⟩ = (0,E2,F2) from if_neg HE2.out]; dsimp only; rw [if_neg HE2.out]; rintro e w3 ⟨rfl,hb3⟩; have HB3:=vH (zC HB2.out hb3 (Nat.le_trans HS1.out HZ.out)); have HI3:=vH (HI.out.below hb3); have hkd:=(HB3.out.block _ (zA HK1.out)).trans HK1.out; obtain ⟨⟨d0,d1,d2,d3,d4,d5,d6,d7,d8,d9,dX⟩,g0,g1,g2,g3,g4,g5,g6,g7,g8,g9,gX⟩:=hen hkd; have hld:=zA hkd; obtain ⟨⟨b0,b1⟩,⟨h0,h1⟩,hlb⟩:=duo ((HB3.out.block _ (zA HK2.out)).trans HK2.out); clear hkd hb3))
  all_goals go_wp2_with fail
  have hx:exEnd e0 ⟨k2,E2,F2⟩ = (Ex.zero,0,E2,F2):=if_neg HE2.out
  have hbw:Below w.heap.size w w3:=zC HB0.out HB3.out (by have:=HS0.out; omega)
  have hN1:w.heap.size < w1.heap.size:=by have:=HS0.out; have:=HS1.out; omega
  have hN2:w.heap.size + 1 < w1.heap.size:=by have:=HS0.out; have:=HS1.out; omega
  exact bodyPost_ret (v:=.tuple #[.agg #[.int .i64 0,.int .i64 0,.string ⟨#[]⟩,.string ⟨#[]⟩,.int .i64 0,.slice none 0 0,.int .i64 0,.int .i64 0,.int .i64 0,.int .i64 0,.int .i64 0],.int .i64 0,.agg #[.int .i64 E2,.int .i64 F2]]) (by simp [results,Tryz.results144,go_sem,d0,d1,d2,d3,d4,d5,d6,d7,d8,d9,dX,b0,b1]) rfl ⟨0,0,[],[],0,none,0,0,0,0,0,0,0,by rw [hx]; rfl,by rw [hx]; exact Is.zero,zO (zO (zD9 hbw (Nat.le_refl _)) (Nat.le_succ _)) (Nat.le_succ _)⟩
end Go.Proofs.YtipmjjfknhblnaaGreatDoor
