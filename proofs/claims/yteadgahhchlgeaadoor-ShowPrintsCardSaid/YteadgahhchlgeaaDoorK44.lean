/-
  The project's writer of programs; Print.
-/
import Derived.Test.YteadgahhchlgeaaDoorK07
import Derived.Test.YteadgahhchlgeaaDoorK27
import Derived.Test.YteadgahhchlgeaaDoorK14
import Derived.Test.YteadgahhchlgeaaDoorK18
import Derived.Test.YteadgahhchlgeaaDoorK02
import Derived.Test.YteadgahhchlgeaaDoorK23
import Derived.Test.YteadgahhchlgeaaDoorK43
import Derived.Test.YteadgahhchlgeaaDoorK39
import Derived.RegionTactic
import Derived.Deep.CutBlock
import Derived.BigQuiet
import Derived.Deep.RegionHeld3
set_option maxRecDepth 8000
set_option maxHeartbeats 8000000
namespace Go.Proofs.YteadgahhchlgeaaDoor
open Go.RowKit
open Pe (Ex)
open Ps (Sm kindOf)
open Pg (Pm Rc Fc Gm)
open Rt (tyB pad prB pmB paB fdB rcB glB fcB blT prG PmOk RcOk shB shS shF shG)
theorem zSm (x:Rc):pad 0 ++ (([[114,101,99,111,114,100,32],x.name,[32,123]]:List (List UInt8)).flatten ++ [10]) ++ (fdB x.fields ++ (pad 0 ++ (([[125]]:List (List UInt8)).flatten ++ [10]))) = rcB x:=by
 unfold rcB
 simp [pad]
theorem zQI (x:Pm):pad 0 ++ (([[103,108,111,98,97,108,32],pmB x,[59]]:List (List UInt8)).flatten ++ [10]) = glB x:=by
 unfold glB
 simp [pad]
theorem zSJ (x:Fc)(D:Nat)(hD:x.rd = (D:Int)):pad 0 ++ (([[102,117,110,99,32],x.name,[40],paB x.params,[41],(if x.has = true then [58,32] ++ tyB x.rn D else []),[32,123]]:List (List UInt8)).flatten ++ [10]) ++ (prB x.body 1 ++ (pad 0 ++ (([[125]]:List (List UInt8)).flatten ++ [10]))) = fcB x:=by
 unfold fcB blT
 rw [hD,Int.toNat_natCast]
 cases x.has <;> simp [pad]
theorem zPU {b:Nat}{w0 w1:World}(hS:Sta b w0 w1){x:Rc}{vs:List Value}(hi:RIs w0 0 x vs)(hok:RcOk x):GivW b ((0:Nat):Int) w1 41 #[.pointer (some ⟨b,0,none⟩),.agg ⟨vs⟩] (rcB x):=by
 obtain ⟨p,c,rfl,hp⟩:=hi
 rw [← zSm]
 exact zIh hS x.name p c x.at_ x.fields hp hok.2 hok.1
theorem zOs {b:Nat}{w0 w1:World}(hS:Sta b w0 w1){x:Fc}{vs:List Value}(hi:FIs w0 0 x vs)(hok:shF x):GivW b ((0:Nat):Int) w1 44 #[.pointer (some ⟨b,0,none⟩),.agg ⟨vs⟩] (fcB x):=by
 obtain ⟨p,c,q,d,rfl,hp,hq⟩:=hi
 obtain ⟨h1,h2,⟨h3,h4⟩,h5⟩:=hok
 obtain ⟨D,hD⟩:=Int.eq_ofNat_of_zero_le h3
 rw [← zSJ x D hD]
 have h:=zF3 hS x.name p c x.has x.rn D (by omega) q d x.at_ x.params x.body hp h1 h2 hq h5
 rw [← hD] at h
 exact h
theorem zBC {α:Type}(f : α → List UInt8){l:List α}{j:Nat}{x : α}(h:l.drop j = x :: l.drop (j + 1)):(l.drop j).flatMap f = f x ++ (l.drop (j + 1)).flatMap f:=by rw [h,List.flatMap_cons]
theorem zGB {b:Nat}{w0 w1:World}(hS:Sta b w0 w1)(g:Gm)(hg:shG g)(p1 p2 p3:Option Addr)(c1 c2 c3:Nat)(h1:LAt RIs 3 w0 0 p1 g.recs)(h2:LAt PIs 4 w0 0 p2 g.globals)(h3:LAt FIs 7 w0 0 p3 g.funcs) :
 GivW b ((0:Nat):Int) w1 24 #[.pointer (some ⟨b,0,none⟩),.agg #[.slice p1 g.recs.length c1,.slice p2 g.globals.length c2,.slice p3 g.funcs.length c3]] (prG g):=by
 intro l w hW hlen
 have hx:=hW.go (w':=(w.alloc (.cells #[.slice p1 g.recs.length c1,.slice p2 g.globals.length c2,.slice p3 g.funcs.length c3] 26))) ((Below.refl _ _).alloc (Nat.le_refl _) _)
 have H0:=vH hx
 have F:=vH (Ws.start hx.is)
 have SS:=vH (hS.at_ hx)
 have HBX:=vH (heap_alloc_new w (.cells #[.slice p1 g.recs.length c1,.slice p2 g.globals.length c2,.slice p3 g.funcs.length c3] 26))
 have HNE:=vH (Nat.ne_of_gt hW.is.lt)
 have HL:Hid (l.length + ((g.recs.flatMap rcB).length + ((g.globals.flatMap glB).length + (g.funcs.flatMap fcB).length)) ≤ 70368744177664):=vH (by
  unfold prG at hlen
  simp only [List.length_append] at hlen
  omega)
 have HG:=vH hg
 have R1:=vH h1
 have R2:=vH h2
 have R3:=vH h3
 obtain ⟨⟨b0,b1,b2⟩,-⟩:=tri HBX.out
 have hnr:=hg.nr
 have hng:=hg.ng
 have hnf:=hg.nf
 clear hW hlen hx hg h1 h2 h3 hS
 go_in
 go_wp2_with fail
 clear b0 b1 b2
 go_loopg [13] g.recs.length (fun gk0 v wr => ∃ j:Nat,gk0 + j = g.recs.length ∧ v = .int .i64 (j:Int) ∧ ∃ t:List UInt8,Ws b t ((0:Nat):Int) (w.alloc (.cells #[.slice p1 g.recs.length c1,.slice p2 g.globals.length c2,.slice p3 g.funcs.length c3] 26)) wr ∧ t ++ (g.recs.drop j).flatMap rcB = l ++ g.recs.flatMap rcB)
 case atStart => exact ⟨0,rfl,rfl,_,F.out,rfl⟩
 case round =>
  obtain ⟨j,hj,rfl,t,hF,ht⟩:=hrel
  have F4:=vH hF
  have HT:=vH ht
  have HJ:=vH hj
  cases gk with
  | zero =>
    obtain rfl:j = g.recs.length:=by omega
    have hd1:decide ((g.recs.length:Int) < (g.recs.length:Int)) = false:=decide_eq_false (by omega)
    have h9:=ht
    rw [List.drop_of_length_le (Nat.le_refl _),List.flatMap_nil,List.append_nil] at h9
    have E1:=vH (hF.cast h9)
    obtain ⟨⟨b0,b1,b2⟩,-⟩:=tri (hF.box HBX.out HNE.out (by decide))
    clear hF ht hj h9
    go_wp2_with fail
    clear b0 b1 b2 F4 HT HJ
    obtain ⟨wa,rfl⟩:∃ wa:World,wa = wr:=⟨_,rfl⟩
    go_loopg [24] g.globals.length (fun gk0 v wr => ∃ j:Nat,gk0 + j = g.globals.length ∧ v = .int .i64 (j:Int) ∧ ∃ t:List UInt8,Ws b t ((0:Nat):Int) (w.alloc (.cells #[.slice p1 g.recs.length c1,.slice p2 g.globals.length c2,.slice p3 g.funcs.length c3] 26)) wr ∧ t ++ (g.globals.drop j).flatMap glB = (l ++ g.recs.flatMap rcB) ++ g.globals.flatMap glB)
    case atStart => exact ⟨0,rfl,rfl,_,E1.out,rfl⟩
    case round =>
        obtain ⟨j,hj,rfl,t,hF,ht⟩:=hrel
        have F4:=vH hF
        have HT:=vH ht
        have HJ:=vH hj
        cases gk with
        | zero =>
          obtain rfl:j = g.globals.length:=by omega
          have hd1:decide ((g.globals.length:Int) < (g.globals.length:Int)) = false:=decide_eq_false (by omega)
          have h9:=ht
          rw [List.drop_of_length_le (Nat.le_refl _),List.flatMap_nil,List.append_nil] at h9
          have E2:=vH (hF.cast h9)
          obtain ⟨⟨b0,b1,b2⟩,-⟩:=tri (hF.box HBX.out HNE.out (by decide))
          clear hF ht hj h9
          go_wp2_with fail
          clear b0 b1 b2 F4 HT HJ
          obtain ⟨wb,rfl⟩:∃ wb:World,wb = wr:=⟨_,rfl⟩
          go_loopg [37] g.funcs.length (fun gk0 v wr => ∃ j:Nat,gk0 + j = g.funcs.length ∧ v = .int .i64 (j:Int) ∧ ∃ t:List UInt8,Ws b t ((0:Nat):Int) (w.alloc (.cells #[.slice p1 g.recs.length c1,.slice p2 g.globals.length c2,.slice p3 g.funcs.length c3] 26)) wr ∧ t ++ (g.funcs.drop j).flatMap fcB = (l ++ g.recs.flatMap rcB ++ g.globals.flatMap glB) ++ g.funcs.flatMap fcB)
          case atStart => exact ⟨0,rfl,rfl,_,E2.out,rfl⟩
          case round =>
           obtain ⟨j,hj,rfl,t,hF,ht⟩:=hrel
           have F4:=vH hF
           have HT:=vH ht
           have HJ:=vH hj
           cases gk with
           | zero =>
             obtain rfl:j = g.funcs.length:=by omega
             have hd1:decide ((g.funcs.length:Int) < (g.funcs.length:Int)) = false:=decide_eq_false (by omega)
             have h9:=ht
             rw [List.drop_of_length_le (Nat.le_refl _),List.flatMap_nil,List.append_nil] at h9
             have H9:=vH h9
             clear hF ht hj h9
             go_wp2_with fail
             go_end0
             exact ⟨rfl,(H0.out.join F4.out).cast (by rw [H9.out]; unfold prG; simp only [List.append_assoc])⟩
           | succ m =>
             have hjl:j < g.funcs.length:=by omega
             have hd1:decide ((j:Int) < (g.funcs.length:Int)) = true:=decide_eq_true (by omega)
             have hd2:decide (g.funcs.length ≤ j) = false:=decide_eq_false (by omega)
             have hi1:(j:Int) < (g.funcs.length:Int):=by omega
             have hi3:(0:Int) ≤ (j:Int):=by omega
             have hdw:wrap64 ((j:Int) + 1) = ((j + 1:Nat):Int):=by simp [wrap64]; omega
             have he:=List.getElem?_eq_getElem hjl
             have hd4:g.funcs.drop j = g.funcs[j] :: g.funcs.drop (j + 1):=List.drop_eq_getElem_cons hjl
             have hm:=HG.out.funcs _ (List.getElem_mem hjl)
             generalize g.funcs[j] = x at he hd4 hm
             obtain ⟨kb,ko,vs,rfl,hkb,hi,hc⟩:=R3.out.get he
             have hup:=SS.out.up hF
             have hn2:=ht
             rw [zBC fcB hd4] at hn2
             have h3:=congrArg List.length hn2
             have h4:=HL.out
             simp only [List.length_append] at h3 h4
             have h2:t.length + (fcB x).length ≤ 70368744177664:=by omega
             have hkw:kb ≠ wr.heap.size:=by have:=hup.size; omega
             have hG:=zOs SS.out hi hm
             obtain ⟨fp,fcap,fq,fcap2,rfl,-⟩:=id hi
             have y0:=zD hup (hc 0 _ (by decide) rfl)
             have y1:=zD hup (hc 1 _ (by decide) rfl)
             have y2:=zD hup (hc 2 _ (by decide) rfl)
             have y3:=zD hup (hc 3 _ (by decide) rfl)
             have y4:=zD hup (hc 4 _ (by decide) rfl)
             have y5:=zD hup (hc 5 _ (by decide) rfl)
             have y6:=zD hup (hc 6 _ (by decide) rfl)
             simp only [Nat.add_zero] at y0
             have HGG:=vH hG
             have H2:=vH h2
             have HN2:=vH hn2
             clear hF ht hj he hd4 hm hi hc hup hn2 h2 h3 h4 hG hkb
             go_wp2_with fail
             refine (HGG.out _ _ (F4.out.go ((Below.refl _ _).alloc (Nat.le_refl _) _)) H2.out).mono ?_
             rintro e u ⟨rfl,hW2⟩
             have F6:=vH hW2
             clear hW2 y0 y1 y2 y3 y4 y5 y6
             go_wp2_with fail
             go_roundg m
             case measure => omega
             case rel => exact ⟨j + 1,by have:=HJ.out; omega,by first | rfl | simp [hdw],_,F6.out,by rw [← HN2.out,List.append_assoc]⟩
        | succ m =>
          have hjl:j < g.globals.length:=by omega
          have hd1:decide ((j:Int) < (g.globals.length:Int)) = true:=decide_eq_true (by omega)
          have hd2:decide (g.globals.length ≤ j) = false:=decide_eq_false (by omega)
          have hi1:(j:Int) < (g.globals.length:Int):=by omega
          have hi3:(0:Int) ≤ (j:Int):=by omega
          have hdw:wrap64 ((j:Int) + 1) = ((j + 1:Nat):Int):=by simp [wrap64]; omega
          have he:=List.getElem?_eq_getElem hjl
          have hd4:g.globals.drop j = g.globals[j] :: g.globals.drop (j + 1):=List.drop_eq_getElem_cons hjl
          have hm:=HG.out.globs _ (List.getElem_mem hjl)
          generalize g.globals[j] = x at he hd4 hm
          obtain ⟨kb,ko,vs,rfl,hkb,hi,hc⟩:=R2.out.get he
          have hup:=SS.out.up hF
          have hn2:=ht
          rw [zBC glB hd4] at hn2
          have h3:=congrArg List.length hn2
          have h4:=HL.out
          simp only [List.length_append] at h3 h4
          have h2:t.length + (glB x).length ≤ 70368744177664:=by omega
          have hkw:kb ≠ wr.heap.size:=by have:=hup.size; omega
          rw [PIs] at hi
          subst hi
          have y0:=zD hup (hc 0 _ (by decide) rfl)
          have y1:=zD hup (hc 1 _ (by decide) rfl)
          have y2:=zD hup (hc 2 _ (by decide) rfl)
          have y3:=zD hup (hc 3 _ (by decide) rfl)
          simp only [Nat.add_zero] at y0
          have h5:(pmB x).length ≤ 70368744177664:=by
           rw [← zQI] at h2
           simp only [List.flatten_cons,List.length_append] at h2
           omega
          rw [← zQI] at h2 hn2
          have H2:=vH h2
          have H5:=vH h5
          have HN2:=vH hn2
          have HM:=vH hm
          clear hF ht hj he hd4 hm hc hup hn2 h2 h3 h4 h5 hkb
          go_wp2_with fail
          refine (zB5 _ x HM.out H5.out).mono ?_
          rintro e u ⟨rfl,hb⟩
          have F5:=vH ((F4.out.go ((Below.refl _ _).alloc (Nat.le_refl _) _)).go hb)
          clear hb y0 y1 y2 y3
          go_wp2_with fail
          refine (zBi [[103,108,111,98,97,108,32],pmB x,[59]] F5.out (by decide) H2.out (by simp) _ rfl 3 rfl).mono ?_
          rintro e u ⟨rfl,hW2⟩
          have F6:=vH hW2
          clear hW2
          go_wp2_with fail
          go_roundg m
          case measure => omega
          case rel => exact ⟨j + 1,by have:=HJ.out; omega,by first | rfl | simp [hdw],_,F6.out,by rw [← HN2.out,List.append_assoc]⟩
  | succ m =>
    have hjl:j < g.recs.length:=by omega
    have hd1:decide ((j:Int) < (g.recs.length:Int)) = true:=decide_eq_true (by omega)
    have hd2:decide (g.recs.length ≤ j) = false:=decide_eq_false (by omega)
    have hi1:(j:Int) < (g.recs.length:Int):=by omega
    have hi3:(0:Int) ≤ (j:Int):=by omega
    have hdw:wrap64 ((j:Int) + 1) = ((j + 1:Nat):Int):=by simp [wrap64]; omega
    have he:=List.getElem?_eq_getElem hjl
    have hd4:g.recs.drop j = g.recs[j] :: g.recs.drop (j + 1):=List.drop_eq_getElem_cons hjl
    have hm:=HG.out.recs _ (List.getElem_mem hjl)
    generalize g.recs[j] = x at he hd4 hm
    obtain ⟨kb,ko,vs,rfl,hkb,hi,hc⟩:=R1.out.get he
    have hup:=SS.out.up hF
    have hn2:=ht
    rw [zBC rcB hd4] at hn2
    have h3:=congrArg List.length hn2
    have h4:=HL.out
    simp only [List.length_append] at h3 h4
    have h2:t.length + (rcB x).length ≤ 70368744177664:=by omega
    have hkw:kb ≠ wr.heap.size:=by have:=hup.size; omega
    have hG:=zPU SS.out hi hm
    obtain ⟨fp,fcap,rfl,-⟩:=id hi
    have y0:=zD hup (hc 0 _ (by decide) rfl)
    have y1:=zD hup (hc 1 _ (by decide) rfl)
    have y2:=zD hup (hc 2 _ (by decide) rfl)
    simp only [Nat.add_zero] at y0
    have HGG:=vH hG
    have H2:=vH h2
    have HN2:=vH hn2
    clear hF ht hj he hd4 hm hi hc hup hn2 h2 h3 h4 hG hkb
    go_wp2_with fail
    refine (HGG.out _ _ (F4.out.go ((Below.refl _ _).alloc (Nat.le_refl _) _)) H2.out).mono ?_
    rintro e u ⟨rfl,hW2⟩
    have F6:=vH hW2
    clear hW2 y0 y1 y2
    go_wp2_with fail
    go_roundg m
    case measure => omega
    case rel => exact ⟨j + 1,by have:=HJ.out; omega,by first | rfl | simp [hdw],_,F6.out,by rw [← HN2.out,List.append_assoc]⟩
theorem zFQ (w:World)(he:EnvS w)(g:Gm)(hg:shG g){vs:List Value}(hi:GIs w 0 g vs)(hl:(prG g).length ≤ 70368744177664) :
 Calls Tryd.prog 8 #[.agg ⟨vs⟩] w fun e w' => e = .returned (.string (cbs (prG g))) ∧ Below w.heap.size w w':=by
 obtain ⟨p1,c1,p2,c2,p3,c3,rfl,h1,h2,h3⟩:=hi
 have hb:Below w.heap.size w (w.alloc (.cells #[.slice p1 g.recs.length c1,.slice p2 g.globals.length c2,.slice p3 g.funcs.length c3] 26)):=(Below.refl _ _).alloc (Nat.le_refl _) _
 have hs:=zPJ he #[.slice p1 g.recs.length c1,.slice p2 g.globals.length c2,.slice p3 g.funcs.length c3] 26
 have hf:=Ws.fresh1 w (.cells #[.slice p1 g.recs.length c1,.slice p2 g.globals.length c2,.slice p3 g.funcs.length c3] 26)
 have ha:=Ag.below (B:=0) hb
 have HX:=vH (zGB hs g hg p1 p2 p3 c1 c2 c3 (h1.ag (fun _ _ h => h.ag ha) ha) (LAt.ag (w:=w) (w1:=w.alloc (.cells #[.slice p1 g.recs.length c1,.slice p2 g.globals.length c2,.slice p3 g.funcs.length c3] 26)) (fun _ _ h => h) h2 ha) (h3.ag (fun _ _ h => h.ag ha) ha) [] _ hf (by simp; omega))
 have HB:=vH hb
 clear hs hf hl hb ha h1 h2 h3 he
 go_in
 go_wp2_with fail
 refine HX.out.mono ?_
 rintro e w1 ⟨rfl,h1⟩
 have H1:=vH h1
 clear h1 HX
 go_wp2_with fail
 refine (zCM _ _ _ _ H1.out.is).mono ?_
 rintro e w2 ⟨rfl,hb⟩
 have HB2:=vH (HB.out.trans ((((Below.refl _ _).alloc (Nat.le_refl _) _).trans ((H1.out.k.below.trans hb).mono (by rw [zC]; omega))).mono (by rw [zC]; omega)))
 clear hb
 go_wp2_with fail
 go_ret
 exact ⟨rfl,HB2.out⟩
end Go.Proofs.YteadgahhchlgeaaDoor
namespace Go.Proofs.YteadgahhchlgeaaDoor
open Go.RowKit
open Pe (Ex)
open Ps (Sm kindOf)
open Pg (Pm Rc Fc Gm)
open Rt (tyB prG shG zB8)
def k6T:List UInt8:=[102,117,110,99,32,109,97,105,110,40,41,123,105,102,32,49,60,50,123,112,114,105,110,116,40,49,43,50,41,42,51,59,125,125]
def k6P:List UInt8:=[102,117,110,99,32,109,97,105,110,40,41,32,123,10,32,32,105,102,32,49,32,60,32,50,32,123,10,32,32,32,32,112,114,105,110,116,32,40,49,32,43,32,50,41,32,42,32,51,59,10,32,32,125,10,125,10]
set_option maxRecDepth 100000 in
theorem zOk:(answer k6T).2 = (0,0):=by kernel_rfl
set_option maxRecDepth 100000 in
theorem zL3:prG (answer k6T).1 = k6P:=by kernel_rfl
theorem zOj:tyB [105,110,116] 2 = [91,91,105,110,116,93,93]:=by kernel_rfl
theorem zEy (w:World)(he:EnvS w) :
 Calls Tryd.prog 10 #[] w fun e w' => e = .returned (.bool true) ∧ Below w.heap.size w w':=by
 have hq:=zCD ⟨#[102,117,110,99,32,109,97,105,110,40,41,123,105,102,32,49,60,50,123,112,114,105,110,116,40,49,43,50,41,42,51,59,125,125]⟩ (by decide) w
 rw [show (⟨#[102,117,110,99,32,109,97,105,110,40,41,123,105,102,32,49,60,50,123,112,114,105,110,116,40,49,43,50,41,42,51,59,125,125]⟩:ByteArray).data.toList = k6T from rfl] at hq
 have hf:=zOk
 have hsh:=zB8 (show (answer k6T).2.1 = 0 by rw [hf])
 have hpr:=zL3
 generalize answer k6T = y at hq hf hsh hpr
 obtain ⟨g,E,K⟩:=y
 dsimp only at hf hsh hpr
 injection hf with hE hK
 subst hE hK
 have HQ:=vH hq
 have HSH:=vH hsh
 have HPR:=vH hpr
 have HE:=vH he
 clear hq hsh hpr he
 go_in
 go_wp2_with fail
 refine HQ.out.mono ?_
 rintro e w1 ⟨p1,n1,c1,p2,n2,c2,p3,n3,c3,rfl,hgi,hb⟩
 have HG1:=vH hgi
 have HB1:=vH hb
 clear hgi hb HQ
 go_wp2_with fail
 have hba:Below w1.heap.size w1 ((w1.alloc (.cells #[.slice p1 n1 c1,.slice p2 n2 c2,.slice p3 n3 c3] 26)).alloc (.cells vF 29)):=zAd (zAd (Below.refl _ _))
 have hp:=zFQ _ ((HE.out.below HB1.out).below hba) g HSH.out ((HG1.out.ag (Ag.below hba)).lower (Nat.zero_le _)) (by rw [HPR.out]; decide)
 rw [HPR.out] at hp
 have HB2:=vH (zH HB1.out hba HB1.out.size)
 have HP:=vH hp
 clear hp hba
 refine HP.out.mono ?_
 rintro e w2 ⟨rfl,hb⟩
 have HB3:=vH (zH HB2.out hb HB2.out.size)
 clear hb HP
 have hc:(cbs k6P).toList = [102,117,110,99,32,109,97,105,110,40,41,32,123,10,32,32,105,102,32,49,32,60,32,50,32,123,10,32,32,32,32,112,114,105,110,116,32,40,49,32,43,32,50,41,32,42,32,51,59,10,32,32,125,10,125,10]:=zR _
 go_wp2_with fail
 clear hc
 have hty:=zCz w2 [105,110,116] 2 (by decide) (by decide)
 rw [zOj] at hty
 refine hty.mono ?_
 rintro e w3 ⟨rfl,hb⟩
 have HB4:=vH (zH HB3.out hb HB3.out.size)
 clear hb hty
 have hc:(cbs [91,91,105,110,116,93,93]).toList = [91,91,105,110,116,93,93]:=zR _
 go_wp2_with fail
 go_ret
 exact ⟨rfl,HB4.out⟩
end Go.Proofs.YteadgahhchlgeaaDoor
namespace Go.Proofs.YteadgahhchlgeaaDoor
open Go.RowKit
open Px (RT tokAt isT)
open Pe (inc dec Ex)
open Qe (Q)
theorem zIu (w:World)(R0:Nat)(S:Value)(ts:List RT)(k o:Int)(h:Toks w R0 S ts)(f:Nat)(hf:f ≤ 1000000000)(x:Ex × Int × Int × Int)(hx:Qe.expr ts f k o = some x) :
 Calls Tryd.prog 12 #[S,.int .i64 k,.int .i64 o] w fun e w' => ∃ (kind num:Int) (name ofn:List UInt8) (dims:Int) (p:Option Addr) (n c:Nat) (at_ b r d ref:Int),
  e = .returned (.tuple #[.agg #[.int .i64 kind,.int .i64 num,.string (cbs name),.string (cbs ofn),.int .i64 dims,.slice p n c,.int .i64 at_,.int .i64 b,.int .i64 r,.int .i64 d,.int .i64 ref],.int .i64 x.2.1,.agg #[.int .i64 x.2.2.1,.int .i64 x.2.2.2]]) ∧
  Is w' w.heap.size x.1 (exCells kind num name ofn dims (.slice p n c) at_ b r d ref) ∧ Below w.heap.size w w':=by
 obtain ⟨p,n,c,rfl⟩:=h.slice
 obtain ⟨e0,s1,he,rfl⟩:∃ e0 s1,Qe.run ts f 0 ⟨k,max o 0,0,0⟩ = some (e0,s1) ∧ x = Qe.exEnd e0 s1:=by
  unfold Qe.expr at hx
  split at hx
  ·cases hx
  ·rename_i e0 s1 he
   exact ⟨e0,s1,he,by simpa using hx.symm⟩
 obtain ⟨w0,hw0⟩:∃ w0,w0 = ((w.alloc (.cells vE 45)).alloc (.cells vF 29)).alloc (.cells #[.slice p n c,.int .i64 k,.int .i64 (max o 0),.int .i64 0,.int .i64 0] 69):=⟨_,rfl⟩
 have hb0:Below w.heap.size w w0:=by rw [hw0]; exact zAd (zAd (zAd (Below.refl _ _)))
 have hk1:w0.heap[w.heap.size]? = some (.cells vE 45 (0,0)):=by rw [hw0]; exact zM _ (zM _ (heap_alloc_new w _))
 have hk2:w0.heap[w.heap.size + 1]? = some (.cells vF 29 (0,0)):=by rw [hw0]; have:=zM (.cells #[.slice p n c,.int .i64 k,.int .i64 (max o 0),.int .i64 0,.int .i64 0] 69) (heap_alloc_new (w.alloc (.cells vE 45)) (.cells vF 29)); rw [zC] at this; exact this
 have hk3:w0.heap[w.heap.size + 1 + 1]? = some (.cells #[.slice p n c,.int .i64 k,.int .i64 (max o 0),.int .i64 0,.int .i64 0] 69 (0,0)):=by rw [hw0]; have:=heap_alloc_new ((w.alloc (.cells vE 45)).alloc (.cells vF 29)) (.cells #[.slice p n c,.int .i64 k,.int .i64 (max o 0),.int .i64 0,.int .i64 0] 69); simp only [zC] at this; exact this
 have hq:Qr w0 (w.heap.size + 1 + 1) (.slice p n c) ts ⟨k,max o 0,0,0⟩:=⟨hk3,(h.re (by omega)).below hb0⟩
 have HRUN:=vH (zJF ts f hf)
 have HE:=vH he
 have HQ:=vH hq
 have HB0:=vH hb0
 have HK1:=vH hk1
 have HK2:=vH hk2
 clear h he hx hb0 hk1 hk2 hk3 hq
 go_in
 go_wp2_with fail
 rw [← hw0]
 refine (HRUN.out 0 _ _ (by decide) HE.out w0 _ _ HQ.out).mono ?_
 rintro e w1 ⟨qk,qn,qs,qo,qd,qp,ql,qc,qa,qb,qr,qe,qf,rfl,hi,hr,hg⟩
 have HR1:=vH (hr.go ((Below.refl _ _).alloc (Nat.le_refl _) (.cells #[.int .i64 qk,.int .i64 qn,.string (cbs qs),.string (cbs qo),.int .i64 qd,.slice qp ql qc,.int .i64 qa,.int .i64 qb,.int .i64 qr,.int .i64 qe,.int .i64 qf] 45)))
 have HI:=vH (hi.alloc (.cells #[.int .i64 qk,.int .i64 qn,.string (cbs qs),.string (cbs qo),.int .i64 qd,.slice qp ql qc,.int .i64 qa,.int .i64 qb,.int .i64 qr,.int .i64 qe,.int .i64 qf] 45))
 have hg2:=hg.alloc (.cells #[.int .i64 qk,.int .i64 qn,.string (cbs qs),.string (cbs qo),.int .i64 qd,.slice qp ql qc,.int .i64 qa,.int .i64 qb,.int .i64 qr,.int .i64 qe,.int .i64 qf] 45)
 have HX:=vH (heap_alloc_new w1 (.cells #[.int .i64 qk,.int .i64 qn,.string (cbs qs),.string (cbs qo),.int .i64 qd,.slice qp ql qc,.int .i64 qa,.int .i64 qb,.int .i64 qr,.int .i64 qe,.int .i64 qf] 45))
 have HA1:=vH (hg2.box HK1.out (by omega))
 have HA2:=vH (hg2.box HK2.out (by omega))
 have HSZ:Hid (w.heap.size + 1 + 1 < w1.heap.size):=hr.lt
 have HSZ0:Hid (w.heap.size + 1 + 1 < w0.heap.size):=HQ.out.lt
 have HB1:Hid (Below w.heap.size w (w1.alloc (.cells #[.int .i64 qk,.int .i64 qn,.string (cbs qs),.string (cbs qo),.int .i64 qd,.slice qp ql qc,.int .i64 qa,.int .i64 qb,.int .i64 qr,.int .i64 qe,.int .i64 qf] 45))):=zMJ HB0.out hg2 (by omega) HB0.out.size
 clear hi hr hg hg2 HE HRUN HQ HB0 HK1 HK2 hw0
 obtain ⟨⟨k2,o2,E2,F2⟩,hs1⟩:∃ q,q = s1:=⟨_,rfl⟩
 subst hs1
 go_wp2_with fail
 refine (zAS _ _ _ ts _ HR1.out).mono ?_
 rintro e w2 ⟨rfl,hw2⟩
 rw [hw2] at HR1 HI HX HA1 HA2 HB1
 clear hw2
 obtain ⟨⟨c0,c1,c2,c3,c4⟩,fr,hRl⟩:=HR1.out.cells
 obtain ⟨⟨x0,x1,x2,x3,x4,x5,x6,x7,x8,x9,xX⟩,y0,y1,y2,y3,y4,y5,y6,y7,y8,y9,yX⟩:=hen HX.out
 have hlx:=zA HX.out
 obtain ⟨⟨d0,d1,d2,d3,d4,d5,d6,d7,d8,d9,dX⟩,g0,g1,g2,g3,g4,g5,g6,g7,g8,g9,gX⟩:=hen HA1.out
 have hld:=zA HA1.out
 obtain ⟨⟨b0,b1⟩,⟨h0,h1⟩,hlb⟩:=duo HA2.out
 have hd1:w.heap.size ≠ w1.heap.size:=by have:=HSZ.out; omega
 have hd2:w.heap.size + 1 ≠ w1.heap.size:=by have:=HSZ.out; omega
 have hd3:=Ne.symm hd1
 have hd4:=Ne.symm hd2
 have hd5:w.heap.size + 1 + 1 ≠ w1.heap.size:=by have:=HSZ.out; omega
 have hd6:=Ne.symm hd5
 dsimp only at c1 c2 c3 c4
 have hN1:w.heap.size < w0.heap.size:=by have:=HSZ0.out; omega
 have hN2:w.heap.size + 1 < w0.heap.size:=by have:=HSZ0.out; omega
 by_cases hE:E2 = 0
 ·subst hE
  go_wp2_with fail
  go_region
  all_goals go_wp2_with fail
  have hx:Qe.exEnd e0 ⟨k2,o2,0,F2⟩ = (e0,k2,0,0):=if_pos rfl
  exact bodyPost_ret (v:=.tuple #[.agg #[.int .i64 qk,.int .i64 qn,.string (cbs qs),.string (cbs qo),.int .i64 qd,.slice qp ql qc,.int .i64 qa,.int .i64 qb,.int .i64 qr,.int .i64 qe,.int .i64 qf],.int .i64 k2,.agg #[.int .i64 0,.int .i64 0]]) (by simp [results,Tryd.results12,go_sem,d0,d1,d2,d3,d4,d5,d6,d7,d8,d9,dX,b0,b1]) rfl ⟨_,_,_,_,_,_,_,_,_,_,_,_,_,by rw [hx],by rw [hx]; exact Is.lower (Nat.le_of_lt hN1) _ ((((HI.out.put11 (N:=w.heap.size) hN1).set (p:=⟨w.heap.size + 1,0,none⟩) hN2 _).set (p:=⟨w.heap.size + 1,1,none⟩) hN2 _).drew 1),zDX (zAs (zAs (zHP HB1.out (Nat.le_refl _)) (Nat.le_succ _)) (Nat.le_succ _))⟩
 ·have hd:(E2 == 0) = false:=by simpa using hE
  have HE2:=vH hE
  clear hE
  dsimp only
  rw [hd]
  go_wp2_with fail
  go_region
  all_goals go_wp2_with fail
  have hx:Qe.exEnd e0 ⟨k2,o2,E2,F2⟩ = (Ex.zero,0,E2,F2):=if_neg HE2.out
  exact bodyPost_ret (v:=.tuple #[.agg #[.int .i64 0,.int .i64 0,.string ⟨#[]⟩,.string ⟨#[]⟩,.int .i64 0,.slice none 0 0,.int .i64 0,.int .i64 0,.int .i64 0,.int .i64 0,.int .i64 0],.int .i64 0,.agg #[.int .i64 E2,.int .i64 F2]]) (by simp [results,Tryd.results12,go_sem,d0,d1,d2,d3,d4,d5,d6,d7,d8,d9,dX,b0,b1]) rfl ⟨0,0,[],[],0,none,0,0,0,0,0,0,0,by rw [hx]; rfl,by rw [hx]; exact Is.zero,zDX (zAs (zAs (zHP HB1.out (Nat.le_refl _)) (Nat.le_succ _)) (Nat.le_succ _))⟩
end Go.Proofs.YteadgahhchlgeaaDoor
namespace Go.Proofs.YteadgahhchlgeaaDoor
open Go.RowKit
open Pe (Ex)
open Ps (kindOf)
open Sim (zFl)
open Rt (prE zDS zF7 zHD zDf shE)
theorem zIL {r:List UInt8}{us:List Ln.Lx.Tk}{K:Nat}(ht:Ln.Lx.toks r = (us,0,K)):∃ x,Qe.expr (us.map toRT) (Sim.enough (us.map toRT)) 0 0 = some x ∧ Sim.enough (us.map toRT) ≤ 1000000000 ∧ fitE x.1 = true ∧
 (x.2.2.1 = 0 → shE x.1 ∧ (prE x.1).length ≤ 240040 ∧ ((prE x.1).length ≤ 6000 → ∃ vs N,Ln.Lx.toks (prE x.1) = (vs,0,0) ∧ vs.length = N + 1 ∧
  ∃ y,Qe.expr (vs.map toRT) (Sim.enough (vs.map toRT)) 0 0 = some y ∧ Sim.enough (vs.map toRT) ≤ 1000000000 ∧ fitE y.1 = true ∧ sameE y.1 x.1 = true ∧ y.2 = ((N:Int),0,0))):=by
 have hlen:us.length ≤ 6001:=by have:=Ln.Lx.toks_len r; rw [ht] at this; exact this
 obtain ⟨x,-,h2⟩:=Sim.parse_same (ts:=us.map toRT) (by rw [List.length_map]; omega) 0 0
 refine ⟨x,h2,by unfold Sim.enough; rw [List.length_map]; omega,zFl (by rw [List.length_map]; omega) h2,fun hE => ?_⟩
 obtain ⟨e,k,E,F⟩:=x
 dsimp only at hE ⊢
 subst hE
 obtain ⟨d,l,h3,h4,h5⟩:=zDS ht h2
 refine ⟨zDf h3 h4,zHD ht h2,fun hl => ?_⟩
 obtain ⟨us2,h6,h7⟩:=zF7 h3 h4 h5 hl
 have hlen2:(us2 ++ [(⟨0,[],0,(prE e).length⟩:Ln.Lx.Tk)]).length ≤ 6001:=by have:=Ln.Lx.toks_len (prE e); rw [h6] at this; exact this
 obtain ⟨y,-,h8⟩:=Sim.parse_same (ts:=(us2 ++ [(⟨0,[],0,(prE e).length⟩:Ln.Lx.Tk)]).map toRT) (by rw [List.length_map]; omega) 0 0
 obtain ⟨h9,h10⟩:=h7 _ y h8
 refine ⟨_,us2.length,h6,by rw [List.length_append,List.length_singleton],y,h8,?_,zFl (by rw [List.length_map]; omega) h8,by rw [zEh]; exact h9,h10⟩
 unfold Sim.enough
 rw [List.length_map]
 omega
theorem zMu {w w':World}{bl:Nat}{A:Array Value}{T:TypeId}(h:w.heap[bl]? = some (.cells A T (0,0)))(hb:Below w.heap.size w w'):w'.heap[bl]? = some (.cells A T (0,0)):=(hb.block _ (zA h)).trans h
end Go.Proofs.YteadgahhchlgeaaDoor
namespace Go.Proofs.YteadgahhchlgeaaDoor
open Go.RowKit
open Px (RT tokAt)
open Pe
open Ps (Sm PX)
end Go.Proofs.YteadgahhchlgeaaDoor
namespace Go.Proofs.YteadgahhchlgeaaDoor
open Go.RowKit
open Pe
open Ps (Sm PX)
open Pg (BX Pm Rc Fc Gm)
end Go.Proofs.YteadgahhchlgeaaDoor
namespace Go.Proofs.YteadgahhchlgeaaDoor
open Go.RowKit
open Sim (zHA zCj)
open Px (RT tokAt)
open Qe (Q)
open Pe (Ex)
open Ps (Sm PX)
open Pg (BX Pm Rc Fc Gm)
end Go.Proofs.YteadgahhchlgeaaDoor
namespace Go.Proofs.YteadgahhchlgeaaDoor
open Go.RowKit
open Pe (Ex)
open Ps (Sm kindOf)
open Pg (Pm Rc Fc Gm)
open Rt (prG shG zB8 zEn zGC zGD)
end Go.Proofs.YteadgahhchlgeaaDoor
