/-
  The contracts of the project's reader: a variable or a call.
-/
import Derived.Test.YtipmjjfknhblnaaGreatDoorK06
import Derived.Test.YtipmjjfknhblnaaGreatDoorK08
import Derived.Test.YtipmjjfknhblnaaGreatDoorK02
import Derived.Deep.RegionHeld3
import Derived.Deep.LoopGhost
import Derived.Laws.StructEq
set_option maxRecDepth 8000
set_option maxHeartbeats 8000000
namespace Go.Proofs.YtipmjjfknhblnaaGreatDoor
open Go.RowKit
open Px (RT tokAt)
open Pe
def KidsAt (w:World)(B:Nat)(p:Option Addr)(l:List Ex):Prop:=l = [] ∨ ∃ bl off,p = some ⟨bl,off,none⟩ ∧ bl < w.heap.size ∧ B ≤ bl ∧ At w B bl off l
theorem KidsAt.set {w:World}{B:Nat}{q:Option Addr}{l:List Ex}(h:KidsAt w B q l){p:Addr}(hp:p.block < B)(u:Value):KidsAt (w.setCell p u) B q l:=by
 rcases h with h | ⟨bl,off,h1,h2,h3,h4⟩
 ·exact .inl h
 ·have hs:=((Below.refl 0 w).setCell (p:=p) (Nat.zero_le _) u).size
  exact .inr ⟨bl,off,h1,Nat.lt_of_lt_of_le h2 hs,h3,At.keep hs (fun bl h1 _ => Below.heap_setCell w p u bl (by omega)) l off h2 h3 h4⟩
theorem KidsAt.lower {w:World}{B B2:Nat}{q:Option Addr}{l:List Ex}(h:KidsAt w B q l)(hB:B2 ≤ B):KidsAt w B2 q l:=by
 rcases h with h | ⟨bl,off,h1,h2,h3,h4⟩
 ·exact .inl h
 ·exact .inr ⟨bl,off,h1,h2,Nat.le_trans hB h3,At.lower hB l off h4⟩
theorem KidsAt.put11 {w:World}{B:Nat}{q:Option Addr}{l:List Ex}(h:KidsAt w B q l){N:Nat}(hN:N < B){c0 c1 c2 c3 c4 c5 c6 c7 c8 c9 c10:Value}:KidsAt (((((((((((w.setCell ⟨N,0,none⟩ c0).setCell ⟨N,1,none⟩ c1).setCell ⟨N,2,none⟩ c2).setCell ⟨N,3,none⟩ c3).setCell ⟨N,4,none⟩ c4).setCell ⟨N,5,none⟩ c5).setCell ⟨N,6,none⟩ c6).setCell ⟨N,7,none⟩ c7).setCell ⟨N,8,none⟩ c8).setCell ⟨N,9,none⟩ c9).setCell ⟨N,10,none⟩ c10) B q l:=
 (((((((((((h.set (p:=⟨N,0,none⟩) hN c0).set (p:=⟨N,1,none⟩) hN c1).set (p:=⟨N,2,none⟩) hN c2).set (p:=⟨N,3,none⟩) hN c3).set (p:=⟨N,4,none⟩) hN c4).set (p:=⟨N,5,none⟩) hN c5).set (p:=⟨N,6,none⟩) hN c6).set (p:=⟨N,7,none⟩) hN c7).set (p:=⟨N,8,none⟩) hN c8).set (p:=⟨N,9,none⟩) hN c9).set (p:=⟨N,10,none⟩) hN c10)
theorem KidsAt.is {w:World}{B:Nat}{p:Option Addr}{c:Nat}{l:List Ex}(h:KidsAt w B p l)(kind num:Int)(name ofn:List UInt8)(dims at_:Int):Is w B (Ex.of kind num name ofn dims l at_) (exCells kind num name ofn dims (.slice p l.length c) at_ 0 0 0 0):=by
 rw [Ex.of,Is]
 exact ⟨p,c,rfl,h⟩
theorem zME {ts:List RT}{rec:Nat → St → Out}{g:Nat}{s:St}{x:Ex × St}(h:varOrCall ts rec g s = some x)(hv:sees ts (name ts s.c).2 4 [40] = false):x = (Ex.of 4 0 (name ts s.c).1 [] 0 [] (peek ts s.c).at_,⟨(name ts s.c).2,s.o⟩):=by
 simp only [varOrCall,hv,Bool.false_eq_true,if_false,Option.some.injEq] at h
 exact h.symm
theorem zLj {ts:List RT}{rec:Nat → St → Out}{g:Nat}{s:St}{x:Ex × St}(h:varOrCall ts rec g s = some x)(hv:sees ts (name ts s.c).2 4 [40] = true):∃ l s2,args ts rec g ⟨(name ts s.c).2,s.o⟩ = some (l,s2) ∧ x = (Ex.of 7 0 (name ts s.c).1 [] 0 l (peek ts s.c).at_,s2):=by
 simp only [varOrCall,hv,if_true] at h
 split at h
 ·cases h
 ·rename_i l s2 he
  exact ⟨l,s2,he,by simpa using h.symm⟩
theorem zAl {w:World}{B:Nat}{T:TypeId}{A A2:Array Value}(h:w.heap[B]? = some (.cells A T (0,0)))(i:Nat)(u:Value)(hA:A.setIfInBounds i u = A2):(w.setCell ⟨B,i,none⟩ u).heap[B]? = some (.cells A2 T (0,0)):=by
 have:=Lib.heap_setCell_same h (i:=i) (v:=u)
 rw [this,hA]
theorem zGz (w:World)(R M1 M2 M3:Nat)(S:Value)(ts:List RT)(s:St)(h:Rs w R M1 M2 M3 S ts s)(hv:sees ts (name ts s.c).2 4 [40] = false) :
 Calls Tryz.prog 165 #[.pointer (some ⟨R,0,none⟩)] w (ExPost w.heap.size w R M1 M2 M3 S ts (Ex.of 4 0 (name ts s.c).1 [] 0 [] (peek ts s.c).at_,⟨(name ts s.c).2,s.o⟩)):=by
 have hp:=fun w1 hh => zU w1 R 192 S [.int .i64 s.o,.map (some M1),.map (some M2),.map (some M3)] ts s.c hh
 have hq:=fun w1 hh => name_any w1 R 192 S [.int .i64 s.o,.map (some M1),.map (some M2),.map (some M3)] ts s.c hh
 generalize peek ts s.c = t at hp ⊢
 unfold tokW at hp
 generalize name ts s.c = y at hq hv ⊢
 obtain ⟨nm,c2⟩:=y
 dsimp only at hq hv ⊢
 have hfd:∀ w1:World,(Instr.field 52 (.agg #[.int .i64 t.kind,.string (cbs t.text),.int .i64 t.num,.int .i64 t.at_]) 3).run Tryz.prog w1 = .ok (.int .i64 t.at_) w1:=fun _ => by kernel_rfl
 have hs:=fun w1 X hh => zG w1 R 192 S X ts c2 hh ⟨#[40]⟩
 have HP:=vH hp
 have HQ:=vH hq
 have HS:=vH hs
 have HV:=vH hv
 have H1:=vH (h.go ((Below.refl w.heap.size w).alloc (Nat.le_refl _) (.cells vE 111)))
 clear hp hq hs hv
 have hb0:Below w.heap.size w (w.alloc (.cells vE 111)):=(Below.refl w.heap.size w).alloc (Nat.le_refl _) _
 have hlt:=h.lt
 have HH:=vH h
 have HR:=vH (h.go hb0)
 have HG:=vH (Gr.refl R (w.alloc (.cells vE 111)))
 clear h hb0
 go_in
 go_wp2_with fail
 refine (HP.out _ HR.out.cu).mono ?_
 rintro e w1 ⟨rfl,hb⟩
 have HGx:=vH (HG.out.below hb)
 have HRx:=vH (HR.out.go hb)
 clear HG HR
 have HG:=HGx
 have HR:=HRx
 clear HGx HRx hb
 have HNB:Hid (w.heap.size < w1.heap.size):=(Nat.lt_of_lt_of_le (by rw [zB]; exact Nat.lt_succ_self _:w.heap.size < (w.alloc (.cells vE 111)).heap.size) HG.out.size)
 go_wp2_with fail
 refine (HQ.out _ (HR.out.go ((Below.refl _ _).alloc (Nat.le_refl _) _)).cu).mono ?_
 rintro e w2 ⟨rfl,hc,hg⟩
 have hr:=(HR.out.go ((Below.refl _ _).alloc (Nat.le_refl _) _)).cur hg hc
 clear hc
 have hkb:=mine hg HR.out.lt
 have HGx:=vH ((HG.out.alloc _).trans hg)
 have HRx:=vH (hr)
 clear HG HR
 have HG:=HGx
 have HR:=HRx
 clear HGx HRx hr hg
 have hne:=Nat.ne_of_lt HNB.out
 have hne2:=Ne.symm hne
 have HK2:=vH hkb
 obtain ⟨⟨x0,x1,x2,x3,x4,x5,x6,x7,x8,x9,xX⟩,y0,y1,y2,y3,y4,y5,y6,y7,y8,y9,yX⟩:=hen hkb
 have hlb:=zA hkb
 clear hkb
 go_wp2_with fail
 have HZ:Hid ((w.alloc (.cells vE 111)).heap.size ≤ w1.heap.size):=by have:=HNB.out; rw [zB]; exact this
 clear x0 x1 x2 x3 x4 x5 x6 x7 x8 x9 xX y0 y1 y2 y3 y4 y5 y6 y7 y8 y9 yX hlb
 have HN2:=vH ((Nw.start HG.out).set (p:=⟨w1.heap.size,2,none⟩) HZ.out (.string (cbs nm)))
 have HK3:=vH (zAl HK2.out 2 (.string (cbs nm)) rfl)
 have HRA:=vH (H1.out.fin HR.out HN2.out)
 refine (HS.out _ _ HRA.out.cu).mono ?_
 rintro e w3 ⟨rfl,hb⟩
 have HG3:=vH (HN2.out.gr.trans (Gr.of hb))
 have HR3:=vH (HRA.out.go hb)
 have hkb:=(Gr.of (R:=R) hb).box HK3.out (Nat.ne_of_gt (Nat.lt_of_lt_of_le hlt (Nat.le_of_lt HNB.out)))
 have HK4:=vH hkb
 obtain ⟨⟨x0,x1,x2,x3,x4,x5,x6,x7,x8,x9,xX⟩,y0,y1,y2,y3,y4,y5,y6,y7,y8,y9,yX⟩:=hen hkb
 have hlb:=zA hkb
 have hk:=mine HG3.out hlt
 obtain ⟨⟨d0,d1,d2,d3,d4,d5,d6,d7,d8,d9,dX⟩,g0,g1,g2,g3,g4,g5,g6,g7,g8,g9,gX⟩:=hen hk
 have hl:=zA hk
 clear hk hkb hb HG HR HRA HN2 HK3 HK2
 have HG:=HG3
 have HR:=HR3
 clear HG3 HR3
 rw [HV.out]
 go_wp2_with fail
 have hn:=(Nw.start ((Gr.alloc (Gr.refl R w) _).trans HG.out)).pv (.int .i64 4) (.int .i64 0) (.string (cbs nm)) (.string ⟨#[]⟩) (.int .i64 0) (.slice none 0 0) (.int .i64 t.at_) (.int .i64 0) (.int .i64 0) (.int .i64 0) (.int .i64 0)
 exact bodyPost_ret (v:=.agg #[.int .i64 4,.int .i64 0,.string (cbs nm),.string ⟨#[]⟩,.int .i64 0,.slice none 0 0,.int .i64 t.at_,.int .i64 0,.int .i64 0,.int .i64 0,.int .i64 0]) (by simp [results,Tryz.results165,go_sem,d0,d1,d2,d3,d4,d5,d6,d7,d8,d9,dX]) rfl ⟨_,_,_,_,_,_,_,_,_,_,_,_,_,rfl,Is.leaf 4 0 nm [] 0 t.at_,HH.out.fin HR.out hn,hn.gr⟩
theorem zFa (w:World)(R M1 M2 M3:Nat)(S:Value)(ts:List RT)(s:St)(h:Rs w R M1 M2 M3 S ts s)(rec:Nat → St → Out)(hrec:RecOk ts rec)(gg:Nat)(hgg:gg ≤ 1000000000)(hv:sees ts (name ts s.c).2 4 [40] = true)(l:List Ex)(s2:St)(ha:args ts rec gg ⟨(name ts s.c).2,s.o⟩ = some (l,s2)) :
 Calls Tryz.prog 165 #[.pointer (some ⟨R,0,none⟩)] w (ExPost w.heap.size w R M1 M2 M3 S ts (Ex.of 7 0 (name ts s.c).1 [] 0 l (peek ts s.c).at_,s2)):=by
 have hp:=fun w1 hh => zU w1 R 192 S [.int .i64 s.o,.map (some M1),.map (some M2),.map (some M3)] ts s.c hh
 have hq:=fun w1 hh => name_any w1 R 192 S [.int .i64 s.o,.map (some M1),.map (some M2),.map (some M3)] ts s.c hh
 generalize peek ts s.c = t at hp ⊢
 unfold tokW at hp
 generalize name ts s.c = y at hq hv ha ⊢
 obtain ⟨nm,c2⟩:=y
 dsimp only at hq hv ha ⊢
 have hfd:∀ w1:World,(Instr.field 52 (.agg #[.int .i64 t.kind,.string (cbs t.text),.int .i64 t.num,.int .i64 t.at_]) 3).run Tryz.prog w1 = .ok (.int .i64 t.at_) w1:=fun _ => by kernel_rfl
 have hs:=fun w1 X hh => zG w1 R 192 S X ts c2 hh ⟨#[40]⟩
 have HP:=vH hp
 have HQ:=vH hq
 have HS:=vH hs
 have HV:=vH hv
 have H1:=vH (h.go ((Below.refl w.heap.size w).alloc (Nat.le_refl _) (.cells vE 111)))
 clear hp hq hs hv
 have HA:=vH (fun w1 hh => zKU w1 R M1 M2 M3 S ts ⟨c2,s.o⟩ hh rec hrec gg hgg (l,s2) ha)
 clear hrec hgg ha
 have hb0:Below w.heap.size w (w.alloc (.cells vE 111)):=(Below.refl w.heap.size w).alloc (Nat.le_refl _) _
 have hlt:=h.lt
 have HH:=vH h
 have HR:=vH (h.go hb0)
 have HG:=vH (Gr.refl R (w.alloc (.cells vE 111)))
 clear h hb0
 go_in
 go_wp2_with fail
 refine (HP.out _ HR.out.cu).mono ?_
 rintro e w1 ⟨rfl,hb⟩
 have HGx:=vH (HG.out.below hb)
 have HRx:=vH (HR.out.go hb)
 clear HG HR
 have HG:=HGx
 have HR:=HRx
 clear HGx HRx hb
 have HNB:Hid (w.heap.size < w1.heap.size):=(Nat.lt_of_lt_of_le (by rw [zB]; exact Nat.lt_succ_self _:w.heap.size < (w.alloc (.cells vE 111)).heap.size) HG.out.size)
 go_wp2_with fail
 refine (HQ.out _ (HR.out.go ((Below.refl _ _).alloc (Nat.le_refl _) _)).cu).mono ?_
 rintro e w2 ⟨rfl,hc,hg⟩
 have hr:=(HR.out.go ((Below.refl _ _).alloc (Nat.le_refl _) _)).cur hg hc
 clear hc
 have hkb:=mine hg HR.out.lt
 have HGx:=vH ((HG.out.alloc _).trans hg)
 have HRx:=vH (hr)
 clear HG HR
 have HG:=HGx
 have HR:=HRx
 clear HGx HRx hr hg
 have hne:=Nat.ne_of_lt HNB.out
 have hne2:=Ne.symm hne
 have HK2:=vH hkb
 obtain ⟨⟨x0,x1,x2,x3,x4,x5,x6,x7,x8,x9,xX⟩,y0,y1,y2,y3,y4,y5,y6,y7,y8,y9,yX⟩:=hen hkb
 have hlb:=zA hkb
 clear hkb
 go_wp2_with fail
 have HZ:Hid ((w.alloc (.cells vE 111)).heap.size ≤ w1.heap.size):=by have:=HNB.out; rw [zB]; exact this
 clear x0 x1 x2 x3 x4 x5 x6 x7 x8 x9 xX y0 y1 y2 y3 y4 y5 y6 y7 y8 y9 yX hlb
 have HN2:=vH ((Nw.start HG.out).set (p:=⟨w1.heap.size,2,none⟩) HZ.out (.string (cbs nm)))
 have HK3:=vH (zAl HK2.out 2 (.string (cbs nm)) rfl)
 have HRA:=vH (H1.out.fin HR.out HN2.out)
 refine (HS.out _ _ HRA.out.cu).mono ?_
 rintro e w3 ⟨rfl,hb⟩
 have HG3:=vH (HN2.out.gr.trans (Gr.of hb))
 have HR3:=vH (HRA.out.go hb)
 have hkb:=(Gr.of (R:=R) hb).box HK3.out (Nat.ne_of_gt (Nat.lt_of_lt_of_le hlt (Nat.le_of_lt HNB.out)))
 have HK4:=vH hkb
 obtain ⟨⟨x0,x1,x2,x3,x4,x5,x6,x7,x8,x9,xX⟩,y0,y1,y2,y3,y4,y5,y6,y7,y8,y9,yX⟩:=hen hkb
 have hlb:=zA hkb
 have hk:=mine HG3.out hlt
 obtain ⟨⟨d0,d1,d2,d3,d4,d5,d6,d7,d8,d9,dX⟩,g0,g1,g2,g3,g4,g5,g6,g7,g8,g9,gX⟩:=hen hk
 have hl:=zA hk
 clear hk hkb hb HG HR HRA HN2 HK3 HK2
 have HG:=HG3
 have HR:=HR3
 clear HG3 HR3
 rw [HV.out]
 go_wp2_with fail
 clear x0 x1 x2 x3 x4 x5 x6 x7 x8 x9 xX y0 y1 y2 y3 y4 y5 y6 y7 y8 y9 yX hlb d0 d1 d2 d3 d4 d5 d6 d7 d8 d9 dX g0 g1 g2 g3 g4 g5 g6 g7 g8 g9 gX hl
 have HN3:=vH ((Nw.start HG.out).set (p:=⟨w1.heap.size,0,none⟩) HZ.out (.int .i64 7))
 have HK5:=vH (zAl HK4.out 0 (.int .i64 7) rfl)
 have HRB:=vH (H1.out.fin HR.out HN3.out)
 have hB1:w1.heap.size < (w3.setCell ⟨w1.heap.size,0,none⟩ (.int .i64 7)).heap.size:=zA HK5.out
 have HB1:=vH hB1
 clear hB1
 refine (HA.out _ HRB.out).mono ?_
 rintro e w4 ⟨p,c,rfl,hka,hr,hg⟩
 have HKA:Hid (KidsAt w4 _ p l):=hka
 have HG4:=vH (HN3.out.gr.trans hg)
 have HR4:=vH hr
 have hkb:=hg.box HK5.out (Nat.ne_of_gt (Nat.lt_of_lt_of_le hlt (Nat.le_of_lt HNB.out)))
 obtain ⟨⟨x0,x1,x2,x3,x4,x5,x6,x7,x8,x9,xX⟩,y0,y1,y2,y3,y4,y5,y6,y7,y8,y9,yX⟩:=hen hkb
 have hlb:=zA hkb
 have hk:=mine HG4.out hlt
 obtain ⟨⟨d0,d1,d2,d3,d4,d5,d6,d7,d8,d9,dX⟩,g0,g1,g2,g3,g4,g5,g6,g7,g8,g9,gX⟩:=hen hk
 have hl:=zA hk
 clear hk hkb hka hr hg HG HR HRB HN3 HK4 HK5
 dsimp only
 go_wp2_with fail
 have hn:=((Nw.start HG4.out).set (p:=⟨w1.heap.size,5,none⟩) HZ.out (.slice p l.length c))
 have hn2:Nw R w w4 _:=⟨hn.below.mono (by rw [zB]; omega),(Gr.alloc (Gr.refl R w) _).trans hn.gr⟩
 have hn3:=hn2.pv (.int .i64 7) (.int .i64 0) (.string (cbs nm)) (.string ⟨#[]⟩) (.int .i64 0) (.slice p l.length c) (.int .i64 t.at_) (.int .i64 0) (.int .i64 0) (.int .i64 0) (.int .i64 0)
 have hki:=((HKA.out.set (p:=⟨w1.heap.size,5,none⟩) HB1.out (.slice p l.length c)).put11 (N:=w.heap.size) (Nat.lt_trans HNB.out HB1.out) (c0:=.int .i64 7) (c1:=.int .i64 0) (c2:=.string (cbs nm)) (c3:=.string ⟨#[]⟩) (c4:=.int .i64 0) (c5:=.slice p l.length c) (c6:=.int .i64 t.at_) (c7:=.int .i64 0) (c8:=.int .i64 0) (c9:=.int .i64 0) (c10:=.int .i64 0)).lower (B2:=w.heap.size) (Nat.le_of_lt (Nat.lt_trans HNB.out HB1.out))
 exact bodyPost_ret (v:=.agg #[.int .i64 7,.int .i64 0,.string (cbs nm),.string ⟨#[]⟩,.int .i64 0,.slice p l.length c,.int .i64 t.at_,.int .i64 0,.int .i64 0,.int .i64 0,.int .i64 0]) (by simp [results,Tryz.results165,go_sem,d0,d1,d2,d3,d4,d5,d6,d7,d8,d9,dX]) rfl ⟨_,_,_,_,_,_,_,_,_,_,_,_,_,rfl,hki.is 7 0 nm [] 0 t.at_,HH.out.fin HR4.out hn3,hn3.gr⟩
theorem zLk (w:World)(R M1 M2 M3:Nat)(S:Value)(ts:List RT)(s:St)(h:Rs w R M1 M2 M3 S ts s)(rec:Nat → St → Out)(hrec:RecOk ts rec)(g:Nat)(hg:g ≤ 1000000000)(x:Ex × St)(hx:varOrCall ts rec g s = some x) :
 Calls Tryz.prog 165 #[.pointer (some ⟨R,0,none⟩)] w (ExPost w.heap.size w R M1 M2 M3 S ts x):=by
 cases hv:sees ts (name ts s.c).2 4 [40] with
 | true =>
   obtain ⟨l,s2,ha,rfl⟩:=zLj hx hv
   exact zFa w R M1 M2 M3 S ts s h rec hrec g hg hv l s2 ha
 | false =>
   rw [zME hx hv]
   exact zGz w R M1 M2 M3 S ts s h hv
mutual
def sameE:Ex → Ex → Bool
 | .mk k n s o d ks _ b r e f,.mk k2 n2 s2 o2 d2 ks2 _ b2 r2 e2 f2 => k == k2 && n == n2 && s == s2 && (o == o2 && d == d2) && (b == b2 && r == r2 && e == e2) && f == f2 && sameL ks ks2
def sameL:List Ex → List Ex → Bool
 | [],[] => true
 | e :: es,e2 :: es2 => sameE e e2 && sameL es es2
 | _,_ => false
end
theorem zBs (a b:List UInt8):((cbs a).toList == (cbs b).toList) = (a == b):=by rw [zR,zR]
theorem zH2:Tryz.prog.stoodInHeld 59 = false:=by kernel_rfl
theorem zLv:Tryz.prog.stoodInHeld 109 = false:=by kernel_rfl
theorem zDF (a b:List UInt8)(d d2:Int)(w:World):(binOp .eql 59 (.agg #[.string (cbs a),.int .i64 d]) (.agg #[.string (cbs b),.int .i64 d2])).run Tryz.prog w = .ok (.bool (a == b && d == d2)) w:=by
 rw [run_eql_struct,run_equalIn_agg w 9999 _ _ _ (by kernel_rfl) zH2]
 simp [go_sem,zR]
 split <;> (try split) <;> simp_all
theorem zLd (a b c a2 b2 c2:Int)(w:World):(binOp .eql 109 (.agg #[.int .i64 a,.int .i64 b,.int .i64 c]) (.agg #[.int .i64 a2,.int .i64 b2,.int .i64 c2])).run Tryz.prog w = .ok (.bool (a == a2 && b == b2 && c == c2)) w:=by
 rw [run_eql_struct,run_equalIn_agg w 9999 _ _ _ (by kernel_rfl) zLv]
 simp [go_sem]
 split <;> (try split) <;> (try split) <;> simp_all
theorem zIh (w:World)(_B:Nat)(_x _y:Ex)(xk:Int)(xn:Int)(xs:List UInt8)(xo:List UInt8)(xd:Int)(xp:Option Addr)(xl:Nat)(xc:Nat)(xa:Int)(xb:Int)(xr:Int)(xe:Int)(xf:Int)(yk:Int)(yn:Int)(ys:List UInt8)(yo:List UInt8)(yd:Int)(yp:Option Addr)(yl:Nat)(yc:Nat)(ya:Int)(yb:Int)(yr:Int)(ye:Int)(yf:Int)
 (v:Bool) (hk:∀ w1,Below w.heap.size w w1 → Calls Tryz.prog 82 #[.slice xp xl xc,.slice yp yl yc,.func (.func 83) #[] #[]] w1 fun e w' => e = .returned (.bool v) ∧ Below w1.heap.size w1 w') :
 Calls Tryz.prog 83 #[.agg #[.int .i64 xk,.int .i64 xn,.string (cbs xs),.string (cbs xo),.int .i64 xd,.slice xp xl xc,.int .i64 xa,.int .i64 xb,.int .i64 xr,.int .i64 xe,.int .i64 xf],.agg #[.int .i64 yk,.int .i64 yn,.string (cbs ys),.string (cbs yo),.int .i64 yd,.slice yp yl yc,.int .i64 ya,.int .i64 yb,.int .i64 yr,.int .i64 ye,.int .i64 yf]] w fun e w' => e = .returned (.bool (xk == yk && xn == yn && xs == ys && (xo == yo && xd == yd) && (xb == yb && xr == yr && xe == ye) && xf == yf && v)) ∧ Below w.heap.size w w':=by
 have h1:=zDF xo yo xd yd
 have h2:=zLd xb xr xe yb yr ye
 have hsx:=zBs xs ys
 have hbb:Below w.heap.size w ((w.alloc (.cells #[.int .i64 xk,.int .i64 xn,.string (cbs xs),.string (cbs xo),.int .i64 xd,.slice xp xl xc,.int .i64 xa,.int .i64 xb,.int .i64 xr,.int .i64 xe,.int .i64 xf] 111)).alloc (.cells #[.int .i64 yk,.int .i64 yn,.string (cbs ys),.string (cbs yo),.int .i64 yd,.slice yp yl yc,.int .i64 ya,.int .i64 yb,.int .i64 yr,.int .i64 ye,.int .i64 yf] 111)):=((Below.refl _ _).alloc (Nat.le_refl _) _).alloc (by rw [zB]; omega) _
 have HK:=vH (hk _ hbb)
 have HBB:=vH hbb
 clear hk hbb
 generalize (xo == yo && xd == yd) = g1 at h1 ⊢
 generalize (xb == yb && xr == yr && xe == ye) = g2 at h2 ⊢
 generalize (xs == ys) = g3 at hsx ⊢
 cases hc1:(xk == yk) with
 | false =>
   go_in
   go_wp2_with fail
   go_ret
   exact ⟨rfl,HBB.out⟩
 | true =>
   cases hc2:(xn == yn) with
   | false =>
     go_in
     go_wp2_with fail
     go_ret
     exact ⟨rfl,HBB.out⟩
   | true =>
     cases g3 with
     | false =>
       go_in
       go_wp2_with fail
       go_ret
       exact ⟨rfl,HBB.out⟩
     | true =>
       cases g1 with
       | false =>
         go_in
         go_wp2_with fail
         go_ret
         exact ⟨rfl,HBB.out⟩
       | true =>
         cases g2 with
         | false =>
           go_in
           go_wp2_with fail
           go_ret
           exact ⟨rfl,HBB.out⟩
         | true =>
           cases hc6:(xf == yf) with
           | false =>
             go_in
             go_wp2_with fail
             go_ret
             exact ⟨rfl,HBB.out⟩
           | true =>
             go_in
             go_wp2_with (go_at_call 82; refine (HK.out).mono ?_; rintro e w1 ⟨rfl,hb1⟩)
             go_ret
             exact ⟨rfl,zC HBB.out hb1 HBB.out.size⟩
mutual
def fitE:Ex → Bool
 | .mk _ _ _ _ _ ks _ _ _ _ _ => decide (ks.length ≤ 9223372036854775807) && fitL ks
def fitL:List Ex → Bool
 | [] => true
 | e :: es => fitE e && fitL es
end
theorem zB2:∀ {es:List Ex}{e:Ex},fitL es = true → e ∈ es → fitE e = true
 | [],_,_,h => by cases h
 | x :: es,e,hf,h => by
   rw [fitL,Bool.and_eq_true] at hf
   rcases List.mem_cons.1 h with rfl | h
   ·exact hf.1
   ·exact zB2 hf.2 h
theorem At.get {w:World}{B bl:Nat}:∀ (es:List Ex)(off j:Nat)(e:Ex),At w B bl off es → es[j]? = some e → ∃ vs,Is w B e vs ∧ ∀ (i:Nat)(v:Value),vs[i]? = some v → w.cell? ⟨bl,off + j * 11 + i,none⟩ = some v
 | [],_,j,e,_,h => by simp at h
 | x :: es,off,0,e,ha,h => by
   rw [At] at ha
   obtain ⟨⟨vs,hi,hc⟩,-⟩:=ha
   simp at h
   subst h
   exact ⟨vs,hi,fun i v hv => by have:=hc i v hv; simpa using this⟩
 | x :: es,off,j + 1,e,ha,h => by
   rw [At] at ha
   obtain ⟨vs,hi,hc⟩:=At.get es (off + 11) j e ha.2 (by simpa using h)
   exact ⟨vs,hi,fun i v hv => by have:=hc i v hv; rw [show off + (j + 1) * 11 + i = off + 11 + j * 11 + i by omega]; exact this⟩
theorem zB5 {w:World}{b o:Nat}{kind num:Int}{name ofn:List UInt8}{dims:Int}{kv:Value}{at_ bb r d ref:Int}(h:∀ (i:Nat)(v:Value),(exCells kind num name ofn dims kv at_ bb r d ref)[i]? = some v → w.cell? ⟨b,o + i,none⟩ = some v) :
 w.cell? ⟨b,o,none⟩ = some (.int .i64 kind) ∧ w.cell? ⟨b,o + 1,none⟩ = some (.int .i64 num) ∧ w.cell? ⟨b,o + 2,none⟩ = some (.string (cbs name)) ∧ w.cell? ⟨b,o + 3,none⟩ = some (.string (cbs ofn)) ∧ w.cell? ⟨b,o + 4,none⟩ = some (.int .i64 dims) ∧ w.cell? ⟨b,o + 5,none⟩ = some kv ∧ w.cell? ⟨b,o + 6,none⟩ = some (.int .i64 at_) ∧ w.cell? ⟨b,o + 7,none⟩ = some (.int .i64 bb) ∧ w.cell? ⟨b,o + 8,none⟩ = some (.int .i64 r) ∧ w.cell? ⟨b,o + 9,none⟩ = some (.int .i64 d) ∧ w.cell? ⟨b,o + 10,none⟩ = some (.int .i64 ref):=
 ⟨h 0 _ rfl,h 1 _ rfl,h 2 _ rfl,h 3 _ rfl,h 4 _ rfl,h 5 _ rfl,h 6 _ rfl,h 7 _ rfl,h 8 _ rfl,h 9 _ rfl,h 10 _ rfl⟩
theorem zCR:∀ (a b:List Ex),a.length ≠ b.length → sameL a b = false
 | [],[],h => absurd rfl h
 | [],_ :: _,_ => by rw [sameL]; all_goals simp
 | _ :: _,[],_ => by rw [sameL]; all_goals simp
 | x :: a,y :: b,h => by rw [sameL,zCR a b (by simpa using h),Bool.and_false]
theorem KidsAt.below {w w':World}{B:Nat}{p:Option Addr}{l:List Ex}(h:KidsAt w B p l)(hb:Below w.heap.size w w'):KidsAt w' B p l:=by
 rcases h with h | ⟨bl,off,h1,h2,h3,h4⟩
 ·exact .inl h
 ·exact .inr ⟨bl,off,h1,Nat.lt_of_lt_of_le h2 hb.size,h3,At.keep hb.size (fun bl _ h => hb.block bl h) l off h2 h3 h4⟩
theorem KidsAt.get {w:World}{B:Nat}{p:Option Addr}{l:List Ex}(h:KidsAt w B p l){j:Nat}{e:Ex}(he:l[j]? = some e):∃ bl off vs,p = some ⟨bl,off,none⟩ ∧ bl < w.heap.size ∧ Is w B e vs ∧ ∀ (i:Nat)(v:Value),vs[i]? = some v → w.cell? ⟨bl,off + j * 11 + i,none⟩ = some v:=by
 rcases h with h | ⟨bl,off,h1,h2,h3,h4⟩
 ·rw [h] at he; simp at he
 ·obtain ⟨vs,hi,hc⟩:=At.get l off j e h4 he
  exact ⟨bl,off,vs,h1,h2,hi,hc⟩
theorem Is.kids {w:World}{B:Nat}{kind num:Int}{name ofn:List UInt8}{dims:Int}{ks:List Ex}{at_ b r d ref:Int}{vs:List Value}(h:Is w B (.mk kind num name ofn dims ks at_ b r d ref) vs):∃ p c,vs = exCells kind num name ofn dims (.slice p ks.length c) at_ b r d ref ∧ KidsAt w B p ks:=by
 rw [Is] at h
 exact h
def SameOk (F:Nat)(w:World)(e e2:Ex):Prop:=∀ w1 vs vs2,Below w.heap.size w w1 → Is w1 0 e vs → Is w1 0 e2 vs2 → Calls Tryz.prog F #[.agg ⟨vs⟩,.agg ⟨vs2⟩] w1 fun en w' => en = .returned (.bool (sameE e e2)) ∧ Below w1.heap.size w1 w'
theorem zB3 (w:World)(ks ls:List Ex)(p q:Option Addr)(c d:Nat)(hp:KidsAt w 0 p ks)(hq:KidsAt w 0 q ls)(hl:ks.length ≤ 9223372036854775807)(hel:∀ e ∈ ks,∀ e2,SameOk 83 w e e2) :
 Calls Tryz.prog 82 #[.slice p ks.length c,.slice q ls.length d,.func (.func 83) #[] #[]] w fun e w' => e = .returned (.bool (sameL ks ls)) ∧ Below w.heap.size w w':=by
 have HP:=vH hp
 have HQ:=vH hq
 have HEL:=vH hel
 have HL:=vH hl
 clear hp hq hel hl
 by_cases hlen:ks.length = ls.length
 ·have hd0:((ks.length:Int) != (ls.length:Int)) = false:=by rw [hlen]; exact bne_self_eq_false _
  have HLEN:=vH hlen
  clear hlen
  go_in
  go_wp2_with fail
  go_loopg [17] ks.length (fun n v wr => ∃ j:Nat,n + j = ks.length ∧ v = .int .i64 (j:Int) ∧ Below w.heap.size w wr ∧ sameL (ks.drop j) (ls.drop j) = sameL ks ls)
  case atStart => exact ⟨0,rfl,rfl,Below.refl _ _,rfl⟩
  case round =>
   obtain ⟨j,hj,rfl,hb,hs⟩:=hrel
   have HB:=vH hb
   have HS:=vH hs
   have HJ:=vH hj
   clear hb hs hj
   cases gk with
   | zero =>
     obtain rfl:j = ks.length:=by have:=HJ.out; omega
     have hd1:decide ((ks.length:Int) < (ks.length:Int)) = false:=decide_eq_false (by omega)
     go_wp2_with fail
     go_ret
     refine ⟨zV ?_,HB.out⟩
     rw [← HS.out,List.drop_of_length_le (Nat.le_refl _),List.drop_of_length_le (by rw [HLEN.out]; exact Nat.le_refl _),sameL]
   | succ m =>
     have hjl:j < ks.length:=by have:=HJ.out; omega
     have hjl2:j < ls.length:=by have:=HLEN.out; omega
     have hd1:decide ((j:Int) < (ks.length:Int)) = true:=decide_eq_true (by omega)
     have hi1:(j:Int) < (ks.length:Int):=by omega
     have hi2:(j:Int) < (ls.length:Int):=by omega
     have hd2:decide (ks.length ≤ j) = false:=decide_eq_false (by omega)
     have hd3:decide (ls.length ≤ j) = false:=decide_eq_false (by omega)
     have hdw:wrap64 ((j:Int) + 1) = ((j + 1:Nat):Int):=by have:=HL.out; simp [wrap64]; omega
     have he1:=List.getElem?_eq_getElem hjl
     have he2:=List.getElem?_eq_getElem hjl2
     have hd4:ks.drop j = ks[j] :: ks.drop (j + 1):=List.drop_eq_getElem_cons hjl
     have hd5:ls.drop j = ls[j] :: ls.drop (j + 1):=List.drop_eq_getElem_cons hjl2
     have HE:=vH (HEL.out _ (List.getElem_mem hjl) (ls[j]))
     generalize ks[j] = e1 at he1 hd4 HE
     generalize ls[j] = e2 at he2 hd5 HE
     have HD4:=vH hd4
     have HD5:=vH hd5
     obtain ⟨bl,off,vs,rfl,hbl,hi,hc⟩:=(HP.out.below HB.out).get he1
     obtain ⟨bl2,off2,vs2,rfl,hbl2,hi',hc2⟩:=(HQ.out.below HB.out).get he2
     obtain ⟨xk,xn,xs,xo,xd,xp,xl,xc,xa,xb,xr,xe,xf,rfl⟩:=hi.out
     obtain ⟨yk,yn,ys,yo,yd,yp,yl,yc,ya,yb,yr,ye,yf,rfl⟩:=hi'.out
     obtain ⟨x0,x1,x2,x3,x4,x5,x6,x7,x8,x9,xX⟩:=zB5 hc
     obtain ⟨y0,y1,y2,y3,y4,y5,y6,y7,y8,y9,yX⟩:=zB5 hc2
     have HI:=vH hi
     have HI2:=vH hi'
     clear hc hc2 hi hi' he1 he2 hd4 hd5
     have hne1:bl ≠ wr.heap.size:=Nat.ne_of_lt hbl
     have hne2:bl2 ≠ wr.heap.size:=Nat.ne_of_lt hbl2
     go_wp2_with fail
     have hb2:Below wr.heap.size wr ((wr.alloc (.cells #[.int .i64 xk,.int .i64 xn,.string (cbs xs),.string (cbs xo),.int .i64 xd,.slice xp xl xc,.int .i64 xa,.int .i64 xb,.int .i64 xr,.int .i64 xe,.int .i64 xf] 111)).alloc (.cells #[.int .i64 yk,.int .i64 yn,.string (cbs ys),.string (cbs yo),.int .i64 yd,.slice yp yl yc,.int .i64 ya,.int .i64 yb,.int .i64 yr,.int .i64 ye,.int .i64 yf] 111)):=((Below.refl _ _).alloc (Nat.le_refl _) _).alloc (by rw [zB]; omega) _
     refine (HE.out _ _ _ (zC HB.out hb2 HB.out.size) ((HI.out.alloc _).alloc _) ((HI2.out.alloc _).alloc _)).mono ?_
     rintro e w2 ⟨rfl,hb3⟩
     have HB2:=vH (zC (zC HB.out hb2 HB.out.size) hb3 (zC HB.out hb2 HB.out.size).size)
     clear hb2 hb3
     cases hse:sameE e1 e2 with
     | false =>
       have HSE:=vH hse
       try rw [hse]
       clear hse
       go_wp2_with fail
       go_ret
       refine ⟨zV ?_,HB2.out⟩
       rw [← HS.out,HD4.out,HD5.out,sameL,HSE.out,Bool.false_and]
     | true =>
       have HSE:=vH hse
       try rw [hse]
       clear hse
       go_wp2_with fail
       go_roundg m
       case measure => omega
       case rel => exact ⟨j + 1,by have:=HJ.out; omega,by first | rfl | simp [hdw],HB2.out,by rw [← HS.out,HD4.out,HD5.out,sameL,HSE.out,Bool.true_and]⟩
 ·have hd0:((ks.length:Int) != (ls.length:Int)) = true:=bne_iff_ne.2 (by omega)
  rw [zCR _ _ hlen]
  clear hlen
  go_in
  go_wp2_with fail
  go_ret
  exact ⟨rfl,Below.refl _ _⟩
theorem zEs {ks:List Ex}{e:Ex}(h:e ∈ ks)(kind num:Int)(name ofn:List UInt8)(dims at_ b r d ref:Int):SizeOf.sizeOf e < SizeOf.sizeOf (Ex.mk kind num name ofn dims ks at_ b r d ref):=by
 have:=List.sizeOf_lt_of_mem h
 simp only [Ex.mk.sizeOf_spec]
 omega
theorem zKY:∀ (n:Nat)(x y:Ex),SizeOf.sizeOf x ≤ n → fitE x = true → ∀ w,SameOk 83 w x y:=by
 intro n
 induction n with
 | zero => intro x y h; cases x; simp at h
 | succ n ih =>
   intro x y hs hf w w1 vs vs2 _ hi hi2
   obtain ⟨xk,xn,xs,xo,xd,ks,xa,xb,xr,xe,xf⟩:=x
   obtain ⟨yk,yn,ys,yo,yd,ls,ya,yb,yr,ye,yf⟩:=y
   obtain ⟨p,c,rfl,hp⟩:=hi.kids
   obtain ⟨q,d,rfl,hq⟩:=hi2.kids
   rw [fitE,Bool.and_eq_true] at hf
   have hk:∀ w2,Below w1.heap.size w1 w2 → _:=fun w2 hb => zB3 w2 ks ls p q c d (hp.below hb) (hq.below hb) (of_decide_eq_true hf.1) (fun e he e2 => ih e e2 (by have:=zEs he xk xn xs xo xd xa xb xr xe xf; omega) (zB2 hf.2 he) w2)
   have hst:=zIh w1 0 (.mk xk xn xs xo xd ks xa xb xr xe xf) (.mk yk yn ys yo yd ls ya yb yr ye yf) xk xn xs xo xd p ks.length c xa xb xr xe xf yk yn ys yo yd q ls.length d ya yb yr ye yf (sameL ks ls) hk
   rw [sameE]
   exact hst
end Go.Proofs.YtipmjjfknhblnaaGreatDoor
