/-
  A type and a block read through any cursor (the readers of p
-/
import Derived.Test.YtipmjjfknhblnaaGreatDoorK14
import Derived.Test.YtipmjjfknhblnaaGreatDoorK19
import Derived.Test.YtipmjjfknhblnaaGreatDoorK26
import Derived.Test.YtipmjjfknhblnaaGreatDoorK02
import Derived.Deep.RegionHeld3
import Derived.Maps.AppendAt
import Derived.Deep.LoopGhost
set_option maxRecDepth 8000
set_option maxHeartbeats 8000000
namespace Go.Proofs.YtipmjjfknhblnaaGreatDoor
open Go.RowKit
open Px (RT tokAt)
open Pe
open Ps (Sm PX)
open Pg (BX)
structure Mc (w:World) (R:Nat) (T:TypeId) (X:List Value) (S:Value) (ts:List RT) (B:Nat) (w3:World) (s:Cs) (W:World):Prop where
 rd:Cu W R T S X ts s
 gr:Gr R w W
 ag:Ag B w3 W
 lt:R < w.heap.size
 hB:w.heap.size ≤ B
 h0:∃ s0,Cu w R T S X ts s0
section
variable {w w3 W:World} {R B:Nat} {T:TypeId} {X:List Value} {S:Value} {ts:List RT} {s:Cs}
theorem Mc.nw (h:Mc w R T X S ts B w3 s W){W2:World}(n:Nw R w W W2)(g:Ag B W W2):Mc w R T X S ts B w3 s W2:=by
 obtain ⟨s0,h0⟩:=h.h0
 exact ⟨h0.fin h.rd n,n.gr,h.ag.trans g,h.lt,h.hB,s0,h0⟩
theorem Mc.go (h:Mc w R T X S ts B w3 s W){W2:World}(hb:Below W.heap.size W W2):Mc w R T X S ts B w3 s W2:=h.nw ⟨hb.mono h.gr.size,h.gr.below hb⟩ (Ag.below hb)
theorem Mc.alloc (h:Mc w R T X S ts B w3 s W){o:Obj}:Mc w R T X S ts B w3 s (W.alloc o):=h.go ((Below.refl _ _).alloc (Nat.le_refl _) _)
theorem Mc.drew (h:Mc w R T X S ts B w3 s W):Mc w R T X S ts B w3 s W.drew:=h.go (Below.refl _ _).drew
theorem Mc.put (h:Mc w R T X S ts B w3 s W){b i:Nat}{u:Value}(hp:w.heap.size ≤ b)(hq:b < B ∨ w3.heap.size ≤ b):Mc w R T X S ts B w3 s (W.setCell ⟨b,i,none⟩ u):=by
 obtain ⟨s0,h0⟩:=h.h0
 have n:=(Nw.start h.gr).set (p:=⟨b,i,none⟩) hp u
 exact ⟨h0.fin h.rd n,n.gr,h.ag.set hq u,h.lt,h.hB,s0,h0⟩
theorem Mc.set_k (h:Mc w R T X S ts B w3 s W){q:Int}:Mc w R T X S ts B w3 ⟨q,s.E,s.F⟩ (W.setCell ⟨R,1,none⟩ (.int .i64 q)):=
 ⟨h.rd.set_k q,h.gr.set 1 _,h.ag.set (.inl (Nat.lt_of_lt_of_le h.lt h.hB)) _,h.lt,h.hB,h.h0⟩
theorem Mc.set_f (h:Mc w R T X S ts B w3 s W){e a:Int}:Mc w R T X S ts B w3 ⟨s.k,e,a⟩ ((W.setCell ⟨R,2,none⟩ (.int .i64 e)).setCell ⟨R,3,none⟩ (.int .i64 a)):=
 ⟨h.rd.set_f e a,(h.gr.set 2 _).set 3 _,(h.ag.set (.inl (Nat.lt_of_lt_of_le h.lt h.hB)) _).set (.inl (Nat.lt_of_lt_of_le h.lt h.hB)) _,h.lt,h.hB,h.h0⟩
end
theorem zG2 {ts:List RT}{s:Cs}(h:¬ s.E = 0):Pg.rdOf ts s = ([],0,s):=if_neg h
theorem zJP {ts:List RT}{k F:Int}(h:(ofAns ts k).2.2.2.1 = 0):Pg.rdOf ts ⟨k,0,F⟩ = ((ofAns ts k).1,(ofAns ts k).2.1,⟨(ofAns ts k).2.2.1,0,F⟩):=by simp only [Pg.rdOf,h,if_true]
theorem zIm {ts:List RT}{k F:Int}(h:¬ (ofAns ts k).2.2.2.1 = 0):Pg.rdOf ts ⟨k,0,F⟩ = ([],0,⟨k,(ofAns ts k).2.2.2.1,(ofAns ts k).2.2.2.2⟩):=by simp only [Pg.rdOf,h,if_true,if_false]
def OfPostC (w:World)(R:Nat)(T:TypeId)(X:List Value)(S:Value)(ts:List RT)(x:List UInt8 × Nat × Cs)(e:Ending)(w':World):Prop:=
 e = .returned (.agg #[.string (cbs x.1),.int .i64 x.2.1]) ∧ Cu w' R T S X ts x.2.2 ∧ Gr R w w'
theorem Mc.of {w w3 W:World}{R B:Nat}{T:TypeId}{X:List Value}{S:Value}{ts:List RT}{s0 s:Cs}{x:List UInt8 × Nat × Cs}{nm:List UInt8}{d:Nat}{sm:Cs}(_h0:Mc w R T X S ts B w3 sm w3)(h:Mc w R T X S ts B w3 s W)(hx:Pg.rdOf ts s0 = x)(he:x = (nm,d,s)):OfPostC w R T X S ts (Pg.rdOf ts s0) (.returned (.agg #[.string (cbs nm),.int .i64 d])) W:=by
 rw [hx,he]
 exact ⟨rfl,h.rd,h.gr⟩
set_option maxHeartbeats 20000000 in
theorem zCV (w:World)(R:Nat)(T:TypeId)(X:List Value)(S:Value)(ts:List RT)(s:Cs)(h:Cu w R T S X ts s) :
 Calls Tryz.prog 67 #[.pointer (some ⟨R,0,none⟩),.func (.func 68) #[] #[]] w (OfPostC w R T X S ts (Pg.rdOf ts s)):=by
 obtain ⟨p,n,c,rfl⟩:=h.toks.slice
 obtain ⟨k,E,F⟩:=s
 obtain ⟨⟨c0,c1,c2,c3⟩,fr,hR⟩:=h.cells
 dsimp only at c1 c2 c3
 obtain ⟨wb,hwb⟩:∃ wb,wb = (w.alloc (.cells vO 59)).alloc (.cells vO 59):=⟨_,rfl⟩
 have hb:Below w.heap.size w wb:=by rw [hwb]; exact ((Below.refl _ _).alloc (Nat.le_refl _) _).alloc (by rw [zB]; omega) _
 have e2:=zW c2 hR hb
 rw [hwb] at e2
 by_cases hE:E = 0
 ·subst hE
  have e0:=zW c0 hR hb
  have e1:=zW c1 hR hb
  have HR:=vH (h.go hb)
  have HT:=vH (h.go hb).toks
  have hsb:wb.heap.size = w.heap.size + 2:=by rw [hwb]; simp only [zB]
  have HK1:Hid (wb.heap[w.heap.size]? = some (.cells vO 59 (0,0))):=vH (by rw [hwb]; exact zE _ (heap_alloc_new w _))
  have HK2:Hid (wb.heap[w.heap.size + 1]? = some (.cells vO 59 (0,0))):=vH (by rw [hwb]; have:=heap_alloc_new (w.alloc (.cells vO 59)) (.cells vO 59); rw [zB] at this; exact this)
  have hq1:w.heap.size ≠ wb.heap.size:=by omega
  have hq2:w.heap.size + 1 ≠ wb.heap.size:=by omega
  have hq3:w.heap.size ≠ wb.heap.size + 1:=by omega
  have hq4:w.heap.size + 1 ≠ wb.heap.size + 1:=by omega
  have hq5:=Ne.symm hq1
  have hq6:=Ne.symm hq2
  have hq7:=Ne.symm hq3
  have hq8:=Ne.symm hq4
  have ha1:R ≠ w.heap.size:=by omega
  have ha2:R ≠ w.heap.size + 1:=by omega
  have ha3:R ≠ wb.heap.size:=by omega
  have ha4:R ≠ wb.heap.size + 1:=by omega
  have ha5:=Ne.symm ha1
  have ha6:=Ne.symm ha2
  have ha7:=Ne.symm ha3
  have ha8:=Ne.symm ha4
  have HSB:=vH hsb
  clear hsb
  have hwb2:w.heap.size ≤ wb.heap.size:=hb.size
  have hRb:R < wb.heap.size:=Nat.lt_of_lt_of_le hR hwb2
  have mstart:∀ {wc w3:World},Below wb.heap.size wb wc → Below wc.heap.size wc w3 → Mc w R T X (.slice p n c) ts wc.heap.size w3 ⟨k,0,F⟩ w3:=by
   intro wc w3 hX h3
   have h3':=zC hb (zC hX h3 hX.size) hb.size
   exact ⟨h.go h3',Gr.of h3',Ag.refl _ _,h.lt,Nat.le_trans hwb2 hX.size,_,h⟩
  clear c0 c1 c2 c3 fr h
  go_in
  go_wp2_with fail
  rw [← hwb]
  clear hwb e2
  have HS:=vH (show Sk R (.slice p n c) (.int .i64 k) wb from ⟨⟨e0,e1⟩,hRb⟩)
  clear e0 e1
  go_region_held3 (fun w' => w'.cell? ⟨R,0,none⟩ = some (.slice p n c) ∧ w'.cell? ⟨R,1,none⟩ = some (.int .i64 k) ∧ R < w'.heap.size) (((with_reducible first | refine Sk.all ?_ | refine Sk.a (y:=.int .i64 k) ?_ | refine Sk.b (x:=.slice p n c) ?_ | refine Sk.c (x:=.slice p n c) (y:=.int .i64 k) ?_); (with_reducible repeat (first | exact HS.out | exact HS3.out | refine Sk.put ?_ (by omega) | refine Sk.alloc ?_ | refine Sk.drew ?_)))) (first
   | (go_at_call 68; (with_reducible refine Calls.mono (zBK (wb.drew) R (.slice p n c) ts k (HT.out.below (bwA wb))) ?_); rintro e w3 ⟨rfl,hb3⟩; have HS3:=vH (HS.out.below (zC (bwA wb) hb3 (bwA wb).size)); have hm3:=mstart (bwA wb) hb3; have hz:=hb3.size; rw [szA] at hm3 hz; have HM:=vH hm3; have hb03:=zC (bwA wb) hb3 (bwA wb).size; obtain ⟨⟨d0,d1⟩,⟨p0,p1⟩,hld⟩:=duo ((hb03.block _ (zA HK1.out)).trans HK1.out); obtain ⟨⟨u0,u1⟩,⟨v0,v1⟩,hlu⟩:=duo ((hb03.block _ (zA HK2.out)).trans HK2.out); obtain ⟨⟨r0,r1,r2,r3⟩,fr,hR3⟩:=hm3.rd.cells; have fr1:=fr 1; have fr2:=fr 2; have fr3:=fr 3; clear fr hm3 hb03; clear hb3)
   | (go_at_call 68; (with_reducible refine Calls.mono (zBK ((wb.alloc (.cells vO 59)).drew) R (.slice p n c) ts k (HT.out.below (bwB wb (.cells vO 59)))) ?_); rintro e w3 ⟨rfl,hb3⟩; have HS3:=vH (HS.out.below (zC (bwB wb (.cells vO 59)) hb3 (bwB wb (.cells vO 59)).size)); have hm3:=mstart (bwB wb (.cells vO 59)) hb3; have hz:=hb3.size; rw [szB] at hm3 hz; have HM:=vH hm3; have hb03:=zC (bwB wb (.cells vO 59)) hb3 (bwB wb (.cells vO 59)).size; obtain ⟨⟨d0,d1⟩,⟨p0,p1⟩,hld⟩:=duo ((hb03.block _ (zA HK1.out)).trans HK1.out); obtain ⟨⟨u0,u1⟩,⟨v0,v1⟩,hlu⟩:=duo ((hb03.block _ (zA HK2.out)).trans HK2.out); obtain ⟨⟨r0,r1,r2,r3⟩,fr,hR3⟩:=hm3.rd.cells; have fr1:=fr 1; have fr2:=fr 2; have fr3:=fr 3; clear fr hm3 hb03; obtain ⟨⟨x0,x1⟩,⟨y0,y1⟩,hlx⟩:=duo (zEP hb3); clear hb3)
   | (go_at_call 68; (with_reducible refine Calls.mono (zBK ((wb.alloc (.cells vF 29)).drew) R (.slice p n c) ts k (HT.out.below (bwB wb (.cells vF 29)))) ?_); rintro e w3 ⟨rfl,hb3⟩; have HS3:=vH (HS.out.below (zC (bwB wb (.cells vF 29)) hb3 (bwB wb (.cells vF 29)).size)); have hm3:=mstart (bwB wb (.cells vF 29)) hb3; have hz:=hb3.size; rw [szB] at hm3 hz; have HM:=vH hm3; have hb03:=zC (bwB wb (.cells vF 29)) hb3 (bwB wb (.cells vF 29)).size; obtain ⟨⟨d0,d1⟩,⟨p0,p1⟩,hld⟩:=duo ((hb03.block _ (zA HK1.out)).trans HK1.out); obtain ⟨⟨u0,u1⟩,⟨v0,v1⟩,hlu⟩:=duo ((hb03.block _ (zA HK2.out)).trans HK2.out); obtain ⟨⟨r0,r1,r2,r3⟩,fr,hR3⟩:=hm3.rd.cells; have fr1:=fr 1; have fr2:=fr 2; have fr3:=fr 3; clear fr hm3 hb03; obtain ⟨⟨f0,f1⟩,⟨g0,g1⟩,hlf⟩:=duo (zEP hb3); clear hb3)
   | (go_at_call 68; (with_reducible refine Calls.mono (zBK (((wb.alloc (.cells vO 59)).alloc (.cells vF 29)).drew) R (.slice p n c) ts k (HT.out.below (bwC wb (.cells vO 59) (.cells vF 29)))) ?_); rintro e w3 ⟨rfl,hb3⟩; have HS3:=vH (HS.out.below (zC (bwC wb (.cells vO 59) (.cells vF 29)) hb3 (bwC wb (.cells vO 59) (.cells vF 29)).size)); have hm3:=mstart (bwC wb (.cells vO 59) (.cells vF 29)) hb3; have hz:=hb3.size; rw [szC] at hm3 hz; have HM:=vH hm3; have hb03:=zC (bwC wb (.cells vO 59) (.cells vF 29)) hb3 (bwC wb (.cells vO 59) (.cells vF 29)).size; obtain ⟨⟨d0,d1⟩,⟨p0,p1⟩,hld⟩:=duo ((hb03.block _ (zA HK1.out)).trans HK1.out); obtain ⟨⟨u0,u1⟩,⟨v0,v1⟩,hlu⟩:=duo ((hb03.block _ (zA HK2.out)).trans HK2.out); obtain ⟨⟨r0,r1,r2,r3⟩,fr,hR3⟩:=hm3.rd.cells; have fr1:=fr 1; have fr2:=fr 2; have fr3:=fr 3; clear fr hm3 hb03; obtain ⟨⟨x0,x1⟩,⟨y0,y1⟩,hlx⟩:=duo (zC2 hb3); obtain ⟨⟨f0,f1⟩,⟨g0,g1⟩,hlf⟩:=duo (zC1 hb3); have hne1:wb.heap.size ≠ wb.heap.size + 1:=(by omega); have hne2:=Ne.symm hne1; clear hb3)
   | (go_at_call 68; (with_reducible refine Calls.mono (zBK (((wb.alloc (.cells vF 29)).alloc (.cells vO 59)).drew) R (.slice p n c) ts k (HT.out.below (bwC wb (.cells vF 29) (.cells vO 59)))) ?_); rintro e w3 ⟨rfl,hb3⟩; have HS3:=vH (HS.out.below (zC (bwC wb (.cells vF 29) (.cells vO 59)) hb3 (bwC wb (.cells vF 29) (.cells vO 59)).size)); have hm3:=mstart (bwC wb (.cells vF 29) (.cells vO 59)) hb3; have hz:=hb3.size; rw [szC] at hm3 hz; have HM:=vH hm3; have hb03:=zC (bwC wb (.cells vF 29) (.cells vO 59)) hb3 (bwC wb (.cells vF 29) (.cells vO 59)).size; obtain ⟨⟨d0,d1⟩,⟨p0,p1⟩,hld⟩:=duo ((hb03.block _ (zA HK1.out)).trans HK1.out); obtain ⟨⟨u0,u1⟩,⟨v0,v1⟩,hlu⟩:=duo ((hb03.block _ (zA HK2.out)).trans HK2.out); obtain ⟨⟨r0,r1,r2,r3⟩,fr,hR3⟩:=hm3.rd.cells; have fr1:=fr 1; have fr2:=fr 2; have fr3:=fr 3; clear fr hm3 hb03; obtain ⟨⟨f0,f1⟩,⟨g0,g1⟩,hlf⟩:=duo (zC2 hb3); obtain ⟨⟨x0,x1⟩,⟨y0,y1⟩,hlx⟩:=duo (zC1 hb3); have hne1:wb.heap.size ≠ wb.heap.size + 1:=(by omega); have hne2:=Ne.symm hne1; clear hb3))
  all_goals
   by_cases hB:(ofAns ts k).2.2.2.1 = 0
   ·have hBd:((ofAns ts k).2.2.2.1 != 0) = false:=by simpa using hB
    go_wp2_with fail
    refine bodyPost_ret (v:=.agg #[.string (cbs (ofAns ts k).1),.int .i64 (ofAns ts k).2.1]) (by simp [results,Tryz.results67,go_sem,hld,d0,d1]) rfl (Mc.of HM.out ?_ (zJP hB) rfl)
    have hsb:=HSB.out
    with_reducible repeat (first | exact HM.out | refine Mc.set_k (s:=⟨k,0,F⟩) ?_ | refine Mc.put ?_ (by omega) (by omega) | refine Mc.alloc ?_ | refine Mc.drew ?_)
   ·have hBd:((ofAns ts k).2.2.2.1 != 0) = true:=by simpa using hB
    go_wp2_with fail
    refine bodyPost_ret (v:=.agg #[.string ⟨#[]⟩,.int .i64 0]) (by simp [results,Tryz.results67,go_sem,hld,d0,d1]) rfl (Mc.of (nm:=[]) (d:=0) HM.out ?_ (zIm hB) rfl)
    have hsb:=HSB.out
    with_reducible repeat (first | exact HM.out | refine Mc.set_f (s:=⟨k,0,F⟩) ?_ | refine Mc.put ?_ (by omega) (by omega) | refine Mc.alloc ?_ | refine Mc.drew ?_)
 ·have hx:=zG2 (ts:=ts) (s:=⟨k,E,F⟩) hE
  have hd:(E != 0) = true:=by simpa using hE
  rw [hwb] at hb
  have HH:=vH h
  have HX:=vH hx
  have HB:=vH hb
  clear h hx hb hE hwb c0 c1 c2 c3 fr
  go_in
  go_wp2_with fail
  refine bodyPost_ret (v:=.agg #[.string ⟨#[]⟩,.int .i64 0]) (by simp [results,Tryz.results67,go_sem]) rfl ?_
  rw [HX.out]
  exact ⟨rfl,HH.out.go HB.out,Gr.of HB.out⟩
theorem zGa {w w':World}(h:OpsIn w)(hb:Below w.heap.size w w'):OpsIn w':=by
 obtain ⟨t,fr,ho⟩:=h
 exact ⟨t,fr,(hb.block _ (zA ho)).trans ho⟩
def BPost (w:World)(x:List Sm × Int × Int × Int)(e:Ending)(w':World):Prop:=
 ∃ (p:Option Addr) (c:Nat),e = .returned (.tuple #[.slice p x.1.length c,.int .i64 x.2.1,.agg #[.int .i64 x.2.2.1,.int .i64 x.2.2.2]]) ∧ SsAt w' w.heap.size p x.1 ∧ Below w.heap.size w w'
def BOk (ts:List RT)(B:BX):Prop:=∀ (w:World)(R0:Nat)(S:Value)(k:Int),Toks w R0 S ts → OpsIn w →
 Calls Tryz.prog 70 #[S,.int .i64 k] w (BPost w (B k))
def BlPostC (w:World)(R:Nat)(T:TypeId)(X:List Value)(S:Value)(ts:List RT)(x:List Sm × Cs)(e:Ending)(w':World):Prop:=
 ∃ (p:Option Addr) (c:Nat),e = .returned (.slice p x.1.length c) ∧ SsAt w' w.heap.size p x.1 ∧ Cu w' R T S X ts x.2 ∧ Gr R w w'
theorem zJQ {B:BX}{s:Cs}(h:¬ s.E = 0):Pg.rdB B s = ([],s):=if_neg h
theorem zMS {B:BX}{k F:Int}(h:(B k).2.2.1 = 0):Pg.rdB B ⟨k,0,F⟩ = ((B k).1,⟨(B k).2.1,0,F⟩):=by simp only [Pg.rdB,h,if_true]
theorem zLF {B:BX}{k F:Int}(h:¬ (B k).2.2.1 = 0):Pg.rdB B ⟨k,0,F⟩ = ([],⟨k,(B k).2.2.1,(B k).2.2.2⟩):=by simp only [Pg.rdB,h,if_true,if_false]
theorem Mc.bl {w w3 W:World}{R B0:Nat}{T:TypeId}{X:List Value}{S:Value}{ts:List RT}{s:Cs}{p:Option Addr}{c:Nat}{l:List Sm}(h:Mc w R T X S ts B0 w3 s W)(ha:SsAt w3 B0 p l):BlPostC w R T X S ts (l,s) (.returned (.slice p l.length c)) W:=
 ⟨p,c,rfl,(ha.ag h.ag).lower h.hB,h.rd,h.gr⟩
theorem Mc.bl0 {w w3 W:World}{R B0:Nat}{T:TypeId}{X:List Value}{S:Value}{ts:List RT}{s sm:Cs}(_h0:Mc w R T X S ts B0 w3 sm w3)(h:Mc w R T X S ts B0 w3 s W):BlPostC w R T X S ts ([],s) (.returned (.slice none 0 0)) W:=
 ⟨none,0,rfl,SsAt.nil,h.rd,h.gr⟩
set_option maxHeartbeats 20000000 in
theorem zEC (w:World)(R:Nat)(T:TypeId)(X:List Value)(S:Value)(ts:List RT)(s:Cs)(h:Cu w R T S X ts s)(hops:OpsIn w)(B:BX)(hB:BOk ts B) :
 Calls Tryz.prog 69 #[.pointer (some ⟨R,0,none⟩),.func (.func 70) #[] #[]] w (BlPostC w R T X S ts (Pg.rdB B s)):=by
 obtain ⟨p,n,c,rfl⟩:=h.toks.slice
 obtain ⟨k,E,F⟩:=s
 obtain ⟨⟨e0,e1,e2,c3⟩,fr,hR⟩:=h.cells
 dsimp only at e1 e2 c3
 have HB:=vH (show ∀ (w:World) (R0:Nat) (S:Value) (k:Int),Toks w R0 S ts → OpsIn w → Calls Tryz.prog 70 #[S,.int .i64 k] w (BPost w (B k)) from hB)
 have HOP:=vH hops
 by_cases hE:E = 0
 ·subst hE
  have HT:=vH h.toks
  have ha1:R ≠ w.heap.size:=Nat.ne_of_lt hR
  have ha2:=Ne.symm ha1
  have mstart:∀ {wc w3:World},Below w.heap.size w wc → Below wc.heap.size wc w3 → Mc w R T X (.slice p n c) ts wc.heap.size w3 ⟨k,0,F⟩ w3:=by
   intro wc w3 hX h3
   have h3':=zC hX h3 hX.size
   exact ⟨h.go h3',Gr.of h3',Ag.refl _ _,h.lt,hX.size,_,h⟩
  have HS:=vH (show Sk R (.slice p n c) (.int .i64 k) w from ⟨⟨e0,e1⟩,hR⟩)
  clear c3 fr h hB hops
  go_in
  go_wp2_with fail
  clear e0 e1 e2
  go_region_held3 (fun w' => w'.cell? ⟨R,0,none⟩ = some (.slice p n c) ∧ w'.cell? ⟨R,1,none⟩ = some (.int .i64 k) ∧ R < w'.heap.size) (((with_reducible first | refine Sk.all ?_ | refine Sk.a (y:=.int .i64 k) ?_ | refine Sk.b (x:=.slice p n c) ?_ | refine Sk.c (x:=.slice p n c) (y:=.int .i64 k) ?_); (with_reducible repeat (first | exact HS.out | exact HS3.out | refine Sk.put ?_ (by omega) | refine Sk.alloc ?_ | refine Sk.drew ?_)))) (first
   | (go_at_call 70; (with_reducible refine Calls.mono (HB.out (w.drew) R (.slice p n c) k (HT.out.below (bwA w)) (zGa HOP.out (bwA w))) ?_); rintro e w3 ⟨bp,bc,rfl,hat,hb3⟩; have HS3:=vH (HS.out.below (zC (bwA w) hb3 (bwA w).size)); have hm3:=mstart (bwA w) hb3; have hz:=hb3.size; rw [szA] at hm3 hz hat; have HM:=vH hm3; have HA:=vH hat; obtain ⟨⟨r0,r1,r2,r3⟩,fr,hR3⟩:=hm3.rd.cells; have fr1:=fr 1; have fr2:=fr 2; have fr3:=fr 3; clear fr hm3 hat; clear hb3)
   | (go_at_call 70; (with_reducible refine Calls.mono (HB.out ((w.alloc (.cells vF 29)).drew) R (.slice p n c) k (HT.out.below (bwB w (.cells vF 29))) (zGa HOP.out (bwB w (.cells vF 29)))) ?_); rintro e w3 ⟨bp,bc,rfl,hat,hb3⟩; have HS3:=vH (HS.out.below (zC (bwB w (.cells vF 29)) hb3 (bwB w (.cells vF 29)).size)); have hm3:=mstart (bwB w (.cells vF 29)) hb3; have hz:=hb3.size; rw [szB] at hm3 hz hat; have HM:=vH hm3; have HA:=vH hat; obtain ⟨⟨r0,r1,r2,r3⟩,fr,hR3⟩:=hm3.rd.cells; have fr1:=fr 1; have fr2:=fr 2; have fr3:=fr 3; clear fr hm3 hat; obtain ⟨⟨f0,f1⟩,⟨g0,g1⟩,hlf⟩:=duo (zEP hb3); clear hb3))
  all_goals
   by_cases hBz:(B k).2.2.1 = 0
   ·have hBd:((B k).2.2.1 != 0) = false:=by simpa using hBz
    go_wp2_with fail
    refine bodyPost_ret (v:=.slice bp (B k).1.length bc) (by simp [results,Tryz.results69,go_sem]) rfl ?_
    rw [zMS hBz]
    refine Mc.bl ?_ HA.out
    with_reducible repeat (first | exact HM.out | refine Mc.set_k (s:=⟨k,0,F⟩) ?_ | refine Mc.put ?_ (by omega) (by omega) | refine Mc.alloc ?_ | refine Mc.drew ?_)
   ·have hBd:((B k).2.2.1 != 0) = true:=by simpa using hBz
    go_wp2_with fail
    refine bodyPost_ret (v:=.slice none 0 0) (by simp [results,Tryz.results69,go_sem]) rfl ?_
    rw [zLF hBz]
    refine Mc.bl0 HM.out ?_
    with_reducible repeat (first | exact HM.out | refine Mc.set_f (s:=⟨k,0,F⟩) ?_ | refine Mc.put ?_ (by omega) (by omega) | refine Mc.alloc ?_ | refine Mc.drew ?_)
 ·have hx:=zJQ (B:=B) (s:=⟨k,E,F⟩) hE
  have hd:(E != 0) = true:=by simpa using hE
  have HH:=vH h
  have HX:=vH hx
  clear h hx hE c3 fr e0 e1 hB hops
  go_in
  go_wp2_with fail
  refine bodyPost_ret (v:=.slice none 0 0) (by simp [results,Tryz.results69,go_sem]) rfl ?_
  rw [HX.out]
  exact ⟨none,0,rfl,SsAt.nil,HH.out,Gr.refl _ _⟩
end Go.Proofs.YtipmjjfknhblnaaGreatDoor
namespace Go.Proofs.YtipmjjfknhblnaaGreatDoor
open Go.RowKit
open Px (RT tokAt)
open Pe
open Ps (Sm PX)
open Pg (BX Pm)
structure Cg (w:World) (R:Nat) (S:Value) (ts:List RT) (s:Cs):Prop where
 cu:Cu w R 43 S [] ts s
 ops:OpsIn w
 n0 : 6 ≠ R
section
variable {w w':World} {R:Nat} {S:Value} {ts:List RT} {s s':Cs}
theorem Cg.gr (h:Cg w R S ts s)(hg:Gr R w w')(hc:Cu w' R 43 S [] ts s'):Cg w' R S ts s':=
 ⟨hc,by obtain ⟨t,fr,ho⟩:=h.ops; exact ⟨t,fr,hg.box ho h.n0⟩,h.n0⟩
theorem Cg.go (h:Cg w R S ts s)(hb:Below w.heap.size w w'):Cg w' R S ts s:=h.gr (Gr.of hb) (h.cu.go hb)
theorem Cg.lt (h:Cg w R S ts s):R < w.heap.size:=h.cu.lt
end
def CgK (R:Nat)(S:Value)(ts:List RT)(s:Cs)(w:World):Prop:=Cg w R S ts s
section
variable {w wr w':World} {R:Nat} {S:Value} {ts:List RT} {s s':Cs} {L:List (Nat × Obj)} {T:List (Nat × World)}
theorem Fr.og (h:Cg w R S ts s):Fr w R (CgK R S ts) s [] [] w:=
 Fr.start (CgK R S ts) h h.lt fun _ _ _ n hA => h.gr n.gr (h.cu.fin hA.cu n)
theorem Fr.cg (h:Fr w R (CgK R S ts) s L T wr):Cg wr R S ts s:=h.rd
theorem Fr.cuG (h:Fr w R (CgK R S ts) s L T wr)(hc:Cu w' R 43 S [] ts s')(hg:Gr R wr w'):Fr w R (CgK R S ts) s' L T w':=h.step (h.cg.gr hg hc) hg
end
theorem Fr.drew {σ:Type}{w wr:World}{R:Nat}{K : σ → World → Prop}{s : σ}{L:List (Nat × Obj)}{T:List (Nat × World)}(h:Fr w R K s L T wr):Fr w R K s L T wr.drew:=h.go (Below.refl _ _).drew
theorem Fr.put4 {σ:Type}{w wr:World}{R:Nat}{K : σ → World → Prop}{s : σ}{L:List (Nat × Obj)}{T:List (Nat × World)}{b:Nat}{Ty:TypeId}{c0 c1 c2 c3 x0 x1 x2 x3:Value}(h:Fr w R K s L T wr)(i:Nat)(hi:L[i]? = some (b,.cells #[x0,x1,x2,x3] Ty (0,0))) :
 Fr w R K s (L.set i (b,.cells #[c0,c1,c2,c3] Ty (0,0))) T ((((wr.setCell ⟨b,0,none⟩ c0).setCell ⟨b,1,none⟩ c1).setCell ⟨b,2,none⟩ c2).setCell ⟨b,3,none⟩ c3):=by
 have h0:=h.put1 i hi 0 c0 (A2:=#[c0,x1,x2,x3]) rfl
 have h1:=h0.put1 i (zAf hi _) 1 c1 (A2:=#[c0,c1,x2,x3]) rfl
 rw [List.set_set] at h1
 have h2:=h1.put1 i (zAf hi _) 2 c2 (A2:=#[c0,c1,c2,x3]) rfl
 rw [List.set_set] at h2
 have h3:=h2.put1 i (zAf hi _) 3 c3 (A2:=#[c0,c1,c2,c3]) rfl
 rw [List.set_set] at h3
 exact h3
theorem Fr.below1 {σ:Type}{w wr:World}{R:Nat}{K : σ → World → Prop}{s : σ}{p q:Nat × Obj}{L:List (Nat × Obj)}{T:List (Nat × World)}(h:Fr w R K s (p :: q :: L) T wr):q.1 ≠ p.1:=Nat.ne_of_lt ((List.pairwise_cons.1 h.nd).1 _ vA)
def pmCells (x:Pm):List Value:=[.string (cbs x.name),.string (cbs x.ofn),.int .i64 x.dims,.int .i64 x.at_]
def pmW (x:Pm):Value:=.agg #[.string (cbs x.name),.string (cbs x.ofn),.int .i64 x.dims,.int .i64 x.at_]
theorem zEX:(Tryz.prog.info? 61).map (fun i => (i.zero,i.size,i.bytes)) = some (some (.agg #[.string ⟨#[]⟩,.string ⟨#[]⟩,.int .i64 0,.int .i64 0]),4,48):=by kernel_rfl
theorem zBZ (w:World)(R:Nat)(S:Value)(ts:List RT)(s:Cs)(h:Cg w R S ts s)(n m:Int) :
 Calls Tryz.prog 38 #[.pointer (some ⟨R,0,none⟩),.int .i64 n,.int .i64 m] w fun e w' => e = .returned (.tuple #[]) ∧ Cu w' R 43 S [] ts (Pg.limit ts s n m) ∧ Gr R w w':=by
 have HH:=vH h
 clear h
 by_cases hE:n = m
 ·have hd:(n == m) = true:=by simpa using hE
  rw [show Pg.limit ts s n m = fail ts s 4 from if_pos hE]
  clear hE
  go_in
  go_wp2_with fail
  refine (zA2 _ R _ S _ ts s HH.out.cu 4).mono ?_
  rintro e w1 ⟨rfl,hc,hg⟩
  go_wp2_with fail
  first
   | exact bodyPost_end (results_none rfl _ _ _) rfl ⟨rfl,hc,hg⟩
   | exact bodyPost_ret (results_none rfl _ _ _) rfl ⟨rfl,hc,hg⟩
 ·have hd:(n == m) = false:=by simpa using hE
  rw [show Pg.limit ts s n m = s from if_neg hE]
  clear hE
  go_in
  go_wp2_with fail
  first
   | exact bodyPost_end (results_none rfl _ _ _) rfl ⟨rfl,HH.out.cu,Gr.refl _ _⟩
   | exact bodyPost_ret (results_none rfl _ _ _) rfl ⟨rfl,HH.out.cu,Gr.refl _ _⟩
theorem zAG {w1:World}{R:Nat}{S:Value}{ts:List RT}{s:Cs}{t:RT}(hT:peek ts s = t)(h:Cg w1 R S ts s) :
 Calls Tryz.prog 36 #[.pointer (some ⟨R,0,none⟩)] w1 fun e w' => e = .returned (.agg #[.int .i64 t.kind,.string (cbs t.text),.int .i64 t.num,.int .i64 t.at_]) ∧ Below w1.heap.size w1 w':=by
 subst hT
 exact zU w1 R _ S _ ts s h.cu
theorem zAP {w1:World}{R:Nat}{S:Value}{ts:List RT}{s s1:Cs}{nm:List UInt8}(hN:name ts s = (nm,s1))(h:Cg w1 R S ts s) :
 Calls Tryz.prog 61 #[.pointer (some ⟨R,0,none⟩)] w1 fun e w' => e = .returned (.string (cbs nm)) ∧ Cu w' R 43 S [] ts s1 ∧ Gr R w1 w':=by
 have:=name_any w1 R _ S _ ts s h.cu
 rw [hN] at this
 exact this
theorem zBA (w:World)(R:Nat)(S:Value)(ts:List RT)(s:Cs)(h:Cg w R S ts s) :
 Calls Tryz.prog 64 #[.pointer (some ⟨R,0,none⟩)] w fun e w' => e = .returned (pmW (Pg.declared ts s).1) ∧ Cu w' R 43 S [] ts (Pg.declared ts s).2 ∧ Gr R w w':=by
 obtain ⟨nm,s1,hN⟩:∃ nm s1,name ts s = (nm,s1):=⟨_,_,rfl⟩
 obtain ⟨on,d,s3,hO⟩:∃ on d s3,Pg.rdOf ts (Pg.sg ts s1 [58]) = (on,d,s3):=⟨_,_,_,rfl⟩
 obtain ⟨t,hT⟩:∃ t,peek ts s = t:=⟨_,rfl⟩
 have hx:Pg.declared ts s = (⟨nm,on,d,t.at_⟩,s3):=by simp only [Pg.declared,hN,hO,hT]
 rw [hx]
 have HN:=vH hN
 have HO:=vH hO
 have HT:=vH hT
 have HH:=vH h
 have hlt:=h.lt
 obtain ⟨u,hu⟩:∃ u,u = w.alloc (.cells #[.string ⟨#[]⟩,.string ⟨#[]⟩,.int .i64 0,.int .i64 0] 61):=⟨_,rfl⟩
 have F:=vH ((Fr.og h).alloc (.cells #[.string ⟨#[]⟩,.string ⟨#[]⟩,.int .i64 0,.int .i64 0] 61))
 rw [← hu] at F
 have hfd:∀ w1:World,(Instr.field 52 (.agg #[.int .i64 t.kind,.string (cbs t.text),.int .i64 t.num,.int .i64 t.at_]) 3).run Tryz.prog w1 = .ok (.int .i64 t.at_) w1:=fun _ => by kernel_rfl
 clear h hx hN hO hT
 go_in
 go_wp2_with fail
 rw [← hu]
 clear hu
 go_region_held3 (fun _ => True) (trivial) (first
  | (go_at_call 36; (with_reducible refine Calls.mono (zAG (w1:=u.drew) HT.out F.out.drew.cg) ?_); rintro e w3 ⟨rfl,hb⟩; have F1:=vH (F.out.drew.go hb); clear hb)
  | (go_at_call 36; (with_reducible refine Calls.mono (zAG (w1:=(u.alloc (.cells #[.string ⟨#[]⟩,.string ⟨#[]⟩,.int .i64 0,.int .i64 0] 61)).drew) HT.out (F.out.alloc (.cells #[.string ⟨#[]⟩,.string ⟨#[]⟩,.int .i64 0,.int .i64 0] 61)).drew.cg) ?_); rintro e w3 ⟨rfl,hb⟩; have FA:=vH ((F.out.alloc (.cells #[.string ⟨#[]⟩,.string ⟨#[]⟩,.int .i64 0,.int .i64 0] 61)).drew.go hb); clear hb)
  | (go_at_call 61; (with_reducible refine Calls.mono (zAP (w1:=w3) HN.out F1.out.cg) ?_); rintro e w4 ⟨rfl,hc,hg⟩; have F2:=vH (F1.out.cuG hc hg); clear hc hg)
  | (go_at_call 61; (with_reducible refine Calls.mono (zAP (w1:=w3) HN.out FA.out.cg) ?_); rintro e w4 ⟨rfl,hc,hg⟩; have FB:=vH (FA.out.cuG hc hg); clear hc hg; have hk:=FB.out.keep _ vA; obtain ⟨⟨d0,d1,d2,d3⟩,p0,p1,p2,p3⟩:=quad hk.1; have hld:=zA hk.1; have hlB:=hk.2; clear hk)
  | (go_at_call 61; (with_reducible refine Calls.mono (zAP (w1:=w3.alloc (.cells #[.string ⟨#[]⟩,.string ⟨#[]⟩,.int .i64 0,.int .i64 0] 61)) HN.out (F1.out.alloc (.cells #[.string ⟨#[]⟩,.string ⟨#[]⟩,.int .i64 0,.int .i64 0] 61)).cg) ?_); rintro e w4 ⟨rfl,hc,hg⟩; have FB:=vH ((F1.out.alloc (.cells #[.string ⟨#[]⟩,.string ⟨#[]⟩,.int .i64 0,.int .i64 0] 61)).cuG hc hg); clear hc hg; have hk:=FB.out.keep _ vA; obtain ⟨⟨d0,d1,d2,d3⟩,p0,p1,p2,p3⟩:=quad hk.1; have hld:=zA hk.1; have hlB:=hk.2; clear hk))
 all_goals (first
  | (obtain ⟨b,w5,hb5,hw5,f5⟩:∃ b w5,b = w4.heap.size ∧ w5 = w4.alloc (.cells #[.string (cbs nm),.string ⟨#[]⟩,.int .i64 0,.int .i64 t.at_] 61) ∧ Fr w R (CgK R S ts) s1 [(b,.cells #[.string (cbs nm),.string ⟨#[]⟩,.int .i64 0,.int .i64 t.at_] 61 (0,0)),(w.heap.size,.cells #[.string ⟨#[]⟩,.string ⟨#[]⟩,.int .i64 0,.int .i64 0] 61 (0,0))] [] w5:=⟨_,_,rfl,rfl,F2.out.alloc _⟩; rw [← hw5,← hb5]; have G:=vH f5; clear hb5 hw5 f5)
  | (obtain ⟨b,w5,hb5,hw5,f5⟩:∃ b w5,b = u.heap.size ∧ w5 = ((((w4.setCell ⟨u.heap.size,0,none⟩ (.string (cbs nm))).setCell ⟨u.heap.size,1,none⟩ (.string ⟨#[]⟩)).setCell ⟨u.heap.size,2,none⟩ (.int .i64 0)).setCell ⟨u.heap.size,3,none⟩ (.int .i64 t.at_)) ∧ Fr w R (CgK R S ts) s1 [(b,.cells #[.string (cbs nm),.string ⟨#[]⟩,.int .i64 0,.int .i64 t.at_] 61 (0,0)),(w.heap.size,.cells #[.string ⟨#[]⟩,.string ⟨#[]⟩,.int .i64 0,.int .i64 0] 61 (0,0))] [] w5:=⟨_,_,rfl,rfl,FB.out.put4 0 rfl⟩; rw [← hw5,← hb5]; have G:=vH f5; clear hb5 hw5 f5)
  | (obtain ⟨b,w5,hb5,hw5,f5⟩:∃ b w5,b = w3.heap.size ∧ w5 = ((((w4.setCell ⟨w3.heap.size,0,none⟩ (.string (cbs nm))).setCell ⟨w3.heap.size,1,none⟩ (.string ⟨#[]⟩)).setCell ⟨w3.heap.size,2,none⟩ (.int .i64 0)).setCell ⟨w3.heap.size,3,none⟩ (.int .i64 t.at_)) ∧ Fr w R (CgK R S ts) s1 [(b,.cells #[.string (cbs nm),.string ⟨#[]⟩,.int .i64 0,.int .i64 t.at_] 61 (0,0)),(w.heap.size,.cells #[.string ⟨#[]⟩,.string ⟨#[]⟩,.int .i64 0,.int .i64 0] 61 (0,0))] [] w5:=⟨_,_,rfl,rfl,FB.out.put4 0 rfl⟩; rw [← hw5,← hb5]; have G:=vH f5; clear hb5 hw5 f5))
 all_goals
  have hnd:=G.out.below1
  have hne:=Ne.symm hnd
  dsimp only at hnd hne
  try clear d0 d1 d2 d3 p0 p1 p2 p3 hld hlB
  go_wp2_with fail
  refine (zJ _ R _ S _ ts s1 G.out.cg.cu ⟨#[58]⟩).mono ?_
  rintro e u1 ⟨rfl,hc,hg⟩
  replace G:=vH (G.out.cuG hc hg)
  clear hc hg
  go_wp2_with fail
  have hO:Pg.rdOf ts (sign ts s1 [58]).2 = (on,d,s3):=HO.out
  have hro:=zCV _ R _ [] S ts _ G.out.cg.cu
  rw [hO] at hro
  refine hro.mono ?_
  rintro e u2 ⟨rfl,hc,hg⟩
  replace G:=vH (G.out.cuG hc hg)
  clear hc hg hro hO
  have hk:=G.out.keep _ vA
  obtain ⟨⟨d0,d1,d2,d3⟩,p0,p1,p2,p3⟩:=quad hk.1
  have hld:=zA hk.1
  clear hk
  have hk:=G.out.keep _ vB
  obtain ⟨⟨a0,a1,a2,a3⟩,q0,q1,q2,q3⟩:=quad hk.1
  have hla:=zA hk.1
  clear hk
  go_wp2_with fail
  replace G:=vH (G.out.put1 0 rfl 1 (.string (cbs on)) rfl)
  replace G:=vH (G.out.put1 0 rfl 2 (.int .i64 (d:Nat)) rfl)
  replace G:=vH (G.out.put4 1 rfl (c0:=.string (cbs nm)) (c1:=.string (cbs on)) (c2:=.int .i64 (d:Nat)) (c3:=.int .i64 t.at_))
  exact bodyPost_ret (v:=pmW ⟨nm,on,d,t.at_⟩) (by simp [pmW,results,Tryz.results64,go_sem,a0,a1,a2,a3]) rfl ⟨rfl,G.out.cg.cu,G.out.gr⟩
structure Gb (B R:Nat) (w w':World):Prop where
 os:w'.os = w.os
 tape:w'.tape = w.tape
 output:w'.output = w.output
 size:w.heap.size ≤ w'.heap.size
 block:∀ i,i < B → i ≠ R → w'.heap[i]? = w.heap[i]?
theorem Gb.of {B R:Nat}{w w':World}(h:Gr R w w')(hB:B ≤ w.heap.size):Gb B R w w':=⟨h.os,h.tape,h.output,h.size,fun i hi hn => h.block i (Nat.lt_of_lt_of_le hi hB) hn⟩
theorem Gb.trans {B R:Nat}{w w1 w2:World}(h:Gb B R w w1)(g:Gb B R w1 w2):Gb B R w w2:=
 ⟨g.os.trans h.os,g.tape.trans h.tape,g.output.trans h.output,Nat.le_trans h.size g.size,fun i hi hn => (g.block i hi hn).trans (h.block i hi hn)⟩
theorem Gb.after {R:Nat}{w w1 w2:World}(h:Gr R w w1)(g:Gb w.heap.size R w1 w2):Gr R w w2:=
 ⟨g.os.trans h.os,g.tape.trans h.tape,g.output.trans h.output,Nat.le_trans h.size g.size,fun i hi hn => (g.block i hi hn).trans (h.block i hi hn)⟩
theorem Gb.grown {B R:Nat}{w w':World}{v:Value}(h:w.grownBy w' v.ownBlock)(hv:∀ k,v.ownBlock = some k → B ≤ k)(hB:B ≤ w.heap.size):Gb B R w w':=
 ⟨h.os,h.tape,h.output,h.size,fun i hi _ => h.block i (Nat.lt_of_lt_of_le hi hB) (fun e => by have:=hv i e.symm; omega)⟩
theorem zAi {w:World}{base n sz:Nat}{T:TypeId}{v:Value}{xs:List Value}(h:w.ownsRow base T sz v n xs):∃ p c,v = .slice p n c:=by
 rcases h.2 with ⟨rfl,rfl⟩ | ⟨g,cap,cur,rfl,-⟩
 ·exact ⟨none,0,rfl⟩
 ·exact ⟨_,cap,rfl⟩
theorem zDt (x:Pm):∀ u ∈ pmCells x,u.oneCell' = true:=by
 intro u hu
 simp [pmCells] at hu
 rcases hu with rfl | rfl | rfl | rfl <;> rfl
theorem zCv (l:List Pm)(x:Pm):(l ++ [x]).flatMap pmCells = l.flatMap pmCells ++ pmCells x:=by simp
theorem zNw {B R:Nat}{wz w w':World}(h:Gr R wz w)(g:Gb B R w w')(hB:wz.heap.size ≤ B):Gr R wz w':=
 ⟨g.os.trans h.os,g.tape.trans h.tape,g.output.trans h.output,Nat.le_trans h.size g.size,fun i hi hn => (g.block i (Nat.lt_of_lt_of_le hi hB) hn).trans (h.block i hi hn)⟩
structure PmSt (wz:World) (R:Nat) (S:Value) (ts:List RT) (B:Nat) (v:Value) (l:List Pm) (s:Cs) (w:World):Prop where
 cg:Cg w R S ts s
 gr:Gr R wz w
 le:wz.heap.size ≤ B
 leB:B ≤ w.heap.size
 own:w.ownsRow B 61 4 v l.length (l.flatMap pmCells)
 h0:∃ s0,Cg wz R S ts s0
section
variable {wz w w' w3:World} {R B:Nat} {S v v':Value} {ts:List RT} {l:List Pm} {s s':Cs}
theorem PmSt.lt (h:PmSt wz R S ts B v l s w):R < B:=by obtain ⟨s0,h0⟩:=h.h0; exact Nat.lt_of_lt_of_le h0.lt h.le
theorem PmSt.step (h:PmSt wz R S ts B v l s w)(hc:Cu w' R 43 S [] ts s')(hg:Gr R w w'):PmSt wz R S ts B v l s' w':=
 ⟨h.cg.gr hg hc,h.gr.trans hg,h.le,Nat.le_trans h.leB hg.size,zEJ h.own hg h.lt,h.h0⟩
theorem PmSt.go (h:PmSt wz R S ts B v l s w)(hb:Below w.heap.size w w'):PmSt wz R S ts B v l s w':=h.step (h.cg.go hb).cu (Gr.of hb)
theorem PmSt.push {x:Pm}{T:TypeId}{A:Array Value}(h:PmSt wz R S ts B v l s w)(hown:w3.ownsRow B 61 4 v' (l.length + 1) (l.flatMap pmCells ++ pmCells x))(hgrow:(w.alloc (.cells A T)).grownBy w3 v.ownBlock) :
 PmSt wz R S ts B v' (l ++ [x]) s w3 ∧ Gb B R w w3:=by
 have hv:∀ k,v.ownBlock = some k → B ≤ k:=fun k hk => (h.own.lt k hk).1
 have ha:Gb B R w (w.alloc (.cells A T)):=Gb.of (Gr.alloc (Gr.refl R w) _) h.leB
 have hb:Gb B R w w3:=ha.trans (Gb.grown hgrow hv (Nat.le_trans h.leB ha.size))
 have hgr:=zNw h.gr hb h.le
 obtain ⟨s0,h0⟩:=h.h0
 have hbel:Below wz.heap.size w w3:=⟨hb.os,hb.tape,hb.output,hb.size,fun i hi => by
  have h1:=hgrow.block i (by rw [zB]; have:=h.gr.size; omega) (fun e => by have:=hv i e.symm; have:=h.le; omega)
  exact h1.trans (heap_alloc_old _ _ (Nat.lt_of_lt_of_le hi h.gr.size))⟩
 exact ⟨⟨h0.gr hgr (h0.cu.fin h.cg.cu ⟨hbel,hgr⟩),hgr,h.le,Nat.le_trans h.leB hb.size,by rw [zCv,List.length_append]; exact hown,s0,h0⟩,hb⟩
end
theorem zBm (wz w:World)(R:Nat)(S:Value)(ts:List RT)(B:Nat)(v:Value)(l:List Pm)(s:Cs)(h:PmSt wz R S ts B v l s w)(hl:l.length ≤ 1000000000)(m:Int) :
 Calls Tryz.prog 63 #[.pointer (some ⟨R,0,none⟩),v,.int .i64 m] w fun e w' => ∃ v',e = .returned v' ∧ PmSt wz R S ts B v' (Pg.oneMore ts l m s).1 (Pg.oneMore ts l m s).2 w' ∧ Gb B R w w':=by
 obtain ⟨p,c,rfl⟩:=zAi h.own
 obtain ⟨t,hT⟩:∃ t,peek ts s = t:=⟨_,rfl⟩
 obtain ⟨s1,hs1⟩:∃ s1,(if (peek ts s).kind = 1 then Pg.limit ts s l.length m else s) = s1:=⟨_,rfl⟩
 obtain ⟨d,s3,hD⟩:∃ d s3,Pg.declared ts s1 = (d,s3):=⟨_,_,rfl⟩
 have hx:Pg.oneMore ts l m s = (l ++ [d],s3):=by simp only [Pg.oneMore,hs1,hD]
 rw [hx]
 have HT:=vH hT
 have HD:=vH hD
 have HL:=vH hl
 have G:=vH h
 have HG:=vH (Gb.of (Gr.refl R w) h.leB)
 obtain ⟨i0,hi0,hz0,hz1,hz2⟩:=info_parts zEX
 have hfd:∀ w1:World,(Instr.field 52 (.agg #[.int .i64 t.kind,.string (cbs t.text),.int .i64 t.num,.int .i64 t.at_]) 0).run Tryz.prog w1 = .ok (.int .i64 t.kind) w1:=fun _ => by kernel_rfl
 rw [hT] at hs1
 clear h hx hT hD hl
 by_cases hK:t.kind = 1
 ·have hkb:(t.kind == 1) = true:=by simpa using hK
  rw [if_pos hK] at hs1
  have HS:=vH hs1
  clear hs1 hK
  go_in
  go_wp2_with fail
  refine (zAG HT.out G.out.cg).mono ?_
  rintro e w1 ⟨rfl,hb⟩
  replace HG:=vH (HG.out.trans (Gb.of (Gr.of hb) G.out.leB))
  replace G:=vH (G.out.go hb)
  clear hb
  go_wp2_with fail
  refine (zBZ _ R S ts s G.out.cg l.length m).mono ?_
  rw [HS.out]
  rintro e w2 ⟨rfl,hc,hg⟩
  replace HG:=vH (HG.out.trans (Gb.of hg G.out.leB))
  replace G:=vH (G.out.step hc hg)
  clear hc hg HS
  go_wp2_with fail
  refine (zBA _ R S ts s1 G.out.cg).mono ?_
  rw [HD.out]
  rintro e w3 ⟨rfl,hc,hg⟩
  replace HG:=vH (HG.out.trans (Gb.of hg G.out.leB))
  replace G:=vH (G.out.step hc hg)
  clear hc hg
  unfold pmW
  go_wp2_with (at_builtin; refine wpList_append_own_at _ rfl _ _ 23 rfl B 61 i0 _ 4 48 Tryz.underlying23 hi0 hz0 hz1 hz2 rfl (by decide) _ l.length _ rfl (G.out.own.alloc _) ⟨w3.heap.size,0,none⟩ 1 1 (pmCells d) rfl rfl ?c1 ?c2 ?c3 ?c4 ?c5 ?_)
  case c1 => exact zAy rfl rfl
  case c2 => exact zDt d
  case c3 => have:=HL.out; unfold maxLen; omega
  case c4 => have:=HL.out; omega
  case c5 => rw [zB]; have:=G.out.leB; omega
  intro v' w8 hown' hgrow _ hat
  obtain ⟨G8,g8⟩:=G.out.push hown' hgrow
  replace HG:=vH (HG.out.trans g8)
  replace G:=vH G8
  clear hown' hgrow hat G8 g8
  go_wp2_with fail
  exact bodyPost_ret (v:=v') (by simp [results,Tryz.results63,go_sem]) rfl ⟨v',rfl,G.out,HG.out⟩
 ·have hkb:(t.kind == 1) = false:=by simpa using hK
  rw [if_neg hK] at hs1
  subst hs1
  clear hK
  go_in
  go_wp2_with fail
  refine (zAG HT.out G.out.cg).mono ?_
  rintro e w1 ⟨rfl,hb⟩
  replace HG:=vH (HG.out.trans (Gb.of (Gr.of hb) G.out.leB))
  replace G:=vH (G.out.go hb)
  clear hb
  go_wp2_with fail
  refine (zBA _ R S ts s G.out.cg).mono ?_
  rw [HD.out]
  rintro e w3 ⟨rfl,hc,hg⟩
  replace HG:=vH (HG.out.trans (Gb.of hg G.out.leB))
  replace G:=vH (G.out.step hc hg)
  clear hc hg
  unfold pmW
  go_wp2_with (at_builtin; refine wpList_append_own_at _ rfl _ _ 23 rfl B 61 i0 _ 4 48 Tryz.underlying23 hi0 hz0 hz1 hz2 rfl (by decide) _ l.length _ rfl (G.out.own.alloc _) ⟨w3.heap.size,0,none⟩ 1 1 (pmCells d) rfl rfl ?c1 ?c2 ?c3 ?c4 ?c5 ?_)
  case c1 => exact zAy rfl rfl
  case c2 => exact zDt d
  case c3 => have:=HL.out; unfold maxLen; omega
  case c4 => have:=HL.out; omega
  case c5 => rw [zB]; have:=G.out.leB; omega
  intro v' w8 hown' hgrow _ hat
  obtain ⟨G8,g8⟩:=G.out.push hown' hgrow
  replace HG:=vH (HG.out.trans g8)
  replace G:=vH G8
  clear hown' hgrow hat G8 g8
  go_wp2_with fail
  exact bodyPost_ret (v:=v') (by simp [results,Tryz.results63,go_sem]) rfl ⟨v',rfl,G.out,HG.out⟩
end Go.Proofs.YtipmjjfknhblnaaGreatDoor
