/-
  A type read through the cursor of a reader of statements.
-/
import Derived.Test.YtipmjjfknhblnaaGreatDoorK14
import Derived.Test.YtipmjjfknhblnaaGreatDoorK02
set_option maxRecDepth 8000
set_option maxHeartbeats 8000000
namespace Go.Proofs.YtipmjjfknhblnaaGreatDoor
open Go.RowKit
open Px (RT tokAt)
open Pe
open Ps (Sm PX)
theorem zIl {ts:List RT}{s:St}(h:¬ s.c.E = 0):Ps.rdOf ts s = ([],0,s):=if_neg h
theorem zLE {ts:List RT}{k F o:Int}(h:(ofAns ts k).2.2.2.1 = 0):Ps.rdOf ts ⟨⟨k,0,F⟩,o⟩ = ((ofAns ts k).1,(ofAns ts k).2.1,⟨⟨(ofAns ts k).2.2.1,0,F⟩,o⟩):=by simp only [Ps.rdOf,h,if_true]
theorem zJO {ts:List RT}{k F o:Int}(h:¬ (ofAns ts k).2.2.2.1 = 0):Ps.rdOf ts ⟨⟨k,0,F⟩,o⟩ = ([],0,⟨⟨k,(ofAns ts k).2.2.2.1,(ofAns ts k).2.2.2.2⟩,o⟩):=by simp only [Ps.rdOf,h,if_true,if_false]
def OfPost (w:World)(R M1 M2:Nat)(S:Value)(ts:List RT)(x:List UInt8 × Nat × St)(e:Ending)(w':World):Prop:=
 e = .returned (.agg #[.string (cbs x.1),.int .i64 x.2.1]) ∧ Rq w' R M1 M2 S ts x.2.2 ∧ Gr R w w'
theorem Mr.of {w w3 W:World}{R M1 M2 B:Nat}{S:Value}{ts:List RT}{s0 s:St}{x:List UInt8 × Nat × St}{nm:List UInt8}{d:Nat}{sm:St}(_h0:Mr w R M1 M2 S ts B w3 sm w3)(h:Mr w R M1 M2 S ts B w3 s W)(hx:Ps.rdOf ts s0 = x)(he:x = (nm,d,s)):OfPost w R M1 M2 S ts (Ps.rdOf ts s0) (.returned (.agg #[.string (cbs nm),.int .i64 d])) W:=by
 rw [hx,he]
 exact ⟨rfl,h.rd,h.gr⟩
set_option maxHeartbeats 20000000 in
theorem zG0 (w:World)(R M1 M2:Nat)(S:Value)(ts:List RT)(s:St)(h:Rq w R M1 M2 S ts s) :
 Calls Tryz.prog 67 #[.pointer (some ⟨R,0,none⟩),.func (.func 68) #[] #[]] w (OfPost w R M1 M2 S ts (Ps.rdOf ts s)):=by
 obtain ⟨p,n,c,rfl⟩:=h.cu.toks.slice
 obtain ⟨⟨k,E,F⟩,o⟩:=s
 obtain ⟨⟨c0,c1,c2,c3⟩,fr,hR⟩:=h.cu.cells
 dsimp only at c1 c2 c3
 obtain ⟨wb,hwb⟩:∃ wb,wb = (w.alloc (.cells vO 59)).alloc (.cells vO 59):=⟨_,rfl⟩
 have hb:Below w.heap.size w wb:=by rw [hwb]; exact ((Below.refl _ _).alloc (Nat.le_refl _) _).alloc (by rw [zB]; omega) _
 have e2:=zW c2 hR hb
 rw [hwb] at e2
 by_cases hE:E = 0
 ·subst hE
  have e0:=zW c0 hR hb
  have e1:=zW c1 hR hb
  have HR:=vH (h.go hb)
  have HT:=vH (h.go hb).cu.toks
  have hsb:wb.heap.size = w.heap.size + 2:=by rw [hwb]; simp only [zB]
  have HK1:Hid (wb.heap[w.heap.size]? = some (.cells vO 59 (0,0))):=vH (by rw [hwb]; exact zE _ (heap_alloc_new w _))
  have HK2:Hid (wb.heap[w.heap.size + 1]? = some (.cells vO 59 (0,0))):=vH (by rw [hwb]; have:=heap_alloc_new (w.alloc (.cells vO 59)) (.cells vO 59); rw [zB] at this; exact this)
  have hq1:w.heap.size ≠ wb.heap.size:=by omega
  have hq2:w.heap.size + 1 ≠ wb.heap.size:=by omega
  have hq3:w.heap.size ≠ wb.heap.size + 1:=by omega
  have hq4:w.heap.size + 1 ≠ wb.heap.size + 1:=by omega
  have hq5:=Ne.symm hq1
  have hq6:=Ne.symm hq2
  have hq7:=Ne.symm hq3
  have hq8:=Ne.symm hq4
  have ha1:R ≠ w.heap.size:=by omega
  have ha2:R ≠ w.heap.size + 1:=by omega
  have ha3:R ≠ wb.heap.size:=by omega
  have ha4:R ≠ wb.heap.size + 1:=by omega
  have ha5:=Ne.symm ha1
  have ha6:=Ne.symm ha2
  have ha7:=Ne.symm ha3
  have ha8:=Ne.symm ha4
  have HSB:=vH hsb
  clear hsb
  have hwb2:w.heap.size ≤ wb.heap.size:=hb.size
  have hRb:R < wb.heap.size:=Nat.lt_of_lt_of_le hR hwb2
  have mstart:∀ {wc w3:World},Below wb.heap.size wb wc → Below wc.heap.size wc w3 → Mr w R M1 M2 (.slice p n c) ts wc.heap.size w3 ⟨⟨k,0,F⟩,o⟩ w3:=by
   intro wc w3 hX h3
   have h3':=zC hb (zC hX h3 hX.size) hb.size
   exact ⟨h.go h3',Gr.of h3',Ag.refl _ _,h.lt,Nat.le_trans hwb2 hX.size,_,h⟩
  clear c0 c1 c2 c3 fr h
  go_in
  go_wp2_with fail
  rw [← hwb]
  clear hwb e2
  have HS:=vH (show Sk R (.slice p n c) (.int .i64 k) wb from ⟨⟨e0,e1⟩,hRb⟩)
  clear e0 e1
  go_region_held3 (fun w' => w'.cell? ⟨R,0,none⟩ = some (.slice p n c) ∧ w'.cell? ⟨R,1,none⟩ = some (.int .i64 k) ∧ R < w'.heap.size) (((with_reducible first | refine Sk.all ?_ | refine Sk.a (y:=.int .i64 k) ?_ | refine Sk.b (x:=.slice p n c) ?_ | refine Sk.c (x:=.slice p n c) (y:=.int .i64 k) ?_); (with_reducible repeat (first | exact HS.out | exact HS3.out | refine Sk.put ?_ (by omega) | refine Sk.alloc ?_ | refine Sk.drew ?_)))) (first
   | (go_at_call 68; (with_reducible refine Calls.mono (zBK (wb.drew) R (.slice p n c) ts k (HT.out.below (bwA wb))) ?_); rintro e w3 ⟨rfl,hb3⟩; have HS3:=vH (HS.out.below (zC (bwA wb) hb3 (bwA wb).size)); have hm3:=mstart (bwA wb) hb3; have hz:=hb3.size; rw [szA] at hm3 hz; have HM:=vH hm3; have hb03:=zC (bwA wb) hb3 (bwA wb).size; obtain ⟨⟨d0,d1⟩,⟨p0,p1⟩,hld⟩:=duo ((hb03.block _ (zA HK1.out)).trans HK1.out); obtain ⟨⟨u0,u1⟩,⟨v0,v1⟩,hlu⟩:=duo ((hb03.block _ (zA HK2.out)).trans HK2.out); obtain ⟨⟨r0,r1,r2,r3⟩,fr,hR3⟩:=hm3.rd.cu.cells; have fr1:=fr 1; have fr2:=fr 2; have fr3:=fr 3; clear fr hm3 hb03; clear hb3)
   | (go_at_call 68; (with_reducible refine Calls.mono (zBK ((wb.alloc (.cells vO 59)).drew) R (.slice p n c) ts k (HT.out.below (bwB wb (.cells vO 59)))) ?_); rintro e w3 ⟨rfl,hb3⟩; have HS3:=vH (HS.out.below (zC (bwB wb (.cells vO 59)) hb3 (bwB wb (.cells vO 59)).size)); have hm3:=mstart (bwB wb (.cells vO 59)) hb3; have hz:=hb3.size; rw [szB] at hm3 hz; have HM:=vH hm3; have hb03:=zC (bwB wb (.cells vO 59)) hb3 (bwB wb (.cells vO 59)).size; obtain ⟨⟨d0,d1⟩,⟨p0,p1⟩,hld⟩:=duo ((hb03.block _ (zA HK1.out)).trans HK1.out); obtain ⟨⟨u0,u1⟩,⟨v0,v1⟩,hlu⟩:=duo ((hb03.block _ (zA HK2.out)).trans HK2.out); obtain ⟨⟨r0,r1,r2,r3⟩,fr,hR3⟩:=hm3.rd.cu.cells; have fr1:=fr 1; have fr2:=fr 2; have fr3:=fr 3; clear fr hm3 hb03; obtain ⟨⟨x0,x1⟩,⟨y0,y1⟩,hlx⟩:=duo (zEP hb3); clear hb3)
   | (go_at_call 68; (with_reducible refine Calls.mono (zBK ((wb.alloc (.cells vF 29)).drew) R (.slice p n c) ts k (HT.out.below (bwB wb (.cells vF 29)))) ?_); rintro e w3 ⟨rfl,hb3⟩; have HS3:=vH (HS.out.below (zC (bwB wb (.cells vF 29)) hb3 (bwB wb (.cells vF 29)).size)); have hm3:=mstart (bwB wb (.cells vF 29)) hb3; have hz:=hb3.size; rw [szB] at hm3 hz; have HM:=vH hm3; have hb03:=zC (bwB wb (.cells vF 29)) hb3 (bwB wb (.cells vF 29)).size; obtain ⟨⟨d0,d1⟩,⟨p0,p1⟩,hld⟩:=duo ((hb03.block _ (zA HK1.out)).trans HK1.out); obtain ⟨⟨u0,u1⟩,⟨v0,v1⟩,hlu⟩:=duo ((hb03.block _ (zA HK2.out)).trans HK2.out); obtain ⟨⟨r0,r1,r2,r3⟩,fr,hR3⟩:=hm3.rd.cu.cells; have fr1:=fr 1; have fr2:=fr 2; have fr3:=fr 3; clear fr hm3 hb03; obtain ⟨⟨f0,f1⟩,⟨g0,g1⟩,hlf⟩:=duo (zEP hb3); clear hb3)
   | (go_at_call 68; (with_reducible refine Calls.mono (zBK (((wb.alloc (.cells vO 59)).alloc (.cells vF 29)).drew) R (.slice p n c) ts k (HT.out.below (bwC wb (.cells vO 59) (.cells vF 29)))) ?_); rintro e w3 ⟨rfl,hb3⟩; have HS3:=vH (HS.out.below (zC (bwC wb (.cells vO 59) (.cells vF 29)) hb3 (bwC wb (.cells vO 59) (.cells vF 29)).size)); have hm3:=mstart (bwC wb (.cells vO 59) (.cells vF 29)) hb3; have hz:=hb3.size; rw [szC] at hm3 hz; have HM:=vH hm3; have hb03:=zC (bwC wb (.cells vO 59) (.cells vF 29)) hb3 (bwC wb (.cells vO 59) (.cells vF 29)).size; obtain ⟨⟨d0,d1⟩,⟨p0,p1⟩,hld⟩:=duo ((hb03.block _ (zA HK1.out)).trans HK1.out); obtain ⟨⟨u0,u1⟩,⟨v0,v1⟩,hlu⟩:=duo ((hb03.block _ (zA HK2.out)).trans HK2.out); obtain ⟨⟨r0,r1,r2,r3⟩,fr,hR3⟩:=hm3.rd.cu.cells; have fr1:=fr 1; have fr2:=fr 2; have fr3:=fr 3; clear fr hm3 hb03; obtain ⟨⟨x0,x1⟩,⟨y0,y1⟩,hlx⟩:=duo (zC2 hb3); obtain ⟨⟨f0,f1⟩,⟨g0,g1⟩,hlf⟩:=duo (zC1 hb3); have hne1:wb.heap.size ≠ wb.heap.size + 1:=(by omega); have hne2:=Ne.symm hne1; clear hb3)
   | (go_at_call 68; (with_reducible refine Calls.mono (zBK (((wb.alloc (.cells vF 29)).alloc (.cells vO 59)).drew) R (.slice p n c) ts k (HT.out.below (bwC wb (.cells vF 29) (.cells vO 59)))) ?_); rintro e w3 ⟨rfl,hb3⟩; have HS3:=vH (HS.out.below (zC (bwC wb (.cells vF 29) (.cells vO 59)) hb3 (bwC wb (.cells vF 29) (.cells vO 59)).size)); have hm3:=mstart (bwC wb (.cells vF 29) (.cells vO 59)) hb3; have hz:=hb3.size; rw [szC] at hm3 hz; have HM:=vH hm3; have hb03:=zC (bwC wb (.cells vF 29) (.cells vO 59)) hb3 (bwC wb (.cells vF 29) (.cells vO 59)).size; obtain ⟨⟨d0,d1⟩,⟨p0,p1⟩,hld⟩:=duo ((hb03.block _ (zA HK1.out)).trans HK1.out); obtain ⟨⟨u0,u1⟩,⟨v0,v1⟩,hlu⟩:=duo ((hb03.block _ (zA HK2.out)).trans HK2.out); obtain ⟨⟨r0,r1,r2,r3⟩,fr,hR3⟩:=hm3.rd.cu.cells; have fr1:=fr 1; have fr2:=fr 2; have fr3:=fr 3; clear fr hm3 hb03; obtain ⟨⟨f0,f1⟩,⟨g0,g1⟩,hlf⟩:=duo (zC2 hb3); obtain ⟨⟨x0,x1⟩,⟨y0,y1⟩,hlx⟩:=duo (zC1 hb3); have hne1:wb.heap.size ≠ wb.heap.size + 1:=(by omega); have hne2:=Ne.symm hne1; clear hb3))
  all_goals
   by_cases hB:(ofAns ts k).2.2.2.1 = 0
   ·have hBd:((ofAns ts k).2.2.2.1 != 0) = false:=by simpa using hB
    go_wp2_with fail
    refine bodyPost_ret (v:=.agg #[.string (cbs (ofAns ts k).1),.int .i64 (ofAns ts k).2.1]) (by simp [results,Tryz.results67,go_sem,hld,d0,d1]) rfl (Mr.of HM.out ?_ (zLE hB) rfl)
    have hsb:=HSB.out
    with_reducible repeat (first | exact HM.out | refine Mr.set_k (s:=⟨⟨k,0,F⟩,o⟩) ?_ | refine Mr.put ?_ (by omega) (by omega) | refine Mr.alloc ?_ | refine Mr.drew ?_)
   ·have hBd:((ofAns ts k).2.2.2.1 != 0) = true:=by simpa using hB
    go_wp2_with fail
    refine bodyPost_ret (v:=.agg #[.string ⟨#[]⟩,.int .i64 0]) (by simp [results,Tryz.results67,go_sem,hld,d0,d1]) rfl (Mr.of (nm:=[]) (d:=0) HM.out ?_ (zJO hB) rfl)
    have hsb:=HSB.out
    with_reducible repeat (first | exact HM.out | refine Mr.set_f (s:=⟨⟨k,0,F⟩,o⟩) ?_ | refine Mr.put ?_ (by omega) (by omega) | refine Mr.alloc ?_ | refine Mr.drew ?_)
 ·have hx:=zIl (ts:=ts) (s:=⟨⟨k,E,F⟩,o⟩) hE
  have hd:(E != 0) = true:=by simpa using hE
  rw [hwb] at hb
  have HH:=vH h
  have HX:=vH hx
  have HB:=vH hb
  clear h hx hb hE hwb c0 c1 c2 c3 fr
  go_in
  go_wp2_with fail
  refine bodyPost_ret (v:=.agg #[.string ⟨#[]⟩,.int .i64 0]) (by simp [results,Tryz.results67,go_sem]) rfl ?_
  rw [HX.out]
  exact ⟨rfl,HH.out.go HB.out,Gr.of HB.out⟩
section
variable {σ:Type} {w wr:World} {R:Nat} {K : σ → World → Prop} {s s2 : σ} {L:List (Nat × Obj)} {T:List (Nat × World)}
theorem Fr.put1 {b:Nat}{Ty:TypeId}{A A2:Array Value}(h:Fr w R K s L T wr)(i:Nat)(hi:L[i]? = some (b,.cells A Ty (0,0)))(j:Nat)(u:Value)(hA:A.setIfInBounds j u = A2):Fr w R K s (L.set i (b,.cells A2 Ty (0,0))) T (wr.setCell ⟨b,j,none⟩ u):=
 h.set i hi rfl u _ (zAl (h.keep _ (List.mem_of_getElem? hi)).1 j u hA)
theorem zAf {α:Type}{L:List α}{i:Nat}{a : α}(hi:L[i]? = some a)(b : α):(L.set i b)[i]? = some b:=List.getElem?_set_self (List.getElem?_eq_some_iff.1 hi).1
theorem Fr.put9 {b:Nat}{Ty:TypeId}{c0 c1 c2 c3 c4 c5 c6 c7 c8 x0 x1 x2 x3 x4 x5 x6 x7 x8:Value}(h:Fr w R K s L T wr)(i:Nat)(hi:L[i]? = some (b,.cells #[x0,x1,x2,x3,x4,x5,x6,x7,x8] Ty (0,0))):Fr w R K s (L.set i (b,.cells #[c0,c1,c2,c3,c4,c5,c6,c7,c8] Ty (0,0))) T (((((((((wr.setCell ⟨b,0,none⟩ c0).setCell ⟨b,1,none⟩ c1).setCell ⟨b,2,none⟩ c2).setCell ⟨b,3,none⟩ c3).setCell ⟨b,4,none⟩ c4).setCell ⟨b,5,none⟩ c5).setCell ⟨b,6,none⟩ c6).setCell ⟨b,7,none⟩ c7).setCell ⟨b,8,none⟩ c8):=by
 have h0:=h.put1 i hi 0 c0 (A2:=#[c0,x1,x2,x3,x4,x5,x6,x7,x8]) rfl
 have h1:=h0.put1 i (zAf hi _) 1 c1 (A2:=#[c0,c1,x2,x3,x4,x5,x6,x7,x8]) rfl
 rw [List.set_set] at h1
 have h2:=h1.put1 i (zAf hi _) 2 c2 (A2:=#[c0,c1,c2,x3,x4,x5,x6,x7,x8]) rfl
 rw [List.set_set] at h2
 have h3:=h2.put1 i (zAf hi _) 3 c3 (A2:=#[c0,c1,c2,c3,x4,x5,x6,x7,x8]) rfl
 rw [List.set_set] at h3
 have h4:=h3.put1 i (zAf hi _) 4 c4 (A2:=#[c0,c1,c2,c3,c4,x5,x6,x7,x8]) rfl
 rw [List.set_set] at h4
 have h5:=h4.put1 i (zAf hi _) 5 c5 (A2:=#[c0,c1,c2,c3,c4,c5,x6,x7,x8]) rfl
 rw [List.set_set] at h5
 have h6:=h5.put1 i (zAf hi _) 6 c6 (A2:=#[c0,c1,c2,c3,c4,c5,c6,x7,x8]) rfl
 rw [List.set_set] at h6
 have h7:=h6.put1 i (zAf hi _) 7 c7 (A2:=#[c0,c1,c2,c3,c4,c5,c6,c7,x8]) rfl
 rw [List.set_set] at h7
 have h8:=h7.put1 i (zAf hi _) 8 c8 (A2:=#[c0,c1,c2,c3,c4,c5,c6,c7,c8]) rfl
 rw [List.set_set] at h8
 exact h8
theorem Fr.pw {b:Nat}{Ty:TypeId}{x0 x1 x2 x3 x4 x5 x6 x7 x8:Value}(h:Fr w R K s L T wr)(i:Nat)(hi:L[i]? = some (b,.cells #[x0,x1,x2,x3,x4,x5,x6,x7,x8] Ty (0,0)))(c0 c1 c2 c3 c4 c5 c6 c7 c8:Value):Fr w R K s (L.set i (b,.cells #[c0,c1,c2,c3,c4,c5,c6,c7,c8] Ty (0,0))) T (((((((((wr.setCell ⟨b,0,none⟩ c0).setCell ⟨b,1,none⟩ c1).setCell ⟨b,2,none⟩ c2).setCell ⟨b,3,none⟩ c3).setCell ⟨b,4,none⟩ c4).setCell ⟨b,5,none⟩ c5).setCell ⟨b,6,none⟩ c6).setCell ⟨b,7,none⟩ c7).setCell ⟨b,8,none⟩ c8):=h.put9 i hi
theorem Fr.put11 {b:Nat}{Ty:TypeId} {c0 c1 c2 c3 c4 c5 c6 c7 c8 c9 c10 x0 x1 x2 x3 x4 x5 x6 x7 x8 x9 x10:Value}(h:Fr w R K s L T wr)(i:Nat)(hi:L[i]? = some (b,.cells #[x0,x1,x2,x3,x4,x5,x6,x7,x8,x9,x10] Ty (0,0))):Fr w R K s (L.set i (b,.cells #[c0,c1,c2,c3,c4,c5,c6,c7,c8,c9,c10] Ty (0,0))) T (((((((((((wr.setCell ⟨b,0,none⟩ c0).setCell ⟨b,1,none⟩ c1).setCell ⟨b,2,none⟩ c2).setCell ⟨b,3,none⟩ c3).setCell ⟨b,4,none⟩ c4).setCell ⟨b,5,none⟩ c5).setCell ⟨b,6,none⟩ c6).setCell ⟨b,7,none⟩ c7).setCell ⟨b,8,none⟩ c8).setCell ⟨b,9,none⟩ c9).setCell ⟨b,10,none⟩ c10):=by
 have h0:=h.put1 i hi 0 c0 (A2:=#[c0,x1,x2,x3,x4,x5,x6,x7,x8,x9,x10]) rfl
 have h1:=h0.put1 i (zAf hi _) 1 c1 (A2:=#[c0,c1,x2,x3,x4,x5,x6,x7,x8,x9,x10]) rfl
 rw [List.set_set] at h1
 have h2:=h1.put1 i (zAf hi _) 2 c2 (A2:=#[c0,c1,c2,x3,x4,x5,x6,x7,x8,x9,x10]) rfl
 rw [List.set_set] at h2
 have h3:=h2.put1 i (zAf hi _) 3 c3 (A2:=#[c0,c1,c2,c3,x4,x5,x6,x7,x8,x9,x10]) rfl
 rw [List.set_set] at h3
 have h4:=h3.put1 i (zAf hi _) 4 c4 (A2:=#[c0,c1,c2,c3,c4,x5,x6,x7,x8,x9,x10]) rfl
 rw [List.set_set] at h4
 have h5:=h4.put1 i (zAf hi _) 5 c5 (A2:=#[c0,c1,c2,c3,c4,c5,x6,x7,x8,x9,x10]) rfl
 rw [List.set_set] at h5
 have h6:=h5.put1 i (zAf hi _) 6 c6 (A2:=#[c0,c1,c2,c3,c4,c5,c6,x7,x8,x9,x10]) rfl
 rw [List.set_set] at h6
 have h7:=h6.put1 i (zAf hi _) 7 c7 (A2:=#[c0,c1,c2,c3,c4,c5,c6,c7,x8,x9,x10]) rfl
 rw [List.set_set] at h7
 have h8:=h7.put1 i (zAf hi _) 8 c8 (A2:=#[c0,c1,c2,c3,c4,c5,c6,c7,c8,x9,x10]) rfl
 rw [List.set_set] at h8
 have h9:=h8.put1 i (zAf hi _) 9 c9 (A2:=#[c0,c1,c2,c3,c4,c5,c6,c7,c8,c9,x10]) rfl
 rw [List.set_set] at h9
 have h10:=h9.put1 i (zAf hi _) 10 c10 (A2:=#[c0,c1,c2,c3,c4,c5,c6,c7,c8,c9,c10]) rfl
 rw [List.set_set] at h10
 exact h10
theorem Fr.alloc2 (h:Fr w R K s L T wr)(o:Obj){b:Nat}(hb:wr.heap.size = b):Fr w R K s ((b,o) :: L) T (wr.alloc o):=by
 subst hb
 exact h.alloc o
end
def RqK (R M1 M2:Nat)(S:Value)(ts:List RT)(s:St)(w:World):Prop:=Rq w R M1 M2 S ts s
section
variable {w wr:World} {R M1 M2:Nat} {S:Value} {ts:List RT} {s:St} {L:List (Nat × Obj)} {T:List (Nat × World)}
theorem Fr.of (h:Rq w R M1 M2 S ts s):Fr w R (RqK R M1 M2 S ts) s [] [] w:=Fr.start (RqK R M1 M2 S ts) h h.lt h.held
theorem Fr.rq (h:Fr w R (RqK R M1 M2 S ts) s L T wr):Rq wr R M1 M2 S ts s:=h.rd
theorem Fr.cur {w':World}{c':Cs}{o':Int}(h:Fr w R (RqK R M1 M2 S ts) s L T wr)(hc:Cu w' R 137 S [.int .i64 o',.map (some M1),.map (some M2)] ts c')(hg:Gr R wr w'):Fr w R (RqK R M1 M2 S ts) ⟨c',o'⟩ L T w':=
 h.step (h.rq.cur hg hc) hg
end
def StPost (w:World)(R M1 M2:Nat)(S:Value)(ts:List RT)(x:Sm × St)(e:Ending)(w':World):Prop:=
 ∃ (kind:Int) (name ofn:List UInt8) (dims:Int) (ep:Option Addr) (el ec:Nat) (bp:Option Addr) (bl bc:Nat) (lp:Option Addr) (ll lc:Nat) (at_ ref:Int),
   e = .returned (.agg #[.int .i64 kind,.string (cbs name),.string (cbs ofn),.int .i64 dims,.slice ep el ec,.slice bp bl bc,.slice lp ll lc,.int .i64 at_,.int .i64 ref]) ∧
   SIs w' w.heap.size x.1 (smCells kind name ofn dims (.slice ep el ec) (.slice bp bl bc) (.slice lp ll lc) at_ ref) ∧ Rq w' R M1 M2 S ts x.2 ∧ Gr R w w'
def EsPost (w:World)(R M1 M2:Nat)(S:Value)(ts:List RT)(x:Ex × St)(e:Ending)(w':World):Prop:=
 ∃ (p:Option Addr) (c:Nat),e = .returned (.slice p 1 c) ∧ KidsAt w' w.heap.size p [x.1] ∧ Rq w' R M1 M2 S ts x.2 ∧ Gr R w w'
def BlPost (w:World)(R M1 M2:Nat)(S:Value)(ts:List RT)(x:List Sm × St)(e:Ending)(w':World):Prop:=
 ∃ (p:Option Addr) (c:Nat),e = .returned (.slice p x.1.length c) ∧ SsAt w' w.heap.size p x.1 ∧ Rq w' R M1 M2 S ts x.2 ∧ Gr R w w'
def BlOk (ts:List RT)(recB:St → Ps.OutB):Prop:=∀ (s:St)(x:List Sm × St),recB s = some x → ∀ (w:World)(R M1 M2:Nat)(S:Value),Rq w R M1 M2 S ts s →
 Calls Tryz.prog 103 #[.pointer (some ⟨R,0,none⟩)] w (BlPost w R M1 M2 S ts x)
theorem zT (w:World)(R M1 M2:Nat)(S:Value)(ts:List RT)(s:St)(h:Rq w R M1 M2 S ts s)(P:PX)(hP:POk ts P) :
 Calls Tryz.prog 140 #[.pointer (some ⟨R,0,none⟩)] w (ZPost w R M1 M2 S ts (Ps.rd P s)):=by
 have HP:=vH hP
 have hlt:=h.lt
 have HH:=vH h
 have F:=vH (((Fr.of h).alloc (.cells #[.pointer (some ⟨R,0,none⟩)] 129)).alloc2 (.cells vE 111) (zB _ _))
 clear h hP
 go_in
 go_wp2_with fail
 have hd1:w.heap.size ≠ w.heap.size + 1:=by omega
 have hd2:=Ne.symm hd1
 refine (zG1 _ R M1 M2 w.heap.size S ts s F.out.rq (F.out.keep _ vB).1 P HP.out).mono ?_
 rintro e u1 ⟨qk,qn,qs,qo,qd,qp,ql,qc,qa,qb,qr,qe,qf,rfl,hi,hr,hg⟩
 have Hq:=vH hi
 replace F:=vH (F.out.call hr hg)
 clear hi hr hg
 have hk:=(F.out.keep _ vA).1
 obtain ⟨⟨d0,d1,d2,d3,d4,d5,d6,d7,d8,d9,dX⟩,g0,g1,g2,g3,g4,g5,g6,g7,g8,g9,gX⟩:=hen hk
 have hld:=zA hk
 clear hk
 go_wp2_with fail
 replace F:=vH (F.out.put11 0 rfl (c0:=.int .i64 qk) (c1:=.int .i64 qn) (c2:=.string (cbs qs)) (c3:=.string (cbs qo)) (c4:=.int .i64 qd) (c5:=.slice qp ql qc) (c6:=.int .i64 qa) (c7:=.int .i64 qb) (c8:=.int .i64 qr) (c9:=.int .i64 qe) (c10:=.int .i64 qf))
 exact bodyPost_ret (v:=.agg #[.int .i64 qk,.int .i64 qn,.string (cbs qs),.string (cbs qo),.int .i64 qd,.slice qp ql qc,.int .i64 qa,.int .i64 qb,.int .i64 qr,.int .i64 qe,.int .i64 qf]) (by simp [results,Tryz.results140,go_sem,d0,d1,d2,d3,d4,d5,d6,d7,d8,d9,dX]) rfl ⟨_,_,_,_,_,_,_,_,_,_,_,_,_,rfl,Is.lower (F.out.ag _ vA).2 _ (Hq.out.ag (F.out.ag _ vA).1),F.out.rq,F.out.gr⟩
theorem zAe (w:World)(R M1 M2:Nat)(S:Value)(ts:List RT)(s:St)(h:Rq w R M1 M2 S ts s)(P:PX)(hP:POk ts P) :
 Calls Tryz.prog 138 #[.pointer (some ⟨R,0,none⟩)] w (EsPost w R M1 M2 S ts (Ps.rd P s)):=by
 have HP:=vH hP
 have hlt:=h.lt
 have HH:=vH h
 have F:=vH (Fr.of h)
 clear h hP
 go_in
 go_wp2_with fail
 refine (zT _ R M1 M2 S ts s F.out.rq P HP.out).mono ?_
 rintro e u1 ⟨qk,qn,qs,qo,qd,qp,ql,qc,qa,qb,qr,qe,qf,rfl,hi,hr,hg⟩
 have Hq:=vH hi
 replace F:=vH (F.out.call hr hg)
 clear hi hr hg
 go_wp2_with fail
 replace F:=vH (F.out.alloc (.cells #[.int .i64 qk,.int .i64 qn,.string (cbs qs),.string (cbs qo),.int .i64 qd,.slice qp ql qc,.int .i64 qa,.int .i64 qb,.int .i64 qr,.int .i64 qe,.int .i64 qf] 111))
 exact bodyPost_ret (v:=.slice (some ⟨u1.heap.size,0,none⟩) 1 1) (by simp [results,Tryz.results138,go_sem]) rfl ⟨_,_,rfl,KidsAt.one (F.out.keep _ vA).1 (F.out.keep _ vA).2 (Is.lower (F.out.ag _ vA).2 _ (Hq.out.ag (F.out.ag _ vA).1)) rfl,F.out.rq,F.out.gr⟩
theorem zAS (w:World)(R M1 M2:Nat)(S:Value)(ts:List RT)(s:St)(h:Rq w R M1 M2 S ts s) :
 Calls Tryz.prog 139 #[.pointer (some ⟨R,0,none⟩)] w (StPost w R M1 M2 S ts (Ps.refuse ts s)):=by
 have hlt:=h.lt
 have HH:=vH h
 have F:=vH ((Fr.of h).alloc (.cells vS 90))
 clear h
 go_in
 go_wp2_with fail
 refine (zA2 _ R 137 S _ ts _ F.out.rq.cu 2).mono ?_
 rintro e u1 ⟨rfl,hc,hg⟩
 replace F:=vH (F.out.cur hc hg)
 clear hc hg
 have hk:=(F.out.keep _ vA).1
 obtain ⟨⟨d0,d1,d2,d3,d4,d5,d6,d7,d8⟩,g0,g1,g2,g3,g4,g5,g6,g7,g8⟩:=nen hk
 have hld:=zA hk
 clear hk
 go_wp2_with fail
 replace F:=vH (F.out.put9 0 rfl (c0:=.int .i64 0) (c1:=.string ⟨#[]⟩) (c2:=.string ⟨#[]⟩) (c3:=.int .i64 0) (c4:=.slice none 0 0) (c5:=.slice none 0 0) (c6:=.slice none 0 0) (c7:=.int .i64 0) (c8:=.int .i64 0))
 exact bodyPost_ret (v:=.agg #[.int .i64 0,.string ⟨#[]⟩,.string ⟨#[]⟩,.int .i64 0,.slice none 0 0,.slice none 0 0,.slice none 0 0,.int .i64 0,.int .i64 0]) (by simp [results,Tryz.results139,go_sem,d0,d1,d2,d3,d4,d5,d6,d7,d8]) rfl ⟨0,[],[],0,none,0,0,none,0,0,none,0,0,0,0,rfl,SIs.mk KidsAt.nil SsAt.nil SsAt.nil 0 [] [] 0 0 0,F.out.rq,F.out.gr⟩
def DeclPost (w:World)(R M1 M2:Nat)(S:Value)(ts:List RT)(kind:Int)(d:List UInt8 × List UInt8 × Nat × St)(e:Ending)(w':World):Prop:=
 e = .returned (.agg #[.int .i64 kind,.string (cbs d.1),.string (cbs d.2.1),.int .i64 d.2.2.1,.slice none 0 0,.slice none 0 0,.slice none 0 0,.int .i64 0,.int .i64 0]) ∧ Rq w' R M1 M2 S ts d.2.2.2 ∧ Gr R w w'
theorem zGs (w:World)(R M1 M2:Nat)(S:Value)(ts:List RT)(s:St)(h:Rq w R M1 M2 S ts s)(kind:Int) :
 Calls Tryz.prog 137 #[.pointer (some ⟨R,0,none⟩),.int .i64 kind] w (DeclPost w R M1 M2 S ts kind (Ps.decl ts s)):=by
 obtain ⟨nm,s1,hn⟩:∃ nm s1,name ts (next s.c) = (nm,s1):=⟨_,_,rfl⟩
 obtain ⟨on,d,s2,ho⟩:∃ on d s2,Ps.rdOf ts (Ps.sgn ts ⟨s1,s.o⟩ [58]) = (on,d,s2):=⟨_,_,_,rfl⟩
 have hD:Ps.decl ts s = (nm,on,d,s2):=by simp only [Ps.decl,hn,ho]
 rw [hD]
 have HN:=vH hn
 have HO:=vH ho
 clear hn ho hD
 have hlt:=h.lt
 have HH:=vH h
 have F:=vH ((Fr.of h).alloc (.cells vS 90))
 clear h
 go_in
 go_wp2_with fail
 refine (zL _ R 137 S _ ts _ F.out.rq.cu ).mono ?_
 rintro e u1 ⟨rfl,hc,hg⟩
 replace F:=vH (F.out.cur hc hg)
 clear hc hg
 go_wp2_with fail
 refine (name_any _ R 137 S _ ts _ F.out.rq.cu ).mono ?_
 rw [HN.out]
 rintro e u9 ⟨rfl,hc,hg⟩
 replace F:=vH (F.out.cur hc hg)
 clear hc hg
 go_wp2_with fail
 replace F:=vH (F.out.alloc (.cells #[.int .i64 kind,.string (cbs nm),.string ⟨#[]⟩,.int .i64 0,.slice none 0 0,.slice none 0 0,.slice none 0 0,.int .i64 0,.int .i64 0] 90))
 have hnsZ:=Nat.ne_of_gt ((List.pairwise_cons.1 F.out.nd).1 _ vA)
 have hnZs:=Ne.symm hnsZ
 dsimp only at hnsZ hnZs
 refine (zJ _ R 137 S _ ts _ F.out.rq.cu ⟨#[58]⟩).mono ?_
 rintro e u2 ⟨rfl,hc,hg⟩
 replace F:=vH (F.out.cur hc hg)
 clear hc hg
 go_wp2_with fail
 refine (zG0 _ R M1 M2 S ts _ F.out.rq).mono ?_
 have ho:Ps.rdOf ts ⟨(sign ts s1 [58]).2,s.o⟩ = (on,d,s2):=HO.out
 rw [ho]
 rintro e u8 ⟨rfl,hr,hg⟩
 replace F:=vH (F.out.step hr hg)
 clear hr hg ho
 have hk:=(F.out.keep _ vA).1
 obtain ⟨⟨a0,a1,a2,a3,a4,a5,a6,a7,a8⟩,b0,b1,b2,b3,b4,b5,b6,b7,b8⟩:=nen hk
 have hla:=zA hk
 clear hk
 have hk:=(F.out.keep _ vB).1
 obtain ⟨⟨d0,d1,d2,d3,d4,d5,d6,d7,d8⟩,g0,g1,g2,g3,g4,g5,g6,g7,g8⟩:=nen hk
 have hld:=zA hk
 clear hk
 go_wp2_with fail
 replace F:=vH (F.out.put1 0 rfl 2 (.string (cbs on)) rfl)
 replace F:=vH (F.out.put1 0 rfl 3 (.int .i64 (d:Nat)) rfl)
 replace F:=vH (F.out.put9 1 rfl (c0:=.int .i64 kind) (c1:=.string (cbs nm)) (c2:=.string (cbs on)) (c3:=.int .i64 (d:Nat)) (c4:=.slice none 0 0) (c5:=.slice none 0 0) (c6:=.slice none 0 0) (c7:=.int .i64 0) (c8:=.int .i64 0))
 exact bodyPost_ret (v:=.agg #[.int .i64 kind,.string (cbs nm),.string (cbs on),.int .i64 (d:Nat),.slice none 0 0,.slice none 0 0,.slice none 0 0,.int .i64 0,.int .i64 0]) (by simp [results,Tryz.results137,go_sem,d0,d1,d2,d3,d4,d5,d6,d7,d8]) rfl ⟨rfl,F.out.rq,F.out.gr⟩
end Go.Proofs.YtipmjjfknhblnaaGreatDoor
