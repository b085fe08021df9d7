/-
  Statements: whether two are alike, and that what is read fit
-/
import Derived.Test.YtmiiplefgkcklaaDoorK03
import Derived.Test.YtmiiplefgkcklaaDoorK07
import Derived.Test.YtmiiplefgkcklaaDoorK19
import Derived.Test.YtmiiplefgkcklaaDoorK04
set_option maxRecDepth 8000
set_option maxHeartbeats 8000000
namespace Go.Proofs.YtmiiplefgkcklaaDoor
open Go.RowKit
open Px (RT tokAt)
open Pe (Ex)
open Ps (Sm)
open Qe (Q)
mutual
def sameM:Sm → Sm → Bool
 | .mk k n o d es bs ls _ r,.mk k2 n2 o2 d2 es2 bs2 ls2 _ r2 => k == k2 && n == n2 && (o == o2 && d == d2) && r == r2 && sameL es es2 && sameML bs bs2 && sameML ls ls2
def sameML:List Sm → List Sm → Bool
 | [],[] => true
 | x :: xs,y :: ys => sameM x y && sameML xs ys
 | _,_ => false
end
mutual
def fitM:Sm → Bool
 | .mk _ _ _ _ es bs ls _ _ => fitL es && decide (es.length ≤ 9000000000) && fitML bs && decide (bs.length ≤ 9000000000) && fitML ls && decide (ls.length ≤ 9000000000)
def fitML:List Sm → Bool
 | [] => true
 | x :: xs => fitM x && fitML xs
end
theorem zB0:∀ {xs:List Sm}{x:Sm},fitML xs = true → x ∈ xs → fitM x = true
 | [],_,_,hm => by cases hm
 | y :: ys,x,h,hm => by
   rw [fitML,Bool.and_eq_true] at h
   rcases List.mem_cons.1 hm with rfl | hm
   ·exact h.1
   ·exact zB0 h.2 hm
theorem zDz:∀ {xs:List Sm}{x:Sm},fitML xs = true → fitM x = true → fitML (xs ++ [x]) = true
 | [],x,_,hx => by rw [List.nil_append,fitML,hx,fitML]; rfl
 | y :: ys,x,h,hx => by
   rw [fitML,Bool.and_eq_true] at h
   rw [List.cons_append,fitML,h.1,zDz h.2 hx]
   rfl
theorem zDm:∀ (a b:List Sm),a.length ≠ b.length → sameML a b = false
 | [],[],h => absurd rfl h
 | [],_ :: _,_ => by rw [sameML]; all_goals simp
 | _ :: _,[],_ => by rw [sameML]; all_goals simp
 | x :: xs,y :: ys,h => by
   rw [sameML,zDm xs ys (by simpa using h),Bool.and_false]
namespace Sim
def FM (recQ:Q → Qs.Out):Prop:=∀ q x,recQ q = some x → fitM x.1 = true
def FB (recQ:Q → Qs.OutB):Prop:=∀ q x,recQ q = some x → fitML x.1 = true ∧ x.1.length ≤ 9000000000
def FX (r:Qs.RX):Prop:=∀ q x,r q = some x → fitE x.1 = true
theorem zCf {k:Int}{n o:List UInt8}{d:Int}{es:List Ex}{bs ls:List Sm}{a r:Int}(h1:fitL es = true)(h2:es.length ≤ 9000000000)(h3:fitML bs = true)(h4:bs.length ≤ 9000000000)(h5:fitML ls = true)(h6:ls.length ≤ 9000000000):fitM (.mk k n o d es bs ls a r) = true:=by
 rw [fitM,h1,h3,h5]
 simp [h2,h4,h6]
theorem zAF:fitML [] = true:=by rw [fitML]
theorem zNb {k:Int}{n o:List UInt8}{d a r:Int}:fitM (.mk k n o d [] [] [] a r) = true:=zCf fit_nil (by show 0 ≤ 9000000000; decide) zAF (by show 0 ≤ 9000000000; decide) zAF (by show 0 ≤ 9000000000; decide)
theorem zIr {k:Int}{n o:List UInt8}{d a r:Int}{e:Ex}(h:fitE e = true):fitM (.mk k n o d [e] [] [] a r) = true:=zCf (zBw h) (by show 1 ≤ 9000000000; decide) zAF (by show 0 ≤ 9000000000; decide) zAF (by show 0 ≤ 9000000000; decide)
theorem zOC {k:Int}{n o:List UInt8}{d a r:Int}{e e2:Ex}(h:fitE e = true)(h2:fitE e2 = true):fitM (.mk k n o d [e,e2] [] [] a r) = true:=zCf (zIl h h2) (by show 2 ≤ 9000000000; decide) zAF (by show 0 ≤ 9000000000; decide) zAF (by show 0 ≤ 9000000000; decide)
theorem zJN {ts:List RT}{r:Qs.RX}(hx:FX r){recB:Q → Qs.OutB}(hb:FB recB):FM (Qs.stmt ts r recB):=by
 intro q x h
 unfold Qs.stmt at h
 split at h
 ·unfold Qs.declared at h
  dsimp only at h
  split at h
  ·split at h
   ·cases h
   ·rename_i e s2 he
    obtain rfl:=Option.some.inj h
    exact zIr (hx _ _ he)
  ·obtain rfl:=Option.some.inj h
   exact zNb
 ·split at h
  ·unfold Qs.choice at h
   split at h
   ·cases h
   ·rename_i e s1 he
    split at h
    ·cases h
    ·rename_i b s2 hb2
     obtain ⟨f1,f2⟩:=hb _ _ hb2
     split at h
     ·split at h
      ·cases h
      ·rename_i b3 s3 hb3
       obtain ⟨f3,f4⟩:=hb _ _ hb3
       obtain rfl:=Option.some.inj h
       exact zCf (zBw (hx _ _ he)) (by show 1 ≤ 9000000000; decide) f1 f2 f3 f4
     ·obtain rfl:=Option.some.inj h
      exact zCf (zBw (hx _ _ he)) (by show 1 ≤ 9000000000; decide) f1 f2 zAF (by show 0 ≤ 9000000000; decide)
  ·split at h
   ·unfold Qs.loop at h
    split at h
    ·cases h
    ·rename_i e s1 he
     split at h
     ·cases h
     ·rename_i b s2 hb2
      obtain ⟨f1,f2⟩:=hb _ _ hb2
      obtain rfl:=Option.some.inj h
      exact zCf (zBw (hx _ _ he)) (by show 1 ≤ 9000000000; decide) f1 f2 zAF (by show 0 ≤ 9000000000; decide)
   ·split at h
    ·unfold Qs.result at h
     split at h
     ·obtain rfl:=Option.some.inj h
      exact zNb
     ·split at h
      ·cases h
      ·rename_i e s2 he
       obtain rfl:=Option.some.inj h
       exact zIr (hx _ _ he)
    ·split at h
     ·unfold Qs.output at h
      split at h
      ·cases h
      ·rename_i e s2 he
       obtain rfl:=Option.some.inj h
       exact zIr (hx _ _ he)
     ·unfold Qs.plain at h
      split at h
      ·cases h
      ·rename_i e s1 he
       split at h
       ·unfold Qs.plainPut at h
        split at h
        ·cases h
        ·rename_i b s2 hb2
         obtain rfl:=Option.some.inj h
         show fitM (if Ps.kindOf e = 4 then _ else _) = true
         split
         ·exact zIr (hx _ _ hb2)
         ·exact zOC (hx _ _ he) (hx _ _ hb2)
       ·obtain rfl:=Option.some.inj h
        exact zIr (hx _ _ he)
theorem zDy {ts:List RT}{recS:Q → Qs.Out}(hs:FM recS):∀ (g:Nat){l:List Sm}{q:Q}{x:List Sm × Q},fitML l = true → Qs.stLoop ts recS g l q = some x → fitML x.1 = true ∧ x.1.length ≤ l.length + g
 | 0,_,_,_,_,h => by cases h
 | g + 1,l,q,x,hl,h => by
   rw [Qs.stLoop] at h
   split at h
   ·split at h
    ·cases h
    ·rename_i y s2 hy
     obtain ⟨a,b⟩:=zDy hs g (zDz hl (hs _ _ hy)) h
     exact ⟨a,by rw [List.length_append,List.length_singleton] at b; omega⟩
   ·obtain rfl:=Option.some.inj h
    exact ⟨hl,by dsimp only; omega⟩
theorem zIp {ts:List RT}{recS:Q → Qs.Out}(hs:FM recS){g:Nat}(hg:g ≤ 9000000000):FB (Qs.block ts recS g):=by
 intro q x h
 unfold Qs.block at h
 split at h
 ·cases h
 ·rename_i l s2 hl
  obtain rfl:=Option.some.inj h
  obtain ⟨a,b⟩:=zDy hs g zAF hl
  exact ⟨a,by dsimp only at b; rw [List.length_nil] at b; dsimp only; omega⟩
theorem zCy {ts:List RT}{r:Qs.RX}(hx:FX r):∀ f,f ≤ 9000000000 → FM (Qs.run ts r f).1 ∧ FB (Qs.run ts r f).2
 | 0,_ => ⟨fun q x h => (by cases h),fun q x h => (by cases h)⟩
 | f + 1,hf => ⟨zJN hx (zCy hx f (by omega)).2,zIp (zCy hx f (by omega)).1 (by omega)⟩
theorem zKu {ts:List RT}(hl:ts.length ≤ 800000000):FX (rx ts):=fun q x h => zFr ts (enough ts) (by unfold enough; omega) 0 q x h
end Sim
end Go.Proofs.YtmiiplefgkcklaaDoor
namespace Go.Proofs.YtmiiplefgkcklaaDoor
open Go.RowKit
open Px (RT tokAt)
open Pe
open Ps (Sm PX)
theorem SAt.get {w:World}{B bl:Nat}:∀ (es:List Sm)(off j:Nat)(e:Sm),SAt w B bl off es → es[j]? = some e → ∃ vs,SIs w B e vs ∧ ∀ (i:Nat)(v:Value),vs[i]? = some v → w.cell? ⟨bl,off + j * 9 + i,none⟩ = some v
 | [],_,j,e,_,h => by simp at h
 | x :: es,off,0,e,ha,h => by
   rw [SAt] at ha
   obtain ⟨⟨vs,hi,hc⟩,-⟩:=ha
   simp at h
   subst h
   exact ⟨vs,hi,fun i v hv => by have:=hc i v hv; simpa using this⟩
 | x :: es,off,j + 1,e,ha,h => by
   rw [SAt] at ha
   obtain ⟨vs,hi,hc⟩:=SAt.get es (off + 9) j e ha.2 (by simpa using h)
   exact ⟨vs,hi,fun i v hv => by have:=hc i v hv; rw [show off + (j + 1) * 9 + i = off + 9 + j * 9 + i by omega]; exact this⟩
theorem zH0 {w:World}{b o:Nat}{kind:Int}{name ofn:List UInt8}{dims:Int}{ev bv lv:Value}{at_ ref:Int}(h:∀ (i:Nat)(v:Value),(smCells kind name ofn dims ev bv lv at_ ref)[i]? = some v → w.cell? ⟨b,o + i,none⟩ = some v) :
 w.cell? ⟨b,o,none⟩ = some (.int .i64 kind) ∧ w.cell? ⟨b,o + 1,none⟩ = some (.string (cbs name)) ∧ w.cell? ⟨b,o + 2,none⟩ = some (.string (cbs ofn)) ∧ w.cell? ⟨b,o + 3,none⟩ = some (.int .i64 dims) ∧ w.cell? ⟨b,o + 4,none⟩ = some ev ∧ w.cell? ⟨b,o + 5,none⟩ = some bv ∧ w.cell? ⟨b,o + 6,none⟩ = some lv ∧ w.cell? ⟨b,o + 7,none⟩ = some (.int .i64 at_) ∧ w.cell? ⟨b,o + 8,none⟩ = some (.int .i64 ref):=
 ⟨h 0 _ rfl,h 1 _ rfl,h 2 _ rfl,h 3 _ rfl,h 4 _ rfl,h 5 _ rfl,h 6 _ rfl,h 7 _ rfl,h 8 _ rfl⟩
theorem SsAt.below {w w':World}{B:Nat}{p:Option Addr}{l:List Sm}(h:SsAt w B p l)(hb:Below w.heap.size w w'):SsAt w' B p l:=h.ag (Ag.below hb)
theorem SIs.below {w w':World}{B:Nat}{x:Sm}{vs:List Value}(h:SIs w B x vs)(hb:Below w.heap.size w w'):SIs w' B x vs:=SIs.ag (Ag.below hb) _ h
theorem SIs.alloc {w:World}{B:Nat}{x:Sm}{vs:List Value}(h:SIs w B x vs)(o:Obj):SIs (w.alloc o) B x vs:=h.below ((Below.refl _ _).alloc (Nat.le_refl _) _)
theorem SsAt.get {w:World}{B:Nat}{p:Option Addr}{l:List Sm}(h:SsAt w B p l){j:Nat}{e:Sm}(he:l[j]? = some e):∃ bl off vs,p = some ⟨bl,off,none⟩ ∧ bl < w.heap.size ∧ SIs w B e vs ∧ ∀ (i:Nat)(v:Value),vs[i]? = some v → w.cell? ⟨bl,off + j * 9 + i,none⟩ = some v:=by
 rcases h with h | ⟨bl,off,h1,h2,h3,h4⟩
 ·rw [h] at he; simp at he
 ·obtain ⟨vs,hi,hc⟩:=SAt.get l off j e h4 he
  exact ⟨bl,off,vs,h1,h2,hi,hc⟩
theorem SIs.parts {w:World}{B:Nat}{kind:Int}{name ofn:List UInt8}{dims:Int}{es:List Ex}{bs ls:List Sm}{at_ ref:Int}{vs:List Value}(h:SIs w B (.mk kind name ofn dims es bs ls at_ ref) vs) :
 ∃ p c q d r f,vs = smCells kind name ofn dims (.slice p es.length c) (.slice q bs.length d) (.slice r ls.length f) at_ ref ∧ KidsAt w B p es ∧ SsAt w B q bs ∧ SsAt w B r ls:=by
 rw [SIs] at h
 exact h
def SSameOk (F:Nat)(w:World)(e e2:Sm):Prop:=∀ w1 vs vs2,Below w.heap.size w w1 → SIs w1 0 e vs → SIs w1 0 e2 vs2 → Calls Tryd.prog F #[.agg ⟨vs⟩,.agg ⟨vs2⟩] w1 fun en w' => en = .returned (.bool (sameM e e2)) ∧ Below w1.heap.size w1 w'
theorem zKT {xs:List Sm}{x:Sm}(h:x ∈ xs)(kind:Int)(name ofn:List UInt8)(dims:Int)(es:List Ex)(ls:List Sm)(at_ r:Int):SizeOf.sizeOf x < SizeOf.sizeOf (Sm.mk kind name ofn dims es xs ls at_ r):=by
 have:=List.sizeOf_lt_of_mem h
 simp only [Sm.mk.sizeOf_spec]
 omega
theorem zKS {xs:List Sm}{x:Sm}(h:x ∈ xs)(kind:Int)(name ofn:List UInt8)(dims:Int)(es:List Ex)(bs:List Sm)(at_ r:Int):SizeOf.sizeOf x < SizeOf.sizeOf (Sm.mk kind name ofn dims es bs xs at_ r):=by
 have:=List.sizeOf_lt_of_mem h
 simp only [Sm.mk.sizeOf_spec]
 omega
theorem zJP {k:Int}{n o:List UInt8}{d:Int}{es:List Ex}{bs ls:List Sm}{a r:Int}(h:fitM (.mk k n o d es bs ls a r) = true):fitL es = true ∧ es.length ≤ 9000000000 ∧ fitML bs = true ∧ bs.length ≤ 9000000000 ∧ fitML ls = true ∧ ls.length ≤ 9000000000:=by
 rw [fitM] at h
 simp only [Bool.and_eq_true,decide_eq_true_eq] at h
 obtain ⟨⟨⟨⟨⟨h1,h2⟩,h3⟩,h4⟩,h5⟩,h6⟩:=h
 exact ⟨h1,h2,h3,h4,h5,h6⟩
theorem zBj (w:World)(ks ls:List Sm)(p q:Option Addr)(c d:Nat)(hp:SsAt w 0 p ks)(hq:SsAt w 0 q ls)(hl:ks.length ≤ 9223372036854775807)(hel:∀ e ∈ ks,∀ e2,SSameOk 52 w e e2) :
 Calls Tryd.prog 34 #[.slice p ks.length c,.slice q ls.length d] w fun e w' => e = .returned (.bool (sameML ks ls)) ∧ Below w.heap.size w w':=by
 have HP:=vH hp
 have HQ:=vH hq
 have HEL:=vH hel
 have HL:=vH hl
 clear hp hq hel hl
 by_cases hlen:ks.length = ls.length
 ·have hd0:((ks.length:Int) != (ls.length:Int)) = false:=by rw [hlen]; exact bne_self_eq_false _
  have HLEN:=vH hlen
  clear hlen
  go_in
  go_wp2_with fail
  go_loopg [5] ks.length (fun n v wr => ∃ j:Nat,n + j = ks.length ∧ v = .int .i64 (j:Int) ∧ Below w.heap.size w wr ∧ sameML (ks.drop j) (ls.drop j) = sameML ks ls)
  case atStart => exact ⟨0,rfl,rfl,Below.refl _ _,rfl⟩
  case round =>
   obtain ⟨j,hj,rfl,hb,hs⟩:=hrel
   have HB:=vH hb
   have HS:=vH hs
   have HJ:=vH hj
   clear hb hs hj
   cases gk with
   | zero =>
     obtain rfl:j = ks.length:=by have:=HJ.out; omega
     have hd1:decide ((ks.length:Int) < (ks.length:Int)) = false:=decide_eq_false (by omega)
     go_wp2_with fail
     go_ret
     refine ⟨zS ?_,HB.out⟩
     rw [← HS.out,List.drop_of_length_le (Nat.le_refl _),List.drop_of_length_le (by rw [HLEN.out]; exact Nat.le_refl _),sameML]
   | succ m =>
     have hjl:j < ks.length:=by have:=HJ.out; omega
     have hjl2:j < ls.length:=by have:=HLEN.out; omega
     have hd1:decide ((j:Int) < (ks.length:Int)) = true:=decide_eq_true (by omega)
     have hi1:(j:Int) < (ks.length:Int):=by omega
     have hi2:(j:Int) < (ls.length:Int):=by omega
     have hd2:decide (ks.length ≤ j) = false:=decide_eq_false (by omega)
     have hd3:decide (ls.length ≤ j) = false:=decide_eq_false (by omega)
     have hdw:wrap64 ((j:Int) + 1) = ((j + 1:Nat):Int):=by have:=HL.out; simp [wrap64]; omega
     have he1:=List.getElem?_eq_getElem hjl
     have he2:=List.getElem?_eq_getElem hjl2
     have hd4:ks.drop j = ks[j] :: ks.drop (j + 1):=List.drop_eq_getElem_cons hjl
     have hd5:ls.drop j = ls[j] :: ls.drop (j + 1):=List.drop_eq_getElem_cons hjl2
     have HE:=vH (HEL.out _ (List.getElem_mem hjl) (ls[j]))
     generalize ks[j] = e1 at he1 hd4 HE
     generalize ls[j] = e2 at he2 hd5 HE
     have HD4:=vH hd4
     have HD5:=vH hd5
     obtain ⟨bl,off,vs,rfl,hbl,hi,hc⟩:=(HP.out.below HB.out).get he1
     obtain ⟨bl2,off2,vs2,rfl,hbl2,hi',hc2⟩:=(HQ.out.below HB.out).get he2
     obtain ⟨xk,xs,xo,xd,xep,xel,xec,xbp,xbl,xbc,xlp,xll,xlc,xa,xr,rfl⟩:=hi.out
     obtain ⟨yk,ys,yo,yd,yep,yel,yec,ybp,ybl,ybc,ylp,yll,ylc,ya,yr,rfl⟩:=hi'.out
     obtain ⟨x0,x1,x2,x3,x4,x5,x6,x7,x8⟩:=zH0 hc
     obtain ⟨y0,y1,y2,y3,y4,y5,y6,y7,y8⟩:=zH0 hc2
     have HI:=vH hi
     have HI2:=vH hi'
     clear hc hc2 hi hi' he1 he2 hd4 hd5
     have hne1:bl ≠ wr.heap.size:=Nat.ne_of_lt hbl
     have hne2:bl2 ≠ wr.heap.size:=Nat.ne_of_lt hbl2
     have hi3:(0:Int) ≤ (j:Int):=by omega
     go_wp2_with fail
     refine wp_region_still_tail 8 (by kernel_rfl) (by kernel_rfl) ?_
     simp only [List.take_succ_cons,List.take_zero,List.drop_succ_cons,List.drop_zero]
     change wpStill _ _ wr.drew _ _ _
     repeat still_step
     refine wpStill_nil ?_
     change wpList _ _ _ _ _ wr.drew
     have HBD:Hid (Below w.heap.size w wr.drew):=HB.out.drew
     go_wp2_with fail
     refine (HE.out _ _ _ HBD.out (HI.out.below (Below.refl _ _).drew) (HI2.out.below (Below.refl _ _).drew)).mono ?_
     rintro e w2 ⟨rfl,hb3⟩
     have HB2:=vH (zF HBD.out hb3 HBD.out.size)
     clear hb3
     cases hse:sameM e1 e2 with
     | false =>
       have HSE:=vH hse
       try rw [hse]
       clear hse
       go_wp2_with fail
       go_ret
       refine ⟨zS ?_,HB2.out⟩
       rw [← HS.out,HD4.out,HD5.out,sameML,HSE.out,Bool.false_and]
     | true =>
       have HSE:=vH hse
       try rw [hse]
       clear hse
       go_wp2_with fail
       go_roundg m
       case measure => omega
       case rel => exact ⟨j + 1,by have:=HJ.out; omega,by first | rfl | simp [hdw],HB2.out,by rw [← HS.out,HD4.out,HD5.out,sameML,HSE.out,Bool.true_and]⟩
 ·have hd0:((ks.length:Int) != (ls.length:Int)) = true:=bne_iff_ne.2 (by omega)
  rw [zDm _ _ hlen]
  clear hlen
  go_in
  go_wp2_with fail
  go_ret
  exact ⟨rfl,Below.refl _ _⟩
theorem zEZ (w:World)(xk:Int)(xs xo:List UInt8)(xd:Int)(xep:Option Addr)(xel xec:Nat)(xbp:Option Addr)(xbl xbc:Nat)(xlp:Option Addr)(xll xlc:Nat)(xa xr:Int)(yk:Int)(ys yo:List UInt8)(yd:Int)(yep:Option Addr)(yel yec:Nat)(ybp:Option Addr)(ybl ybc:Nat)(ylp:Option Addr)(yll ylc:Nat)(ya yr:Int)(v1 v2 v3:Bool)
 (hk1:∀ w1,Below w.heap.size w w1 → Calls Tryd.prog 43 #[.slice xep xel xec,.slice yep yel yec] w1 fun e w' => e = .returned (.bool v1) ∧ Below w1.heap.size w1 w')
 (hk2:∀ w1,Below w.heap.size w w1 → Calls Tryd.prog 34 #[.slice xbp xbl xbc,.slice ybp ybl ybc] w1 fun e w' => e = .returned (.bool v2) ∧ Below w1.heap.size w1 w')
 (hk3:∀ w1,Below w.heap.size w w1 → Calls Tryd.prog 34 #[.slice xlp xll xlc,.slice ylp yll ylc] w1 fun e w' => e = .returned (.bool v3) ∧ Below w1.heap.size w1 w') :
 Calls Tryd.prog 52 #[.agg #[.int .i64 xk,.string (cbs xs),.string (cbs xo),.int .i64 xd,.slice xep xel xec,.slice xbp xbl xbc,.slice xlp xll xlc,.int .i64 xa,.int .i64 xr],.agg #[.int .i64 yk,.string (cbs ys),.string (cbs yo),.int .i64 yd,.slice yep yel yec,.slice ybp ybl ybc,.slice ylp yll ylc,.int .i64 ya,.int .i64 yr]] w fun e w' => e = .returned (.bool (xk == yk && xs == ys && (xo == yo && xd == yd) && xr == yr && v1 && v2 && v3)) ∧ Below w.heap.size w w':=by
 have h1:=zKy xo yo xd yd
 have hsx:=zCh xs ys
 have hbb:Below w.heap.size w ((w.alloc (.cells #[.int .i64 xk,.string (cbs xs),.string (cbs xo),.int .i64 xd,.slice xep xel xec,.slice xbp xbl xbc,.slice xlp xll xlc,.int .i64 xa,.int .i64 xr] 105)).alloc (.cells #[.int .i64 yk,.string (cbs ys),.string (cbs yo),.int .i64 yd,.slice yep yel yec,.slice ybp ybl ybc,.slice ylp yll ylc,.int .i64 ya,.int .i64 yr] 105)):=((Below.refl _ _).alloc (Nat.le_refl _) _).alloc (by rw [zB]; omega) _
 obtain ⟨wa,hwa⟩:∃ wa,wa = (w.alloc (.cells #[.int .i64 xk,.string (cbs xs),.string (cbs xo),.int .i64 xd,.slice xep xel xec,.slice xbp xbl xbc,.slice xlp xll xlc,.int .i64 xa,.int .i64 xr] 105)).alloc (.cells #[.int .i64 yk,.string (cbs ys),.string (cbs yo),.int .i64 yd,.slice yep yel yec,.slice ybp ybl ybc,.slice ylp yll ylc,.int .i64 ya,.int .i64 yr] 105):=⟨_,rfl⟩
 have hk1x:wa.heap[w.heap.size]? = some (.cells #[.int .i64 xk,.string (cbs xs),.string (cbs xo),.int .i64 xd,.slice xep xel xec,.slice xbp xbl xbc,.slice xlp xll xlc,.int .i64 xa,.int .i64 xr] 105 (0,0)):=by rw [hwa]; exact zK _ (heap_alloc_new w _)
 have hk1y:wa.heap[w.heap.size + 1]? = some (.cells #[.int .i64 yk,.string (cbs ys),.string (cbs yo),.int .i64 yd,.slice yep yel yec,.slice ybp ybl ybc,.slice ylp yll ylc,.int .i64 ya,.int .i64 yr] 105 (0,0)):=by rw [hwa]; have:=heap_alloc_new (w.alloc (.cells #[.int .i64 xk,.string (cbs xs),.string (cbs xo),.int .i64 xd,.slice xep xel xec,.slice xbp xbl xbc,.slice xlp xll xlc,.int .i64 xa,.int .i64 xr] 105)) (.cells #[.int .i64 yk,.string (cbs ys),.string (cbs yo),.int .i64 yd,.slice yep yel yec,.slice ybp ybl ybc,.slice ylp yll ylc,.int .i64 ya,.int .i64 yr] 105); rw [zB] at this; exact this
 rw [← hwa] at hbb
 have HKX:=vH hk1x
 have HKY:=vH hk1y
 have HBB:=vH hbb
 have HK1:=vH hk1
 have HK2:=vH hk2
 have HK3:=vH hk3
 clear hk1 hk2 hk3 hbb hk1x hk1y
 generalize (xo == yo && xd == yd) = g1 at h1 ⊢
 generalize (xs == ys) = g3 at hsx ⊢
 cases hc1:(xk == yk) with
 | false =>
   go_in
   go_wp2_with fail
   go_ret
   exact ⟨rfl,by rw [← hwa]; exact HBB.out⟩
 | true =>
   cases g3 with
   | false =>
     go_in
     go_wp2_with fail
     go_ret
     exact ⟨rfl,by rw [← hwa]; exact HBB.out⟩
   | true =>
     cases g1 with
     | false =>
       go_in
       go_wp2_with fail
       go_ret
       exact ⟨rfl,by rw [← hwa]; exact HBB.out⟩
     | true =>
       cases hc6:(xr == yr) with
       | false =>
         go_in
         go_wp2_with fail
         go_ret
         exact ⟨rfl,by rw [← hwa]; exact HBB.out⟩
       | true =>
         go_in
         go_wp2_with fail
         rw [← hwa]
         clear hwa
         refine (HK1.out _ HBB.out).mono ?_
         rintro e w1 ⟨rfl,hb⟩
         have HB1:=vH (zF HBB.out hb HBB.out.size)
         have HX1:=vH ((hb.block _ (zA HKX.out)).trans HKX.out)
         have HY1:=vH ((hb.block _ (zA HKY.out)).trans HKY.out)
         clear hb
         cases v1 with
         | false =>
           go_wp2_with fail
           go_ret
           exact ⟨rfl,HB1.out⟩
         | true =>
           obtain ⟨⟨x0,x1,x2,x3,x4,x5,x6,x7,x8⟩,p0,p1,p2,p3,p4,p5,p6,p7,p8⟩:=nen (HX1.out)
           have hlx:=zA (HX1.out)
           obtain ⟨⟨y0,y1,y2,y3,y4,y5,y6,y7,y8⟩,q0,q1,q2,q3,q4,q5,q6,q7,q8⟩:=nen (HY1.out)
           have hly:=zA (HY1.out)
           go_wp2_with fail
           clear x0 x1 x2 x3 x4 x5 x6 x7 x8 y0 y1 y2 y3 y4 y5 y6 y7 y8 p0 p1 p2 p3 p4 p5 p6 p7 p8 q0 q1 q2 q3 q4 q5 q6 q7 q8 hlx hly
           refine (HK2.out _ HB1.out).mono ?_
           rintro e w2 ⟨rfl,hb⟩
           have HB2:=vH (zF HB1.out hb HB1.out.size)
           have HX2:=vH ((hb.block _ (zA HX1.out)).trans HX1.out)
           have HY2:=vH ((hb.block _ (zA HY1.out)).trans HY1.out)
           clear hb
           cases v2 with
           | false =>
             go_wp2_with fail
             go_ret
             exact ⟨rfl,HB2.out⟩
           | true =>
             obtain ⟨⟨x0,x1,x2,x3,x4,x5,x6,x7,x8⟩,p0,p1,p2,p3,p4,p5,p6,p7,p8⟩:=nen (HX2.out)
             have hlx:=zA (HX2.out)
             obtain ⟨⟨y0,y1,y2,y3,y4,y5,y6,y7,y8⟩,q0,q1,q2,q3,q4,q5,q6,q7,q8⟩:=nen (HY2.out)
             have hly:=zA (HY2.out)
             go_wp2_with fail
             clear x0 x1 x2 x3 x4 x5 x6 x7 x8 y0 y1 y2 y3 y4 y5 y6 y7 y8 p0 p1 p2 p3 p4 p5 p6 p7 p8 q0 q1 q2 q3 q4 q5 q6 q7 q8 hlx hly
             refine (HK3.out _ HB2.out).mono ?_
             rintro e w3 ⟨rfl,hb⟩
             have HB3:=vH (zF HB2.out hb HB2.out.size)
             have HX3:=vH ((hb.block _ (zA HX2.out)).trans HX2.out)
             have HY3:=vH ((hb.block _ (zA HY2.out)).trans HY2.out)
             clear hb
             go_wp2_with fail
             go_ret
             exact ⟨rfl,HB3.out⟩
theorem zFF:∀ (n:Nat)(x y:Sm),SizeOf.sizeOf x ≤ n → fitM x = true → ∀ w,SSameOk 52 w x y:=by
 intro n
 induction n with
 | zero => intro x y h; cases x; simp at h
 | succ n ih =>
   intro x y hs hf w w1 vs vs2 _ hi hi2
   obtain ⟨xk,xs,xo,xd,es,bs,ls,xa,xr⟩:=x
   obtain ⟨yk,ys,yo,yd,es2,bs2,ls2,ya,yr⟩:=y
   obtain ⟨p,c,q,d,r,f,rfl,he,hb,hl⟩:=hi.parts
   obtain ⟨p2,c2,q2,d2,r2,f2,rfl,he2,hb2,hl2⟩:=hi2.parts
   obtain ⟨f1,f3,f4,f5,f6,f7⟩:=zJP hf
   have k1:∀ w2,Below w1.heap.size w1 w2 → _:=fun w2 hw => zBU w2 es es2 p p2 c c2 (he.below hw) (he2.below hw) (by omega) (fun e hm e2 => zHf _ e e2 (Nat.le_refl _) (zEc f1 hm) w2)
   have k2:∀ w2,Below w1.heap.size w1 w2 → _:=fun w2 hw => zBj w2 bs bs2 q q2 d d2 (hb.below hw) (hb2.below hw) (by omega) (fun e hm e2 => ih e e2 (by have:=zKT hm xk xs xo xd es ls xa xr; omega) (zB0 f4 hm) w2)
   have k3:∀ w2,Below w1.heap.size w1 w2 → _:=fun w2 hw => zBj w2 ls ls2 r r2 f f2 (hl.below hw) (hl2.below hw) (by omega) (fun e hm e2 => ih e e2 (by have:=zKS hm xk xs xo xd es bs xa xr; omega) (zB0 f6 hm) w2)
   have hst:=zEZ w1 xk xs xo xd p es.length c q bs.length d r ls.length f xa xr yk ys yo yd p2 es2.length c2 q2 bs2.length d2 r2 ls2.length f2 ya yr (sameL es es2) (sameML bs bs2) (sameML ls ls2) k1 k2 k3
   rw [sameM]
   exact hst
end Go.Proofs.YtmiiplefgkcklaaDoor
