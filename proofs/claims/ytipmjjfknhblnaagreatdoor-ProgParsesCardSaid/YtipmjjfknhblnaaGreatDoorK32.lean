/-
  What is read has no list that is too long. The answer's Same
-/
import Derived.Test.YtipmjjfknhblnaaGreatDoorK19
import Derived.Test.YtipmjjfknhblnaaGreatDoorK30
import Derived.Test.YtipmjjfknhblnaaGreatDoorK31
import Derived.Test.YtipmjjfknhblnaaGreatDoorK10
import Derived.Test.YtipmjjfknhblnaaGreatDoorK02
import Derived.StillTailTactics
set_option maxRecDepth 8000
set_option maxHeartbeats 8000000
namespace Go.Proofs.YtipmjjfknhblnaaGreatDoor
namespace Sim
open Go.RowKit
open Px (RT tokAt isT)
open Pe (Ex)
open Qe (Q)
theorem zGk {kind num:Int}{name ofn:List UInt8}{dims:Int}{kids:List Ex}{at_:Int}(h:fitL kids = true)(hl:kids.length ≤ 9000000000):fitE (Ex.of kind num name ofn dims kids at_) = true:=by
 rw [Ex.of,fitE,h,Bool.and_true]
 exact decide_eq_true (by omega)
theorem fit_nil:fitL [] = true:=by rw [fitL]
theorem zBz {e:Ex}(h:fitE e = true):fitL [e] = true:=by rw [fitL,h,fit_nil]; rfl
theorem zJa {e e2:Ex}(h:fitE e = true)(h2:fitE e2 = true):fitL [e,e2] = true:=by rw [fitL,h,zBz h2]; rfl
theorem zGj:∀ {l:List Ex}{e:Ex},fitL l = true → fitE e = true → fitL (l ++ [e]) = true
 | [],e,_,h => zBz h
 | x :: l,e,hl,h => by
   rw [fitL,Bool.and_eq_true] at hl
   rw [List.cons_append,fitL,hl.1,zGj hl.2 h]; rfl
theorem fit1 {kind num:Int}{name ofn:List UInt8}{dims at_:Int}{e:Ex}(h:fitE e = true):fitE (Ex.of kind num name ofn dims [e] at_) = true:=zGk (zBz h) (by show 1 ≤ 9000000000; decide)
theorem fit2 {kind num:Int}{name ofn:List UInt8}{dims at_:Int}{e e2:Ex}(h:fitE e = true)(h2:fitE e2 = true):fitE (Ex.of kind num name ofn dims [e,e2] at_) = true:=zGk (zJa h h2) (by show 2 ≤ 9000000000; decide)
theorem fit0 {kind num:Int}{name ofn:List UInt8}{dims at_:Int}:fitE (Ex.of kind num name ofn dims [] at_) = true:=zGk fit_nil (Nat.zero_le _)
def RF (recQ:Nat → Q → Qe.Out):Prop:=∀ n q x,recQ n q = some x → fitE x.1 = true
theorem zDb {ts:List RT}{recQ:Nat → Q → Qe.Out}(hr:RF recQ):∀ (g:Nat){l:List Ex}{q:Q}{x:List Ex × Q},fitL l = true → Qe.argLoop ts recQ g l q = some x → fitL x.1 = true ∧ x.1.length ≤ l.length + g
 | 0,_,_,_,_,h => by rw [Qe.argLoop] at h; cases h
 | g + 1,l,q,x,hl,h => by
   rw [Qe.argLoop] at h
   split at h
   ·split at h
    ·cases h
    ·rename_i e s2 he
     obtain ⟨a,b⟩:=zDb hr g (zGj hl (hr _ _ _ he)) h
     refine ⟨a,?_⟩
     rw [List.length_append,List.length_singleton] at b
     omega
   ·injection h with h
    subst h
    exact ⟨hl,Nat.le_add_right _ _⟩
theorem zKB {ts:List RT}{recQ:Nat → Q → Qe.Out}(hr:RF recQ){g:Nat}{q:Q}{x:List Ex × Q}(h:Qe.args ts recQ g q = some x):fitL x.1 = true ∧ x.1.length ≤ 1 + g:=by
 unfold Qe.args at h
 split at h
 ·injection h with h
  subst h
  exact ⟨fit_nil,Nat.zero_le _⟩
 ·split at h
  ·cases h
  ·rename_i e s2 he
   split at h
   ·cases h
   ·rename_i l s3 hl
    injection h with h
    subst h
    exact zDb hr g (x:=(l,s3)) (zBz (hr _ _ (e,s2) he)) hl
theorem zDa {ts:List RT}{recQ:Nat → Q → Qe.Out}(hr:RF recQ){q:Q}{x:Ex × Q}(h:Qe.inner ts recQ q = some x):fitE x.1 = true:=by
 unfold Qe.inner at h
 split at h
 ·cases h
 ·rename_i e s2 he
  injection h with h
  subst h
  exact hr _ _ (e,s2) he
theorem zJc {ts:List RT}{recQ:Nat → Q → Qe.Out}(hr:RF recQ){q:Q}{a:Int}{x:Ex × Q}(h:Qe.fresh ts recQ q a = some x):fitE x.1 = true:=by
 unfold Qe.fresh at h
 split at h
 ·dsimp only at h
  split at h
  ·cases h
  ·rename_i e s2 he
   injection h with h
   subst h
   exact fit1 (zDa hr (x:=(e,s2)) he)
 ·injection h with h
  subst h
  exact fit0
theorem zJd {ts:List RT}{recQ:Nat → Q → Qe.Out}(hr:RF recQ){g:Nat}(hg:g ≤ 8999999999){q:Q}{x:Ex × Q}(h:Qe.first ts recQ g q = some x):fitE x.1 = true:=by
 dsimp only [Qe.first] at h
 repeat' split at h
 all_goals first
  | (cases h; done)
  | exact zJc hr h
  | exact zDa hr h
  | (injection h with h; subst h; exact fit0)
  | (rename_i e s2 he; injection h with h; subst h; exact fit1 (zDa hr (x:=(e,s2)) he))
  | (rename_i l s2 he; injection h with h; subst h; have ha:=zKB hr (x:=(l,s2)) he; exact zGk ha.1 (by have:=ha.2; dsimp only at this; omega))
theorem zCm {ts:List RT}{recQ:Nat → Q → Qe.Out}(hr:RF recQ):∀ (g:Nat){e:Ex}{q:Q}{x:Ex × Q},fitE e = true → Qe.behind ts recQ g e q = some x → fitE x.1 = true
 | 0,_,_,_,_,h => by rw [Qe.behind] at h; cases h
 | g + 1,e,q,x,he,h => by
   rw [Qe.behind] at h
   split at h
   ·exact zCm hr g (fit1 he) h
   ·split at h
    ·split at h
     ·cases h
     ·rename_i i s2 hi
      exact zCm hr g (fit2 he (hr _ _ (i,s2) hi)) h
    ·injection h with h
     subst h
     exact he
theorem zJb {ts:List RT}{recQ:Nat → Q → Qe.Out}(hr:RF recQ){q:Q}{t:List UInt8}{kind:Int}{x:Ex × Q}(h:Qe.prefixed ts recQ q t kind = some x):fitE x.1 = true:=by
 unfold Qe.prefixed at h
 split at h
 ·cases h
 ·rename_i e s2 he
  injection h with h
  subst h
  exact fit1 (hr _ _ (e,s2) he)
theorem zI9 {ts:List RT}{recQ:Nat → Q → Qe.Out}(hr:RF recQ){g:Nat}(hg:g ≤ 8999999999){q:Q}{x:Ex × Q}(h:Qe.unary ts recQ g q = some x):fitE x.1 = true:=by
 unfold Qe.unary at h
 split at h
 ·exact zJb hr h
 ·split at h
  ·exact zJb hr h
  ·split at h
   ·cases h
   ·rename_i e s2 he
    exact zCm hr g (zJd hr hg (x:=(e,s2)) he) h
theorem zJf {ts:List RT}{recQ:Nat → Q → Qe.Out}(hr:RF recQ)(n:Nat):∀ (g:Nat){e:Ex}{q:Q}{x:Ex × Q},fitE e = true → Qe.binLoop ts recQ n g e q = some x → fitE x.1 = true
 | 0,_,_,_,_,h => by rw [Qe.binLoop] at h; cases h
 | g + 1,e,q,x,he,h => by
   rw [Qe.binLoop] at h
   split at h
   ·injection h with h
    subst h
    exact he
   ·split at h
    ·cases h
    ·rename_i r s2 hrr
     exact zJf hr n g (fit2 he (hr _ _ (r,s2) hrr)) h
theorem zFS (ts:List RT):∀ (f:Nat),f ≤ 8999999999 → RF (Qe.run ts f)
 | 0,_ => fun n q x h => by cases h
 | f + 1,hf => fun n q x h => by
   have hr:=zFS ts f (by omega)
   rw [qrun] at h
   split at h
   ·exact zI9 hr (by omega) h
   ·split at h
    ·cases h
    ·rename_i l s1 hl
     exact zJf hr n f (hr _ _ (l,s1) hl) h
end Sim
end Go.Proofs.YtipmjjfknhblnaaGreatDoor
namespace Go.Proofs.YtipmjjfknhblnaaGreatDoor
open Go.RowKit
open Px (RT tokAt)
open Pe
theorem zGT (w:World)(_B:Nat)(_x _y:Ex)(xk:Int)(xn:Int)(xs:List UInt8)(xo:List UInt8)(xd:Int)(xp:Option Addr)(xl:Nat)(xc:Nat)(xa:Int)(xb:Int)(xr:Int)(xe:Int)(xf:Int)(yk:Int)(yn:Int)(ys:List UInt8)(yo:List UInt8)(yd:Int)(yp:Option Addr)(yl:Nat)(yc:Nat)(ya:Int)(yb:Int)(yr:Int)(ye:Int)(yf:Int)
 (v:Bool) (hk:∀ w1,Below w.heap.size w w1 → Calls Tryz.prog 81 #[.slice xp xl xc,.slice yp yl yc] w1 fun e w' => e = .returned (.bool v) ∧ Below w1.heap.size w1 w') :
 Calls Tryz.prog 97 #[.agg #[.int .i64 xk,.int .i64 xn,.string (cbs xs),.string (cbs xo),.int .i64 xd,.slice xp xl xc,.int .i64 xa,.int .i64 xb,.int .i64 xr,.int .i64 xe,.int .i64 xf],.agg #[.int .i64 yk,.int .i64 yn,.string (cbs ys),.string (cbs yo),.int .i64 yd,.slice yp yl yc,.int .i64 ya,.int .i64 yb,.int .i64 yr,.int .i64 ye,.int .i64 yf]] w fun e w' => e = .returned (.bool (xk == yk && xn == yn && xs == ys && (xo == yo && xd == yd) && (xb == yb && xr == yr && xe == ye) && xf == yf && v)) ∧ Below w.heap.size w w':=by
 have h1:=zDF xo yo xd yd
 have h2:=zLd xb xr xe yb yr ye
 have hsx:=zBs xs ys
 have hbb:Below w.heap.size w ((w.alloc (.cells #[.int .i64 xk,.int .i64 xn,.string (cbs xs),.string (cbs xo),.int .i64 xd,.slice xp xl xc,.int .i64 xa,.int .i64 xb,.int .i64 xr,.int .i64 xe,.int .i64 xf] 111)).alloc (.cells #[.int .i64 yk,.int .i64 yn,.string (cbs ys),.string (cbs yo),.int .i64 yd,.slice yp yl yc,.int .i64 ya,.int .i64 yb,.int .i64 yr,.int .i64 ye,.int .i64 yf] 111)):=((Below.refl _ _).alloc (Nat.le_refl _) _).alloc (by rw [zB]; omega) _
 have HK:=vH (hk _ hbb)
 have HBB:=vH hbb
 clear hk hbb
 generalize (xo == yo && xd == yd) = g1 at h1 ⊢
 generalize (xb == yb && xr == yr && xe == ye) = g2 at h2 ⊢
 generalize (xs == ys) = g3 at hsx ⊢
 cases hc1:(xk == yk) with
 | false =>
   go_in
   go_wp2_with fail
   go_ret
   exact ⟨rfl,HBB.out⟩
 | true =>
   cases hc2:(xn == yn) with
   | false =>
     go_in
     go_wp2_with fail
     go_ret
     exact ⟨rfl,HBB.out⟩
   | true =>
     cases g3 with
     | false =>
       go_in
       go_wp2_with fail
       go_ret
       exact ⟨rfl,HBB.out⟩
     | true =>
       cases g1 with
       | false =>
         go_in
         go_wp2_with fail
         go_ret
         exact ⟨rfl,HBB.out⟩
       | true =>
         cases g2 with
         | false =>
           go_in
           go_wp2_with fail
           go_ret
           exact ⟨rfl,HBB.out⟩
         | true =>
           cases hc6:(xf == yf) with
           | false =>
             go_in
             go_wp2_with fail
             go_ret
             exact ⟨rfl,HBB.out⟩
           | true =>
             go_in
             go_wp2_with (go_at_call 81; refine (HK.out).mono ?_; rintro e w1 ⟨rfl,hb1⟩)
             go_ret
             exact ⟨rfl,zC HBB.out hb1 HBB.out.size⟩
theorem zBT (w:World)(ks ls:List Ex)(p q:Option Addr)(c d:Nat)(hp:KidsAt w 0 p ks)(hq:KidsAt w 0 q ls)(hl:ks.length ≤ 9223372036854775807)(hel:∀ e ∈ ks,∀ e2,SameOk 97 w e e2) :
 Calls Tryz.prog 81 #[.slice p ks.length c,.slice q ls.length d] w fun e w' => e = .returned (.bool (sameL ks ls)) ∧ Below w.heap.size w w':=by
 have HP:=vH hp
 have HQ:=vH hq
 have HEL:=vH hel
 have HL:=vH hl
 clear hp hq hel hl
 by_cases hlen:ks.length = ls.length
 ·have hd0:((ks.length:Int) != (ls.length:Int)) = false:=by rw [hlen]; exact bne_self_eq_false _
  have HLEN:=vH hlen
  clear hlen
  go_in
  go_wp2_with fail
  go_loopg [5] ks.length (fun n v wr => ∃ j:Nat,n + j = ks.length ∧ v = .int .i64 (j:Int) ∧ Below w.heap.size w wr ∧ sameL (ks.drop j) (ls.drop j) = sameL ks ls)
  case atStart => exact ⟨0,rfl,rfl,Below.refl _ _,rfl⟩
  case round =>
   obtain ⟨j,hj,rfl,hb,hs⟩:=hrel
   have HB:=vH hb
   have HS:=vH hs
   have HJ:=vH hj
   clear hb hs hj
   cases gk with
   | zero =>
     obtain rfl:j = ks.length:=by have:=HJ.out; omega
     have hd1:decide ((ks.length:Int) < (ks.length:Int)) = false:=decide_eq_false (by omega)
     go_wp2_with fail
     go_ret
     refine ⟨zV ?_,HB.out⟩
     rw [← HS.out,List.drop_of_length_le (Nat.le_refl _),List.drop_of_length_le (by rw [HLEN.out]; exact Nat.le_refl _),sameL]
   | succ m =>
     have hjl:j < ks.length:=by have:=HJ.out; omega
     have hjl2:j < ls.length:=by have:=HLEN.out; omega
     have hd1:decide ((j:Int) < (ks.length:Int)) = true:=decide_eq_true (by omega)
     have hi1:(j:Int) < (ks.length:Int):=by omega
     have hi2:(j:Int) < (ls.length:Int):=by omega
     have hd2:decide (ks.length ≤ j) = false:=decide_eq_false (by omega)
     have hd3:decide (ls.length ≤ j) = false:=decide_eq_false (by omega)
     have hdw:wrap64 ((j:Int) + 1) = ((j + 1:Nat):Int):=by have:=HL.out; simp [wrap64]; omega
     have he1:=List.getElem?_eq_getElem hjl
     have he2:=List.getElem?_eq_getElem hjl2
     have hd4:ks.drop j = ks[j] :: ks.drop (j + 1):=List.drop_eq_getElem_cons hjl
     have hd5:ls.drop j = ls[j] :: ls.drop (j + 1):=List.drop_eq_getElem_cons hjl2
     have HE:=vH (HEL.out _ (List.getElem_mem hjl) (ls[j]))
     generalize ks[j] = e1 at he1 hd4 HE
     generalize ls[j] = e2 at he2 hd5 HE
     have HD4:=vH hd4
     have HD5:=vH hd5
     obtain ⟨bl,off,vs,rfl,hbl,hi,hc⟩:=(HP.out.below HB.out).get he1
     obtain ⟨bl2,off2,vs2,rfl,hbl2,hi',hc2⟩:=(HQ.out.below HB.out).get he2
     obtain ⟨xk,xn,xs,xo,xd,xp,xl,xc,xa,xb,xr,xe,xf,rfl⟩:=hi.out
     obtain ⟨yk,yn,ys,yo,yd,yp,yl,yc,ya,yb,yr,ye,yf,rfl⟩:=hi'.out
     obtain ⟨x0,x1,x2,x3,x4,x5,x6,x7,x8,x9,xX⟩:=zB5 hc
     obtain ⟨y0,y1,y2,y3,y4,y5,y6,y7,y8,y9,yX⟩:=zB5 hc2
     have HI:=vH hi
     have HI2:=vH hi'
     clear hc hc2 hi hi' he1 he2 hd4 hd5
     have hne1:bl ≠ wr.heap.size:=Nat.ne_of_lt hbl
     have hne2:bl2 ≠ wr.heap.size:=Nat.ne_of_lt hbl2
     have hi3:(0:Int) ≤ (j:Int):=by omega
     go_wp2_with fail
     refine wp_region_still_tail 8 (by kernel_rfl) (by kernel_rfl) ?_
     simp only [List.take_succ_cons,List.take_zero,List.drop_succ_cons,List.drop_zero]
     change wpStill _ _ wr.drew _ _ _
     repeat still_step
     refine wpStill_nil ?_
     change wpList _ _ _ _ _ wr.drew
     have HBD:Hid (Below w.heap.size w wr.drew):=HB.out.drew
     go_wp2_with fail
     refine (HE.out _ _ _ HBD.out (HI.out.below (Below.refl _ _).drew) (HI2.out.below (Below.refl _ _).drew)).mono ?_
     rintro e w2 ⟨rfl,hb3⟩
     have HB2:=vH (zC HBD.out hb3 HBD.out.size)
     clear hb3
     cases hse:sameE e1 e2 with
     | false =>
       have HSE:=vH hse
       try rw [hse]
       clear hse
       go_wp2_with fail
       go_ret
       refine ⟨zV ?_,HB2.out⟩
       rw [← HS.out,HD4.out,HD5.out,sameL,HSE.out,Bool.false_and]
     | true =>
       have HSE:=vH hse
       try rw [hse]
       clear hse
       go_wp2_with fail
       go_roundg m
       case measure => omega
       case rel => exact ⟨j + 1,by have:=HJ.out; omega,by first | rfl | simp [hdw],HB2.out,by rw [← HS.out,HD4.out,HD5.out,sameL,HSE.out,Bool.true_and]⟩
 ·have hd0:((ks.length:Int) != (ls.length:Int)) = true:=bne_iff_ne.2 (by omega)
  rw [zCR _ _ hlen]
  clear hlen
  go_in
  go_wp2_with fail
  go_ret
  exact ⟨rfl,Below.refl _ _⟩
theorem zIj:∀ (n:Nat)(x y:Ex),SizeOf.sizeOf x ≤ n → fitE x = true → ∀ w,SameOk 97 w x y:=by
 intro n
 induction n with
 | zero => intro x y h; cases x; simp at h
 | succ n ih =>
   intro x y hs hf w w1 vs vs2 _ hi hi2
   obtain ⟨xk,xn,xs,xo,xd,ks,xa,xb,xr,xe,xf⟩:=x
   obtain ⟨yk,yn,ys,yo,yd,ls,ya,yb,yr,ye,yf⟩:=y
   obtain ⟨p,c,rfl,hp⟩:=hi.kids
   obtain ⟨q,d,rfl,hq⟩:=hi2.kids
   rw [fitE,Bool.and_eq_true] at hf
   have hk:∀ w2,Below w1.heap.size w1 w2 → _:=fun w2 hb => zBT w2 ks ls p q c d (hp.below hb) (hq.below hb) (of_decide_eq_true hf.1) (fun e he e2 => ih e e2 (by have:=zEs he xk xn xs xo xd xa xb xr xe xf; omega) (zB2 hf.2 he) w2)
   have hst:=zGT w1 0 (.mk xk xn xs xo xd ks xa xb xr xe xf) (.mk yk yn ys yo yd ls ya yb yr ye yf) xk xn xs xo xd p ks.length c xa xb xr xe xf yk yn ys yo yd q ls.length d ya yb yr ye yf (sameL ks ls) hk
   rw [sameE]
   exact hst
open Go.RowKit
open Px (RT tokAt)
open Pe (Ex)
open Ps (Sm)
open Qe (Q)
mutual
def sameM:Sm → Sm → Bool
 | .mk k n o d es bs ls _ r,.mk k2 n2 o2 d2 es2 bs2 ls2 _ r2 => k == k2 && n == n2 && (o == o2 && d == d2) && r == r2 && sameL es es2 && sameML bs bs2 && sameML ls ls2
def sameML:List Sm → List Sm → Bool
 | [],[] => true
 | x :: xs,y :: ys => sameM x y && sameML xs ys
 | _,_ => false
end
mutual
def fitM:Sm → Bool
 | .mk _ _ _ _ es bs ls _ _ => fitL es && decide (es.length ≤ 9000000000) && fitML bs && decide (bs.length ≤ 9000000000) && fitML ls && decide (ls.length ≤ 9000000000)
def fitML:List Sm → Bool
 | [] => true
 | x :: xs => fitM x && fitML xs
end
theorem zAX:∀ {xs:List Sm}{x:Sm},fitML xs = true → x ∈ xs → fitM x = true
 | [],_,_,hm => by cases hm
 | y :: ys,x,h,hm => by
   rw [fitML,Bool.and_eq_true] at h
   rcases List.mem_cons.1 hm with rfl | hm
   ·exact h.1
   ·exact zAX h.2 hm
theorem zDD:∀ {xs:List Sm}{x:Sm},fitML xs = true → fitM x = true → fitML (xs ++ [x]) = true
 | [],x,_,hx => by rw [List.nil_append,fitML,hx,fitML]; rfl
 | y :: ys,x,h,hx => by
   rw [fitML,Bool.and_eq_true] at h
   rw [List.cons_append,fitML,h.1,zDD h.2 hx]
   rfl
theorem zCc:∀ (a b:List Sm),a.length ≠ b.length → sameML a b = false
 | [],[],h => absurd rfl h
 | [],_ :: _,_ => by rw [sameML]; all_goals simp
 | _ :: _,[],_ => by rw [sameML]; all_goals simp
 | x :: xs,y :: ys,h => by
   rw [sameML,zCc xs ys (by simpa using h),Bool.and_false]
namespace Sim
def FM (recQ:Q → Qs.Out):Prop:=∀ q x,recQ q = some x → fitM x.1 = true
def FB (recQ:Q → Qs.OutB):Prop:=∀ q x,recQ q = some x → fitML x.1 = true ∧ x.1.length ≤ 9000000000
def FX (r:Qs.RX):Prop:=∀ q x,r q = some x → fitE x.1 = true
theorem zCn {k:Int}{n o:List UInt8}{d:Int}{es:List Ex}{bs ls:List Sm}{a r:Int}(h1:fitL es = true)(h2:es.length ≤ 9000000000)(h3:fitML bs = true)(h4:bs.length ≤ 9000000000)(h5:fitML ls = true)(h6:ls.length ≤ 9000000000):fitM (.mk k n o d es bs ls a r) = true:=by
 rw [fitM,h1,h3,h5]
 simp [h2,h4,h6]
theorem zAH:fitML [] = true:=by rw [fitML]
theorem zNd {k:Int}{n o:List UInt8}{d a r:Int}:fitM (.mk k n o d [] [] [] a r) = true:=zCn fit_nil (by show 0 ≤ 9000000000; decide) zAH (by show 0 ≤ 9000000000; decide) zAH (by show 0 ≤ 9000000000; decide)
theorem zJg {k:Int}{n o:List UInt8}{d a r:Int}{e:Ex}(h:fitE e = true):fitM (.mk k n o d [e] [] [] a r) = true:=zCn (zBz h) (by show 1 ≤ 9000000000; decide) zAH (by show 0 ≤ 9000000000; decide) zAH (by show 0 ≤ 9000000000; decide)
theorem zNy {k:Int}{n o:List UInt8}{d a r:Int}{e e2:Ex}(h:fitE e = true)(h2:fitE e2 = true):fitM (.mk k n o d [e,e2] [] [] a r) = true:=zCn (zJa h h2) (by show 2 ≤ 9000000000; decide) zAH (by show 0 ≤ 9000000000; decide) zAH (by show 0 ≤ 9000000000; decide)
theorem zKA {ts:List RT}{r:Qs.RX}(hx:FX r){recB:Q → Qs.OutB}(hb:FB recB):FM (Qs.stmt ts r recB):=by
 intro q x h
 unfold Qs.stmt at h
 split at h
 ·unfold Qs.declared at h
  dsimp only at h
  split at h
  ·split at h
   ·cases h
   ·rename_i e s2 he
    obtain rfl:=Option.some.inj h
    exact zJg (hx _ _ he)
  ·obtain rfl:=Option.some.inj h
   exact zNd
 ·split at h
  ·unfold Qs.choice at h
   split at h
   ·cases h
   ·rename_i e s1 he
    split at h
    ·cases h
    ·rename_i b s2 hb2
     obtain ⟨f1,f2⟩:=hb _ _ hb2
     split at h
     ·split at h
      ·cases h
      ·rename_i b3 s3 hb3
       obtain ⟨f3,f4⟩:=hb _ _ hb3
       obtain rfl:=Option.some.inj h
       exact zCn (zBz (hx _ _ he)) (by show 1 ≤ 9000000000; decide) f1 f2 f3 f4
     ·obtain rfl:=Option.some.inj h
      exact zCn (zBz (hx _ _ he)) (by show 1 ≤ 9000000000; decide) f1 f2 zAH (by show 0 ≤ 9000000000; decide)
  ·split at h
   ·unfold Qs.loop at h
    split at h
    ·cases h
    ·rename_i e s1 he
     split at h
     ·cases h
     ·rename_i b s2 hb2
      obtain ⟨f1,f2⟩:=hb _ _ hb2
      obtain rfl:=Option.some.inj h
      exact zCn (zBz (hx _ _ he)) (by show 1 ≤ 9000000000; decide) f1 f2 zAH (by show 0 ≤ 9000000000; decide)
   ·split at h
    ·unfold Qs.result at h
     split at h
     ·obtain rfl:=Option.some.inj h
      exact zNd
     ·split at h
      ·cases h
      ·rename_i e s2 he
       obtain rfl:=Option.some.inj h
       exact zJg (hx _ _ he)
    ·split at h
     ·unfold Qs.output at h
      split at h
      ·cases h
      ·rename_i e s2 he
       obtain rfl:=Option.some.inj h
       exact zJg (hx _ _ he)
     ·unfold Qs.plain at h
      split at h
      ·cases h
      ·rename_i e s1 he
       split at h
       ·unfold Qs.plainPut at h
        split at h
        ·cases h
        ·rename_i b s2 hb2
         obtain rfl:=Option.some.inj h
         show fitM (if Ps.kindOf e = 4 then _ else _) = true
         split
         ·exact zJg (hx _ _ hb2)
         ·exact zNy (hx _ _ he) (hx _ _ hb2)
       ·obtain rfl:=Option.some.inj h
        exact zJg (hx _ _ he)
theorem zDC {ts:List RT}{recS:Q → Qs.Out}(hs:FM recS):∀ (g:Nat){l:List Sm}{q:Q}{x:List Sm × Q},fitML l = true → Qs.stLoop ts recS g l q = some x → fitML x.1 = true ∧ x.1.length ≤ l.length + g
 | 0,_,_,_,_,h => by cases h
 | g + 1,l,q,x,hl,h => by
   rw [Qs.stLoop] at h
   split at h
   ·split at h
    ·cases h
    ·rename_i y s2 hy
     obtain ⟨a,b⟩:=zDC hs g (zDD hl (hs _ _ hy)) h
     exact ⟨a,by rw [List.length_append,List.length_singleton] at b; omega⟩
   ·obtain rfl:=Option.some.inj h
    exact ⟨hl,by dsimp only; omega⟩
theorem zJe {ts:List RT}{recS:Q → Qs.Out}(hs:FM recS){g:Nat}(hg:g ≤ 9000000000):FB (Qs.block ts recS g):=by
 intro q x h
 unfold Qs.block at h
 split at h
 ·cases h
 ·rename_i l s2 hl
  obtain rfl:=Option.some.inj h
  obtain ⟨a,b⟩:=zDC hs g zAH hl
  exact ⟨a,by dsimp only at b; rw [List.length_nil] at b; dsimp only; omega⟩
theorem fit_runs {ts:List RT}{r:Qs.RX}(hx:FX r):∀ f,f ≤ 9000000000 → FM (Qs.run ts r f).1 ∧ FB (Qs.run ts r f).2
 | 0,_ => ⟨fun q x h => (by cases h),fun q x h => (by cases h)⟩
 | f + 1,hf => ⟨zKA hx (fit_runs hx f (by omega)).2,zJe (fit_runs hx f (by omega)).1 (by omega)⟩
theorem fit_rx {ts:List RT}(hl:ts.length ≤ 800000000):FX (rx ts):=fun q x h => zFS ts (enough ts) (by unfold enough; omega) 0 q x h
end Sim
end Go.Proofs.YtipmjjfknhblnaaGreatDoor
namespace Go.Proofs.YtipmjjfknhblnaaGreatDoor
open Go.RowKit
open Px (RT tokAt)
open Pe
open Ps (Sm PX)
theorem SAt.get {w:World}{B bl:Nat}:∀ (es:List Sm)(off j:Nat)(e:Sm),SAt w B bl off es → es[j]? = some e → ∃ vs,SIs w B e vs ∧ ∀ (i:Nat)(v:Value),vs[i]? = some v → w.cell? ⟨bl,off + j * 9 + i,none⟩ = some v
 | [],_,j,e,_,h => by simp at h
 | x :: es,off,0,e,ha,h => by
   rw [SAt] at ha
   obtain ⟨⟨vs,hi,hc⟩,-⟩:=ha
   simp at h
   subst h
   exact ⟨vs,hi,fun i v hv => by have:=hc i v hv; simpa using this⟩
 | x :: es,off,j + 1,e,ha,h => by
   rw [SAt] at ha
   obtain ⟨vs,hi,hc⟩:=SAt.get es (off + 9) j e ha.2 (by simpa using h)
   exact ⟨vs,hi,fun i v hv => by have:=hc i v hv; rw [show off + (j + 1) * 9 + i = off + 9 + j * 9 + i by omega]; exact this⟩
theorem zDZ {w:World}{b o:Nat}{kind:Int}{name ofn:List UInt8}{dims:Int}{ev bv lv:Value}{at_ ref:Int}(h:∀ (i:Nat)(v:Value),(smCells kind name ofn dims ev bv lv at_ ref)[i]? = some v → w.cell? ⟨b,o + i,none⟩ = some v) :
 w.cell? ⟨b,o,none⟩ = some (.int .i64 kind) ∧ w.cell? ⟨b,o + 1,none⟩ = some (.string (cbs name)) ∧ w.cell? ⟨b,o + 2,none⟩ = some (.string (cbs ofn)) ∧ w.cell? ⟨b,o + 3,none⟩ = some (.int .i64 dims) ∧ w.cell? ⟨b,o + 4,none⟩ = some ev ∧ w.cell? ⟨b,o + 5,none⟩ = some bv ∧ w.cell? ⟨b,o + 6,none⟩ = some lv ∧ w.cell? ⟨b,o + 7,none⟩ = some (.int .i64 at_) ∧ w.cell? ⟨b,o + 8,none⟩ = some (.int .i64 ref):=
 ⟨h 0 _ rfl,h 1 _ rfl,h 2 _ rfl,h 3 _ rfl,h 4 _ rfl,h 5 _ rfl,h 6 _ rfl,h 7 _ rfl,h 8 _ rfl⟩
theorem SsAt.below {w w':World}{B:Nat}{p:Option Addr}{l:List Sm}(h:SsAt w B p l)(hb:Below w.heap.size w w'):SsAt w' B p l:=h.ag (Ag.below hb)
theorem SIs.below {w w':World}{B:Nat}{x:Sm}{vs:List Value}(h:SIs w B x vs)(hb:Below w.heap.size w w'):SIs w' B x vs:=SIs.ag (Ag.below hb) _ h
theorem SIs.alloc {w:World}{B:Nat}{x:Sm}{vs:List Value}(h:SIs w B x vs)(o:Obj):SIs (w.alloc o) B x vs:=h.below ((Below.refl _ _).alloc (Nat.le_refl _) _)
theorem SsAt.get {w:World}{B:Nat}{p:Option Addr}{l:List Sm}(h:SsAt w B p l){j:Nat}{e:Sm}(he:l[j]? = some e):∃ bl off vs,p = some ⟨bl,off,none⟩ ∧ bl < w.heap.size ∧ SIs w B e vs ∧ ∀ (i:Nat)(v:Value),vs[i]? = some v → w.cell? ⟨bl,off + j * 9 + i,none⟩ = some v:=by
 rcases h with h | ⟨bl,off,h1,h2,h3,h4⟩
 ·rw [h] at he; simp at he
 ·obtain ⟨vs,hi,hc⟩:=SAt.get l off j e h4 he
  exact ⟨bl,off,vs,h1,h2,hi,hc⟩
theorem SIs.parts {w:World}{B:Nat}{kind:Int}{name ofn:List UInt8}{dims:Int}{es:List Ex}{bs ls:List Sm}{at_ ref:Int}{vs:List Value}(h:SIs w B (.mk kind name ofn dims es bs ls at_ ref) vs) :
 ∃ p c q d r f,vs = smCells kind name ofn dims (.slice p es.length c) (.slice q bs.length d) (.slice r ls.length f) at_ ref ∧ KidsAt w B p es ∧ SsAt w B q bs ∧ SsAt w B r ls:=by
 rw [SIs] at h
 exact h
def SSameOk (F:Nat)(w:World)(e e2:Sm):Prop:=∀ w1 vs vs2,Below w.heap.size w w1 → SIs w1 0 e vs → SIs w1 0 e2 vs2 → Calls Tryz.prog F #[.agg ⟨vs⟩,.agg ⟨vs2⟩] w1 fun en w' => en = .returned (.bool (sameM e e2)) ∧ Below w1.heap.size w1 w'
theorem zA9 (w:World)(ks ls:List Sm)(p q:Option Addr)(c d:Nat)(hp:SsAt w 0 p ks)(hq:SsAt w 0 q ls)(hl:ks.length ≤ 9223372036854775807)(hel:∀ e ∈ ks,∀ e2,SSameOk 50 w e e2) :
 Calls Tryz.prog 49 #[.slice p ks.length c,.slice q ls.length d,.func (.func 50) #[] #[]] w fun e w' => e = .returned (.bool (sameML ks ls)) ∧ Below w.heap.size w w':=by
 have HP:=vH hp
 have HQ:=vH hq
 have HEL:=vH hel
 have HL:=vH hl
 clear hp hq hel hl
 by_cases hlen:ks.length = ls.length
 ·have hd0:((ks.length:Int) != (ls.length:Int)) = false:=by rw [hlen]; exact bne_self_eq_false _
  have HLEN:=vH hlen
  clear hlen
  go_in
  go_wp2_with fail
  go_loopg [17] ks.length (fun n v wr => ∃ j:Nat,n + j = ks.length ∧ v = .int .i64 (j:Int) ∧ Below w.heap.size w wr ∧ sameML (ks.drop j) (ls.drop j) = sameML ks ls)
  case atStart => exact ⟨0,rfl,rfl,Below.refl _ _,rfl⟩
  case round =>
   obtain ⟨j,hj,rfl,hb,hs⟩:=hrel
   have HB:=vH hb
   have HS:=vH hs
   have HJ:=vH hj
   clear hb hs hj
   cases gk with
   | zero =>
     obtain rfl:j = ks.length:=by have:=HJ.out; omega
     have hd1:decide ((ks.length:Int) < (ks.length:Int)) = false:=decide_eq_false (by omega)
     go_wp2_with fail
     go_ret
     refine ⟨zV ?_,HB.out⟩
     rw [← HS.out,List.drop_of_length_le (Nat.le_refl _),List.drop_of_length_le (by rw [HLEN.out]; exact Nat.le_refl _),sameML]
   | succ m =>
     have hjl:j < ks.length:=by have:=HJ.out; omega
     have hjl2:j < ls.length:=by have:=HLEN.out; omega
     have hd1:decide ((j:Int) < (ks.length:Int)) = true:=decide_eq_true (by omega)
     have hi1:(j:Int) < (ks.length:Int):=by omega
     have hi2:(j:Int) < (ls.length:Int):=by omega
     have hd2:decide (ks.length ≤ j) = false:=decide_eq_false (by omega)
     have hd3:decide (ls.length ≤ j) = false:=decide_eq_false (by omega)
     have hdw:wrap64 ((j:Int) + 1) = ((j + 1:Nat):Int):=by have:=HL.out; simp [wrap64]; omega
     have he1:=List.getElem?_eq_getElem hjl
     have he2:=List.getElem?_eq_getElem hjl2
     have hd4:ks.drop j = ks[j] :: ks.drop (j + 1):=List.drop_eq_getElem_cons hjl
     have hd5:ls.drop j = ls[j] :: ls.drop (j + 1):=List.drop_eq_getElem_cons hjl2
     have HE:=vH (HEL.out _ (List.getElem_mem hjl) (ls[j]))
     generalize ks[j] = e1 at he1 hd4 HE
     generalize ls[j] = e2 at he2 hd5 HE
     have HD4:=vH hd4
     have HD5:=vH hd5
     obtain ⟨bl,off,vs,rfl,hbl,hi,hc⟩:=(HP.out.below HB.out).get he1
     obtain ⟨bl2,off2,vs2,rfl,hbl2,hi',hc2⟩:=(HQ.out.below HB.out).get he2
     obtain ⟨xk,xs,xo,xd,xep,xel,xec,xbp,xbl,xbc,xlp,xll,xlc,xa,xr,rfl⟩:=hi.out
     obtain ⟨yk,ys,yo,yd,yep,yel,yec,ybp,ybl,ybc,ylp,yll,ylc,ya,yr,rfl⟩:=hi'.out
     obtain ⟨x0,x1,x2,x3,x4,x5,x6,x7,x8⟩:=zDZ hc
     obtain ⟨y0,y1,y2,y3,y4,y5,y6,y7,y8⟩:=zDZ hc2
     have HI:=vH hi
     have HI2:=vH hi'
     clear hc hc2 hi hi' he1 he2 hd4 hd5
     have hne1:bl ≠ wr.heap.size:=Nat.ne_of_lt hbl
     have hne2:bl2 ≠ wr.heap.size:=Nat.ne_of_lt hbl2
     go_wp2_with fail
     have hb2:Below wr.heap.size wr ((wr.alloc (.cells #[.int .i64 xk,.string (cbs xs),.string (cbs xo),.int .i64 xd,.slice xep xel xec,.slice xbp xbl xbc,.slice xlp xll xlc,.int .i64 xa,.int .i64 xr] 90)).alloc (.cells #[.int .i64 yk,.string (cbs ys),.string (cbs yo),.int .i64 yd,.slice yep yel yec,.slice ybp ybl ybc,.slice ylp yll ylc,.int .i64 ya,.int .i64 yr] 90)):=((Below.refl _ _).alloc (Nat.le_refl _) _).alloc (by rw [zB]; omega) _
     refine (HE.out _ _ _ (zC HB.out hb2 HB.out.size) ((HI.out.alloc _).alloc _) ((HI2.out.alloc _).alloc _)).mono ?_
     rintro e w2 ⟨rfl,hb3⟩
     have HB2:=vH (zC (zC HB.out hb2 HB.out.size) hb3 (zC HB.out hb2 HB.out.size).size)
     clear hb2 hb3
     cases hse:sameM e1 e2 with
     | false =>
       have HSE:=vH hse
       try rw [hse]
       clear hse
       go_wp2_with fail
       go_ret
       refine ⟨zV ?_,HB2.out⟩
       rw [← HS.out,HD4.out,HD5.out,sameML,HSE.out,Bool.false_and]
     | true =>
       have HSE:=vH hse
       try rw [hse]
       clear hse
       go_wp2_with fail
       go_roundg m
       case measure => omega
       case rel => exact ⟨j + 1,by have:=HJ.out; omega,by first | rfl | simp [hdw],HB2.out,by rw [← HS.out,HD4.out,HD5.out,sameML,HSE.out,Bool.true_and]⟩
 ·have hd0:((ks.length:Int) != (ls.length:Int)) = true:=bne_iff_ne.2 (by omega)
  rw [zCc _ _ hlen]
  clear hlen
  go_in
  go_wp2_with fail
  go_ret
  exact ⟨rfl,Below.refl _ _⟩
theorem zGF (w:World)(xk:Int)(xs xo:List UInt8)(xd:Int)(xep:Option Addr)(xel xec:Nat)(xbp:Option Addr)(xbl xbc:Nat)(xlp:Option Addr)(xll xlc:Nat)(xa xr:Int)(yk:Int)(ys yo:List UInt8)(yd:Int)(yep:Option Addr)(yel yec:Nat)(ybp:Option Addr)(ybl ybc:Nat)(ylp:Option Addr)(yll ylc:Nat)(ya yr:Int)(v1 v2 v3:Bool)
 (hk1:∀ w1,Below w.heap.size w w1 → Calls Tryz.prog 82 #[.slice xep xel xec,.slice yep yel yec,.func (.func 83) #[] #[]] w1 fun e w' => e = .returned (.bool v1) ∧ Below w1.heap.size w1 w')
 (hk2:∀ w1,Below w.heap.size w w1 → Calls Tryz.prog 49 #[.slice xbp xbl xbc,.slice ybp ybl ybc,.func (.func 50) #[] #[]] w1 fun e w' => e = .returned (.bool v2) ∧ Below w1.heap.size w1 w')
 (hk3:∀ w1,Below w.heap.size w w1 → Calls Tryz.prog 49 #[.slice xlp xll xlc,.slice ylp yll ylc,.func (.func 50) #[] #[]] w1 fun e w' => e = .returned (.bool v3) ∧ Below w1.heap.size w1 w') :
 Calls Tryz.prog 50 #[.agg #[.int .i64 xk,.string (cbs xs),.string (cbs xo),.int .i64 xd,.slice xep xel xec,.slice xbp xbl xbc,.slice xlp xll xlc,.int .i64 xa,.int .i64 xr],.agg #[.int .i64 yk,.string (cbs ys),.string (cbs yo),.int .i64 yd,.slice yep yel yec,.slice ybp ybl ybc,.slice ylp yll ylc,.int .i64 ya,.int .i64 yr]] w fun e w' => e = .returned (.bool (xk == yk && xs == ys && (xo == yo && xd == yd) && xr == yr && v1 && v2 && v3)) ∧ Below w.heap.size w w':=by
 have h1:=zDF xo yo xd yd
 have hsx:=zBs xs ys
 have hbb:Below w.heap.size w ((w.alloc (.cells #[.int .i64 xk,.string (cbs xs),.string (cbs xo),.int .i64 xd,.slice xep xel xec,.slice xbp xbl xbc,.slice xlp xll xlc,.int .i64 xa,.int .i64 xr] 90)).alloc (.cells #[.int .i64 yk,.string (cbs ys),.string (cbs yo),.int .i64 yd,.slice yep yel yec,.slice ybp ybl ybc,.slice ylp yll ylc,.int .i64 ya,.int .i64 yr] 90)):=((Below.refl _ _).alloc (Nat.le_refl _) _).alloc (by rw [zB]; omega) _
 obtain ⟨wa,hwa⟩:∃ wa,wa = (w.alloc (.cells #[.int .i64 xk,.string (cbs xs),.string (cbs xo),.int .i64 xd,.slice xep xel xec,.slice xbp xbl xbc,.slice xlp xll xlc,.int .i64 xa,.int .i64 xr] 90)).alloc (.cells #[.int .i64 yk,.string (cbs ys),.string (cbs yo),.int .i64 yd,.slice yep yel yec,.slice ybp ybl ybc,.slice ylp yll ylc,.int .i64 ya,.int .i64 yr] 90):=⟨_,rfl⟩
 have hk1x:wa.heap[w.heap.size]? = some (.cells #[.int .i64 xk,.string (cbs xs),.string (cbs xo),.int .i64 xd,.slice xep xel xec,.slice xbp xbl xbc,.slice xlp xll xlc,.int .i64 xa,.int .i64 xr] 90 (0,0)):=by rw [hwa]; exact zE _ (heap_alloc_new w _)
 have hk1y:wa.heap[w.heap.size + 1]? = some (.cells #[.int .i64 yk,.string (cbs ys),.string (cbs yo),.int .i64 yd,.slice yep yel yec,.slice ybp ybl ybc,.slice ylp yll ylc,.int .i64 ya,.int .i64 yr] 90 (0,0)):=by rw [hwa]; have:=heap_alloc_new (w.alloc (.cells #[.int .i64 xk,.string (cbs xs),.string (cbs xo),.int .i64 xd,.slice xep xel xec,.slice xbp xbl xbc,.slice xlp xll xlc,.int .i64 xa,.int .i64 xr] 90)) (.cells #[.int .i64 yk,.string (cbs ys),.string (cbs yo),.int .i64 yd,.slice yep yel yec,.slice ybp ybl ybc,.slice ylp yll ylc,.int .i64 ya,.int .i64 yr] 90); rw [zB] at this; exact this
 rw [← hwa] at hbb
 have HKX:=vH hk1x
 have HKY:=vH hk1y
 have HBB:=vH hbb
 have HK1:=vH hk1
 have HK2:=vH hk2
 have HK3:=vH hk3
 clear hk1 hk2 hk3 hbb hk1x hk1y
 generalize (xo == yo && xd == yd) = g1 at h1 ⊢
 generalize (xs == ys) = g3 at hsx ⊢
 cases hc1:(xk == yk) with
 | false =>
   go_in
   go_wp2_with fail
   go_ret
   exact ⟨rfl,by rw [← hwa]; exact HBB.out⟩
 | true =>
   cases g3 with
   | false =>
     go_in
     go_wp2_with fail
     go_ret
     exact ⟨rfl,by rw [← hwa]; exact HBB.out⟩
   | true =>
     cases g1 with
     | false =>
       go_in
       go_wp2_with fail
       go_ret
       exact ⟨rfl,by rw [← hwa]; exact HBB.out⟩
     | true =>
       cases hc6:(xr == yr) with
       | false =>
         go_in
         go_wp2_with fail
         go_ret
         exact ⟨rfl,by rw [← hwa]; exact HBB.out⟩
       | true =>
         go_in
         go_wp2_with fail
         rw [← hwa]
         clear hwa
         refine (HK1.out _ HBB.out).mono ?_
         rintro e w1 ⟨rfl,hb⟩
         have HB1:=vH (zC HBB.out hb HBB.out.size)
         have HX1:=vH ((hb.block _ (zA HKX.out)).trans HKX.out)
         have HY1:=vH ((hb.block _ (zA HKY.out)).trans HKY.out)
         clear hb
         cases v1 with
         | false =>
           go_wp2_with fail
           go_ret
           exact ⟨rfl,HB1.out⟩
         | true =>
           obtain ⟨⟨x0,x1,x2,x3,x4,x5,x6,x7,x8⟩,p0,p1,p2,p3,p4,p5,p6,p7,p8⟩:=nen (HX1.out)
           have hlx:=zA (HX1.out)
           obtain ⟨⟨y0,y1,y2,y3,y4,y5,y6,y7,y8⟩,q0,q1,q2,q3,q4,q5,q6,q7,q8⟩:=nen (HY1.out)
           have hly:=zA (HY1.out)
           go_wp2_with fail
           clear x0 x1 x2 x3 x4 x5 x6 x7 x8 y0 y1 y2 y3 y4 y5 y6 y7 y8 p0 p1 p2 p3 p4 p5 p6 p7 p8 q0 q1 q2 q3 q4 q5 q6 q7 q8 hlx hly
           refine (HK2.out _ HB1.out).mono ?_
           rintro e w2 ⟨rfl,hb⟩
           have HB2:=vH (zC HB1.out hb HB1.out.size)
           have HX2:=vH ((hb.block _ (zA HX1.out)).trans HX1.out)
           have HY2:=vH ((hb.block _ (zA HY1.out)).trans HY1.out)
           clear hb
           cases v2 with
           | false =>
             go_wp2_with fail
             go_ret
             exact ⟨rfl,HB2.out⟩
           | true =>
             obtain ⟨⟨x0,x1,x2,x3,x4,x5,x6,x7,x8⟩,p0,p1,p2,p3,p4,p5,p6,p7,p8⟩:=nen (HX2.out)
             have hlx:=zA (HX2.out)
             obtain ⟨⟨y0,y1,y2,y3,y4,y5,y6,y7,y8⟩,q0,q1,q2,q3,q4,q5,q6,q7,q8⟩:=nen (HY2.out)
             have hly:=zA (HY2.out)
             go_wp2_with fail
             clear x0 x1 x2 x3 x4 x5 x6 x7 x8 y0 y1 y2 y3 y4 y5 y6 y7 y8 p0 p1 p2 p3 p4 p5 p6 p7 p8 q0 q1 q2 q3 q4 q5 q6 q7 q8 hlx hly
             refine (HK3.out _ HB2.out).mono ?_
             rintro e w3 ⟨rfl,hb⟩
             have HB3:=vH (zC HB2.out hb HB2.out.size)
             have HX3:=vH ((hb.block _ (zA HX2.out)).trans HX2.out)
             have HY3:=vH ((hb.block _ (zA HY2.out)).trans HY2.out)
             clear hb
             go_wp2_with fail
             go_ret
             exact ⟨rfl,HB3.out⟩
theorem zIb {xs:List Sm}{x:Sm}(h:x ∈ xs)(kind:Int)(name ofn:List UInt8)(dims:Int)(es:List Ex)(ls:List Sm)(at_ r:Int):SizeOf.sizeOf x < SizeOf.sizeOf (Sm.mk kind name ofn dims es xs ls at_ r):=by
 have:=List.sizeOf_lt_of_mem h
 simp only [Sm.mk.sizeOf_spec]
 omega
theorem zIa {xs:List Sm}{x:Sm}(h:x ∈ xs)(kind:Int)(name ofn:List UInt8)(dims:Int)(es:List Ex)(bs:List Sm)(at_ r:Int):SizeOf.sizeOf x < SizeOf.sizeOf (Sm.mk kind name ofn dims es bs xs at_ r):=by
 have:=List.sizeOf_lt_of_mem h
 simp only [Sm.mk.sizeOf_spec]
 omega
theorem zGl {k:Int}{n o:List UInt8}{d:Int}{es:List Ex}{bs ls:List Sm}{a r:Int}(h:fitM (.mk k n o d es bs ls a r) = true):fitL es = true ∧ es.length ≤ 9000000000 ∧ fitML bs = true ∧ bs.length ≤ 9000000000 ∧ fitML ls = true ∧ ls.length ≤ 9000000000:=by
 rw [fitM] at h
 simp only [Bool.and_eq_true,decide_eq_true_eq] at h
 obtain ⟨⟨⟨⟨⟨h1,h2⟩,h3⟩,h4⟩,h5⟩,h6⟩:=h
 exact ⟨h1,h2,h3,h4,h5,h6⟩
theorem zH7:∀ (n:Nat)(x y:Sm),SizeOf.sizeOf x ≤ n → fitM x = true → ∀ w,SSameOk 50 w x y:=by
 intro n
 induction n with
 | zero => intro x y h; cases x; simp at h
 | succ n ih =>
   intro x y hs hf w w1 vs vs2 _ hi hi2
   obtain ⟨xk,xs,xo,xd,es,bs,ls,xa,xr⟩:=x
   obtain ⟨yk,ys,yo,yd,es2,bs2,ls2,ya,yr⟩:=y
   obtain ⟨p,c,q,d,r,f,rfl,he,hb,hl⟩:=hi.parts
   obtain ⟨p2,c2,q2,d2,r2,f2,rfl,he2,hb2,hl2⟩:=hi2.parts
   obtain ⟨f1,f3,f4,f5,f6,f7⟩:=zGl hf
   have k1:∀ w2,Below w1.heap.size w1 w2 → _:=fun w2 hw => zB3 w2 es es2 p p2 c c2 (he.below hw) (he2.below hw) (by omega) (fun e hm e2 => zKY _ e e2 (Nat.le_refl _) (zB2 f1 hm) w2)
   have k2:∀ w2,Below w1.heap.size w1 w2 → _:=fun w2 hw => zA9 w2 bs bs2 q q2 d d2 (hb.below hw) (hb2.below hw) (by omega) (fun e hm e2 => ih e e2 (by have:=zIb hm xk xs xo xd es ls xa xr; omega) (zAX f4 hm) w2)
   have k3:∀ w2,Below w1.heap.size w1 w2 → _:=fun w2 hw => zA9 w2 ls ls2 r r2 f f2 (hl.below hw) (hl2.below hw) (by omega) (fun e hm e2 => ih e e2 (by have:=zIa hm xk xs xo xd es bs xa xr; omega) (zAX f6 hm) w2)
   have hst:=zGF w1 xk xs xo xd p es.length c q bs.length d r ls.length f xa xr yk ys yo yd p2 es2.length c2 q2 bs2.length d2 r2 ls2.length f2 ya yr (sameL es es2) (sameML bs bs2) (sameML ls ls2) k1 k2 k3
   rw [sameM]
   exact hst
end Go.Proofs.YtipmjjfknhblnaaGreatDoor
