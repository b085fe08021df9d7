/-
  Whether two programs are alike: the project's Same.
-/
import Derived.Test.YtipmjjfknhblnaaGreatDoorK32
import Derived.Test.YtipmjjfknhblnaaGreatDoorK02
import Derived.Test.YtipmjjfknhblnaaGreatDoorK37
set_option maxRecDepth 8000
set_option maxHeartbeats 8000000
namespace Go.Proofs.YtipmjjfknhblnaaGreatDoor
open Go.RowKit
open Px (RT tokAt)
open Pe
open Ps (Sm PX)
open Pg (BX Pm Rc Fc Gm)
def sameLs {α:Type}(f : α → α → Bool):List α → List α → Bool
 | [],[] => true
 | x :: xs,y :: ys => f x y && sameLs f xs ys
 | _,_ => false
theorem zBf {α:Type}{f : α → α → Bool}:∀ (a b:List α),a.length ≠ b.length → sameLs f a b = false
 | [],[],h => absurd rfl h
 | [],_ :: _,_ => by rw [sameLs]; all_goals simp
 | _ :: _,[],_ => by rw [sameLs]; all_goals simp
 | x :: xs,y :: ys,h => by rw [sameLs,zBf xs ys (by simpa using h),Bool.and_false]
def sameP (a b:Pm):Bool:=a.name == b.name && (a.ofn == b.ofn && a.dims == b.dims)
def sameR (a b:Rc):Bool:=a.name == b.name && sameLs sameP a.fields b.fields
def sameF (a b:Fc):Bool:=a.name == b.name && a.has == b.has && (a.rn == b.rn && a.rd == b.rd) && sameLs sameP a.params b.params && sameML a.body b.body
def sameG (a b:Gm):Bool:=sameLs sameR a.recs b.recs && sameLs sameP a.globals b.globals && sameLs sameF a.funcs b.funcs
def fitR (a:Rc):Prop:=a.fields.length ≤ 9000000000
def fitF (a:Fc):Prop:=a.params.length ≤ 9000000000 ∧ a.body.length ≤ 9000000000 ∧ fitML a.body = true
def fitG (a:Gm):Prop:=a.recs.length ≤ 9000000000 ∧ a.globals.length ≤ 9000000000 ∧ a.funcs.length ≤ 9000000000 ∧ (∀ x ∈ a.recs,fitR x) ∧ ∀ x ∈ a.funcs,fitF x
theorem LAt.get {α:Type}{I:World → Nat → α → List Value → Prop}{n:Nat}{w:World}{B:Nat}{q:Option Addr}{l:List α}(h:LAt I n w B q l){i:Nat}{x : α}(hx:l[i]? = some x) :
 ∃ bl off vs,q = some ⟨bl,off,none⟩ ∧ bl < w.heap.size ∧ I w B x vs ∧ ∀ (j:Nat) v,j < n → vs[j]? = some v → w.cell? ⟨bl,off + i * n + j,none⟩ = some v:=by
 rcases h with rfl | ⟨bl,off,hp,hb,-,ha⟩
 ·simp at hx
 ·obtain ⟨vs,h1,h2⟩:=ha i x hx
  exact ⟨bl,off,vs,hp,hb,h1,h2⟩
theorem zNa:∀ (l:List Pm)(i j:Nat)(x:Pm)(v:Value),l[i]? = some x → j < 4 → (pmCells x)[j]? = some v → (l.flatMap pmCells)[i * 4 + j]? = some v
 | [],_,_,_,_,h,_,_ => by simp at h
 | y :: l,0,j,x,v,h,hj,hv => by
   simp at h
   subst h
   rw [List.flatMap_cons,List.getElem?_append_left (by show _ < 4; omega),Nat.zero_mul,Nat.zero_add,hv]
 | y :: l,i + 1,j,x,v,h,hj,hv => by
   have:=zNa l i j x v (by simpa using h) hj hv
   rw [List.flatMap_cons,List.getElem?_append_right (by show 4 ≤ _; omega),show (i + 1) * 4 + j - (pmCells y).length = i * 4 + j by show (i + 1) * 4 + j - 4 = _; omega]
   exact this
theorem PsAt.lat {w:World}{B:Nat}{q:Option Addr}{l:List Pm}(h:PsAt w B q l):LAt PIs 4 w B q l:=by
 rcases h with h0 | ⟨bl,off,hp,hb,hne,ha⟩
 ·exact .inl h0
 ·refine .inr ⟨bl,off,hp,hb,hne,fun i x hx => ⟨pmCells x,rfl,fun j v hj hv => ?_⟩⟩
  have:=ha _ v (zNa l i j x v hx hj hv)
  rw [show off + i * 4 + j = off + (i * 4 + j) by omega]
  exact this
def ElOk {α:Type}(F:Nat)(I:World → Nat → α → List Value → Prop)(same : α → α → Bool)(w:World)(e e2 : α):Prop:=
 ∀ w1 vs vs2,Below w.heap.size w w1 → I w1 0 e vs → I w1 0 e2 vs2 → Calls Tryz.prog F #[.agg ⟨vs⟩,.agg ⟨vs2⟩] w1 fun en w' => en = .returned (.bool (same e e2)) ∧ Below w1.heap.size w1 w'
theorem zBS (w:World)(x y:Pm):ElOk 31 PIs sameP w x y:=by
 rintro w1 vs vs2 - hv hv2
 rw [PIs] at hv hv2
 subst hv hv2
 obtain ⟨xs,xo,xd,xa⟩:=x
 obtain ⟨ys,yo,yd,ya⟩:=y
 have h1:=zDF xo yo xd yd
 have hsx:=zBs xs ys
 show Calls Tryz.prog _ #[.agg #[.string (cbs xs),.string (cbs xo),.int .i64 xd,.int .i64 xa],.agg #[.string (cbs ys),.string (cbs yo),.int .i64 yd,.int .i64 ya]] w1 fun e w' => e = .returned (.bool (xs == ys && (xo == yo && xd == yd))) ∧ Below w1.heap.size w1 w'
 have hbb:Below w1.heap.size w1 ((w1.alloc (.cells #[.string (cbs xs),.string (cbs xo),.int .i64 xd,.int .i64 xa] 61)).alloc (.cells #[.string (cbs ys),.string (cbs yo),.int .i64 yd,.int .i64 ya] 61)):=((Below.refl _ _).alloc (Nat.le_refl _) _).alloc (by rw [zB]; omega) _
 have HBB:=vH hbb
 clear hbb
 generalize (xo == yo && xd == yd) = g1 at h1 ⊢
 generalize (xs == ys) = g3 at hsx ⊢
 cases g3 with
 | false =>
   go_in
   go_wp2_with fail
   go_ret
   exact ⟨rfl,HBB.out⟩
 | true =>
   go_in
   go_wp2_with fail
   go_ret
   exact ⟨rfl,HBB.out⟩
theorem zJl (w:World)(ks ls:List Pm)(p q:Option Addr)(c d:Nat)(hp:LAt PIs 4 w 0 p ks)(hq:LAt PIs 4 w 0 q ls)(hl:ks.length ≤ 9223372036854775807)(hel:∀ e ∈ ks,∀ e2,ElOk 31 PIs sameP w e e2) :
 Calls Tryz.prog 30 #[.slice p ks.length c,.slice q ls.length d,.func (.func 31) #[] #[]] w fun e w' => e = .returned (.bool (sameLs sameP ks ls)) ∧ Below w.heap.size w w':=by
 have HP:=vH hp
 have HQ:=vH hq
 have HEL:=vH hel
 have HL:=vH hl
 clear hp hq hel hl
 by_cases hlen:ks.length = ls.length
 ·have hd0:((ks.length:Int) != (ls.length:Int)) = false:=by rw [hlen]; exact bne_self_eq_false _
  have HLEN:=vH hlen
  clear hlen
  go_in
  go_wp2_with fail
  go_loopg [17] ks.length (fun n v wr => ∃ j:Nat,n + j = ks.length ∧ v = .int .i64 (j:Int) ∧ Below w.heap.size w wr ∧ sameLs sameP (ks.drop j) (ls.drop j) = sameLs sameP ks ls)
  case atStart => exact ⟨0,rfl,rfl,Below.refl _ _,rfl⟩
  case round =>
   obtain ⟨j,hj,rfl,hb,hs⟩:=hrel
   have HB:=vH hb
   have HS:=vH hs
   have HJ:=vH hj
   clear hb hs hj
   cases gk with
   | zero =>
     obtain rfl:j = ks.length:=by have:=HJ.out; omega
     have hd1:decide ((ks.length:Int) < (ks.length:Int)) = false:=decide_eq_false (by omega)
     go_wp2_with fail
     go_ret
     refine ⟨zV ?_,HB.out⟩
     rw [← HS.out,List.drop_of_length_le (Nat.le_refl _),List.drop_of_length_le (by rw [HLEN.out]; exact Nat.le_refl _),sameLs]
   | succ m =>
     have hjl:j < ks.length:=by have:=HJ.out; omega
     have hjl2:j < ls.length:=by have:=HLEN.out; omega
     have hd1:decide ((j:Int) < (ks.length:Int)) = true:=decide_eq_true (by omega)
     have hi1:(j:Int) < (ks.length:Int):=by omega
     have hi2:(j:Int) < (ls.length:Int):=by omega
     have hd2:decide (ks.length ≤ j) = false:=decide_eq_false (by omega)
     have hd3:decide (ls.length ≤ j) = false:=decide_eq_false (by omega)
     have hdw:wrap64 ((j:Int) + 1) = ((j + 1:Nat):Int):=by have:=HL.out; simp [wrap64]; omega
     have he1:=List.getElem?_eq_getElem hjl
     have he2:=List.getElem?_eq_getElem hjl2
     have hd4:ks.drop j = ks[j] :: ks.drop (j + 1):=List.drop_eq_getElem_cons hjl
     have hd5:ls.drop j = ls[j] :: ls.drop (j + 1):=List.drop_eq_getElem_cons hjl2
     have HE:=vH (HEL.out _ (List.getElem_mem hjl) (ls[j]))
     generalize ks[j] = e1 at he1 hd4 HE
     generalize ls[j] = e2 at he2 hd5 HE
     have HD4:=vH hd4
     have HD5:=vH hd5
     obtain ⟨bl,off,vs,rfl,hbl,hi,hc⟩:=(LAt.ag (w:=w) (w1:=wr) (fun _ _ h => h) HP.out (Ag.below HB.out)).get he1
     obtain ⟨bl2,off2,vs2,rfl,hbl2,hi2',hc2⟩:=(LAt.ag (w:=w) (w1:=wr) (fun _ _ h => h) HQ.out (Ag.below HB.out)).get he2
     have hi2:=hi2'
     clear hi2' he1 he2 hd4 hd5
     obtain ⟨xs,xo,xd,xa⟩:=e1
     obtain ⟨ys,yo,yd,ya⟩:=e2
     rw [PIs] at hi hi2
     subst hi hi2
     have x0:=hc 0 _ (by decide) rfl
     have x1:=hc 1 _ (by decide) rfl
     have x2:=hc 2 _ (by decide) rfl
     have x3:=hc 3 _ (by decide) rfl
     have y0:=hc2 0 _ (by decide) rfl
     have y1:=hc2 1 _ (by decide) rfl
     have y2:=hc2 2 _ (by decide) rfl
     have y3:=hc2 3 _ (by decide) rfl
     simp only [Nat.add_zero] at x0 y0
     clear hc hc2
     have hne1:bl ≠ wr.heap.size:=Nat.ne_of_lt hbl
     have hne2:bl2 ≠ wr.heap.size:=Nat.ne_of_lt hbl2
     go_wp2_with fail
     have hb2:Below wr.heap.size wr ((wr.alloc (.cells #[.string (cbs xs),.string (cbs xo),.int .i64 xd,.int .i64 xa] 61)).alloc (.cells #[.string (cbs ys),.string (cbs yo),.int .i64 yd,.int .i64 ya] 61)):=((Below.refl _ _).alloc (Nat.le_refl _) _).alloc (by rw [zB]; omega) _
     refine (HE.out _ [.string (cbs xs),.string (cbs xo),.int .i64 xd,.int .i64 xa] [.string (cbs ys),.string (cbs yo),.int .i64 yd,.int .i64 ya] (zC HB.out hb2 HB.out.size) rfl rfl).mono ?_
     rintro e w2 ⟨rfl,hb3⟩
     have HB2:=vH (zC (zC HB.out hb2 HB.out.size) hb3 (zC HB.out hb2 HB.out.size).size)
     clear hb2 hb3
     obtain ⟨bs,hbs⟩:∃ bs,sameP ⟨xs,xo,xd,xa⟩ ⟨ys,yo,yd,ya⟩ = bs:=⟨_,rfl⟩
     rw [hbs]
     have HSE:=vH hbs
     clear hbs
     cases bs with
     | false =>
       go_wp2_with fail
       go_ret
       refine ⟨zV ?_,HB2.out⟩
       rw [← HS.out,HD4.out,HD5.out,sameLs,HSE.out,Bool.false_and]
     | true =>
       go_wp2_with fail
       go_roundg m
       case measure => omega
       case rel => exact ⟨j + 1,by have:=HJ.out; omega,by first | rfl | simp [hdw],HB2.out,by rw [← HS.out,HD4.out,HD5.out,sameLs,HSE.out,Bool.true_and]⟩
 ·have hd0:((ks.length:Int) != (ls.length:Int)) = true:=bne_iff_ne.2 (by omega)
  rw [zBf _ _ hlen]
  clear hlen
  go_in
  go_wp2_with fail
  go_ret
  exact ⟨rfl,Below.refl _ _⟩
theorem zLe (w:World){ks ls:List Pm}{p q:Option Addr}(c d:Nat)(hp:PsAt w 0 p ks)(hq:PsAt w 0 q ls)(hl:ks.length ≤ 9000000000) :
 Calls Tryz.prog 30 #[.slice p ks.length c,.slice q ls.length d,.func (.func 31) #[] #[]] w fun e w' => e = .returned (.bool (sameLs sameP ks ls)) ∧ Below w.heap.size w w':=
 zJl w ks ls p q c d hp.lat hq.lat (by omega) fun e _ e2 => zBS w e e2
theorem zFi (w:World)(x y:Rc)(hf:fitR x):ElOk 29 RIs sameR w x y:=by
 rintro w1 vs vs2 - ⟨p,c,rfl,hp⟩ ⟨q,d,rfl,hq⟩
 obtain ⟨xs,xfs,xa⟩:=x
 obtain ⟨ys,yfs,ya⟩:=y
 have hsx:=zBs xs ys
 show Calls Tryz.prog _ #[.agg #[.string (cbs xs),.slice p xfs.length c,.int .i64 xa],.agg #[.string (cbs ys),.slice q yfs.length d,.int .i64 ya]] w1 fun e w' => e = .returned (.bool (xs == ys && sameLs sameP xfs yfs)) ∧ Below w1.heap.size w1 w'
 have hbb:Below w1.heap.size w1 ((w1.alloc (.cells #[.string (cbs xs),.slice p xfs.length c,.int .i64 xa] 56)).alloc (.cells #[.string (cbs ys),.slice q yfs.length d,.int .i64 ya] 56)):=((Below.refl _ _).alloc (Nat.le_refl _) _).alloc (by rw [zB]; omega) _
 have HBB:=vH hbb
 have HC:=vH (zLe _ c d (hp.ag (Ag.below hbb)) (hq.ag (Ag.below hbb)) hf)
 clear hbb hp hq hf
 generalize (xs == ys) = g3 at hsx ⊢
 cases g3 with
 | false =>
   go_in
   go_wp2_with fail
   go_ret
   exact ⟨rfl,HBB.out⟩
 | true =>
   go_in
   go_wp2_with fail
   refine HC.out.mono ?_
   rintro e w2 ⟨rfl,hb⟩
   go_wp2_with fail
   go_ret
   exact ⟨by simp,zC HBB.out hb HBB.out.size⟩
theorem zMj (w:World)(ks ls:List Rc)(p q:Option Addr)(c d:Nat)(hp:LAt RIs 3 w 0 p ks)(hq:LAt RIs 3 w 0 q ls)(hl:ks.length ≤ 9223372036854775807)(hel:∀ e ∈ ks,∀ e2,ElOk 29 RIs sameR w e e2) :
 Calls Tryz.prog 28 #[.slice p ks.length c,.slice q ls.length d,.func (.func 29) #[] #[]] w fun e w' => e = .returned (.bool (sameLs sameR ks ls)) ∧ Below w.heap.size w w':=by
 have HP:=vH hp
 have HQ:=vH hq
 have HEL:=vH hel
 have HL:=vH hl
 clear hp hq hel hl
 by_cases hlen:ks.length = ls.length
 ·have hd0:((ks.length:Int) != (ls.length:Int)) = false:=by rw [hlen]; exact bne_self_eq_false _
  have HLEN:=vH hlen
  clear hlen
  go_in
  go_wp2_with fail
  go_loopg [17] ks.length (fun n v wr => ∃ j:Nat,n + j = ks.length ∧ v = .int .i64 (j:Int) ∧ Below w.heap.size w wr ∧ sameLs sameR (ks.drop j) (ls.drop j) = sameLs sameR ks ls)
  case atStart => exact ⟨0,rfl,rfl,Below.refl _ _,rfl⟩
  case round =>
   obtain ⟨j,hj,rfl,hb,hs⟩:=hrel
   have HB:=vH hb
   have HS:=vH hs
   have HJ:=vH hj
   clear hb hs hj
   cases gk with
   | zero =>
     obtain rfl:j = ks.length:=by have:=HJ.out; omega
     have hd1:decide ((ks.length:Int) < (ks.length:Int)) = false:=decide_eq_false (by omega)
     go_wp2_with fail
     go_ret
     refine ⟨zV ?_,HB.out⟩
     rw [← HS.out,List.drop_of_length_le (Nat.le_refl _),List.drop_of_length_le (by rw [HLEN.out]; exact Nat.le_refl _),sameLs]
   | succ m =>
     have hjl:j < ks.length:=by have:=HJ.out; omega
     have hjl2:j < ls.length:=by have:=HLEN.out; omega
     have hd1:decide ((j:Int) < (ks.length:Int)) = true:=decide_eq_true (by omega)
     have hi1:(j:Int) < (ks.length:Int):=by omega
     have hi2:(j:Int) < (ls.length:Int):=by omega
     have hd2:decide (ks.length ≤ j) = false:=decide_eq_false (by omega)
     have hd3:decide (ls.length ≤ j) = false:=decide_eq_false (by omega)
     have hdw:wrap64 ((j:Int) + 1) = ((j + 1:Nat):Int):=by have:=HL.out; simp [wrap64]; omega
     have he1:=List.getElem?_eq_getElem hjl
     have he2:=List.getElem?_eq_getElem hjl2
     have hd4:ks.drop j = ks[j] :: ks.drop (j + 1):=List.drop_eq_getElem_cons hjl
     have hd5:ls.drop j = ls[j] :: ls.drop (j + 1):=List.drop_eq_getElem_cons hjl2
     have HE:=vH (HEL.out _ (List.getElem_mem hjl) (ls[j]))
     generalize ks[j] = e1 at he1 hd4 HE
     generalize ls[j] = e2 at he2 hd5 HE
     have HD4:=vH hd4
     have HD5:=vH hd5
     obtain ⟨bl,off,vs,rfl,hbl,hi,hc⟩:=(LAt.ag (w:=w) (w1:=wr) (fun _ _ h => h.ag (Ag.below HB.out)) HP.out (Ag.below HB.out)).get he1
     obtain ⟨bl2,off2,vs2,rfl,hbl2,hi2',hc2⟩:=(LAt.ag (w:=w) (w1:=wr) (fun _ _ h => h.ag (Ag.below HB.out)) HQ.out (Ag.below HB.out)).get he2
     have hi2:=hi2'
     clear hi2' he1 he2 hd4 hd5
     obtain ⟨xs,xfs,xa⟩:=e1
     obtain ⟨ys,yfs,ya⟩:=e2
     obtain ⟨xp,xc,rfl,-⟩:=id hi
     obtain ⟨yp,yc,rfl,-⟩:=id hi2
     dsimp only at hi hi2 hc hc2
     have x0:=hc 0 _ (by decide) rfl
     have x1:=hc 1 _ (by decide) rfl
     have x2:=hc 2 _ (by decide) rfl
     have y0:=hc2 0 _ (by decide) rfl
     have y1:=hc2 1 _ (by decide) rfl
     have y2:=hc2 2 _ (by decide) rfl
     simp only [Nat.add_zero] at x0 y0
     have HI:=vH hi
     have HI2:=vH hi2
     clear hi hi2 hc hc2
     have hne1:bl ≠ wr.heap.size:=Nat.ne_of_lt hbl
     have hne2:bl2 ≠ wr.heap.size:=Nat.ne_of_lt hbl2
     go_wp2_with fail
     have hb2:Below wr.heap.size wr ((wr.alloc (.cells #[.string (cbs xs),.slice xp xfs.length xc,.int .i64 xa] 56)).alloc (.cells #[.string (cbs ys),.slice yp yfs.length yc,.int .i64 ya] 56)):=((Below.refl _ _).alloc (Nat.le_refl _) _).alloc (by rw [zB]; omega) _
     refine (HE.out _ [.string (cbs xs),.slice xp xfs.length xc,.int .i64 xa] [.string (cbs ys),.slice yp yfs.length yc,.int .i64 ya] (zC HB.out hb2 HB.out.size) (HI.out.ag (Ag.below hb2)) (HI2.out.ag (Ag.below hb2))).mono ?_
     rintro e w2 ⟨rfl,hb3⟩
     have HB2:=vH (zC (zC HB.out hb2 HB.out.size) hb3 (zC HB.out hb2 HB.out.size).size)
     clear hb2 hb3
     obtain ⟨bs,hbs⟩:∃ bs,sameR ⟨xs,xfs,xa⟩ ⟨ys,yfs,ya⟩ = bs:=⟨_,rfl⟩
     rw [hbs]
     have HSE:=vH hbs
     clear hbs
     cases bs with
     | false =>
       go_wp2_with fail
       go_ret
       refine ⟨zV ?_,HB2.out⟩
       rw [← HS.out,HD4.out,HD5.out,sameLs,HSE.out,Bool.false_and]
     | true =>
       go_wp2_with fail
       go_roundg m
       case measure => omega
       case rel => exact ⟨j + 1,by have:=HJ.out; omega,by first | rfl | simp [hdw],HB2.out,by rw [← HS.out,HD4.out,HD5.out,sameLs,HSE.out,Bool.true_and]⟩
 ·have hd0:((ks.length:Int) != (ls.length:Int)) = true:=bne_iff_ne.2 (by omega)
  rw [zBf _ _ hlen]
  clear hlen
  go_in
  go_wp2_with fail
  go_ret
  exact ⟨rfl,Below.refl _ _⟩
theorem zEw (w:World)(x y:Fc)(hf:fitF x):ElOk 33 FIs sameF w x y:=by
 rintro w1 vs vs2 - ⟨p,c,p2,c2,rfl,hp,hp2⟩ ⟨q,d,q2,d2,rfl,hq,hq2⟩
 obtain ⟨xs,xfs,xh,xo,xd,xbs,xa⟩:=x
 obtain ⟨ys,yfs,yh,yo,yd,ybs,ya⟩:=y
 obtain ⟨hf1,hf2,hf3⟩:=hf
 dsimp only at hf1 hf2 hf3 hp hp2 hq hq2 ⊢
 have hsx:=zBs xs ys
 have h1:=zDF xo yo xd yd
 show Calls Tryz.prog _ #[.agg #[.string (cbs xs),.slice p xfs.length c,.bool xh,.string (cbs xo),.int .i64 xd,.slice p2 xbs.length c2,.int .i64 xa],.agg #[.string (cbs ys),.slice q yfs.length d,.bool yh,.string (cbs yo),.int .i64 yd,.slice q2 ybs.length d2,.int .i64 ya]] w1 fun e w' => e = .returned (.bool (xs == ys && xh == yh && (xo == yo && xd == yd) && sameLs sameP xfs yfs && sameML xbs ybs)) ∧ Below w1.heap.size w1 w'
 have hbb:Below w1.heap.size w1 ((w1.alloc (.cells #[.string (cbs xs),.slice p xfs.length c,.bool xh,.string (cbs xo),.int .i64 xd,.slice p2 xbs.length c2,.int .i64 xa] 66)).alloc (.cells #[.string (cbs ys),.slice q yfs.length d,.bool yh,.string (cbs yo),.int .i64 yd,.slice q2 ybs.length d2,.int .i64 ya] 66)):=((Below.refl _ _).alloc (Nat.le_refl _) _).alloc (by rw [zB]; omega) _
 obtain ⟨wa,hwa⟩:∃ wa,wa = (w1.alloc (.cells #[.string (cbs xs),.slice p xfs.length c,.bool xh,.string (cbs xo),.int .i64 xd,.slice p2 xbs.length c2,.int .i64 xa] 66)).alloc (.cells #[.string (cbs ys),.slice q yfs.length d,.bool yh,.string (cbs yo),.int .i64 yd,.slice q2 ybs.length d2,.int .i64 ya] 66):=⟨_,rfl⟩
 rw [← hwa] at hbb
 have HBB:=vH hbb
 have HC:=vH (zLe _ c d (hp.ag (Ag.below hbb)) (hq.ag (Ag.below hbb)) hf1)
 have HX:=vH (show wa.heap[w1.heap.size]? = some (.cells #[.string (cbs xs),.slice p xfs.length c,.bool xh,.string (cbs xo),.int .i64 xd,.slice p2 xbs.length c2,.int .i64 xa] 66 (0,0)) by rw [hwa]; exact zE _ (heap_alloc_new w1 _))
 have HY:=vH (show wa.heap[w1.heap.size + 1]? = some (.cells #[.string (cbs ys),.slice q yfs.length d,.bool yh,.string (cbs yo),.int .i64 yd,.slice q2 ybs.length d2,.int .i64 ya] 66 (0,0)) by rw [hwa]; have:=heap_alloc_new (w1.alloc (.cells #[.string (cbs xs),.slice p xfs.length c,.bool xh,.string (cbs xo),.int .i64 xd,.slice p2 xbs.length c2,.int .i64 xa] 66)) (.cells #[.string (cbs ys),.slice q yfs.length d,.bool yh,.string (cbs yo),.int .i64 yd,.slice q2 ybs.length d2,.int .i64 ya] 66); rw [zB] at this; exact this)
 have HS1:=vH (SsAt.lower (hp2.ag (Ag.below hbb)) (Nat.le_refl 0))
 have HS2:=vH (SsAt.lower (hq2.ag (Ag.below hbb)) (Nat.le_refl 0))
 have HF2:=vH hf2
 have HF3:=vH hf3
 clear hbb hp hq hf1 hf2 hf3 hp2 hq2
 generalize (xs == ys) = g3 at hsx ⊢
 generalize (xo == yo && xd == yd) = g1 at h1 ⊢
 obtain ⟨g2,hg2⟩:∃ g2,(xh == yh) = g2:=⟨_,rfl⟩
 rw [hg2]
 by_cases hall:g3 = true ∧ g2 = true ∧ g1 = true
 ·obtain ⟨rfl,rfl,rfl⟩:=hall
  generalize sameLs sameP xfs yfs = v1 at HC ⊢
  go_in
  go_wp2_with fail
  rw [← hwa]
  clear hwa
  refine HC.out.mono ?_
  rintro e w2 ⟨rfl,hb⟩
  have HB1:=vH (zC HBB.out hb HBB.out.size)
  obtain ⟨⟨x0,x1,x2,x3,x4,x5,x6⟩,-⟩:=sept ((hb.block _ (zA HX.out)).trans HX.out)
  obtain ⟨⟨y0,y1,y2,y3,y4,y5,y6⟩,-⟩:=sept ((hb.block _ (zA HY.out)).trans HY.out)
  have HS3:=vH (HS1.out.ag (Ag.below hb))
  have HS4:=vH (HS2.out.ag (Ag.below hb))
  clear hb
  cases v1 with
  | false =>
    go_wp2_with fail
    go_ret
    exact ⟨rfl,HB1.out⟩
  | true =>
    go_wp2_with fail
    clear x0 x1 x2 x3 x4 x5 x6 y0 y1 y2 y3 y4 y5 y6
    refine (zA9 _ xbs ybs _ _ _ _ HS3.out HS4.out (by have:=HF2.out; omega) (fun e he e2 => zH7 _ e e2 (Nat.le_refl _) (zAX HF3.out he) _)).mono ?_
    rintro e w3 ⟨rfl,hb⟩
    go_wp2_with fail
    go_ret
    exact ⟨by simp,zC HB1.out hb HB1.out.size⟩
 ·have hres:(g3 && g2 && g1 && sameLs sameP xfs yfs && sameML xbs ybs) = false:=by
   cases g3 <;> cases g2 <;> cases g1 <;> simp_all
  rw [hres]
  clear hres
  cases g3 <;> cases g2 <;> cases g1 <;> first | exact absurd ⟨rfl,rfl,rfl⟩ hall | skip
  all_goals
   clear hall
   go_in
   go_wp2_with fail
   go_ret
   exact ⟨rfl,by rw [← hwa]; exact HBB.out⟩
theorem zMk (w:World)(ks ls:List Fc)(p q:Option Addr)(c d:Nat)(hp:LAt FIs 7 w 0 p ks)(hq:LAt FIs 7 w 0 q ls)(hl:ks.length ≤ 9223372036854775807)(hel:∀ e ∈ ks,∀ e2,ElOk 33 FIs sameF w e e2) :
 Calls Tryz.prog 32 #[.slice p ks.length c,.slice q ls.length d,.func (.func 33) #[] #[]] w fun e w' => e = .returned (.bool (sameLs sameF ks ls)) ∧ Below w.heap.size w w':=by
 have HP:=vH hp
 have HQ:=vH hq
 have HEL:=vH hel
 have HL:=vH hl
 clear hp hq hel hl
 by_cases hlen:ks.length = ls.length
 ·have hd0:((ks.length:Int) != (ls.length:Int)) = false:=by rw [hlen]; exact bne_self_eq_false _
  have HLEN:=vH hlen
  clear hlen
  go_in
  go_wp2_with fail
  go_loopg [17] ks.length (fun n v wr => ∃ j:Nat,n + j = ks.length ∧ v = .int .i64 (j:Int) ∧ Below w.heap.size w wr ∧ sameLs sameF (ks.drop j) (ls.drop j) = sameLs sameF ks ls)
  case atStart => exact ⟨0,rfl,rfl,Below.refl _ _,rfl⟩
  case round =>
   obtain ⟨j,hj,rfl,hb,hs⟩:=hrel
   have HB:=vH hb
   have HS:=vH hs
   have HJ:=vH hj
   clear hb hs hj
   cases gk with
   | zero =>
     obtain rfl:j = ks.length:=by have:=HJ.out; omega
     have hd1:decide ((ks.length:Int) < (ks.length:Int)) = false:=decide_eq_false (by omega)
     go_wp2_with fail
     go_ret
     refine ⟨zV ?_,HB.out⟩
     rw [← HS.out,List.drop_of_length_le (Nat.le_refl _),List.drop_of_length_le (by rw [HLEN.out]; exact Nat.le_refl _),sameLs]
   | succ m =>
     have hjl:j < ks.length:=by have:=HJ.out; omega
     have hjl2:j < ls.length:=by have:=HLEN.out; omega
     have hd1:decide ((j:Int) < (ks.length:Int)) = true:=decide_eq_true (by omega)
     have hi1:(j:Int) < (ks.length:Int):=by omega
     have hi2:(j:Int) < (ls.length:Int):=by omega
     have hd2:decide (ks.length ≤ j) = false:=decide_eq_false (by omega)
     have hd3:decide (ls.length ≤ j) = false:=decide_eq_false (by omega)
     have hdw:wrap64 ((j:Int) + 1) = ((j + 1:Nat):Int):=by have:=HL.out; simp [wrap64]; omega
     have he1:=List.getElem?_eq_getElem hjl
     have he2:=List.getElem?_eq_getElem hjl2
     have hd4:ks.drop j = ks[j] :: ks.drop (j + 1):=List.drop_eq_getElem_cons hjl
     have hd5:ls.drop j = ls[j] :: ls.drop (j + 1):=List.drop_eq_getElem_cons hjl2
     have HE:=vH (HEL.out _ (List.getElem_mem hjl) (ls[j]))
     generalize ks[j] = e1 at he1 hd4 HE
     generalize ls[j] = e2 at he2 hd5 HE
     have HD4:=vH hd4
     have HD5:=vH hd5
     obtain ⟨bl,off,vs,rfl,hbl,hi,hc⟩:=(LAt.ag (w:=w) (w1:=wr) (fun _ _ h => h.ag (Ag.below HB.out)) HP.out (Ag.below HB.out)).get he1
     obtain ⟨bl2,off2,vs2,rfl,hbl2,hi2',hc2⟩:=(LAt.ag (w:=w) (w1:=wr) (fun _ _ h => h.ag (Ag.below HB.out)) HQ.out (Ag.below HB.out)).get he2
     have hi2:=hi2'
     clear hi2' he1 he2 hd4 hd5
     obtain ⟨xs,xfs,xh,xo,xd,xbs,xa⟩:=e1
     obtain ⟨ys,yfs,yh,yo,yd,ybs,ya⟩:=e2
     obtain ⟨xp,xc,xq,xe,rfl,-⟩:=id hi
     obtain ⟨yp,yc,yq,ye,rfl,-⟩:=id hi2
     dsimp only at hi hi2 hc hc2
     have x0:=hc 0 _ (by decide) rfl
     have x1:=hc 1 _ (by decide) rfl
     have x2:=hc 2 _ (by decide) rfl
     have x3:=hc 3 _ (by decide) rfl
     have x4:=hc 4 _ (by decide) rfl
     have x5:=hc 5 _ (by decide) rfl
     have x6:=hc 6 _ (by decide) rfl
     have y0:=hc2 0 _ (by decide) rfl
     have y1:=hc2 1 _ (by decide) rfl
     have y2:=hc2 2 _ (by decide) rfl
     have y3:=hc2 3 _ (by decide) rfl
     have y4:=hc2 4 _ (by decide) rfl
     have y5:=hc2 5 _ (by decide) rfl
     have y6:=hc2 6 _ (by decide) rfl
     simp only [Nat.add_zero] at x0 y0
     have HI:=vH hi
     have HI2:=vH hi2
     clear hi hi2 hc hc2
     have hne1:bl ≠ wr.heap.size:=Nat.ne_of_lt hbl
     have hne2:bl2 ≠ wr.heap.size:=Nat.ne_of_lt hbl2
     go_wp2_with fail
     have hb2:Below wr.heap.size wr ((wr.alloc (.cells #[.string (cbs xs),.slice xp xfs.length xc,.bool xh,.string (cbs xo),.int .i64 xd,.slice xq xbs.length xe,.int .i64 xa] 66)).alloc (.cells #[.string (cbs ys),.slice yp yfs.length yc,.bool yh,.string (cbs yo),.int .i64 yd,.slice yq ybs.length ye,.int .i64 ya] 66)):=((Below.refl _ _).alloc (Nat.le_refl _) _).alloc (by rw [zB]; omega) _
     refine (HE.out _ [.string (cbs xs),.slice xp xfs.length xc,.bool xh,.string (cbs xo),.int .i64 xd,.slice xq xbs.length xe,.int .i64 xa] [.string (cbs ys),.slice yp yfs.length yc,.bool yh,.string (cbs yo),.int .i64 yd,.slice yq ybs.length ye,.int .i64 ya] (zC HB.out hb2 HB.out.size) (HI.out.ag (Ag.below hb2)) (HI2.out.ag (Ag.below hb2))).mono ?_
     rintro e w2 ⟨rfl,hb3⟩
     have HB2:=vH (zC (zC HB.out hb2 HB.out.size) hb3 (zC HB.out hb2 HB.out.size).size)
     clear hb2 hb3
     obtain ⟨bs,hbs⟩:∃ bs,sameF ⟨xs,xfs,xh,xo,xd,xbs,xa⟩ ⟨ys,yfs,yh,yo,yd,ybs,ya⟩ = bs:=⟨_,rfl⟩
     rw [hbs]
     have HSE:=vH hbs
     clear hbs
     cases bs with
     | false =>
       go_wp2_with fail
       go_ret
       refine ⟨zV ?_,HB2.out⟩
       rw [← HS.out,HD4.out,HD5.out,sameLs,HSE.out,Bool.false_and]
     | true =>
       go_wp2_with fail
       go_roundg m
       case measure => omega
       case rel => exact ⟨j + 1,by have:=HJ.out; omega,by first | rfl | simp [hdw],HB2.out,by rw [← HS.out,HD4.out,HD5.out,sameLs,HSE.out,Bool.true_and]⟩
 ·have hd0:((ks.length:Int) != (ls.length:Int)) = true:=bne_iff_ne.2 (by omega)
  rw [zBf _ _ hlen]
  clear hlen
  go_in
  go_wp2_with fail
  go_ret
  exact ⟨rfl,Below.refl _ _⟩
theorem zEv (w:World)(x y:Gm){vs vs2:List Value}{B B2:Nat}(hx:GIs w B x vs)(hy:GIs w B2 y vs2)(hf:fitG x) :
 Calls Tryz.prog 10 #[.agg ⟨vs⟩,.agg ⟨vs2⟩] w fun e w' => e = .returned (.bool (sameG x y)) ∧ Below w.heap.size w w':=by
 obtain ⟨p,c,p2,c2,p3,c3,rfl,hp,hp2,hp3⟩:=hx.lower (Nat.zero_le _)
 obtain ⟨q,d,q2,d2,q3,d3,rfl,hq,hq2,hq3⟩:=hy.lower (Nat.zero_le _)
 obtain ⟨hf1,hf2,hf3,hf4,hf5⟩:=hf
 obtain ⟨xr,xg,xf⟩:=x
 obtain ⟨yr,yg,yf⟩:=y
 dsimp only at hf1 hf2 hf3 hf4 hf5 hp hp2 hp3 hq hq2 hq3 ⊢
 obtain ⟨wa,hwa⟩:∃ wa,wa = (w.alloc (.cells #[.slice p xr.length c,.slice p2 xg.length c2,.slice p3 xf.length c3] 26)).alloc (.cells #[.slice q yr.length d,.slice q2 yg.length d2,.slice q3 yf.length d3] 26):=⟨_,rfl⟩
 have hbb:Below w.heap.size w wa:=by rw [hwa]; exact ((Below.refl _ _).alloc (Nat.le_refl _) _).alloc (by rw [zB]; omega) _
 have HBB:=vH hbb
 have K1:∀ w1,Below w.heap.size w w1 → Calls Tryz.prog 28 #[.slice p xr.length c,.slice q yr.length d,.func (.func 29) #[] #[]] w1 fun e w' => e = .returned (.bool (sameLs sameR xr yr)) ∧ Below w1.heap.size w1 w':=fun w1 hb =>
  zMj w1 xr yr p q c d (LAt.ag (fun _ _ h => h.ag (Ag.below hb)) hp (Ag.below hb)) (LAt.ag (fun _ _ h => h.ag (Ag.below hb)) hq (Ag.below hb)) (by omega) fun e he e2 => zFi w1 e e2 (hf4 e he)
 have K2:∀ w1,Below w.heap.size w w1 → Calls Tryz.prog 30 #[.slice p2 xg.length c2,.slice q2 yg.length d2,.func (.func 31) #[] #[]] w1 fun e w' => e = .returned (.bool (sameLs sameP xg yg)) ∧ Below w1.heap.size w1 w':=fun w1 hb =>
  zJl w1 xg yg p2 q2 c2 d2 (LAt.ag (w:=w) (w1:=w1) (fun _ _ h => h) hp2 (Ag.below hb)) (LAt.ag (w:=w) (w1:=w1) (fun _ _ h => h) hq2 (Ag.below hb)) (by omega) fun e _ e2 => zBS w1 e e2
 have K3:∀ w1,Below w.heap.size w w1 → Calls Tryz.prog 32 #[.slice p3 xf.length c3,.slice q3 yf.length d3,.func (.func 33) #[] #[]] w1 fun e w' => e = .returned (.bool (sameLs sameF xf yf)) ∧ Below w1.heap.size w1 w':=fun w1 hb =>
  zMk w1 xf yf p3 q3 c3 d3 (LAt.ag (fun _ _ h => h.ag (Ag.below hb)) hp3 (Ag.below hb)) (LAt.ag (fun _ _ h => h.ag (Ag.below hb)) hq3 (Ag.below hb)) (by omega) fun e he e2 => zEw w1 e e2 (hf5 e he)
 have HK1:=vH K1
 have HK2:=vH K2
 have HK3:=vH K3
 have HX:=vH (show wa.heap[w.heap.size]? = some (.cells #[.slice p xr.length c,.slice p2 xg.length c2,.slice p3 xf.length c3] 26 (0,0)) by rw [hwa]; exact zE _ (heap_alloc_new w _))
 have HY:=vH (show wa.heap[w.heap.size + 1]? = some (.cells #[.slice q yr.length d,.slice q2 yg.length d2,.slice q3 yf.length d3] 26 (0,0)) by rw [hwa]; have:=heap_alloc_new (w.alloc (.cells #[.slice p xr.length c,.slice p2 xg.length c2,.slice p3 xf.length c3] 26)) (.cells #[.slice q yr.length d,.slice q2 yg.length d2,.slice q3 yf.length d3] 26); rw [zB] at this; exact this)
 show Calls Tryz.prog _ #[.agg #[.slice p xr.length c,.slice p2 xg.length c2,.slice p3 xf.length c3],.agg #[.slice q yr.length d,.slice q2 yg.length d2,.slice q3 yf.length d3]] w fun e w' => e = .returned (.bool (sameLs sameR xr yr && sameLs sameP xg yg && sameLs sameF xf yf)) ∧ Below w.heap.size w w'
 clear hx hy hp hp2 hp3 hq hq2 hq3 hf1 hf2 hf3 hf4 hf5 K1 K2 K3 hbb
 generalize sameLs sameR xr yr = v1 at HK1 ⊢
 generalize sameLs sameP xg yg = v2 at HK2 ⊢
 generalize sameLs sameF xf yf = v3 at HK3 ⊢
 go_in
 go_wp2_with fail
 rw [← hwa]
 clear hwa
 refine (HK1.out _ HBB.out).mono ?_
 rintro e w1 ⟨rfl,hb⟩
 have HB1:=vH (zC HBB.out hb HBB.out.size)
 have HX1:=vH ((hb.block _ (zA HX.out)).trans HX.out)
 have HY1:=vH ((hb.block _ (zA HY.out)).trans HY.out)
 clear hb
 cases v1 with
 | false =>
   go_wp2_with fail
   go_ret
   exact ⟨rfl,HB1.out⟩
 | true =>
   obtain ⟨⟨x0,x1,x2⟩,-⟩:=tri HX1.out
   obtain ⟨⟨y0,y1,y2⟩,-⟩:=tri HY1.out
   go_wp2_with fail
   clear x0 x1 x2 y0 y1 y2
   refine (HK2.out _ HB1.out).mono ?_
   rintro e w2 ⟨rfl,hb⟩
   have HB2:=vH (zC HB1.out hb HB1.out.size)
   have HX2:=vH ((hb.block _ (zA HX1.out)).trans HX1.out)
   have HY2:=vH ((hb.block _ (zA HY1.out)).trans HY1.out)
   clear hb
   cases v2 with
   | false =>
     go_wp2_with fail
     go_ret
     exact ⟨rfl,HB2.out⟩
   | true =>
     obtain ⟨⟨x0,x1,x2⟩,-⟩:=tri HX2.out
     obtain ⟨⟨y0,y1,y2⟩,-⟩:=tri HY2.out
     go_wp2_with fail
     clear x0 x1 x2 y0 y1 y2
     refine (HK3.out _ HB2.out).mono ?_
     rintro e w3 ⟨rfl,hb⟩
     go_wp2_with fail
     go_ret
     exact ⟨rfl,zC HB2.out hb HB2.out.size⟩
end Go.Proofs.YtipmjjfknhblnaaGreatDoor
