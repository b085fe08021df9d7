/- Both readers' tokens may stand elsewhere: what is read of to -/
import Derived.Test.YtipmjjfknhblnaaGreatDoorK32
import Derived.Test.YtipmjjfknhblnaaGreatDoorK26
namespace Go.Proofs.YtipmjjfknhblnaaGreatDoor
namespace Al
open Go.RowKit
open Px (RT tokAt isT levelT)
open Qe (Q)
open Pe (Ex inc dec)
open Ps (Sm)
open Pg (Pm Rc Fc Gm)
def Tl (ts ts':List RT):Prop:=∀ k,(tokAt ts k).kind = (tokAt ts' k).kind ∧ (tokAt ts k).text = (tokAt ts' k).text ∧ (tokAt ts k).num = (tokAt ts' k).num
def R (s s':Q):Prop:=s.k = s'.k ∧ s.o = s'.o ∧ s.E = s'.E
def OR {α:Type}(f : α → α → Prop)(o o':Option (α × Q)):Prop:=
 match o,o' with
 | none,none => True
 | some x,some y => f x.1 y.1 ∧ R x.2 y.2
 | _,_ => False
theorem OR.elim {α:Type}{f : α → α → Prop}{o o':Option (α × Q)}(h:OR f o o'):(o = none ∧ o' = none) ∨ ∃ x s y s',o = some (x,s) ∧ o' = some (y,s') ∧ f x y ∧ R s s':=by
 cases o with
 | none =>
   cases o' with
   | none => exact .inl ⟨rfl,rfl⟩
   | some y => exact False.elim h
 | some x =>
   cases o' with
   | none => exact False.elim h
   | some y => exact .inr ⟨x.1,x.2,y.1,y.2,rfl,rfl,h.1,h.2⟩
abbrev E2 (e e':Ex):Prop:=sameE e e' = true
abbrev L2 (l l':List Ex):Prop:=sameL l l' = true
abbrev M2 (e e':Sm):Prop:=sameM e e' = true
abbrev B2 (l l':List Sm):Prop:=sameML l l' = true
theorem L2.nil:L2 [] []:=by rw [L2,sameL]
theorem L2.snoc:∀ {l l':List Ex}{e e':Ex},L2 l l' → E2 e e' → L2 (l ++ [e]) (l' ++ [e'])
 | [],[],e,e',_,he => by rw [L2,List.nil_append,List.nil_append,sameL,he,sameL]; rfl
 | [],_ :: _,_,_,h,_ => by rw [L2,sameL] at h; · cases h
                           all_goals simp
 | _ :: _,[],_,_,h,_ => by rw [L2,sameL] at h; · cases h
                           all_goals simp
 | x :: l,y :: l',e,e',h,he => by
   rw [L2,sameL,Bool.and_eq_true] at h
   have:=L2.snoc (l:=l) (l':=l') h.2 he
   rw [L2,List.cons_append,List.cons_append,sameL,h.1,this]
   rfl
theorem B2.nil:B2 [] []:=by rw [B2,sameML]
theorem B2.snoc:∀ {l l':List Sm}{e e':Sm},B2 l l' → M2 e e' → B2 (l ++ [e]) (l' ++ [e'])
 | [],[],e,e',_,he => by rw [B2,List.nil_append,List.nil_append,sameML,he,sameML]; rfl
 | [],_ :: _,_,_,h,_ => by rw [B2,sameML] at h; · cases h
                           all_goals simp
 | _ :: _,[],_,_,h,_ => by rw [B2,sameML] at h; · cases h
                           all_goals simp
 | x :: l,y :: l',e,e',h,he => by
   rw [B2,sameML,Bool.and_eq_true] at h
   have:=B2.snoc (l:=l) (l':=l') h.2 he
   rw [B2,List.cons_append,List.cons_append,sameML,h.1,this]
   rfl
theorem E2.mk (k n:Int)(a b:List UInt8)(d:Int){l l':List Ex}(p p':Int)(h:L2 l l'):E2 (Ex.of k n a b d l p) (Ex.of k n a b d l' p'):=by
 rw [E2,Ex.of,Ex.of,sameE,h]
 simp
theorem M2.mk (k:Int)(a b:List UInt8)(d:Int){es es':List Ex}{bs bs' ls ls':List Sm}(p p' r:Int)(h:L2 es es')(h2:B2 bs bs')(h3:B2 ls ls'):M2 (.mk k a b d es bs ls p r) (.mk k a b d es' bs' ls' p' r):=by
 rw [M2,sameM,h,h2,h3]
 simp
theorem L2.one {e e':Ex}(h:E2 e e'):L2 [e] [e']:=L2.nil.snoc h
theorem L2.two {e e' d d':Ex}(h:E2 e e')(h2:E2 d d'):L2 [e,d] [e',d']:=(L2.one h).snoc h2
section
variable {ts ts':List RT}
theorem zNT (H:Tl ts ts'){s s':Q}(h:R s s')(wd:Bool)(t:List UInt8):Qe.is ts' s' wd t = Qe.is ts s wd t:=by
 unfold Qe.is isT
 rw [← h.1,← h.2.2,(H s.k).1,(H s.k).2.1]
theorem zNO {s s':Q}(h:R s s'):R (Qe.next s) (Qe.next s'):=⟨by show inc _ = inc _; rw [h.1],h.2.1,h.2.2⟩
theorem zNU {s s':Q}(h:R s s')(e:Int):R (Qe.fail ts s e) (Qe.fail ts' s' e):=by
 unfold Qe.fail
 rw [← h.2.2]
 split
 ·exact ⟨h.1,h.2.1,rfl⟩
 ·exact h
theorem zNS (H:Tl ts ts'){s s':Q}(h:R s s')(wd:Bool)(t:List UInt8):R (Qe.take ts s wd t) (Qe.take ts' s' wd t):=by
 unfold Qe.take
 rw [zNT H h]
 split
 ·exact zNO h
 ·exact zNU h 2
theorem zNY (H:Tl ts ts'){s s':Q}(h:R s s')(t:List UInt8):R (Qe.opens ts s t) (Qe.opens ts' s' t):=by
 have h2:=zNS H h false t
 unfold Qe.opens
 rw [zNT H h,← h.2.1]
 split
 ·exact zNU h 4
 ·exact ⟨h2.1,by show inc _ = inc _; rw [h2.2.1],h2.2.2⟩
theorem zNW (H:Tl ts ts'){s s':Q}(h:R s s')(t:List UInt8):R (Qe.closes ts s t) (Qe.closes ts' s' t):=by
 have h2:=zNS H h false t
 exact ⟨h2.1,by show dec _ = dec _; rw [h2.2.1],h2.2.2⟩
theorem zNX (H:Tl ts ts'){s s':Q}(h:R s s'):(Qe.name ts' s').1 = (Qe.name ts s).1 ∧ R (Qe.name ts s).2 (Qe.name ts' s').2:=by
 unfold Qe.name
 rw [← h.2.2,← h.1,← (H s.k).1,← (H s.k).2.1]
 split
 ·exact ⟨rfl,zNO h⟩
 ·exact ⟨rfl,zNU h 2⟩
theorem zOl (H:Tl ts ts'):∀ (n:Nat){s s':Q},R s s' → (Qe.dims ts' n s').1 = (Qe.dims ts n s).1 ∧ R (Qe.dims ts n s).2 (Qe.dims ts' n s').2
 | 0,s,s',h => by
   rw [Qe.dims,Qe.dims,zNT H h]
   split
   ·exact ⟨rfl,zNU h 4⟩
   ·exact ⟨rfl,h⟩
 | n + 1,s,s',h => by
   have ih:=zOl H n (zNO h)
   rw [Qe.dims,Qe.dims,zNT H h]
   split
   ·exact ⟨by rw [ih.1],ih.2⟩
   ·exact ⟨rfl,h⟩
theorem zOz (H:Tl ts ts'){s s':Q}(h:R s s'):(Qe.base ts' s').1 = (Qe.base ts s).1 ∧ R (Qe.base ts s).2 (Qe.base ts' s').2:=by
 unfold Qe.base
 rw [zNT H h,zNT H h,← h.1,← (H s.k).2.1]
 split
 ·exact ⟨rfl,zNO h⟩
 ·exact zNX H h
theorem zOe (H:Tl ts ts'):∀ (n:Nat){s s':Q},R s s' → R (Qe.shut ts n s) (Qe.shut ts' n s')
 | 0,_,_,h => h
 | n + 1,_,_,h => zOe H n (zNS H h false [93])
theorem zOi (H:Tl ts ts'){s s':Q}(h:R s s'):(Qe.of ts' s').1 = (Qe.of ts s).1 ∧ (Qe.of ts' s').2.1 = (Qe.of ts s).2.1 ∧ R (Qe.of ts s).2.2 (Qe.of ts' s').2.2:=by
 have hd:=zOl H 3 h
 have hb:=zOz H hd.2
 unfold Qe.of
 rw [hd.1]
 split
 ·exact ⟨rfl,rfl,hd.2⟩
 ·exact ⟨hb.1,rfl,zOe H _ hb.2⟩
theorem zOv (H:Tl ts ts'){s s':Q}(h:R s s')(n:Nat):Qe.sign ts' s' n = Qe.sign ts s n:=by
 unfold Qe.sign levelT
 rw [← h.2.2,← h.1,(H s.k).1,(H s.k).2.1]
variable {rec rec':Nat → Q → Qe.Out}
theorem zN6 (H:Tl ts ts')(hr:∀ n s s',R s s' → OR E2 (rec n s) (rec' n s')){s s':Q}(h:R s s'):OR E2 (Qe.inner ts rec s) (Qe.inner ts' rec' s'):=by
 unfold Qe.inner
 obtain ⟨e1,e2⟩ | ⟨x,q,y,q',e1,e2,he,hq⟩:=(hr 0 _ _ (zNY H h [40])).elim
 ·rw [e1,e2]; trivial
 ·rw [e1,e2]; exact ⟨he,zNW H hq [41]⟩
theorem zN4 (H:Tl ts ts')(hr:∀ n s s',R s s' → OR E2 (rec n s) (rec' n s')):∀ (g:Nat){l l':List Ex}{s s':Q},L2 l l' → R s s' → OR L2 (Qe.argLoop ts rec g l s) (Qe.argLoop ts' rec' g l' s')
 | 0,_,_,_,_,_,_ => trivial
 | g + 1,l,l',s,s',hl,h => by
   rw [Qe.argLoop,Qe.argLoop,zNT H h]
   split
   ·obtain ⟨e1,e2⟩ | ⟨x,q,y,q',e1,e2,he,hq⟩:=(hr 0 _ _ (zNO h)).elim
    ·rw [e1,e2]; trivial
    ·rw [e1,e2]; exact zN4 H hr g (hl.snoc he) hq
   ·exact ⟨hl,h⟩
theorem zOA (H:Tl ts ts')(hr:∀ n s s',R s s' → OR E2 (rec n s) (rec' n s'))(g:Nat){s s':Q}(h:R s s'):OR L2 (Qe.args ts rec g s) (Qe.args ts' rec' g s'):=by
 have ho:=zNY H h [40]
 unfold Qe.args
 rw [zNT H ho]
 split
 ·exact ⟨L2.nil,zNW H ho [41]⟩
 ·obtain ⟨e1,e2⟩ | ⟨x,q,y,q',e1,e2,he,hq⟩:=(hr 0 _ _ ho).elim
  ·rw [e1,e2]; trivial
  ·rw [e1,e2]
   dsimp only
   obtain ⟨e1,e2⟩ | ⟨x,q,y,q',e1,e2,he,hq⟩:=(zN4 H hr g (L2.one he) hq).elim
   ·rw [e1,e2]; trivial
   ·rw [e1,e2]; exact ⟨he,zNW H hq [41]⟩
theorem zOq (H:Tl ts ts')(hr:∀ n s s',R s s' → OR E2 (rec n s) (rec' n s'))(p p':Int){s s':Q}(h:R s s'):OR E2 (Qe.fresh ts rec s p) (Qe.fresh ts' rec' s' p'):=by
 unfold Qe.fresh
 rw [zNT H h]
 split
 ·have ho:=zOi H (zNO h)
  dsimp only
  obtain ⟨e1,e2⟩ | ⟨x,q,y,q',e1,e2,he,hq⟩:=(zN6 H hr (zNS H ho.2.2 false [93])).elim
  ·rw [e1,e2]; trivial
  ·rw [e1,e2,ho.1,ho.2.1]; exact ⟨E2.mk _ _ _ _ _ _ _ (L2.one he),hq⟩
 ·have hn:=zNX H h
  rw [hn.1]
  exact ⟨E2.mk _ _ _ _ _ _ _ L2.nil,hn.2⟩
theorem zOr (H:Tl ts ts')(hr:∀ n s s',R s s' → OR E2 (rec n s) (rec' n s'))(g:Nat){s s':Q}(h:R s s'):OR E2 (Qe.first ts rec g s) (Qe.first ts' rec' g s'):=by
 have hn:=zNX H h
 have ho:=zOi H (zNO h)
 unfold Qe.first
 dsimp only
 rw [← h.2.2,← h.1,← (H s.k).1,← (H s.k).2.2]
 rw [zNT H h,zNT H h,zNT H h,zNT H h,zNT H h,zNT H h,zNT H h,zNT H hn.2]
 by_cases c0:s.E = 0 ∧ (tokAt ts s.k).kind = 2
 ·rw [if_pos c0,if_pos c0]
  exact ⟨E2.mk _ _ _ _ _ _ _ L2.nil,zNO h⟩
 rw [if_neg c0,if_neg c0]
 by_cases c1:Qe.is ts s true [116,114,117,101] = true
 ·rw [if_pos c1,if_pos c1]
  exact ⟨E2.mk _ _ _ _ _ _ _ L2.nil,zNO h⟩
 rw [if_neg c1,if_neg c1]
 by_cases c2:Qe.is ts s true [102,97,108,115,101] = true
 ·rw [if_pos c2,if_pos c2]
  exact ⟨E2.mk _ _ _ _ _ _ _ L2.nil,zNO h⟩
 rw [if_neg c2,if_neg c2]
 by_cases c3:Qe.is ts s true [110,117,108,108] = true
 ·rw [if_pos c3,if_pos c3]
  rw [ho.1,ho.2.1]; exact ⟨E2.mk _ _ _ _ _ _ _ L2.nil,ho.2.2⟩
 rw [if_neg c3,if_neg c3]
 by_cases c4:Qe.is ts s true [110,101,119] = true
 ·rw [if_pos c4,if_pos c4]
  exact zOq H hr _ _ (zNO h)
 rw [if_neg c4,if_neg c4]
 by_cases c5:Qe.is ts s true [108,101,110] = true
 ·rw [if_pos c5,if_pos c5]
  obtain ⟨e1,e2⟩ | ⟨x,q,y,q',e1,e2,he,hq⟩:=(zN6 H hr (zNO h)).elim
  ·rw [e1,e2]; trivial
  ·rw [e1,e2]; exact ⟨E2.mk _ _ _ _ _ _ _ (L2.one he),hq⟩
 rw [if_neg c5,if_neg c5]
 by_cases c6:Qe.is ts s true [114,101,97,100] = true
 ·rw [if_pos c6,if_pos c6]
  exact ⟨E2.mk _ _ _ _ _ _ _ L2.nil,zNW H (zNY H (zNO h) [40]) [41]⟩
 rw [if_neg c6,if_neg c6]
 by_cases c7:Qe.is ts s false [40] = true
 ·rw [if_pos c7,if_pos c7]
  exact zN6 H hr h
 rw [if_neg c7,if_neg c7]
 by_cases c8:Qe.is ts (Qe.name ts s).2 false [40] = true
 ·rw [if_pos c8,if_pos c8]
  obtain ⟨e1,e2⟩ | ⟨x,q,y,q',e1,e2,he,hq⟩:=(zOA H hr g hn.2).elim
  ·rw [e1,e2]; trivial
  ·rw [e1,e2,hn.1]; exact ⟨E2.mk _ _ _ _ _ _ _ he,hq⟩
 ·rw [if_neg c8,if_neg c8,hn.1]; exact ⟨E2.mk _ _ _ _ _ _ _ L2.nil,hn.2⟩
theorem zN1 (H:Tl ts ts')(hr:∀ n s s',R s s' → OR E2 (rec n s) (rec' n s')):∀ (g:Nat){e e':Ex}{s s':Q},E2 e e' → R s s' → OR E2 (Qe.behind ts rec g e s) (Qe.behind ts' rec' g e' s')
 | 0,_,_,_,_,_,_ => trivial
 | g + 1,e,e',s,s',he0,h => by
   rw [Qe.behind,Qe.behind,zNT H h,zNT H h]
   split
   ·have hn:=zNX H (zNO h)
    rw [hn.1]
    exact zN1 H hr g (E2.mk _ _ _ _ _ _ _ (L2.one he0)) hn.2
   split
   ·obtain ⟨e1,e2⟩ | ⟨x,q,y,q',e1,e2,he,hq⟩:=(hr 0 _ _ (zNY H h [91])).elim
    ·rw [e1,e2]; trivial
    ·rw [e1,e2]; exact zN1 H hr g (E2.mk _ _ _ _ _ _ _ (L2.two he0 he)) (zNW H hq [93])
   ·exact ⟨he0,h⟩
theorem zN0 (H:Tl ts ts')(hr:∀ n s s',R s s' → OR E2 (rec n s) (rec' n s')){s s':Q}(h:R s s')(t:List UInt8)(kd:Int):OR E2 (Qe.prefixed ts rec s t kd) (Qe.prefixed ts' rec' s' t kd):=by
 unfold Qe.prefixed
 obtain ⟨e1,e2⟩ | ⟨x,q,y,q',e1,e2,he,hq⟩:=(hr 5 _ _ (zNY H h t)).elim
 ·rw [e1,e2]; trivial
 ·rw [e1,e2]; exact ⟨E2.mk _ _ _ _ _ _ _ (L2.one he),hq.1,by show dec _ = dec _; rw [hq.2.1],hq.2.2⟩
theorem zOo (H:Tl ts ts')(hr:∀ n s s',R s s' → OR E2 (rec n s) (rec' n s'))(g:Nat){s s':Q}(h:R s s'):OR E2 (Qe.unary ts rec g s) (Qe.unary ts' rec' g s'):=by
 unfold Qe.unary
 rw [zNT H h,zNT H h]
 split
 ·exact zN0 H hr h _ _
 split
 ·exact zN0 H hr h _ _
 ·obtain ⟨e1,e2⟩ | ⟨x,q,y,q',e1,e2,he,hq⟩:=(zOr H hr g h).elim
  ·rw [e1,e2]; trivial
  ·rw [e1,e2]; exact zN1 H hr g he hq
theorem zN3 (H:Tl ts ts')(hr:∀ n s s',R s s' → OR E2 (rec n s) (rec' n s'))(n:Nat):∀ (g:Nat){e e':Ex}{s s':Q},E2 e e' → R s s' → OR E2 (Qe.binLoop ts rec n g e s) (Qe.binLoop ts' rec' n g e' s')
 | 0,_,_,_,_,_,_ => trivial
 | g + 1,e,e',s,s',he0,h => by
   rw [Qe.binLoop,Qe.binLoop,zOv H h]
   split
   ·exact ⟨he0,h⟩
   ·obtain ⟨e1,e2⟩ | ⟨x,q,y,q',e1,e2,he,hq⟩:=(hr (n + 1) _ _ (zNO h)).elim
    ·rw [e1,e2]; trivial
    ·rw [e1,e2]; exact zN3 H hr n g (E2.mk _ _ _ _ _ _ _ (L2.two he0 he)) hq
theorem run_al (H:Tl ts ts'):∀ (f n:Nat)(s s':Q),R s s' → OR E2 (Qe.run ts f n s) (Qe.run ts' f n s')
 | 0,_,_,_,_ => trivial
 | f + 1,n,s,s',h => by
   have ih:=run_al H f
   rw [Qe.run,Qe.run]
   dsimp only
   split
   ·exact zOo H ih f h
   ·obtain ⟨e1,e2⟩ | ⟨x,q,y,q',e1,e2,he,hq⟩:=(ih (n + 1) _ _ h).elim
    ·rw [e1,e2]; trivial
    ·rw [e1,e2]; exact zN3 H ih n f he hq
variable {rx rx':Qs.RX}
theorem zOc (H:Tl ts ts')(hx:∀ s s',R s s' → OR E2 (rx s) (rx' s')){s s':Q}(h:R s s'):OR M2 (Qs.declared ts rx s) (Qs.declared ts' rx' s'):=by
 have hn:=zNX H (zNO h)
 have ho:=zOi H (zNS H hn.2 false [58])
 unfold Qs.declared Qs.decl
 dsimp only
 rw [← h.1,← (H s.k).2.1,hn.1,ho.1,ho.2.1]
 split
 ·obtain ⟨e1,e2⟩ | ⟨x,q,y,q',e1,e2,he,hq⟩:=(hx _ _ (zNS H ho.2.2 false [61])).elim
  ·rw [e1,e2]; trivial
  ·rw [e1,e2]; exact ⟨M2.mk _ _ _ _ _ _ _ (L2.one he) B2.nil B2.nil,zNS H hq false [59]⟩
 ·exact ⟨M2.mk _ _ _ _ _ _ _ L2.nil B2.nil B2.nil,zNS H ho.2.2 false [59]⟩
theorem zOf (H:Tl ts ts')(hx:∀ s s',R s s' → OR E2 (rx s) (rx' s')){s s':Q}(h:R s s'):OR M2 (Qs.result ts rx s) (Qs.result ts' rx' s'):=by
 unfold Qs.result
 rw [zNT H (zNO h)]
 split
 ·exact ⟨M2.mk _ _ _ _ _ _ _ L2.nil B2.nil B2.nil,zNS H (zNO h) false [59]⟩
 ·obtain ⟨e1,e2⟩ | ⟨x,q,y,q',e1,e2,he,hq⟩:=(hx _ _ (zNO h)).elim
  ·rw [e1,e2]; trivial
  ·rw [e1,e2]; exact ⟨M2.mk _ _ _ _ _ _ _ (L2.one he) B2.nil B2.nil,zNS H hq false [59]⟩
theorem zOh (H:Tl ts ts')(hx:∀ s s',R s s' → OR E2 (rx s) (rx' s')){s s':Q}(h:R s s'):OR M2 (Qs.output ts rx s) (Qs.output ts' rx' s'):=by
 unfold Qs.output
 obtain ⟨e1,e2⟩ | ⟨x,q,y,q',e1,e2,he,hq⟩:=(hx _ _ (zNO h)).elim
 ·rw [e1,e2]; trivial
 ·rw [e1,e2]; exact ⟨M2.mk _ _ _ _ _ _ _ (L2.one he) B2.nil B2.nil,zNS H hq false [59]⟩
theorem zOy {e e':Ex}(h:E2 e e'):Ps.kindOf e' = Ps.kindOf e ∧ Ps.nameOf e' = Ps.nameOf e:=by
 obtain ⟨k,n,a,b,d,l,p,b1,r1,d1,f1⟩:=e
 obtain ⟨k',n',a',b',d',l',p',b1',r1',d1',f1'⟩:=e'
 rw [E2,sameE] at h
 simp only [Bool.and_eq_true,beq_iff_eq] at h
 exact ⟨h.1.1.1.1.1.1.symm,h.1.1.1.1.2.symm⟩
theorem zOp (H:Tl ts ts')(hx:∀ s s',R s s' → OR E2 (rx s) (rx' s'))(p p':Int){s s':Q}(h:R s s'):OR M2 (Qs.plain ts rx p s) (Qs.plain ts' rx' p' s'):=by
 unfold Qs.plain
 obtain ⟨e1,e2⟩ | ⟨x,q,y,q',e1,e2,he,hq⟩:=(hx _ _ h).elim
 ·rw [e1,e2]; trivial
 rw [e1,e2]
 have hk:=zOy he
 dsimp only
 rw [zNT H hq]
 split
 ·unfold Qs.plainPut
  rw [hk.1,hk.2]
  have hf:R (if Ps.kindOf x ≠ 4 ∧ Ps.kindOf x ≠ 5 ∧ Ps.kindOf x ≠ 6 then Qe.fail ts q 2 else q) (if Ps.kindOf x ≠ 4 ∧ Ps.kindOf x ≠ 5 ∧ Ps.kindOf x ≠ 6 then Qe.fail ts' q' 2 else q'):=by
   split
   ·exact zNU hq 2
   ·exact hq
  obtain ⟨e1,e2⟩ | ⟨z,u,z',u',e1,e2,he2,hu⟩:=(hx _ _ (zNS H hf false [61])).elim
  ·rw [e1,e2]; trivial
  ·rw [e1,e2]
   refine ⟨?_,zNS H hu false [59]⟩
   dsimp only
   split
   ·exact M2.mk _ _ _ _ _ _ _ (L2.one he2) B2.nil B2.nil
   ·exact M2.mk _ _ _ _ _ _ _ (L2.two he he2) B2.nil B2.nil
 ·unfold Qs.plainDo
  rw [hk.1,zNT H hq]
  refine ⟨M2.mk _ _ _ _ _ _ _ (L2.one he) B2.nil B2.nil,zNS H ?_ false [59]⟩
  split
  ·exact zNU hq 2
  ·exact hq
variable {rb rb':Q → Qs.OutB}
theorem zOm (H:Tl ts ts')(hx:∀ s s',R s s' → OR E2 (rx s) (rx' s'))(hb:∀ s s',R s s' → OR B2 (rb s) (rb' s')){s s':Q}(h:R s s'):OR M2 (Qs.choice ts rx rb s) (Qs.choice ts' rx' rb' s'):=by
 unfold Qs.choice
 obtain ⟨e1,e2⟩ | ⟨x,q,y,q',e1,e2,he,hq⟩:=(hx _ _ (zNO h)).elim
 ·rw [e1,e2]; trivial
 rw [e1,e2]
 dsimp only
 obtain ⟨e1,e2⟩ | ⟨l,u,l',u',e1,e2,hl,hu⟩:=(hb _ _ hq).elim
 ·rw [e1,e2]; trivial
 rw [e1,e2]
 dsimp only
 rw [zNT H hu]
 split
 ·obtain ⟨e1,e2⟩ | ⟨m,v,m',v',e1,e2,hm,hv⟩:=(hb _ _ (zNO hu)).elim
  ·rw [e1,e2]; trivial
  ·rw [e1,e2]; exact ⟨M2.mk _ _ _ _ _ _ _ (L2.one he) hl hm,hv⟩
 ·exact ⟨M2.mk _ _ _ _ _ _ _ (L2.one he) hl B2.nil,hu⟩
theorem zOx (hx:∀ s s',R s s' → OR E2 (rx s) (rx' s'))(hb:∀ s s',R s s' → OR B2 (rb s) (rb' s')){s s':Q}(h:R s s'):OR M2 (Qs.loop ts rx rb s) (Qs.loop ts' rx' rb' s'):=by
 unfold Qs.loop
 obtain ⟨e1,e2⟩ | ⟨x,q,y,q',e1,e2,he,hq⟩:=(hx _ _ (zNO h)).elim
 ·rw [e1,e2]; trivial
 rw [e1,e2]
 dsimp only
 obtain ⟨e1,e2⟩ | ⟨l,u,l',u',e1,e2,hl,hu⟩:=(hb _ _ hq).elim
 ·rw [e1,e2]; trivial
 ·rw [e1,e2]; exact ⟨M2.mk _ _ _ _ _ _ _ (L2.one he) hl B2.nil,hu⟩
theorem zOu (H:Tl ts ts')(hx:∀ s s',R s s' → OR E2 (rx s) (rx' s'))(hb:∀ s s',R s s' → OR B2 (rb s) (rb' s')){s s':Q}(h:R s s'):OR M2 (Qs.stmt ts rx rb s) (Qs.stmt ts' rx' rb' s'):=by
 unfold Qs.stmt
 rw [zNT H h,zNT H h,zNT H h,zNT H h,zNT H h,zNT H h]
 split
 ·exact zOc H hx h
 split
 ·exact zOm H hx hb h
 split
 ·exact zOx hx hb h
 split
 ·exact zOf H hx h
 split
 ·exact zOh H hx h
 ·exact zOp H hx _ _ h
variable {rs rs':Q → Qs.Out}
theorem zN7 (H:Tl ts ts')(hs:∀ s s',R s s' → OR M2 (rs s) (rs' s')):∀ (g:Nat){l l':List Sm}{s s':Q},B2 l l' → R s s' → OR B2 (Qs.stLoop ts rs g l s) (Qs.stLoop ts' rs' g l' s')
 | 0,_,_,_,_,_,_ => trivial
 | g + 1,l,l',s,s',hl,h => by
   rw [Qs.stLoop,Qs.stLoop,zNT H h,← h.2.2]
   split
   ·obtain ⟨e1,e2⟩ | ⟨x,q,y,q',e1,e2,he,hq⟩:=(hs _ _ h).elim
    ·rw [e1,e2]; trivial
    ·rw [e1,e2]; exact zN7 H hs g (hl.snoc he) hq
   ·exact ⟨hl,h⟩
theorem zOt (H:Tl ts ts')(hs:∀ s s',R s s' → OR M2 (rs s) (rs' s'))(g:Nat){s s':Q}(h:R s s'):OR B2 (Qs.block ts rs g s) (Qs.block ts' rs' g s'):=by
 unfold Qs.block
 obtain ⟨e1,e2⟩ | ⟨x,q,y,q',e1,e2,he,hq⟩:=(zN7 H hs g B2.nil (zNY H h [123])).elim
 ·rw [e1,e2]; trivial
 ·rw [e1,e2]; exact ⟨he,zNW H hq [125]⟩
theorem runs_al (H:Tl ts ts')(hx:∀ s s',R s s' → OR E2 (rx s) (rx' s')):∀ (f:Nat),(∀ s s',R s s' → OR M2 ((Qs.run ts rx f).1 s) ((Qs.run ts' rx' f).1 s')) ∧ ∀ s s',R s s' → OR B2 ((Qs.run ts rx f).2 s) ((Qs.run ts' rx' f).2 s')
 | 0 => ⟨fun _ _ _ => trivial,fun _ _ _ => trivial⟩
 | f + 1 => ⟨fun _ _ h => zOu H hx (runs_al H hx f).2 h,fun _ _ h => zOt H (runs_al H hx f).1 f h⟩
end
end Al
end Go.Proofs.YtipmjjfknhblnaaGreatDoor
