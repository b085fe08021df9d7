/-
  Both readers' tokens may stand elsewhere: what is read of to
-/
import Derived.Test.YteadgahhchlgeaaDoorK21
import Derived.Test.YteadgahhchlgeaaDoorK26
import Derived.Test.YteadgahhchlgeaaDoorK23
namespace Go.Proofs.YteadgahhchlgeaaDoor
namespace Al
open Go.RowKit
open Px (RT tokAt isT levelT)
open Qe (Q)
open Pe (Ex inc dec)
open Ps (Sm)
open Pg (Pm Rc Fc Gm)
def R (s s':Q):Prop:=s.k = s'.k ∧ s.o = s'.o ∧ s.E = s'.E
def OR {α:Type}(f : α → α → Prop)(o o':Option (α × Q)):Prop:=
 match o,o' with
 | none,none => True
 | some x,some y => f x.1 y.1 ∧ R x.2 y.2
 | _,_ => False
theorem OR.elim {α:Type}{f : α → α → Prop}{o o':Option (α × Q)}(h:OR f o o'):(o = none ∧ o' = none) ∨ ∃ x s y s',o = some (x,s) ∧ o' = some (y,s') ∧ f x y ∧ R s s':=by
 cases o with
 | none =>
   cases o' with
   | none => exact .inl ⟨rfl,rfl⟩
   | some y => exact False.elim h
 | some x =>
   cases o' with
   | none => exact False.elim h
   | some y => exact .inr ⟨x.1,x.2,y.1,y.2,rfl,rfl,h.1,h.2⟩
abbrev E2 (e e':Ex):Prop:=sameE e e' = true
abbrev L2 (l l':List Ex):Prop:=sameL l l' = true
abbrev M2 (e e':Sm):Prop:=sameM e e' = true
abbrev B2 (l l':List Sm):Prop:=sameML l l' = true
theorem L2.nil:L2 [] []:=by rw [L2,sameL]
theorem L2.snoc:∀ {l l':List Ex}{e e':Ex},L2 l l' → E2 e e' → L2 (l ++ [e]) (l' ++ [e'])
 | [],[],e,e',_,he => by rw [L2,List.nil_append,List.nil_append,sameL,he,sameL]; rfl
 | [],_ :: _,_,_,h,_ => by rw [L2,sameL] at h; · cases h
                           all_goals simp
 | _ :: _,[],_,_,h,_ => by rw [L2,sameL] at h; · cases h
                           all_goals simp
 | x :: l,y :: l',e,e',h,he => by
   rw [L2,sameL,Bool.and_eq_true] at h
   have:=L2.snoc (l:=l) (l':=l') h.2 he
   rw [L2,List.cons_append,List.cons_append,sameL,h.1,this]
   rfl
theorem B2.nil:B2 [] []:=by rw [B2,sameML]
theorem B2.snoc:∀ {l l':List Sm}{e e':Sm},B2 l l' → M2 e e' → B2 (l ++ [e]) (l' ++ [e'])
 | [],[],e,e',_,he => by rw [B2,List.nil_append,List.nil_append,sameML,he,sameML]; rfl
 | [],_ :: _,_,_,h,_ => by rw [B2,sameML] at h; · cases h
                           all_goals simp
 | _ :: _,[],_,_,h,_ => by rw [B2,sameML] at h; · cases h
                           all_goals simp
 | x :: l,y :: l',e,e',h,he => by
   rw [B2,sameML,Bool.and_eq_true] at h
   have:=B2.snoc (l:=l) (l':=l') h.2 he
   rw [B2,List.cons_append,List.cons_append,sameML,h.1,this]
   rfl
theorem E2.mk (k n:Int)(a b:List UInt8)(d:Int){l l':List Ex}(p p':Int)(h:L2 l l'):E2 (Ex.of k n a b d l p) (Ex.of k n a b d l' p'):=by
 rw [E2,Ex.of,Ex.of,sameE,h]
 simp
theorem M2.mk (k:Int)(a b:List UInt8)(d:Int){es es':List Ex}{bs bs' ls ls':List Sm}(p p' r:Int)(h:L2 es es')(h2:B2 bs bs')(h3:B2 ls ls'):M2 (.mk k a b d es bs ls p r) (.mk k a b d es' bs' ls' p' r):=by
 rw [M2,sameM,h,h2,h3]
 simp
theorem L2.one {e e':Ex}(h:E2 e e'):L2 [e] [e']:=L2.nil.snoc h
theorem L2.two {e e' d d':Ex}(h:E2 e e')(h2:E2 d d'):L2 [e,d] [e',d']:=(L2.one h).snoc h2
section
variable {ts ts':List RT}
variable {rec rec':Nat → Q → Qe.Out}
variable {rx rx':Qs.RX}
theorem zCx {e e':Ex}(h:E2 e e'):Ps.kindOf e' = Ps.kindOf e ∧ Ps.nameOf e' = Ps.nameOf e:=by
 obtain ⟨k,n,a,b,d,l,p,b1,r1,d1,f1⟩:=e
 obtain ⟨k',n',a',b',d',l',p',b1',r1',d1',f1'⟩:=e'
 rw [E2,sameE] at h
 simp only [Bool.and_eq_true,beq_iff_eq] at h
 exact ⟨h.1.1.1.1.1.1.symm,h.1.1.1.1.2.symm⟩
variable {rb rb':Q → Qs.OutB}
variable {rs rs':Q → Qs.Out}
end
end Al
namespace Rt
open Go.RowKit
open Px (RT tokAt isT levelT signsOf)
open Qe (Q)
open Pe (Ex inc dec)
open Al (E2 L2)
abbrev PT:=Int × List UInt8 × Int
def sg (t:List UInt8):PT:=(4,t,0)
def wd (t:List UInt8):PT:=(3,t,0)
def nm (t:List UInt8):PT:=(1,t,0)
def nu (n:Int):PT:=(2,[],n)
def Is (ts:List RT)(k:Nat)(p:PT):Prop:=(tokAt ts k).kind = p.1 ∧ (tokAt ts k).text = p.2.1 ∧ (tokAt ts k).num = p.2.2
theorem n1:(1:Int) ≠ 0:=by decide
theorem n2:(2:Int) ≠ 0:=by decide
theorem n3:(3:Int) ≠ 0:=by decide
theorem n4:(4:Int) ≠ 0:=by decide
theorem n13:(1:Int) ≠ 3:=by decide
theorem n14:(1:Int) ≠ 4:=by decide
theorem n34:(3:Int) ≠ 4:=by decide
theorem n43:(4:Int) ≠ 3:=by decide
theorem n23:(2:Int) ≠ 3:=by decide
theorem n24:(2:Int) ≠ 4:=by decide
def Has (ts:List RT):Nat → List PT → Prop
 | _,[] => True
 | k,p :: l => Is ts k p ∧ Has ts (k + 1) l
theorem Has.app {ts:List RT}:∀ {a:List PT}{k:Nat}{b:List PT},Has ts k (a ++ b) → Has ts k a ∧ Has ts (k + a.length) b
 | [],k,b,h => ⟨trivial,h⟩
 | p :: a,k,b,h => by
   have:=Has.app (a:=a) (k:=k + 1) h.2
   refine ⟨⟨h.1,this.1⟩,?_⟩
   rw [List.length_cons,show k + (a.length + 1) = k + 1 + a.length by omega]
   exact this.2
def st (k o:Nat):Q:=⟨k,o,0,0⟩
section
variable {ts:List RT}
theorem zSx {k:Nat}{p:PT}(h:Is ts k p)(hp:p.1 ≠ 0):k < ts.length:=by
 by_cases hk:k < ts.length
 ·exact hk
 ·have:=h.1
  rw [Px.tokAt_out (by omega)] at this
  exact absurd this.symm hp
theorem zW (hts:ts.length ≤ 900000000){k o:Nat}{p:PT}(h:Is ts k p)(hp:p.1 ≠ 0):Qe.next (st k o) = st (k + 1) o:=by
 have:=zSx h hp
 show (⟨inc (k:Int),o,0,0⟩:Q) = ⟨((k + 1:Nat):Int),o,0,0⟩
 have:inc (k:Int) = ((k + 1:Nat):Int):=by unfold inc; simp [wrap64]; omega
 rw [this]
theorem zA5 {k o:Nat}{t:List UInt8}(h:Is ts k (sg t))(t2:List UInt8):Qe.is ts (st k o) false t2 = (t == t2):=by
 show ((0:Int) == 0 && isT ts k false t2) = _
 unfold isT
 rw [h.1,h.2.1]
 simp [sg]
theorem zP {k o:Nat}{t:List UInt8}(h:Is ts k (wd t))(t2:List UInt8):Qe.is ts (st k o) true t2 = (t == t2):=by
 show ((0:Int) == 0 && isT ts k true t2) = _
 unfold isT
 rw [h.1,h.2.1]
 simp [wd]
theorem zA8 {k o:Nat}{p:PT}(h:Is ts k p)(b:Bool)(hp:p.1 ≠ if b then 3 else 4)(t:List UInt8):Qe.is ts (st k o) b t = false:=by
 show ((0:Int) == 0 && isT ts k b t) = false
 unfold isT
 rw [h.1,decide_eq_false hp]
 rfl
theorem zAa (hts:ts.length ≤ 900000000){k o:Nat}{t:List UInt8}(h:Is ts k (sg t)):Qe.take ts (st k o) false t = st (k + 1) o:=by
 unfold Qe.take
 rw [zA5 h,beq_self_eq_true,if_pos rfl]
 exact zW hts h n4
theorem zBl (hts:ts.length ≤ 900000000){k o:Nat}{t:List UInt8}(h:Is ts k (sg t))(ho:o < 50):Qe.opens ts (st k o) t = st (k + 1) (o + 1):=by
 unfold Qe.opens
 rw [show decide ((50:Int) ≤ (st k o).o) = false from decide_eq_false (by show ¬ (50:Int) ≤ (o:Int); omega),Bool.and_false,if_neg (by decide),zAa hts h]
 have:inc (o:Int) = ((o + 1:Nat):Int):=by unfold inc; simp [wrap64]; omega
 show (⟨((k + 1:Nat):Int),inc (o:Int),0,0⟩:Q) = _
 rw [this]
 rfl
theorem zNb {o:Nat}(ho:o < 50):dec ((o + 1:Nat):Int) = (o:Int):=by unfold dec; simp [wrap64]; omega
theorem zBf (hts:ts.length ≤ 900000000){k o:Nat}{t:List UInt8}(h:Is ts k (sg t))(ho:o < 50):Qe.closes ts (st k (o + 1)) t = st (k + 1) o:=by
 unfold Qe.closes
 rw [zAa hts h]
 show (⟨((k + 1:Nat):Int),dec ((o + 1:Nat):Int),0,0⟩:Q) = _
 rw [zNb ho]
 rfl
theorem zBO (hts:ts.length ≤ 900000000){k o:Nat}{t:List UInt8}(h:Is ts k (nm t)):Qe.name ts (st k o) = (t,st (k + 1) o):=by
 unfold Qe.name
 rw [if_pos ⟨rfl,h.1⟩,zW hts h n1]
 show ((tokAt ts k).text,_) = _
 rw [h.2.1]
 rfl
def word (t:List UInt8):PT:=if t = [105,110,116] ∨ t = [98,111,111,108] then wd t else nm t
def tyT (t:List UInt8)(d:Nat):List PT:=List.replicate d (sg [91]) ++ [word t] ++ List.replicate d (sg [93])
theorem zKW (hts:ts.length ≤ 900000000){k o:Nat}{t:List UInt8}(h:Is ts k (word t)):Qe.base ts (st k o) = (t,st (k + 1) o):=by
 unfold Qe.base
 unfold word at h
 by_cases ht:t = [105,110,116] ∨ t = [98,111,111,108]
 ·rw [if_pos ht] at h
  rw [zP h,zP h]
  have hb:(t == [105,110,116] || t == [98,111,111,108]) = true:=by rcases ht with rfl | rfl <;> rfl
  rw [hb,if_pos rfl,zW hts h n3]
  show ((tokAt ts k).text,_) = _
  rw [h.2.1]
  rfl
 ·rw [if_neg ht] at h
  rw [zA8 h true n13,zA8 h true n13,Bool.or_false,if_neg (by decide)]
  exact zBO hts h
theorem zHb (hts:ts.length ≤ 900000000):∀ (d:Nat){k o:Nat},Has ts k (List.replicate d (sg [93])) → Qe.shut ts d (st k o) = st (k + d) o
 | 0,_,_,_ => rfl
 | d + 1,k,o,h => by
   rw [List.replicate_succ] at h
   rw [Qe.shut,zAa hts h.1,zHb hts d h.2,show k + 1 + d = k + (d + 1) by omega]
theorem zHr {k o:Nat}{t:List UInt8}(h:Is ts k (word t)):Qe.is ts (st k o) false [91] = false:=by
 unfold word at h
 split at h
 ·exact zA8 h false n34 _
 ·exact zA8 h false n14 _
theorem zHL (hts:ts.length ≤ 900000000):∀ (d n:Nat){k o:Nat}{t:List UInt8},d ≤ n → Has ts k (List.replicate d (sg [91]) ++ [word t]) → Qe.dims ts n (st k o) = (some d,st (k + d) o)
 | 0,0,k,o,t,_,h => by rw [Qe.dims,zHr h.1,if_neg (by decide)]; rfl
 | 0,n + 1,k,o,t,_,h => by rw [Qe.dims,zHr h.1,if_neg (by decide)]; rfl
 | d + 1,0,_,_,_,hd,_ => absurd hd (by omega)
 | d + 1,n + 1,k,o,t,hd,h => by
   rw [List.replicate_succ,List.cons_append] at h
   rw [Qe.dims,zA5 h.1,beq_self_eq_true,if_pos rfl,zW hts h.1 n4,zHL hts d n (by omega) h.2,show k + 1 + d = k + (d + 1) by omega]
   rfl
theorem zEu (hts:ts.length ≤ 900000000){k o:Nat}{t:List UInt8}{d:Nat}(hd:d ≤ 3)(h:Has ts k (tyT t d)):Qe.of ts (st k o) = (t,d,st (k + (tyT t d).length) o):=by
 unfold tyT at h ⊢
 have h1:=h.app
 have h2:=h1.1.app
 rw [List.length_append,List.length_replicate,List.length_singleton] at h1
 rw [List.length_replicate] at h2
 unfold Qe.of
 rw [zHL hts d 3 hd h1.1]
 dsimp only
 rw [zKW hts h2.2.1]
 dsimp only
 rw [zHb hts d (by rw [show k + d + 1 = k + (d + 1) by omega]; exact h1.2)]
 simp only [List.length_append,List.length_replicate,List.length_singleton]
 rw [show k + d + 1 + d = k + (d + 1 + d) by omega]
end
end Rt
namespace Rt
open Go.RowKit
open Px (RT tokAt isT levelT signsOf)
open Qe (Q)
open Pe (Ex inc dec)
open Al (E2 L2)
mutual
inductive EP:Ex → Nat → Nat → List PT → Prop
 | num (n a:Int):EP (Ex.of 1 n [] [] 0 [] a) 7 0 [nu n]
 | tru (a:Int):EP (Ex.of 2 1 [] [] 0 [] a) 7 0 [wd [116,114,117,101]]
 | fls (a:Int):EP (Ex.of 2 0 [] [] 0 [] a) 7 0 [wd [102,97,108,115,101]]
 | null (t:List UInt8) (d:Nat) (a:Int) (hd:d ≤ 3):EP (Ex.of 3 0 [] t d [] a) 7 0 (wd [110,117,108,108] :: tyT t d)
 | var (t:List UInt8) (a:Int):EP (Ex.of 4 0 t [] 0 [] a) 7 0 [nm t]
 | field (x:Ex) (d:Nat) (l:List PT) (t:List UInt8) (a:Int) (h:EW 7 x d l):EP (Ex.of 5 0 t [] 0 [x] a) 7 d (l ++ [sg [46],nm t])
 | item (x:Ex) (d:Nat) (l:List PT) (i:Ex) (d2:Nat) (l2:List PT) (a:Int) (h:EW 7 x d l) (h2:EW 1 i d2 l2):EP (Ex.of 6 0 [] [] 0 [x,i] a) 7 (max d (d2 + 1)) (l ++ (sg [91] :: (l2 ++ [sg [93]])))
 | call0 (t:List UInt8) (a:Int):EP (Ex.of 7 0 t [] 0 [] a) 7 1 [nm t,sg [40],sg [41]]
 | call (t:List UInt8) (a:Int) (x:Ex) (d:Nat) (l:List PT) (xs:List Ex) (d2:Nat) (l2:List PT) (h:EW 1 x d l) (h2:EM xs d2 l2):EP (Ex.of 7 0 t [] 0 (x :: xs) a) 7 (max d d2 + 1) (nm t :: sg [40] :: (l ++ (l2 ++ [sg [41]])))
 | new (t:List UInt8) (a:Int):EP (Ex.of 8 0 [] t 0 [] a) 7 0 [wd [110,101,119],nm t]
 | make (t:List UInt8) (d:Nat) (x:Ex) (dx:Nat) (l:List PT) (a:Int) (hd:d ≤ 3) (h:EW 1 x dx l):EP (Ex.of 9 0 [] t d [x] a) 7 (dx + 1) (wd [110,101,119] :: sg [91] :: (tyT t d ++ (sg [93] :: sg [40] :: (l ++ [sg [41]]))))
 | len (x:Ex) (d:Nat) (l:List PT) (a:Int) (h:EW 1 x d l):EP (Ex.of 10 0 [] [] 0 [x] a) 7 (d + 1) (wd [108,101,110] :: sg [40] :: (l ++ [sg [41]]))
 | read (a:Int):EP (Ex.of 11 0 [] [] 0 [] a) 7 1 [wd [114,101,97,100],sg [40],sg [41]]
 | neg (x:Ex) (d:Nat) (l:List PT) (a:Int) (h:EW 6 x d l):EP (Ex.of 12 0 [] [] 0 [x] a) 6 (d + 1) (sg [45] :: l)
 | not (x:Ex) (d:Nat) (l:List PT) (a:Int) (h:EW 6 x d l):EP (Ex.of 13 0 [] [] 0 [x] a) 6 (d + 1) (sg [33] :: l)
 | bin (n:Nat) (t:List UInt8) (kind:Int) (x:Ex) (d:Nat) (l:List PT) (y:Ex) (d2:Nat) (l2:List PT) (a:Int) (hs:(t,kind) ∈ signsOf n) (h:EW (n + 1) x d l) (h2:EW (n + 2) y d2 l2):EP (Ex.of kind 0 [] [] 0 [x,y] a) (n + 1) (max d d2) (l ++ (sg t :: l2))
inductive EW:Nat → Ex → Nat → List PT → Prop
 | bare (n:Nat) (e:Ex) (lv d:Nat) (l:List PT) (h:EP e lv d l) (hn:n ≤ lv):EW n e d l
 | par (n:Nat) (e:Ex) (lv d:Nat) (l:List PT) (h:EP e lv d l) (hn:lv < n):EW n e (d + 1) (sg [40] :: (l ++ [sg [41]]))
inductive EM:List Ex → Nat → List PT → Prop
 | nil:EM [] 0 []
 | cons (x:Ex) (d:Nat) (l:List PT) (xs:List Ex) (d2:Nat) (l2:List PT) (h:EW 1 x d l) (h2:EM xs d2 l2):EM (x :: xs) (max d d2) (sg [44] :: (l ++ l2))
end
def Stop (ts:List RT)(n k:Nat):Prop:=(∀ t,t = [46] ∨ t = [91] ∨ t = [40] → ¬ ((tokAt ts k).kind = 4 ∧ (tokAt ts k).text = t)) ∧ ∀ m,n ≤ m → levelT m (tokAt ts k) = 0
def NoPar (ts:List RT)(k:Nat):Prop:=¬ ((tokAt ts k).kind = 4 ∧ (tokAt ts k).text = [40])
theorem Stop.mono {ts:List RT}{n m k:Nat}(h:Stop ts n k)(hn:n ≤ m):Stop ts m k:=⟨h.1,fun j hj => h.2 j (by omega)⟩
theorem Stop.noPar {ts:List RT}{n k:Nat}(h:Stop ts n k):NoPar ts k:=h.1 _ (.inr (.inr rfl))
theorem zCh {ts:List RT}{k o:Nat}{t:List UInt8}(h:¬ ((tokAt ts k).kind = 4 ∧ (tokAt ts k).text = t)):Qe.is ts (st k o) false t = false:=by
 show ((0:Int) == 0 && isT ts k false t) = false
 unfold isT
 by_cases hk:(tokAt ts k).kind = 4
 ·have:((tokAt ts k).text == t) = false:=by simpa using fun hh => h ⟨hk,hh⟩
  rw [this,Bool.and_false,Bool.and_false]
 ·rw [show (if false = true then (3:Int) else 4) = 4 from rfl,decide_eq_false hk]; rfl
theorem Stop.sign {ts:List RT}{n k o m:Nat}(h:Stop ts n k)(hn:n ≤ m):Qe.sign ts (st k o) m = 0:=by
 exact (if_pos rfl).trans (h.2 m hn)
theorem zI6 {ts:List RT}{k n:Nat}{t:List UInt8}(h:Is ts k (sg t))(h1:t ≠ [46] ∧ t ≠ [91] ∧ t ≠ [40])(h2:∀ m,n ≤ m → (signsOf m).find? (fun p => p.1 == t) = none):Stop ts n k:=by
 refine ⟨fun u hu hh => ?_,fun m hm => ?_⟩
 ·have ht:t = u:=h.2.1.symm.trans hh.2
  rcases hu with rfl | rfl | rfl
  ·exact h1.1 ht
  ·exact h1.2.1 ht
  ·exact h1.2.2 ht
 ·unfold levelT
  rw [if_pos (show (tokAt ts k).kind = 4 from h.1),show (tokAt ts k).text = t from h.2.1,h2 m hm]
  rfl
theorem zCb {ts:List RT}{k:Nat}{t:List UInt8}(h:Is ts k (sg t))(ht:t ∈ [[41],[93],[44],[59],[61],[123]])(n:Nat):Stop ts n k:=by
 have hm:∀ m,(signsOf m).find? (fun p => p.1 == t) = none:=by
  intro m
  simp only [List.mem_cons,List.not_mem_nil,or_false] at ht
  match m with
  | 0 => rcases ht with rfl | rfl | rfl | rfl | rfl | rfl <;> rfl
  | 1 => rcases ht with rfl | rfl | rfl | rfl | rfl | rfl <;> rfl
  | 2 => rcases ht with rfl | rfl | rfl | rfl | rfl | rfl <;> rfl
  | 3 => rcases ht with rfl | rfl | rfl | rfl | rfl | rfl <;> rfl
  | 4 => rcases ht with rfl | rfl | rfl | rfl | rfl | rfl <;> rfl
  | m + 5 => rfl
 refine zI6 h ?_ fun m _ => hm m
 simp only [List.mem_cons,List.not_mem_nil,or_false] at ht
 rcases ht with rfl | rfl | rfl | rfl | rfl | rfl <;> decide
theorem zBK {n:Nat}{t:List UInt8}{kind:Int}(hs:(t,kind) ∈ signsOf n):n < 5 ∧ ((signsOf n).find? (fun p => p.1 == t)).elim 0 (·.2) = kind ∧ kind ≠ 0 ∧ (t ≠ [46] ∧ t ≠ [91] ∧ t ≠ [40]) ∧ ∀ m,n + 1 ≤ m → (signsOf m).find? (fun p => p.1 == t) = none:=by
 have tall:∀ m,5 ≤ m → signsOf m = []:=fun m hm => by
  match m,hm with
  | m + 5,_ => rfl
 have h5:n < 5:=by
  by_cases h:n < 5
  ·exact h
  ·rw [tall n (by omega)] at hs; cases hs
 refine ⟨h5,?_⟩
 have key:∀ n,n < 5 → ∀ p ∈ signsOf n,((signsOf n).find? (fun q => q.1 == p.1)).elim 0 (·.2) = p.2 ∧ p.2 ≠ 0 ∧ (p.1 ≠ [46] ∧ p.1 ≠ [91] ∧ p.1 ≠ [40]) ∧ ∀ m,m < 5 → n + 1 ≤ m → (signsOf m).find? (fun q => q.1 == p.1) = none:=by decide
 have:=key n h5 _ hs
 refine ⟨this.1,this.2.1,this.2.2.1,fun m hm => ?_⟩
 by_cases h:m < 5
 ·exact this.2.2.2 m h hm
 ·rw [tall m (by omega)]; rfl
section
variable (ts:List RT)
def RD (n:Nat)(e:Ex)(k o k':Nat):Prop:=∃ e' f0,E2 e e' ∧ ∀ f,f0 ≤ f → Qe.run ts f n (st k o) = some (e',st k' o)
def BH (e:Ex)(k o k':Nat):Prop:=∃ e' f0 c,c < f0 ∧ E2 e e' ∧ ∀ f,f0 ≤ f → Qe.unary ts (Qe.run ts f) f (st k o) = Qe.behind ts (Qe.run ts f) (f - c) e' (st k' o)
def UN (e:Ex)(k o k':Nat):Prop:=∃ e' f0,E2 e e' ∧ ∀ f,f0 ≤ f → Qe.unary ts (Qe.run ts f) f (st k o) = some (e',st k' o)
def BL (n:Nat)(e:Ex)(k o k':Nat):Prop:=∃ e' f0 c,c < f0 ∧ E2 e e' ∧ ∀ f,f0 ≤ f → Qe.run ts (f + 1) n (st k o) = Qe.binLoop ts (Qe.run ts f) n (f - c) e' (st k' o)
def Head (l:List PT):Prop:=∃ p r,l = p :: r ∧ p.1 ≠ 0 ∧ (p.1 ≠ 4 ∨ p.2.1 = [40] ∨ p.2.1 = [45] ∨ p.2.1 = [33])
def M1 (e:Ex)(lv d:Nat)(l:List PT):Prop:=Head l ∧ 1 ≤ lv ∧ ∀ k o,Has ts k l → d + o ≤ 50 →
 (lv = 7 → NoPar ts (k + l.length) → BH ts e k o (k + l.length)) ∧ (lv = 6 → Stop ts 5 (k + l.length) → UN ts e k o (k + l.length)) ∧
 (∀ n,n < 5 → lv = n + 1 → Stop ts (n + 1) (k + l.length) → BL ts n e k o (k + l.length)) ∧ lv ≤ 7
def M2 (n':Nat)(e:Ex)(d:Nat)(l:List PT):Prop:=Head l ∧ ∀ k o,Has ts k l → d + o ≤ 50 →
 (n' = 7 → NoPar ts (k + l.length) → BH ts e k o (k + l.length)) ∧ (∀ n,n ≤ 5 → n' = n + 1 → Stop ts n (k + l.length) → RD ts n e k o (k + l.length)) ∧
 (∀ n,n < 5 → n' = n + 1 → Stop ts (n + 1) (k + l.length) → BL ts n e k o (k + l.length))
def M3 (xs:List Ex)(d:Nat)(l:List PT):Prop:=∀ k o acc acc',L2 acc acc' → Has ts k (l ++ [sg [41]]) → d + o ≤ 50 →
 ∃ ys f0,L2 (acc ++ xs) ys ∧ ∀ f,f0 ≤ f → ∀ g,f0 ≤ g → Qe.argLoop ts (Qe.run ts f) g acc' (st k o) = some (ys,st (k + l.length) o)
end
section
variable {ts:List RT}
theorem zOS {e:Ex}{k o k':Nat}(h:BH ts e k o k')(hs:Stop ts 5 k'):UN ts e k o k':=by
 obtain ⟨e',f0,c,hc,he,hf⟩:=h
 refine ⟨e',f0,he,fun f hh => ?_⟩
 rw [hf f hh,show f - c = (f - c - 1) + 1 by omega,Qe.behind,zCh (hs.1 _ (.inl rfl)),zCh (hs.1 _ (.inr (.inl rfl))),if_neg (by decide),if_neg (by decide)]
theorem zK9 {e:Ex}{k o k':Nat}(h:UN ts e k o k'):RD ts 5 e k o k':=by
 obtain ⟨e',f0,he,hf⟩:=h
 refine ⟨e',f0 + 1,he,fun f hh => ?_⟩
 rw [show f = (f - 1) + 1 by omega,Qe.run]
 exact hf (f - 1) (by omega)
theorem zOd {n:Nat}{e:Ex}{k o k':Nat}(hn:n < 5)(h:RD ts (n + 1) e k o k'):BL ts n e k o k':=by
 obtain ⟨e',f0,he,hf⟩:=h
 refine ⟨e',f0 + 1,0,by omega,he,fun f hh => ?_⟩
 rw [Qe.run]
 dsimp only
 rw [if_neg (by omega),hf f (by omega)]
 rfl
theorem zRd {n:Nat}{e:Ex}{k o k':Nat}(h:BL ts n e k o k')(hs:Stop ts n k'):RD ts n e k o k':=by
 obtain ⟨e',f0,c,hc,he,hf⟩:=h
 refine ⟨e',f0 + 1,he,fun f hh => ?_⟩
 rw [show f = (f - 1) + 1 by omega,hf (f - 1) (by omega),show f - 1 - c = (f - 1 - c - 1) + 1 by omega,Qe.binLoop,hs.sign (Nat.le_refl _),if_pos rfl]
theorem down {e:Ex}{k o k':Nat}:∀ (j n:Nat),n + j ≤ 5 → RD ts (n + j) e k o k' → Stop ts n k' → RD ts n e k o k'
 | 0,_,_,h,_ => h
 | j + 1,n,hn,h,hs => zRd (zOd (by omega) (down j (n + 1) (by omega) (by rw [show n + 1 + j = n + (j + 1) by omega]; exact h) (hs.mono (by omega)))) hs
theorem zGX {e:Ex}{lv d:Nat}{l:List PT}(h:M1 ts e lv d l){k o:Nat}(hk:Has ts k l)(ho:d + o ≤ 50){n:Nat}(hn:n ≤ 5)(hv:n + 1 ≤ lv)(hs:Stop ts n (k + l.length)):RD ts n e k o (k + l.length):=by
 obtain ⟨-,h1,h2⟩:=h
 obtain ⟨ha,hb,hc,h7⟩:=h2 k o hk ho
 by_cases e7:lv = 7
 ·exact down (5 - n) n (by omega) (by rw [show n + (5 - n) = 5 by omega]; exact zK9 (zOS (ha e7 hs.noPar) (hs.mono hn))) hs
 by_cases e6:lv = 6
 ·exact down (5 - n) n (by omega) (by rw [show n + (5 - n) = 5 by omega]; exact zK9 (hb e6 (hs.mono hn))) hs
 ·have hl:lv - 1 < 5:=by omega
  have:=zRd (hc (lv - 1) hl (by omega) (hs.mono (by omega))) (hs.mono (by omega))
  exact down (lv - 1 - n) n (by omega) (by rw [show n + (lv - 1 - n) = lv - 1 by omega]; exact this) hs
theorem zQg (hts:ts.length ≤ 900000000){e:Ex}{lv d:Nat}{l:List PT}(h:M1 ts e lv d l){k o:Nat}(hk:Has ts k (sg [40] :: (l ++ [sg [41]])))(ho:d + 1 + o ≤ 50):BH ts e k o (k + (sg [40] :: (l ++ [sg [41]])).length):=by
 have ha:=hk.2.app
 obtain ⟨e',f0,he,hf⟩:=zGX h ha.1 (o:=o + 1) (by omega) (n:=0) (by omega) h.2.1 (zCb ha.2.1 (by decide) 0)
 refine ⟨e',f0 + 1,0,by omega,he,fun f hh => ?_⟩
 have h40:=zA5 (o:=o) hk.1
 unfold Qe.unary Qe.first Qe.inner
 dsimp only
 rw [h40,h40,h40,if_neg (by decide),if_neg (by decide),if_neg (fun hc => by have:=hk.1.1.symm.trans hc.2; exact absurd this (by decide))]
 simp only [zA8 (o:=o) hk.1 true n43,Bool.false_eq_true,if_false]
 rw [if_pos (by decide),zBl hts hk.1 (by omega),hf f (by omega)]
 dsimp only
 rw [zBf hts ha.2.1 (by omega)]
 simp only [List.length_cons,List.length_append]
 rw [show k + 1 + l.length + 1 = k + (l.length + 1 + 1) by omega,Nat.sub_zero]
 rfl
theorem zKg {n:Nat}{e:Ex}{lv d:Nat}{l:List PT}(hn:n ≤ lv)(h:M1 ts e lv d l):M2 ts n e d l:=by
 refine ⟨h.1,fun k o hk ho => ?_⟩
 have h2:=h.2.2 k o hk ho
 refine ⟨fun h7 => h2.1 (by have:=h2.2.2.2; omega),fun m hm he hs => zGX h hk ho hm (by omega) hs,fun m hm he hs => ?_⟩
 by_cases hl:lv = m + 1
 ·exact h2.2.2.1 m hm hl hs
 ·exact zOd hm (zGX h hk ho (by omega) (by omega) hs)
theorem zM3 (hts:ts.length ≤ 900000000){n:Nat}{e:Ex}{lv d:Nat}{l:List PT}(h:M1 ts e lv d l):M2 ts n e (d + 1) (sg [40] :: (l ++ [sg [41]])):=by
 refine ⟨⟨_,_,rfl,n4,.inr (.inl rfl)⟩,fun k o hk ho => ?_⟩
 have hb:=zQg hts h hk ho
 refine ⟨fun _ _ => hb,fun m hm he hs => ?_,fun m hm he hs => ?_⟩
 ·exact down (5 - m) m (by omega) (by rw [show m + (5 - m) = 5 by omega]; exact zK9 (zOS hb (hs.mono hm))) hs
 ·exact zOd hm (down (5 - (m + 1)) (m + 1) (by omega) (by rw [show m + 1 + (5 - (m + 1)) = 5 by omega]; exact zK9 (zOS hb (hs.mono (by omega)))) hs)
end
end Rt
open Go.RowKit
open Px (RT tokAt)
open Ps (Sm PX)
open Pg (BX Pm Rc Fc Gm)
theorem zNS (ts:List RT)(f:Nat)(hf:f ≤ 900000000)(he:Sim.enough ts ≤ 900000000):QBlOk ts (Qs.run ts (Sim.rx ts) f).2:=
 (zJE (zSo ts (Sim.enough ts) (by omega)) f (by omega)).2
theorem zCD (s:ByteArray)(hs:s.size ≤ maxLen)(w:World):Calls Tryd.prog 7 #[.string s] w (PaPost w (answer s.data.toList)):=by
 obtain ⟨us,E,K,h⟩:∃ us E K,Ln.Lx.toks s.data.toList = (us,E,K):=⟨_,_,_,rfl⟩
 have hl:=Ln.Lx.toks_len s.data.toList
 unfold answer
 rw [h] at hl ⊢
 dsimp only at hl ⊢
 by_cases hE:E = 0
 ·subst hE
  rw [if_pos rfl]
  obtain ⟨x,h1,h2⟩:=Sim.prog_same (ts:=us.map toRT) (by rw [List.length_map]; omega) (zDx hl) (zEG hl)
  have he:Sim.enough (us.map toRT) ≤ 900000000:=by rw [zBr]; unfold fuelOf; omega
  have h3:runOf us = some x:=by rw [zBr] at h1; exact h1
  rw [h3]
  exact zLo s hs us K h w (us.map toRT) rfl _ (zNS _ _ he he) _ he x h2
 ·rw [if_neg hE]
  exact zJG s hs us E K h hE w
end Go.Proofs.YteadgahhchlgeaaDoor
namespace Go.Proofs.YteadgahhchlgeaaDoor
namespace Al
open Go.RowKit
open Px (RT tokAt isT levelT)
open Qe (Q)
open Pe (Ex inc dec)
open Ps (Sm)
open Pg (Pm Rc Fc Gm)
abbrev S2 {α:Type}(f : α → α → Bool)(l l':List α):Prop:=sameLs f l l' = true
theorem S2.nil {α:Type}{f : α → α → Bool}:S2 f [] []:=by rw [S2,sameLs]
theorem S2.len {α:Type}{f : α → α → Bool}{l l':List α}(h:S2 f l l'):l'.length = l.length:=by
 by_cases hl:l.length = l'.length
 ·exact hl.symm
 ·rw [S2,zEf l l' hl] at h; cases h
theorem S2.snoc {α:Type}{f : α → α → Bool}:∀ {l l':List α}{e e' : α},S2 f l l' → f e e' = true → S2 f (l ++ [e]) (l' ++ [e'])
 | [],[],e,e',_,he => by rw [S2,List.nil_append,List.nil_append,sameLs,he,sameLs]; rfl
 | [],_ :: _,_,_,h,_ => by have:=h.len; cases this
 | _ :: _,[],_,_,h,_ => by have:=h.len; cases this
 | x :: l,y :: l',e,e',h,he => by
   rw [S2,sameLs,Bool.and_eq_true] at h
   have:=S2.snoc (l:=l) (l':=l') h.2 he
   rw [S2,List.cons_append,List.cons_append,sameLs,h.1,this]
   rfl
def G2 (p p':Gm):Prop:=S2 sameR p.recs p'.recs ∧ S2 sameP p.globals p'.globals ∧ S2 sameF p.funcs p'.funcs
theorem G2.same {p p':Gm}(h:G2 p p'):sameG p p' = true:=by
 unfold sameG
 rw [h.1,h.2.1,h.2.2]
 rfl
section
variable {ts ts':List RT}
variable {rb rb':Q → Qs.OutB}
end
open Ln.Lx (Tk lexF skipS toks lexAll one)
def up (t:Tk):Tk:=⟨t.kind,t.text,t.num,t.at_ + 2⟩
end Al
open Pg (Gm)
end Go.Proofs.YteadgahhchlgeaaDoor
