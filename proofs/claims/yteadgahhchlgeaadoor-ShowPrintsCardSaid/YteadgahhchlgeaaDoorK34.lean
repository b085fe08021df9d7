/-
  The text that is printed of an expression: its tokens are th
-/
import Derived.Test.YteadgahhchlgeaaDoorK33
namespace Go.Proofs.YteadgahhchlgeaaDoor
namespace Rt
open Go.RowKit
open Go.Lib (decDigits)
open Px (RT tokAt isT levelT signsOf)
open Qe (Q)
open Pe (Ex inc dec)
open Ps (Sm kindOf nameOf)
open Pg (Pm Rc Fc Gm)
open Ln.Lx (alnB)
def lvl (k:Int):Nat:=
 if k = 24 then 1 else if k = 23 then 2 else if 19 ≤ k ∧ k ≤ 22 then 3 else if k = 14 ∨ k = 15 then 4 else if 16 ≤ k ∧ k ≤ 18 then 5 else if k = 12 ∨ k = 13 then 6 else 7
def opT (k:Int):List UInt8:=(([[43],[45],[42],[47],[37],[60],[60,61],[61,61],[33,61],[38,38],[124,124]]:List (List UInt8))[(k - 14).toNat]?).getD []
def prW (n:Nat)(x:Nat × List UInt8):List UInt8:=if x.1 < n then 40 :: (x.2 ++ [41]) else x.2
def kd (ks:List (Nat × List UInt8))(i:Nat):Nat × List UInt8:=(ks[i]?).getD (0,[])
def prM:List (Nat × List UInt8) → List UInt8
 | [] => []
 | x :: l => 44 :: 32 :: (x.2 ++ prM l)
def prA:List (Nat × List UInt8) → List UInt8
 | [] => []
 | x :: l => x.2 ++ prM l
def prOf (k n:Int)(name o:List UInt8)(d:Int)(ks:List (Nat × List UInt8)):List UInt8:=
 if k = 1 then decDigits n.toNat
 else if k = 2 then (if n = 1 then [116,114,117,101] else [102,97,108,115,101])
 else if k = 3 then [110,117,108,108] ++ 32 :: tyB o d.toNat
 else if k = 4 then name
 else if k = 5 then prW 7 (kd ks 0) ++ 46 :: name
 else if k = 6 then prW 7 (kd ks 0) ++ 91 :: ((kd ks 1).2 ++ [93])
 else if k = 7 then name ++ 40 :: (prA ks ++ [41])
 else if k = 8 then [110,101,119] ++ 32 :: o
 else if k = 9 then [110,101,119] ++ 32 :: 91 :: (tyB o d.toNat ++ 93 :: 40 :: ((kd ks 0).2 ++ [41]))
 else if k = 10 then [108,101,110] ++ 40 :: ((kd ks 0).2 ++ [41])
 else if k = 11 then [114,101,97,100] ++ [40,41]
 else if k = 12 then 45 :: prW 6 (kd ks 0)
 else if k = 13 then 33 :: prW 6 (kd ks 0)
 else prW (lvl k) (kd ks 0) ++ 32 :: (opT k ++ 32 :: prW (lvl k + 1) (kd ks 1))
mutual
def prE:Ex → List UInt8
 | .mk k n name o d ks _ _ _ _ _ => prOf k n name o d (prL ks)
def prL:List Ex → List (Nat × List UInt8)
 | [] => []
 | e :: es => (lvl (kindOf e),prE e) :: prL es
end
theorem zAf (k n:Int)(name o:List UInt8)(d:Int)(ks:List Ex)(a:Int):prE (Ex.of k n name o d ks a) = prOf k n name o d (prL ks):=by rw [Ex.of,prE]
theorem zG (x:Ex):prL [x] = [(lvl (kindOf x),prE x)]:=by rw [prL,prL]
theorem zAC (x y:Ex):prL [x,y] = [(lvl (kindOf x),prE x),(lvl (kindOf y),prE y)]:=by rw [prL,zG]
theorem zCO {n:Nat}{t:List UInt8}{kind:Int}(h:(t,kind) ∈ signsOf n):lvl kind = n + 1 ∧ opT kind = t ∧ t ∈ ops ∧ 14 ≤ kind:=by
 have key:∀ n,n < 5 → ∀ p ∈ signsOf n,lvl p.2 = n + 1 ∧ opT p.2 = p.1 ∧ p.1 ∈ ops ∧ 14 ≤ p.2:=by decide
 exact key n (zBK h).1 _ h
def PE (e:Ex)(lv:Nat)(l:List PT):Prop:=OkL NmB NuB l → lvl (kindOf e) = lv ∧ Seg (prE e) l ∧ Hd (prE e)
def PW (n:Nat)(e:Ex)(l:List PT):Prop:=OkL NmB NuB l → Seg (prW n (lvl (kindOf e),prE e)) l ∧ Hd (prW n (lvl (kindOf e),prE e))
def PM (xs:List Ex)(l:List PT):Prop:=OkL NmB NuB l → ∀ r lr,Sep r → LX r lr → LX (prM (prL xs) ++ r) (l ++ lr) ∧ Sep (prM (prL xs) ++ r)
theorem zHt {a b r:List UInt8}{l:List PT}(h:LX (a ++ (b ++ r)) l):LX (a ++ b ++ r) l:=by rw [List.append_assoc]; exact h
theorem zA7 {e:Ex}{l:List PT}(h:PW 1 e l)(hl:OkL NmB NuB l):Seg (prE e) l ∧ Hd (prE e):=by
 have:=h hl
 unfold prW at this
 have h1:¬ lvl (kindOf e) < 1:=by
  unfold lvl
  split; omega
  split; omega
  split; omega
  split; omega
  split; omega
  split <;> omega
 rw [if_neg h1] at this
 exact this
theorem zOH {x:Ex}{l:List PT}{t:List UInt8}{a:Int}(h:PW 7 x l):PE (Ex.of 5 0 t [] 0 [x] a) 7 (l ++ [sg [46],nm t]):=by
 intro hl
 have hx:=h hl.left
 have hn:=hl.right.tail.name
 refine ⟨rfl,?_,?_⟩
 ·rw [zAf,zG]
  intro r lr hr hlx
  rw [List.append_assoc]
  exact zHt (hx.1 _ _ (zF (by decide)) (zAA (by decide) ((zAE hn).1 _ _ hr hlx)))
 ·rw [zAf,zG]
  exact hx.2.app _
theorem zQT {x:Ex}{l:List PT}{i:Ex}{l2:List PT}{a:Int}(h:PW 7 x l)(h2:PW 1 i l2):PE (Ex.of 6 0 [] [] 0 [x,i] a) 7 (l ++ (sg [91] :: (l2 ++ [sg [93]]))):=by
 intro hl
 have hx:=h hl.left
 have hi:=zA7 h2 hl.right.tail.left
 refine ⟨rfl,?_,?_⟩
 ·rw [zAf,zAC]
  intro r lr hr hlx
  have h3:=hi.1 _ _ (zF (by decide)) (zAA (c:=93) (by decide) hlx)
  have h4:=hx.1 _ _ (zF (by decide)) (zAA (c:=91) (by decide) h3)
  show LX ((prW 7 (lvl (kindOf x),prE x) ++ 91 :: (prE i ++ [93])) ++ r) _
  simp only [List.append_assoc,List.cons_append,List.nil_append]
  exact h4
 ·rw [zAf,zAC]
  exact hx.2.app _
theorem zQU {t:List UInt8}{a:Int}{x:Ex}{l:List PT}{xs:List Ex}{l2:List PT}(h:PW 1 x l)(h2:PM xs l2):PE (Ex.of 7 0 t [] 0 (x :: xs) a) 7 (nm t :: sg [40] :: (l ++ (l2 ++ [sg [41]]))):=by
 intro hl
 have hn:=zAE hl.name
 have hx:=zA7 h hl.tail.tail.left
 have hm:=h2 hl.tail.tail.right.left
 refine ⟨rfl,?_,?_⟩
 ·rw [zAf,prL]
  intro r lr hr hlx
  obtain ⟨h3,h4⟩:=hm _ _ (zF (by decide)) (zAA (c:=41) (by decide) hlx)
  have h5:=hn.1 _ _ (zF (by decide)) (zAA (c:=40) (by decide) (hx.1 _ _ h4 h3))
  show LX ((t ++ 40 :: ((prE x ++ prM (prL xs)) ++ [41])) ++ r) _
  simp only [List.append_assoc,List.cons_append,List.nil_append] at h5 ⊢
  exact h5
 ·rw [zAf,prL]
  exact hn.2.app _
theorem zSL {n:Nat}{t:List UInt8}{kind:Int}{x:Ex}{l:List PT}{y:Ex}{l2:List PT}{a:Int}(hs:(t,kind) ∈ signsOf n)(h:PW (n + 1) x l)(h2:PW (n + 2) y l2):PE (Ex.of kind 0 [] [] 0 [x,y] a) (n + 1) (l ++ (sg t :: l2)):=by
 intro hl
 have hx:=h hl.left
 have hy:=h2 hl.right.tail
 obtain ⟨f1,f2,f3,f4⟩:=zCO hs
 have hp:prOf kind 0 [] [] 0 (prL [x,y]) = prW (n + 1) (lvl (kindOf x),prE x) ++ 32 :: (t ++ 32 :: prW (n + 2) (lvl (kindOf y),prE y)):=by
  rw [zAC]
  unfold prOf
  rw [if_neg (by omega),if_neg (by omega),if_neg (by omega),if_neg (by omega),if_neg (by omega),if_neg (by omega),if_neg (by omega),if_neg (by omega),if_neg (by omega),if_neg (by omega),if_neg (by omega),if_neg (by omega),if_neg (by omega),f1,f2]
  rfl
 refine ⟨f1,?_,?_⟩
 ·rw [zAf,hp]
  intro r lr hr hlx
  have h3:=zSw f3 (hy.1 _ _ hr hlx)
  have h4:=hx.1 _ _ (zF (c:=32) (by decide)) (zK h3)
  simp only [List.append_assoc,List.cons_append] at h4 ⊢
  exact h4
 ·rw [zAf,hp]
  exact hx.2.app _
theorem zPu {n:Nat}{e:Ex}{lv:Nat}{l:List PT}(h:PE e lv l)(hn:n ≤ lv):PW n e l:=by
 intro hl
 obtain ⟨h1,h2,h3⟩:=h hl
 unfold prW
 rw [if_neg (by show ¬ lvl (kindOf e) < n; omega)]
 exact ⟨h2,h3⟩
theorem zRY {n:Nat}{e:Ex}{lv:Nat}{l:List PT}(h:PE e lv l)(hn:lv < n):PW n e (sg [40] :: (l ++ [sg [41]])):=by
 intro hl
 obtain ⟨h1,h2,h3⟩:=h hl.tail.left
 unfold prW
 rw [if_pos (by show lvl (kindOf e) < n; omega)]
 refine ⟨fun r lr hr hlx => ?_,_,_,rfl,by decide⟩
 have h4:=zAA (c:=40) (by decide) (h2 _ _ (zF (by decide)) (zAA (c:=41) (by decide) hlx))
 simp only [List.append_assoc,List.cons_append,List.nil_append] at h4 ⊢
 exact h4
theorem zBe {n:Nat}{e:Ex}{d:Nat}{l:List PT}(h:EW n e d l):PW n e l:=
 EW.rec (motive_1:=fun e lv _ l _ => PE e lv l) (motive_2:=fun n e _ l _ => PW n e l) (motive_3:=fun xs _ l _ => PM xs l)
  (fun n a hl => ⟨rfl,by rw [zAf]; exact (zJk ((hl _ (List.mem_singleton.2 rfl)).2 rfl)).1,by rw [zAf]; exact (zJk ((hl _ (List.mem_singleton.2 rfl)).2 rfl)).2⟩)
  (fun a hl => ⟨rfl,by rw [zAf]; exact (zZ (by decide)).1,by rw [zAf]; exact (zZ (t:=[116,114,117,101]) (by decide)).2⟩)
  (fun a hl => ⟨rfl,by rw [zAf]; exact (zZ (by decide)).1,by rw [zAf]; exact (zZ (t:=[102,97,108,115,101]) (by decide)).2⟩)
  (fun t d a hd hl => ⟨rfl,by
   rw [zAf]
   intro r lr hr hlx
   exact zHt ((zZ (t:=[110,117,108,108]) (by decide)).1 _ _ (zF (c:=32) (by decide)) (zK (zEe hl.tail _ _ hr hlx))),by rw [zAf]; exact ⟨_,_,rfl,by decide⟩⟩)
  (fun t a hl => ⟨rfl,by rw [zAf]; exact (zAE hl.name).1,by rw [zAf]; exact (zAE hl.name).2⟩)
  (fun x d l t a _ h => zOH h) (fun x d l i d2 l2 a _ _ h h2 => zQT h h2)
  (fun t a hl => ⟨rfl,by
   rw [zAf]
   intro r lr hr hlx
   exact zHt ((zAE hl.name).1 _ _ (zF (c:=40) (by decide)) (zAA (by decide) (zAA (by decide) hlx))),by rw [zAf]; exact (zAE hl.name).2.app _⟩)
  (fun t a x d l xs d2 l2 _ _ h h2 => zQU h h2)
  (fun t a hl => ⟨rfl,by
   rw [zAf]
   intro r lr hr hlx
   exact zHt ((zZ (t:=[110,101,119]) (by decide)).1 _ _ (zF (c:=32) (by decide)) (zK ((zAE hl.tail.name).1 _ _ hr hlx))),by rw [zAf]; exact ⟨_,_,rfl,by decide⟩⟩)
  (fun t d x dx l a hd _ h hl => by
   have hx:=zA7 h hl.tail.tail.right.tail.tail.left
   refine ⟨rfl,?_,by rw [zAf]; exact ⟨_,_,rfl,by decide⟩⟩
   rw [zAf,zG]
   intro r lr hr hlx
   have h3:=hx.1 _ _ (zF (by decide)) (zAA (c:=41) (by decide) hlx)
   have h4:=zEe hl.tail.tail.left _ _ (zF (by decide)) (zAA (c:=93) (by decide) (zAA (c:=40) (by decide) h3))
   have h5:=(zZ (t:=[110,101,119]) (by decide)).1 _ _ (zF (c:=32) (by decide)) (zK (zAA (c:=91) (by decide) h4))
   show LX ([110,101,119] ++ 32 :: 91 :: (tyB t (d:Int).toNat ++ 93 :: 40 :: (prE x ++ [41])) ++ r) _
   rw [Int.toNat_natCast]
   simp only [List.append_assoc,List.cons_append,List.nil_append] at h5 ⊢
   exact h5)
  (fun x d l a _ h hl => by
   have hx:=zA7 h hl.tail.tail.left
   refine ⟨rfl,?_,by rw [zAf]; exact ⟨_,_,rfl,by decide⟩⟩
   rw [zAf,zG]
   intro r lr hr hlx
   have h3:=hx.1 _ _ (zF (by decide)) (zAA (c:=41) (by decide) hlx)
   have h5:=(zZ (t:=[108,101,110]) (by decide)).1 _ _ (zF (c:=40) (by decide)) (zAA (by decide) h3)
   show LX ([108,101,110] ++ 40 :: (prE x ++ [41]) ++ r) _
   simp only [List.append_assoc,List.cons_append,List.nil_append] at h5 ⊢
   exact h5)
  (fun a hl => ⟨rfl,by
   rw [zAf]
   intro r lr hr hlx
   exact (zZ (t:=[114,101,97,100]) (by decide)).1 _ _ (zF (c:=40) (by decide)) (zAA (by decide) (zAA (by decide) hlx)),by rw [zAf]; exact ⟨_,_,rfl,by decide⟩⟩)
  (fun x d l a _ h hl => by
   have hx:=h hl.tail
   refine ⟨rfl,?_,by rw [zAf]; exact ⟨_,_,rfl,by decide⟩⟩
   rw [zAf,zG]
   exact fun r lr hr hlx => zAA (by decide) (hx.1 _ _ hr hlx))
  (fun x d l a _ h hl => by
   have hx:=h hl.tail
   refine ⟨rfl,?_,by rw [zAf]; exact ⟨_,_,rfl,by decide⟩⟩
   rw [zAf,zG]
   exact fun r lr hr hlx => zQl (hx.2.app r) (hx.1 _ _ hr hlx))
  (fun n t kind x d l y d2 l2 a hs _ _ h h2 => zSL hs h h2)
  (fun n e lv d l _ hn h => zPu h hn) (fun n e lv d l _ hn h => zRY h hn)
  (fun _ r lr hr hlx => by rw [prL]; exact ⟨hlx,hr⟩)
  (fun x d l xs d2 l2 _ _ h h2 hl r lr hr hlx => by
   have hx:=zA7 h hl.tail.left
   obtain ⟨h3,h4⟩:=h2 hl.tail.right r lr hr hlx
   have h5:=zAA (c:=44) (by decide) (zK (hx.1 _ _ h4 h3))
   rw [prL]
   refine ⟨?_,zF (by decide)⟩
   show LX (44 :: 32 :: (prE x ++ prM (prL xs)) ++ r) _
   simp only [List.append_assoc,List.cons_append] at h5 ⊢
   exact h5) h
end Rt
namespace Rt
open Go.RowKit
open Px (RT tokAt isT levelT signsOf)
open Qe (Q)
open Pe (Ex inc dec)
open Ps (Sm kindOf nameOf)
open Pg (Pm Rc Fc Gm)
open Ln.Lx (alnB)
def pad (deep:Nat):List UInt8:=List.replicate (2 * deep) 32
theorem zM4 (deep:Nat){r:List UInt8}{lr:List PT}(h:LX r lr):LX (pad deep ++ r) lr:=by
 unfold pad
 generalize 2 * deep = n
 induction n with
 | zero => exact h
 | succ n ih => exact zK ih
def blT (deep:Nat)(b:List UInt8):List UInt8:=123 :: 10 :: (b ++ (pad deep ++ [125]))
def stOf (deep:Nat)(k:Int)(n o:List UInt8)(d:Int)(es:List (Nat × List UInt8))(b:List UInt8)(no:Bool)(els:List UInt8):List UInt8:=
 if k = 1 then [118,97,114] ++ 32 :: (n ++ 58 :: 32 :: (tyB o d.toNat ++ [59]))
 else if k = 2 then [108,101,116] ++ 32 :: (n ++ 58 :: 32 :: (tyB o d.toNat ++ 32 :: 61 :: 32 :: ((kd es 0).2 ++ [59])))
 else if k = 3 then n ++ 32 :: 61 :: 32 :: ((kd es 0).2 ++ [59])
 else if k = 4 then (kd es 0).2 ++ 32 :: 61 :: 32 :: ((kd es 1).2 ++ [59])
 else if k = 7 then [114,101,116,117,114,110] ++ ((if es.length = 0 then [] else 32 :: (kd es 0).2) ++ [59])
 else if k = 8 then [112,114,105,110,116] ++ 32 :: ((kd es 0).2 ++ [59])
 else if k = 9 then (kd es 0).2 ++ [59]
 else if k = 6 then [119,104,105,108,101] ++ 32 :: ((kd es 0).2 ++ 32 :: blT deep b)
 else if k = 5 then [105,102] ++ 32 :: ((kd es 0).2 ++ 32 :: (blT deep b ++ (if no then [] else 32 :: ([101,108,115,101] ++ 32 :: blT deep els))))
 else []
mutual
def prS:Sm → Nat → List UInt8
 | .mk k n o d es b l _ _,deep => pad deep ++ (stOf deep k n o d (prL es) (prB b (deep + 1)) l.isEmpty (prB l (deep + 1)) ++ [10])
def prB:List Sm → Nat → List UInt8
 | [],_ => []
 | x :: xs,deep => prS x deep ++ prB xs deep
end
def Txt (t:List UInt8)(l:List PT):Prop:=∀ r lr,LX r lr → LX (t ++ r) (l ++ lr)
theorem line {deep:Nat}{t:List UInt8}{l:List PT}(h:Txt t l):Txt (pad deep ++ (t ++ [10])) l:=by
 intro r lr hr
 rw [List.append_assoc,List.append_assoc]
 exact zM4 deep (h _ _ (zCv hr))
def TS (x:Sm)(d:Nat)(l:List PT):Prop:=OkL NmB NuB l → ∃ d' l',d' ≤ d ∧ SP x d' l' ∧ ∀ deep,Txt (prS x deep) l'
def TB (b:List Sm)(d:Nat)(l:List PT):Prop:=OkL NmB NuB l → ∃ d' l',d' ≤ d ∧ BP b d' l' ∧ ∀ deep,Txt (blT deep (prB b (deep + 1))) l'
def TL (xs:List Sm)(d:Nat)(l:List PT):Prop:=OkL NmB NuB l → ∃ d' l',d' ≤ d ∧ LP xs d' l' ∧ ∀ deep,Txt (prB xs deep) l'
theorem zAT {k:Int}{n o:List UInt8}{d:Int}{es:List Ex}{b l:List Sm}{a z:Int}{deep:Nat}{tl:List PT}(h:Txt (stOf deep k n o d (prL es) (prB b (deep + 1)) l.isEmpty (prB l (deep + 1))) tl):Txt (prS (.mk k n o d es b l a z) deep) tl:=by
 rw [prS]
 exact line h
theorem zMU {w t o:List UInt8}{d:Nat}{r:List UInt8}{lr:List PT}(hw:w ∈ Ln.Lx.words)(hn:NmB t)(ht:OkL NmB NuB (tyT o d))(hs:Sep r)(h:LX r lr):LX (w ++ 32 :: (t ++ 58 :: 32 :: (tyB o d ++ r))) (wd w :: nm t :: sg [58] :: (tyT o d ++ lr)):=
 (zZ hw).1 _ _ (zF (by decide)) (zK ((zAE hn).1 _ _ (zF (by decide)) (zAA (by decide) (zK (zEe ht _ _ hs h)))))
theorem zH8 {e:Ex}{l:List PT}(h:Seg (prE e) l){r:List UInt8}{lr:List PT}(hr:LX r lr):LX (prE e ++ 59 :: r) (l ++ (sg [59] :: lr)):=
 h _ _ (zF (by decide)) (zAA (by decide) hr)
theorem zR1 (t ty:List UInt8)(d:Nat)(a:Int)(hd:d ≤ 3):TS (.mk 1 t ty d [] [] [] a 0) 0 (wd [118,97,114] :: nm t :: sg [58] :: (tyT ty d ++ [sg [59]])):=by
 refine fun hl => ⟨0,_,Nat.le_refl _,.var t ty d a hd,fun deep => zAT fun r lr hr => ?_⟩
 have h:=zMU (w:=[118,97,114]) (by decide) hl.tail.name hl.tail.tail.tail.left (zF (c:=59) (by decide)) (zAA (c:=59) (by decide) hr)
 show LX ([118,97,114] ++ 32 :: (t ++ 58 :: 32 :: (tyB ty ((d:Nat):Int).toNat ++ [59])) ++ r) _
 rw [Int.toNat_natCast]
 simp only [List.append_assoc,List.cons_append,List.nil_append] at h ⊢
 exact h
theorem zR5 (t ty:List UInt8)(d:Nat)(a:Int)(e:Ex)(de:Nat)(l:List PT)(hd:d ≤ 3)(he:EW 1 e de l):TS (.mk 2 t ty d [e] [] [] a 0) de (wd [108,101,116] :: nm t :: sg [58] :: (tyT ty d ++ (sg [61] :: (l ++ [sg [59]])))):=by
 refine fun hl => ⟨de,_,Nat.le_refl _,.let_ t ty d a e de l hd he,fun deep => zAT fun r lr hr => ?_⟩
 have hx:=(zA7 (zBe he) hl.tail.tail.tail.right.tail.left).1
 have h:=zMU (w:=[108,101,116]) (by decide) hl.tail.name hl.tail.tail.tail.left (zF (c:=32) (by decide)) (zK (zN9 (zH8 hx hr)))
 rw [zG]
 show LX ([108,101,116] ++ 32 :: (t ++ 58 :: 32 :: (tyB ty ((d:Nat):Int).toNat ++ 32 :: 61 :: 32 :: (prE e ++ [59]))) ++ r) _
 rw [Int.toNat_natCast]
 simp only [List.append_assoc,List.cons_append,List.nil_append] at h ⊢
 exact h
theorem zR2 (t:List UInt8)(a:Int)(e:Ex)(de:Nat)(l:List PT)(he:EW 1 e de l):TS (.mk 3 t [] 0 [e] [] [] a 0) de (nm t :: sg [61] :: (l ++ [sg [59]])):=by
 refine fun hl => ⟨de,_,Nat.le_refl _,.set t a e de l he,fun deep => zAT fun r lr hr => ?_⟩
 have hx:=(zA7 (zBe he) hl.tail.tail.left).1
 have h:=(zAE hl.name).1 _ _ (zF (c:=32) (by decide)) (zK (zN9 (zH8 hx hr)))
 rw [zG]
 show LX (t ++ 32 :: 61 :: 32 :: (prE e ++ [59]) ++ r) _
 simp only [List.append_assoc,List.cons_append,List.nil_append] at h ⊢
 exact h
theorem zR4 (x:Ex)(dx:Nat)(lx:List PT)(a:Int)(e:Ex)(de:Nat)(l:List PT)(hk:kindOf x = 5 ∨ kindOf x = 6)(hx:EW 1 x dx lx)(he:EW 1 e de l):TS (.mk 4 [] [] 0 [x,e] [] [] a 0) (max dx de) (lx ++ (sg [61] :: (l ++ [sg [59]]))):=by
 refine fun hl => ⟨_,_,Nat.le_refl _,.put x dx lx a e de l hk hx he,fun deep => zAT fun r lr hr => ?_⟩
 have h1:=(zA7 (zBe hx) hl.left).1
 have h2:=(zA7 (zBe he) hl.right.tail.left).1
 have h:=h1 _ _ (zF (c:=32) (by decide)) (zK (zN9 (zH8 h2 hr)))
 rw [zAC]
 show LX (prE x ++ 32 :: 61 :: 32 :: (prE e ++ [59]) ++ r) _
 simp only [List.append_assoc,List.cons_append,List.nil_append] at h ⊢
 exact h
theorem zPC (a:Int):TS (.mk 7 [] [] 0 [] [] [] a 0) 0 [wd [114,101,116,117,114,110],sg [59]]:=
 fun _ => ⟨0,_,Nat.le_refl _,.ret0 a,fun deep => zAT fun r lr hr => by
  rw [prL]
  exact (zZ (t:=[114,101,116,117,114,110]) (by decide)).1 _ _ (zF (c:=59) (by decide)) (zAA (by decide) hr)⟩
theorem zR3 (a:Int)(e:Ex)(de:Nat)(l:List PT)(he:EW 1 e de l):TS (.mk 7 [] [] 0 [e] [] [] a 0) de (wd [114,101,116,117,114,110] :: (l ++ [sg [59]])):=by
 refine fun hl => ⟨de,_,Nat.le_refl _,.ret a e de l he,fun deep => zAT fun r lr hr => ?_⟩
 have hx:=(zA7 (zBe he) hl.tail.left).1
 have h:=(zZ (t:=[114,101,116,117,114,110]) (by decide)).1 _ _ (zF (c:=32) (by decide)) (zK (zH8 hx hr))
 rw [zG]
 show LX ([114,101,116,117,114,110] ++ ((32 :: prE e) ++ [59]) ++ r) _
 simp only [List.append_assoc,List.cons_append,List.nil_append] at h ⊢
 exact h
theorem zNv (a:Int)(e:Ex)(de:Nat)(l:List PT)(he:EW 1 e de l):TS (.mk 8 [] [] 0 [e] [] [] a 0) de (wd [112,114,105,110,116] :: (l ++ [sg [59]])):=by
 refine fun hl => ⟨de,_,Nat.le_refl _,.print a e de l he,fun deep => zAT fun r lr hr => ?_⟩
 have hx:=(zA7 (zBe he) hl.tail.left).1
 have h:=(zZ (t:=[112,114,105,110,116]) (by decide)).1 _ _ (zF (c:=32) (by decide)) (zK (zH8 hx hr))
 rw [zG]
 show LX ([112,114,105,110,116] ++ 32 :: (prE e ++ [59]) ++ r) _
 simp only [List.append_assoc,List.cons_append,List.nil_append] at h ⊢
 exact h
theorem t_do (a:Int)(e:Ex)(de:Nat)(l:List PT)(hk:kindOf e = 7)(he:EW 1 e de l):TS (.mk 9 [] [] 0 [e] [] [] a 0) de (l ++ [sg [59]]):=by
 refine fun hl => ⟨de,_,Nat.le_refl _,.do_ a e de l hk he,fun deep => zAT fun r lr hr => ?_⟩
 have hx:=(zA7 (zBe he) hl.left).1
 have h:=zH8 hx hr
 rw [zG]
 show LX (prE e ++ [59] ++ r) _
 simp only [List.append_assoc,List.cons_append,List.nil_append] at h ⊢
 exact h
theorem zNu (e:Ex)(de:Nat)(l:List PT)(b:List Sm)(db:Nat)(lb:List PT)(a:Int)(he:EW 1 e de l)(hb:TB b db lb):TS (.mk 6 [] [] 0 [e] b [] a 0) (max de db) (wd [119,104,105,108,101] :: (l ++ lb)):=by
 intro hl
 obtain ⟨d',l',h1,h2,h3⟩:=hb hl.tail.right
 refine ⟨_,_,?_,.loop e de l b d' l' a he h2,fun deep => zAT fun r lr hr => ?_⟩
 ·omega
 have hx:=(zA7 (zBe he) hl.tail.left).1
 have h:=(zZ (t:=[119,104,105,108,101]) (by decide)).1 _ _ (zF (c:=32) (by decide)) (zK (hx _ _ (zF (c:=32) (by decide)) (zK (h3 deep _ _ hr))))
 rw [zG]
 show LX ([119,104,105,108,101] ++ 32 :: (prE e ++ 32 :: blT deep (prB b (deep + 1))) ++ r) _
 simp only [List.append_assoc,List.cons_append,List.nil_append] at h ⊢
 exact h
theorem zPD (e:Ex)(de:Nat)(l:List PT)(b:List Sm)(db:Nat)(lb:List PT)(a:Int)(he:EW 1 e de l)(hb:TB b db lb)(hl:OkL NmB NuB l)(hlb:OkL NmB NuB lb):∃ d' l',d' ≤ max de db ∧ SP (.mk 5 [] [] 0 [e] b [] a 0) d' l' ∧ ∀ deep,Txt (prS (.mk 5 [] [] 0 [e] b [] a 0) deep) l':=by
 obtain ⟨d',l',h1,h2,h3⟩:=hb hlb
 refine ⟨_,_,?_,.ifs e de l b d' l' a he h2,fun deep => zAT fun r lr hr => ?_⟩
 ·omega
 have hx:=(zA7 (zBe he) hl).1
 have h:=(zZ (t:=[105,102]) (by decide)).1 _ _ (zF (c:=32) (by decide)) (zK (hx _ _ (zF (c:=32) (by decide)) (zK (h3 deep _ _ hr))))
 rw [zG]
 show LX ([105,102] ++ 32 :: (prE e ++ 32 :: (blT deep (prB b (deep + 1)) ++ [])) ++ r) _
 simp only [List.append_assoc,List.cons_append,List.nil_append] at h ⊢
 exact h
theorem zR6 (e:Ex)(de:Nat)(l:List PT)(b:List Sm)(db:Nat)(lb:List PT)(b2:List Sm)(db2:Nat)(lb2:List PT)(a:Int)(he:EW 1 e de l)(hb:TB b db lb)(hb2:TB b2 db2 lb2):TS (.mk 5 [] [] 0 [e] b b2 a 0) (max de (max db db2)) (wd [105,102] :: (l ++ (lb ++ (wd [101,108,115,101] :: lb2)))):=by
 intro hl
 cases b2 with
 | nil =>
   obtain ⟨d',l',h1,h2⟩:=zPD e de l b db lb a he hb hl.tail.left hl.tail.right.left
   exact ⟨d',l',by omega,h2⟩
 | cons y ys =>
   obtain ⟨d',l',h1,h2,h3⟩:=hb hl.tail.right.left
   obtain ⟨d2,l2,h4,h5,h6⟩:=hb2 hl.tail.right.right.tail
   refine ⟨_,_,?_,.ife e de l b d' l' _ d2 l2 a he h2 h5,fun deep => zAT fun r lr hr => ?_⟩
   ·omega
   have hx:=(zA7 (zBe he) hl.tail.left).1
   have h:=(zZ (t:=[105,102]) (by decide)).1 _ _ (zF (c:=32) (by decide)) (zK (hx _ _ (zF (c:=32) (by decide)) (zK (h3 deep _ _ (zK ((zZ (t:=[101,108,115,101]) (by decide)).1 _ _ (zF (c:=32) (by decide)) (zK (h6 deep _ _ hr))))))))
   rw [zG]
   show LX ([105,102] ++ 32 :: (prE e ++ 32 :: (blT deep (prB b (deep + 1)) ++ 32 :: ([101,108,115,101] ++ 32 :: blT deep (prB (y :: ys) (deep + 1))))) ++ r) _
   simp only [List.append_assoc,List.cons_append,List.nil_append] at h ⊢
   exact h
theorem t_bl (b:List Sm)(d:Nat)(l:List PT)(h:TL b d l):TB b (d + 1) (sg [123] :: (l ++ [sg [125]])):=by
 intro hl
 obtain ⟨d',l',h1,h2,h3⟩:=h hl.tail.left
 refine ⟨_,_,by omega,.mk b d' l' h2,fun deep r lr hr => ?_⟩
 have h:=zAA (c:=123) (by decide) (zCv (h3 (deep + 1) _ _ (zM4 deep (zAA (c:=125) (by decide) hr))))
 unfold blT
 simp only [List.append_assoc,List.cons_append,List.nil_append] at h ⊢
 exact h
theorem zPE (x:Sm)(d:Nat)(l:List PT)(xs:List Sm)(d2:Nat)(l2:List PT)(h:TS x d l)(h2:TL xs d2 l2):TL (x :: xs) (max d d2) (l ++ l2):=by
 intro hl
 obtain ⟨d',l',h3,h4,h5⟩:=h hl.left
 obtain ⟨e',m',h6,h7,h8⟩:=h2 hl.right
 refine ⟨_,_,by omega,.cons x d' l' xs e' m' h4 h7,fun deep r lr hr => ?_⟩
 rw [prB,List.append_assoc,List.append_assoc]
 exact h5 deep _ _ (h8 deep _ _ hr)
theorem zOR {b:List Sm}{d:Nat}{l:List PT}(h:BP b d l):TB b d l:=
 BP.rec (motive_1:=fun x d l _ => TS x d l) (motive_2:=fun b d l _ => TB b d l) (motive_3:=fun xs d l _ => TL xs d l)
  (fun t ty d a hd => zR1 t ty d a hd) (fun t ty d a e de l hd h => zR5 t ty d a e de l hd h) (fun t a e de l h => zR2 t a e de l h) (fun x dx lx a e de l hk hx h => zR4 x dx lx a e de l hk hx h)
  (fun e de l b db lb a h _ h2 hl => zPD e de l b db lb a h h2 hl.tail.left hl.tail.right) (fun e de l b db lb b2 db2 lb2 a h _ _ h2 h3 => zR6 e de l b db lb b2 db2 lb2 a h h2 h3) (fun e de l b db lb a h _ h2 => zNu e de l b db lb a h h2)
  (fun a => zPC a) (fun a e de l h => zR3 a e de l h) (fun a e de l h => zNv a e de l h) (fun a e de l hk h => t_do a e de l hk h)
  (fun b d l _ h => t_bl b d l h) (fun _ => ⟨0,[],Nat.le_refl _,.nil,fun _ r lr hr => by rw [prB]; exact hr⟩) (fun x d l xs d2 l2 _ _ h h2 => zPE x d l xs d2 l2 h h2) h
def pmB (x:Pm):List UInt8:=x.name ++ 58 :: 32 :: tyB x.ofn x.dims.toNat
def fdB:List Pm → List UInt8
 | [] => []
 | x :: l => 32 :: 32 :: (pmB x ++ 59 :: 10 :: fdB l)
def rcB (x:Rc):List UInt8:=[114,101,99,111,114,100] ++ 32 :: (x.name ++ 32 :: 123 :: 10 :: (fdB x.fields ++ [125,10]))
def glB (x:Pm):List UInt8:=[103,108,111,98,97,108] ++ 32 :: (pmB x ++ [59,10])
def paB:List Pm → List UInt8
 | [] => []
 | [x] => pmB x
 | x :: y :: l => pmB x ++ 44 :: 32 :: paB (y :: l)
def fcB (x:Fc):List UInt8:=[102,117,110,99] ++ 32 :: (x.name ++ 40 :: (paB x.params ++ 41 :: ((if x.has = true then 58 :: 32 :: tyB x.rn x.rd.toNat else []) ++ 32 :: (blT 0 (prB x.body 1) ++ [10]))))
def prG (p:Gm):List UInt8:=p.recs.flatMap rcB ++ (p.globals.flatMap glB ++ p.funcs.flatMap fcB)
theorem zHd {x:Pm}(h:OkL NmB NuB (pmT x)):Seg (pmB x) (pmT x):=by
 intro r lr hr hlx
 have h1:=(zAE h.name).1 _ _ (zF (c:=58) (by decide)) (zAA (by decide) (zK (zEe h.tail.tail _ _ hr hlx)))
 unfold pmB
 simp only [List.append_assoc,List.cons_append,List.nil_append] at h1 ⊢
 exact h1
theorem zMQ:∀ {l:List Pm},OkL NmB NuB (fdT l) → Txt (fdB l) (fdT l)
 | [],_ => fun _ _ h => h
 | x :: l,h => by
   intro r lr hr
   have h1:=zK (zK (zHd h.left _ _ (zF (c:=59) (by decide)) (zAA (by decide) (zCv (zMQ h.right.tail r lr hr)))))
   rw [fdB,fdT]
   simp only [List.append_assoc,List.cons_append] at h1 ⊢
   exact h1
theorem zPw {x:Rc}(h:OkL NmB NuB (rcT x)):Txt (rcB x) (rcT x):=by
 intro r lr hr
 have h1:=(zZ (t:=[114,101,99,111,114,100]) (by decide)).1 _ _ (zF (c:=32) (by decide)) (zK ((zAE h.tail.name).1 _ _ (zF (c:=32) (by decide)) (zK (zAA (c:=123) (by decide) (zCv (zMQ h.tail.tail.tail.left _ _ (zAA (c:=125) (by decide) (zCv hr))))))))
 unfold rcB rcT
 simp only [List.append_assoc,List.cons_append,List.nil_append] at h1 ⊢
 exact h1
theorem zPx {x:Pm}(h:OkL NmB NuB (glT x)):Txt (glB x) (glT x):=by
 intro r lr hr
 have h1:=(zZ (t:=[103,108,111,98,97,108]) (by decide)).1 _ _ (zF (c:=32) (by decide)) (zK (zHd h.tail.left _ _ (zF (c:=59) (by decide)) (zAA (by decide) (zCv hr))))
 unfold glB glT
 simp only [List.append_assoc,List.cons_append,List.nil_append] at h1 ⊢
 exact h1
theorem zMT:∀ {l:List Pm},OkL NmB NuB (paT l) → Seg (paB l) (paT l)
 | [],_ => fun _ _ _ h => h
 | [x],h => zHd h
 | x :: y :: l,h => by
   intro r lr hr hlx
   have h1:=zHd (x:=x) h.left _ _ (zF (c:=44) (by decide)) (zAA (by decide) (zK (zMT (l:=y :: l) h.right.tail r lr hr hlx)))
   rw [paB,paT]
   simp only [List.append_assoc,List.cons_append] at h1 ⊢
   exact h1
theorem zPy {x:Fc}{d:Nat}{l:List PT}(hx:FP x d l)(h:OkL NmB NuB l):∃ d' l',d' ≤ d ∧ FP x d' l' ∧ Txt (fcB x) l':=by
 cases hx with
 | mk name ps has rn rd body a d lb hl hp h0 hd hb =>
   obtain ⟨d',l',h1,h2,h3⟩:=zOR hb h.tail.tail.tail.right.tail.right
   refine ⟨d',_,h1,.mk name ps has rn rd body a d' l' hl hp h0 hd h2,fun r lr hr => ?_⟩
   have h4:=zK (h3 0 _ _ (zCv hr))
   have h5:LX ((if has = true then 58 :: 32 :: tyB rn ((rd:Nat):Int).toNat else []) ++ 32 :: (blT 0 (prB body (0 + 1)) ++ 10 :: r)) (resT has rn rd ++ (l' ++ lr)):=by
    have h6:=h.tail.tail.tail.right.tail.left
    unfold resT at h6 ⊢
    rw [Int.toNat_natCast]
    split
    ·rename_i hh
     rw [if_pos hh] at h6
     exact zAA (c:=58) (by decide) (zK (zEe h6.tail _ _ (zF (by decide)) h4))
    ·exact h4
   have h7:=(zZ (t:=[102,117,110,99]) (by decide)).1 _ _ (zF (c:=32) (by decide)) (zK ((zAE h.tail.name).1 _ _ (zF (c:=40) (by decide)) (zAA (by decide) (zMT h.tail.tail.tail.left _ _ (zF (c:=41) (by decide)) (zAA (by decide) h5)))))
   unfold fcB
   dsimp only
   simp only [List.append_assoc,List.cons_append,List.nil_append] at h7 ⊢
   exact h7
def Laid (p:Gm)(t:List UInt8):Prop:=∃ l,FL p l ∧ Txt t l
theorem zLY:Laid Gm.zero []:=⟨[],.nil,fun _ _ h => h⟩
theorem Laid.rcd {p:Gm}{t:List UInt8}(h:Laid p t){x:Rc}(hx:RcOk x ∧ OkL NmB NuB (rcT x))(hp:p.recs.length < 12):Laid (p.addR x) (t ++ rcB x):=by
 obtain ⟨l,h1,h2⟩:=h
 refine ⟨_,.rcd p l x h1 hx.1 hp,fun r lr hr => ?_⟩
 rw [List.append_assoc,List.append_assoc]
 exact h2 _ _ (zPw hx.2 _ _ hr)
theorem Laid.glob {p:Gm}{t:List UInt8}(h:Laid p t){x:Pm}(hx:PmOk x ∧ OkL NmB NuB (glT x))(hp:p.globals.length < 8):Laid (p.addG x) (t ++ glB x):=by
 obtain ⟨l,h1,h2⟩:=h
 refine ⟨_,.glob p l x h1 hx.1 hp,fun r lr hr => ?_⟩
 rw [List.append_assoc,List.append_assoc]
 exact h2 _ _ (zPx hx.2 _ _ hr)
theorem Laid.func {p:Gm}{t:List UInt8}(h:Laid p t){x:Fc}{d:Nat}{lx:List PT}(hx:FP x d lx)(hd:d ≤ 50)(ho:OkL NmB NuB lx)(hp:p.funcs.length < 16):Laid (p.addF x) (t ++ fcB x):=by
 obtain ⟨l,h1,h2⟩:=h
 obtain ⟨d',l',h3,h4,h5⟩:=zPy hx ho
 refine ⟨_,.func p l x d' l' h1 h4 (by omega) hp,fun r lr hr => ?_⟩
 rw [List.append_assoc,List.append_assoc]
 exact h2 _ _ (h5 _ _ hr)
theorem Laid.answer {p:Gm}{t:List UInt8}(h:Laid p t)(ht:t.length ≤ 6000):(answer t).2.1 = 0 ∧ sameG p (answer t).1 = true:=by
 obtain ⟨l,h1,h2⟩:=h
 have h3:=h2 [] [] .nil
 rw [List.append_nil,List.append_nil] at h3
 exact zOx h3 ht h1
end Rt
end Go.Proofs.YteadgahhchlgeaaDoor
