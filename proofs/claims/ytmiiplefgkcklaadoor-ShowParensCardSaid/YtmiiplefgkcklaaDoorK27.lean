/-
  Expressions as the printer writes them are read back: each k
-/
import Derived.Test.YtmiiplefgkcklaaDoorK26
namespace Go.Proofs.YtmiiplefgkcklaaDoor
namespace Rt
open Go.RowKit
open Px (RT tokAt isT levelT signsOf)
open Qe (Q)
open Pe (Ex inc dec)
open Al (E2 L2)
theorem EM.head {xs:List Ex}{d:Nat}{l:List PT}(h:EM xs d l):l = [] ∨ ∃ r,l = sg [44] :: r:=by
 cases h with
 | nil => exact .inl rfl
 | cons => exact .inr ⟨_,rfl⟩
section
variable {ts:List RT}
theorem zJC {l r:List PT}(hh:Head l){k o:Nat}(h:Has ts k (l ++ r)):Qe.is ts (st k o) false [41] = false:=by
 obtain ⟨p,q,rfl,-,hp⟩:=hh
 refine zBG fun hc => ?_
 have h1:p.1 = 4:=h.1.1.symm.trans hc.1
 have h2:p.2.1 = [41]:=h.1.2.1.symm.trans hc.2
 rcases hp with hp | hp | hp | hp
 ·exact hp h1
 ·rw [h2] at hp; exact absurd hp (by decide)
 ·rw [h2] at hp; exact absurd hp (by decide)
 ·rw [h2] at hp; exact absurd hp (by decide)
theorem zIx {xs:List Ex}{d:Nat}{l:List PT}(h:EM xs d l){k:Nat}(hk:Has ts k (l ++ [sg [41]]))(n:Nat):Stop ts n k:=by
 rcases h.head with rfl | ⟨r,rfl⟩
 ·exact zBA hk.1 (by decide) n
 ·exact zBA hk.1 (by decide) n
theorem zC7 {e:Ex}{k o k':Nat}(f0:Nat)(e':Ex)(he:E2 e e')(hf:∀ f,f0 ≤ f → Qe.unary ts (Qe.run ts f) f (st k o) = Qe.behind ts (Qe.run ts f) f e' (st k' o)):BH ts e k o k':=
 ⟨e',f0 + 1,0,by omega,he,fun f hh => by rw [hf f (by omega)]; rfl⟩
theorem zAu {k o:Nat}{p:PT}(h:Is ts k p)(hp:p.1 ≠ 4){rec:Nat → Q → Qe.Out}{g:Nat}{e':Ex}{s2:Q}(hf:Qe.first ts rec g (st k o) = some (e',s2)):Qe.unary ts rec g (st k o) = Qe.behind ts rec g e' s2:=by
 unfold Qe.unary
 rw [zAK h false hp,zAK h false hp,if_neg (by decide),if_neg (by decide),hf]
theorem m1_7 {e:Ex}{d:Nat}{l:List PT}(hh:Head l)(h:∀ k o,Has ts k l → d + o ≤ 50 → NoPar ts (k + l.length) → BH ts e k o (k + l.length)):M1 ts e 7 d l:=
 ⟨hh,by omega,fun k o hk ho => ⟨fun _ hn => h k o hk ho hn,fun h => by omega,fun n hn h => by omega,by omega⟩⟩
theorem zCn {k:Nat}{p:PT}(h:Is ts k p)(hp:p.1 ≠ 2){o:Nat}:¬ ((st k o).E = 0 ∧ (tokAt ts (st k o).k).kind = 2):=fun hc => hp (h.1.symm.trans hc.2)
theorem zC1 {t:List UInt8}{l:List PT}:Head (wd t :: l):=⟨_,_,rfl,n3,.inl n34⟩
theorem zIh {t:List UInt8}{l:List PT}:Head (nm t :: l):=⟨_,_,rfl,n1,.inl n14⟩
theorem zEa {l r:List PT}(h:Head l):Head (l ++ r):=by
 obtain ⟨p,q,rfl,h1,h2⟩:=h
 exact ⟨p,q ++ r,rfl,h1,h2⟩
theorem n12:(1:Int) ≠ 2:=by decide
theorem n32:(3:Int) ≠ 2:=by decide
theorem zOT (hts:ts.length ≤ 900000000)(n a:Int):M1 ts (Ex.of 1 n [] [] 0 [] a) 7 0 [nu n]:=
 m1_7 ⟨_,_,rfl,n2,.inl n24⟩ fun k o hk _ _ => zC7 0 (Ex.of 1 n [] [] 0 [] (tokAt ts k).at_) (E2.mk _ _ _ _ _ _ _ Al.L2.nil) fun f _ => zAu hk.1 n24 (by
  unfold Qe.first
  dsimp only
  rw [if_pos ⟨rfl,hk.1.1⟩,zQ hts hk.1 n2]
  show some (Ex.of 1 (tokAt ts k).num [] [] 0 [] (tokAt ts k).at_,st (k + 1) o) = _
  rw [hk.1.2.2]
  rfl)
theorem zOS (hts:ts.length ≤ 900000000)(a:Int):M1 ts (Ex.of 2 1 [] [] 0 [] a) 7 0 [wd [116,114,117,101]]:=
 m1_7 zC1 fun k o hk _ _ => zC7 0 (Ex.of 2 1 [] [] 0 [] (tokAt ts k).at_) (E2.mk _ _ _ _ _ _ _ Al.L2.nil) fun f _ => zAu hk.1 n34 (by
  unfold Qe.first
  dsimp only
  rw [if_neg (zCn hk.1 n32),zI hk.1,if_pos (by decide),zQ hts hk.1 n3]
  rfl)
theorem zOZ (hts:ts.length ≤ 900000000)(a:Int):M1 ts (Ex.of 2 0 [] [] 0 [] a) 7 0 [wd [102,97,108,115,101]]:=
 m1_7 zC1 fun k o hk _ _ => zC7 0 (Ex.of 2 0 [] [] 0 [] (tokAt ts k).at_) (E2.mk _ _ _ _ _ _ _ Al.L2.nil) fun f _ => zAu hk.1 n34 (by
  unfold Qe.first
  dsimp only
  rw [if_neg (zCn hk.1 n32),zI hk.1,if_neg (by decide),zI hk.1,if_pos (by decide),zQ hts hk.1 n3]
  rfl)
theorem zNs (hts:ts.length ≤ 900000000)(t:List UInt8)(d:Nat)(a:Int)(hd:d ≤ 3):M1 ts (Ex.of 3 0 [] t d [] a) 7 0 (wd [110,117,108,108] :: tyT t d):=
 m1_7 zC1 fun k o hk _ _ => zC7 0 (Ex.of 3 0 [] t d [] (tokAt ts k).at_) (E2.mk _ _ _ _ _ _ _ Al.L2.nil) fun f _ => zAu hk.1 n34 (by
  unfold Qe.first
  dsimp only
  rw [if_neg (zCn hk.1 n32),zI hk.1,if_neg (by decide),zI hk.1,if_neg (by decide),zI hk.1,if_pos (by decide),zQ hts hk.1 n3,zEz hts hd hk.2,List.length_cons,show k + ((tyT t d).length + 1) = k + 1 + (tyT t d).length by omega]
  rfl)
theorem zOR (hts:ts.length ≤ 900000000)(t:List UInt8)(a:Int):M1 ts (Ex.of 4 0 t [] 0 [] a) 7 0 [nm t]:=
 m1_7 zIh fun k o hk _ hn => zC7 0 (Ex.of 4 0 t [] 0 [] (tokAt ts k).at_) (E2.mk _ _ _ _ _ _ _ Al.L2.nil) fun f _ => zAu hk.1 n14 (by
  have hn':=zBG (o:=o) hn
  unfold Qe.first
  dsimp only
  rw [if_neg (zCn hk.1 n12)]
  simp only [zAK (o:=o) hk.1 true n13,zAK (o:=o) hk.1 false n14,Bool.false_eq_true,if_false,zBl hts hk.1]
  rw [List.length_singleton] at hn'
  rw [hn',if_neg (by decide)]
  rfl)
theorem zLM (hts:ts.length ≤ 900000000)(x:Ex)(d:Nat)(l:List PT)(t:List UInt8)(a:Int)(h:M2 ts 7 x d l):M1 ts (Ex.of 5 0 t [] 0 [x] a) 7 d (l ++ [sg [46],nm t]):=
 m1_7 (zEa h.1) fun k o hk ho _ => by
  have ha:=hk.app
  obtain ⟨x',f0,c,hc,he,hf⟩:=(h.2 k o ha.1 ho).1 rfl (fun hh => absurd (ha.2.1.2.1.symm.trans hh.2) (by decide))
  refine ⟨Ex.of 5 0 t [] 0 [x'] (tokAt ts (k + l.length:Nat)).at_,f0 + 1,c + 1,by omega,E2.mk _ _ _ _ _ _ _ (Al.L2.one he),fun f hh => ?_⟩
  rw [hf f (by omega),show f - c = (f - (c + 1)) + 1 by omega,Qe.behind,zAI ha.2.1,if_pos (by decide),zQ hts ha.2.1 n4,zBl hts ha.2.2.1,List.length_append]
  rfl
theorem zNu (hts:ts.length ≤ 900000000)(x:Ex)(d:Nat)(l:List PT)(i:Ex)(d2:Nat)(l2:List PT)(a:Int)(h:M2 ts 7 x d l)(h2:M2 ts 1 i d2 l2):M1 ts (Ex.of 6 0 [] [] 0 [x,i] a) 7 (max d (d2 + 1)) (l ++ (sg [91] :: (l2 ++ [sg [93]]))):=
 m1_7 (zEa h.1) fun k o hk ho _ => by
  have ha:=hk.app
  have hb:=ha.2.2.app
  obtain ⟨x',f0,c,hc,he,hf⟩:=(h.2 k o ha.1 (by omega)).1 rfl (fun hh => absurd (ha.2.1.2.1.symm.trans hh.2) (by decide))
  obtain ⟨i',f1,he2,hf2⟩:=(h2.2 (k + l.length + 1) (o + 1) hb.1 (by omega)).2.1 0 (by omega) rfl (zBA hb.2.1 (by decide) 0)
  refine ⟨Ex.of 6 0 [] [] 0 [x',i'] (tokAt ts (k + l.length:Nat)).at_,f0 + f1 + 1,c + 1,by omega,E2.mk _ _ _ _ _ _ _ (Al.L2.two he he2),fun f hh => ?_⟩
  rw [hf f (by omega),show f - c = (f - (c + 1)) + 1 by omega,Qe.behind,zAI ha.2.1,if_neg (by decide),zAI ha.2.1,if_pos (by decide),zAV hts ha.2.1 (by omega),hf2 f (by omega)]
  dsimp only
  rw [zAQ hts hb.2.1 (by omega)]
  simp only [List.length_append,List.length_cons]
  rw [show k + l.length + 1 + l2.length + 1 = k + (l.length + (l2.length + 1 + 1)) by omega]
  rfl
theorem zDA (hts:ts.length ≤ 900000000){k o:Nat}{t:List UInt8}(h:Is ts k (nm t))(h2:Is ts (k + 1) (sg [40])){rec:Nat → Q → Qe.Out}{g:Nat}{ys:List Ex}{s2:Q}(ha:Qe.args ts rec g (st (k + 1) o) = some (ys,s2)) :
 Qe.first ts rec g (st k o) = some (Ex.of 7 0 t [] 0 ys (tokAt ts k).at_,s2):=by
 unfold Qe.first
 dsimp only
 rw [if_neg (zCn h n12)]
 simp only [zAK (o:=o) h true n13,zAK (o:=o) h false n14,Bool.false_eq_true,if_false,zBl hts h]
 rw [zAI h2,if_pos (by decide),ha]
 rfl
theorem zLN (hts:ts.length ≤ 900000000)(t:List UInt8)(a:Int):M1 ts (Ex.of 7 0 t [] 0 [] a) 7 1 [nm t,sg [40],sg [41]]:=
 m1_7 zIh fun k o hk ho _ => zC7 0 (Ex.of 7 0 t [] 0 [] (tokAt ts k).at_) (E2.mk _ _ _ _ _ _ _ Al.L2.nil) fun f _ => zAu hk.1 n14 (zDA hts hk.1 hk.2.1 (by
  unfold Qe.args
  rw [zAV hts hk.2.1 (by omega),zAI hk.2.2.1,if_pos (by decide),zAQ hts hk.2.2.1 (by omega)]
  rfl))
theorem zNw (hts:ts.length ≤ 900000000)(t:List UInt8)(a:Int)(x:Ex)(d:Nat)(l:List PT)(xs:List Ex)(d2:Nat)(l2:List PT)(hm:EM xs d2 l2)(h:M2 ts 1 x d l)(h2:M3 ts xs d2 l2):M1 ts (Ex.of 7 0 t [] 0 (x :: xs) a) 7 (max d d2 + 1) (nm t :: sg [40] :: (l ++ (l2 ++ [sg [41]]))):=
 m1_7 zIh fun k o hk ho _ => by
  have ha:=hk.2.2.app
  have hb:=ha.2.app
  obtain ⟨x',f0,he,hf⟩:=(h.2 (k + 1 + 1) (o + 1) ha.1 (by omega)).2.1 0 (by omega) rfl (zIx hm ha.2 0)
  obtain ⟨ys,f1,hl,hg⟩:=h2 (k + 1 + 1 + l.length) (o + 1) [x] [x'] (Al.L2.one he) ha.2 (by omega)
  refine zC7 (f0 + f1) (Ex.of 7 0 t [] 0 ys (tokAt ts k).at_) (E2.mk _ _ _ _ _ _ _ hl) fun f hh => zAu hk.1 n14 (zDA hts hk.1 hk.2.1 ?_)
  unfold Qe.args
  rw [zAV hts hk.2.1 (by omega),zJC h.1 hk.2.2,if_neg (by decide),hf f (by omega)]
  dsimp only
  rw [hg f (by omega) f (by omega)]
  dsimp only
  rw [zAQ hts hb.2.1 (by omega)]
  simp only [List.length_append,List.length_cons]
  rw [show k + 1 + 1 + l.length + l2.length + 1 = k + (l.length + (l2.length + 1) + 1 + 1) by omega]
  rfl
theorem zEI (hts:ts.length ≤ 900000000){k o:Nat}(h:Is ts k (wd [110,101,119])){rec:Nat → Q → Qe.Out}{g:Nat}:Qe.first ts rec g (st k o) = Qe.fresh ts rec (st (k + 1) o) (tokAt ts k).at_:=by
 unfold Qe.first
 dsimp only
 rw [if_neg (zCn h n32),zI h,if_neg (by decide),zI h,if_neg (by decide),zI h,if_neg (by decide),zI h,if_pos (by decide),zQ hts h n3]
 rfl
theorem zEF (hts:ts.length ≤ 900000000){x:Ex}{d:Nat}{l:List PT}(h:M2 ts 1 x d l){k o:Nat}(hk:Has ts k (sg [40] :: (l ++ [sg [41]])))(ho:d + 1 + o ≤ 50):∃ x' f0,E2 x x' ∧ ∀ f,f0 ≤ f → Qe.inner ts (Qe.run ts f) (st k o) = some (x',st (k + (l.length + 2)) o):=by
 have hb:=hk.2.app
 obtain ⟨x',f0,he,hf⟩:=(h.2 (k + 1) (o + 1) hb.1 (by omega)).2.1 0 (by omega) rfl (zBA hb.2.1 (by decide) 0)
 refine ⟨x',f0,he,fun f hh => ?_⟩
 unfold Qe.inner
 rw [zAV hts hk.1 (by omega),hf f hh]
 dsimp only
 rw [zAQ hts hb.2.1 (by omega),show k + 1 + l.length + 1 = k + (l.length + 2) by omega]
theorem zOW (hts:ts.length ≤ 900000000)(t:List UInt8)(a:Int):M1 ts (Ex.of 8 0 [] t 0 [] a) 7 0 [wd [110,101,119],nm t]:=
 m1_7 zC1 fun k o hk _ _ => zC7 0 (Ex.of 8 0 [] t 0 [] (tokAt ts k).at_) (E2.mk _ _ _ _ _ _ _ Al.L2.nil) fun f _ => zAu hk.1 n34 (by
  rw [zEI hts hk.1]
  unfold Qe.fresh
  rw [zAK hk.2.1 false n14,if_neg (by decide),zBl hts hk.2.1]
  rfl)
theorem zNt (hts:ts.length ≤ 900000000)(t:List UInt8)(d:Nat)(x:Ex)(dx:Nat)(l:List PT)(a:Int)(hd:d ≤ 3)(h:M2 ts 1 x dx l):M1 ts (Ex.of 9 0 [] t d [x] a) 7 (dx + 1) (wd [110,101,119] :: sg [91] :: (tyT t d ++ (sg [93] :: sg [40] :: (l ++ [sg [41]])))):=
 m1_7 zC1 fun k o hk ho _ => by
  have ha:=hk.2.2.app
  obtain ⟨x',f0,he,hf⟩:=zEF hts h (o:=o) ha.2.2 (by omega)
  refine zC7 f0 (Ex.of 9 0 [] t d [x'] (tokAt ts k).at_) (E2.mk _ _ _ _ _ _ _ (Al.L2.one he)) fun f hh => zAu hk.1 n34 ?_
  rw [zEI hts hk.1]
  unfold Qe.fresh
  rw [zAI hk.2.1,if_pos (by decide),zQ hts hk.2.1 n4,zEz hts hd ha.1]
  dsimp only
  rw [zT hts ha.2.1,hf f hh]
  simp only [List.length_append,List.length_cons]
  rw [show k + 1 + 1 + (tyT t d).length + 1 + (l.length + 2) = k + ((tyT t d).length + (l.length + 1 + 1 + 1) + 1 + 1) by omega]
  rfl
theorem zOY (hts:ts.length ≤ 900000000)(x:Ex)(d:Nat)(l:List PT)(a:Int)(h:M2 ts 1 x d l):M1 ts (Ex.of 10 0 [] [] 0 [x] a) 7 (d + 1) (wd [108,101,110] :: sg [40] :: (l ++ [sg [41]])):=
 m1_7 zC1 fun k o hk ho _ => by
  obtain ⟨x',f0,he,hf⟩:=zEF hts h (o:=o) hk.2 (by omega)
  refine zC7 f0 (Ex.of 10 0 [] [] 0 [x'] (tokAt ts k).at_) (E2.mk _ _ _ _ _ _ _ (Al.L2.one he)) fun f hh => zAu hk.1 n34 ?_
  unfold Qe.first
  dsimp only
  rw [if_neg (zCn hk.1 n32),zI hk.1,if_neg (by decide),zI hk.1,if_neg (by decide),zI hk.1,if_neg (by decide),zI hk.1,if_neg (by decide),zI hk.1,if_pos (by decide),zQ hts hk.1 n3,hf f hh]
  simp only [List.length_append,List.length_cons]
  rw [show k + 1 + (l.length + 2) = k + (l.length + 1 + 1 + 1) by omega]
  rfl
theorem zNr (hts:ts.length ≤ 900000000)(a:Int):M1 ts (Ex.of 11 0 [] [] 0 [] a) 7 1 [wd [114,101,97,100],sg [40],sg [41]]:=
 m1_7 zC1 fun k o hk ho _ => zC7 0 (Ex.of 11 0 [] [] 0 [] (tokAt ts k).at_) (E2.mk _ _ _ _ _ _ _ Al.L2.nil) fun f _ => zAu hk.1 n34 (by
  unfold Qe.first
  dsimp only
  rw [if_neg (zCn hk.1 n32),zI hk.1,if_neg (by decide),zI hk.1,if_neg (by decide),zI hk.1,if_neg (by decide),zI hk.1,if_neg (by decide),zI hk.1,if_neg (by decide),zI hk.1,if_pos (by decide),zQ hts hk.1 n3,zAV hts hk.2.1 (by omega),zAQ hts hk.2.2.1 (by omega)]
  rfl)
theorem m1_6 {e:Ex}{d:Nat}{l:List PT}(hh:Head l)(h:∀ k o,Has ts k l → d + o ≤ 50 → Stop ts 5 (k + l.length) → UN ts e k o (k + l.length)):M1 ts e 6 d l:=
 ⟨hh,by omega,fun k o hk ho => ⟨fun h => by omega,fun _ hs => h k o hk ho hs,fun n hn h => by omega,by omega⟩⟩
theorem zCl (hts:ts.length ≤ 900000000){x:Ex}{d:Nat}{l:List PT}(h:M2 ts 6 x d l){k o:Nat}{t:List UInt8}(hk:Has ts k (sg t :: l))(ho:d + 1 + o ≤ 50)(hs:Stop ts 5 (k + (l.length + 1)))(kd a:Int):∃ x' f0,E2 (Ex.of kd 0 [] [] 0 [x] a) x' ∧ ∀ f,f0 ≤ f → Qe.prefixed ts (Qe.run ts f) (st k o) t kd = some (x',st (k + (l.length + 1)) o):=by
 obtain ⟨x',f0,he,hf⟩:=(h.2 (k + 1) (o + 1) hk.2 (by omega)).2.1 5 (by omega) rfl (by rw [show k + 1 + l.length = k + (l.length + 1) by omega]; exact hs)
 refine ⟨Ex.of kd 0 [] [] 0 [x'] (tokAt ts k).at_,f0,E2.mk _ _ _ _ _ _ _ (Al.L2.one he),fun f hh => ?_⟩
 unfold Qe.prefixed
 rw [zAV hts hk.1 (by omega),hf f hh]
 dsimp only
 rw [show k + 1 + l.length = k + (l.length + 1) by omega]
 show some (_,(⟨((k + (l.length + 1):Nat):Int),dec ((o + 1:Nat):Int),0,0⟩:Q)) = _
 rw [zKz (by omega)]
 rfl
theorem zOX (hts:ts.length ≤ 900000000)(x:Ex)(d:Nat)(l:List PT)(a:Int)(h:M2 ts 6 x d l):M1 ts (Ex.of 12 0 [] [] 0 [x] a) 6 (d + 1) (sg [45] :: l):=
 m1_6 ⟨_,_,rfl,n4,.inr (.inr (.inl rfl))⟩ fun k o hk ho hs => by
  obtain ⟨x',f0,he,hf⟩:=zCl hts h hk ho hs 12 a
  refine ⟨x',f0,he,fun f hh => ?_⟩
  unfold Qe.unary
  rw [zAI hk.1,if_pos (by decide),hf f hh]
  rfl
theorem zOU (hts:ts.length ≤ 900000000)(x:Ex)(d:Nat)(l:List PT)(a:Int)(h:M2 ts 6 x d l):M1 ts (Ex.of 13 0 [] [] 0 [x] a) 6 (d + 1) (sg [33] :: l):=
 m1_6 ⟨_,_,rfl,n4,.inr (.inr (.inr rfl))⟩ fun k o hk ho hs => by
  obtain ⟨x',f0,he,hf⟩:=zCl hts h hk ho hs 13 a
  refine ⟨x',f0,he,fun f hh => ?_⟩
  unfold Qe.unary
  rw [zAI hk.1,if_neg (by decide),zAI hk.1,if_pos (by decide),hf f hh]
  rfl
theorem zO0 (hts:ts.length ≤ 900000000)(n:Nat)(t:List UInt8)(kind:Int)(x:Ex)(d:Nat)(l:List PT)(y:Ex)(d2:Nat)(l2:List PT)(a:Int)(hs:(t,kind) ∈ signsOf n)(h:M2 ts (n + 1) x d l)(h2:M2 ts (n + 2) y d2 l2):M1 ts (Ex.of kind 0 [] [] 0 [x,y] a) (n + 1) (max d d2) (l ++ (sg t :: l2)):=by
 obtain ⟨hn5,hk1,hk2,hk3,hk4⟩:=zBh hs
 refine ⟨zEa h.1,by omega,fun k o hk ho => ⟨fun h => by omega,fun h => by omega,fun m hm hv hst => ?_,by omega⟩⟩
 obtain rfl:n = m:=by omega
 have ha:=hk.app
 obtain ⟨x',f0,c,hc,he,hf⟩:=(h.2 k o ha.1 (by omega)).2.2 n hn5 rfl (zGY ha.2.1 hk3 hk4)
 have hlen:k + l.length + 1 + l2.length = k + (l ++ (sg t :: l2)).length:=by rw [List.length_append,List.length_cons]; omega
 obtain ⟨y',f1,he2,hf2⟩:=(h2.2 (k + l.length + 1) o ha.2.2 (by omega)).2.1 (n + 1) (by omega) rfl (by rw [hlen]; exact hst)
 refine ⟨Ex.of kind 0 [] [] 0 [x',y'] (tokAt ts (k + l.length:Nat)).at_,f0 + f1 + 1,c + 1,by omega,E2.mk _ _ _ _ _ _ _ (Al.L2.two he he2),fun f hh => ?_⟩
 have hsg:Qe.sign ts (st (k + l.length) o) n = kind:=by
  refine (if_pos rfl).trans ?_
  show levelT n (tokAt ts (k + l.length:Nat)) = kind
  unfold levelT
  rw [if_pos (show (tokAt ts (k + l.length:Nat)).kind = 4 from ha.2.1.1),show (tokAt ts (k + l.length:Nat)).text = t from ha.2.1.2.1]
  exact hk1
 rw [hf f (by omega),show f - c = (f - (c + 1)) + 1 by omega,Qe.binLoop,hsg,if_neg hk2,zQ hts ha.2.1 n4,hf2 f (by omega),hlen]
 rfl
theorem zOV:M3 ts [] 0 []:=by
 intro k o acc acc' hl hk _
 refine ⟨acc',1,by rw [List.append_nil]; exact hl,fun f _ g hg => ?_⟩
 rw [show g = (g - 1) + 1 by omega,Qe.argLoop,zAI hk.1,if_neg (by decide)]
 rfl
theorem zNv (hts:ts.length ≤ 900000000)(x:Ex)(d:Nat)(l:List PT)(xs:List Ex)(d2:Nat)(l2:List PT)(hm:EM xs d2 l2)(h:M2 ts 1 x d l)(h2:M3 ts xs d2 l2):M3 ts (x :: xs) (max d d2) (sg [44] :: (l ++ l2)):=by
 intro k o acc acc' hl hk ho
 have hk':Has ts (k + 1) (l ++ (l2 ++ [sg [41]])):=by rw [← List.append_assoc]; exact hk.2
 have ha:=hk'.app
 obtain ⟨x',f0,he,hf⟩:=(h.2 (k + 1) o ha.1 (by omega)).2.1 0 (by omega) rfl (zIx hm ha.2 0)
 obtain ⟨ys,f1,hy,hg⟩:=h2 (k + 1 + l.length) o (acc ++ [x]) (acc' ++ [x']) (hl.snoc he) ha.2 (by omega)
 refine ⟨ys,f0 + f1 + 1,by rw [show acc ++ x :: xs = acc ++ [x] ++ xs by simp]; exact hy,fun f hh g hgg => ?_⟩
 rw [show g = (g - 1) + 1 by omega,Qe.argLoop,zAI hk.1,if_pos (by decide),zQ hts hk.1 n4,hf f (by omega)]
 dsimp only
 rw [hg f (by omega) (g - 1) (by omega),List.length_cons,List.length_append,show k + 1 + l.length + l2.length = k + (l.length + l2.length + 1) by omega]
theorem zFV (hts:ts.length ≤ 900000000){e:Ex}{lv d:Nat}{l:List PT}(h:EP e lv d l):M1 ts e lv d l:=
 EP.rec (motive_1:=fun e lv d l _ => M1 ts e lv d l) (motive_2:=fun n e d l _ => M2 ts n e d l) (motive_3:=fun xs d l _ => M3 ts xs d l)
  (fun n a => zOT hts n a) (fun a => zOS hts a) (fun a => zOZ hts a) (fun t d a hd => zNs hts t d a hd) (fun t a => zOR hts t a)
  (fun x d l t a _ h => zLM hts x d l t a h) (fun x d l i d2 l2 a _ _ h h2 => zNu hts x d l i d2 l2 a h h2) (fun t a => zLN hts t a)
  (fun t a x d l xs d2 l2 _ hm h h2 => zNw hts t a x d l xs d2 l2 hm h h2) (fun t a => zOW hts t a) (fun t d x dx l a hd _ h => zNt hts t d x dx l a hd h)
  (fun x d l a _ h => zOY hts x d l a h) (fun a => zNr hts a) (fun x d l a _ h => zOX hts x d l a h) (fun x d l a _ h => zOU hts x d l a h)
  (fun n t kind x d l y d2 l2 a hs _ _ h h2 => zO0 hts n t kind x d l y d2 l2 a hs h h2)
  (fun _ _ _ _ _ _ hn h => zH2 hn h) (fun _ _ _ _ _ _ _ h => zKp hts h)
  zOV (fun x d l xs d2 l2 _ hm h h2 => zNv hts x d l xs d2 l2 hm h h2) h
theorem zJ1 (hts:ts.length ≤ 900000000){n:Nat}{e:Ex}{d:Nat}{l:List PT}(h:EW n e d l):M2 ts n e d l:=by
 cases h with
 | bare _ _ _ _ _ h hn => exact zH2 hn (zFV hts h)
 | par _ _ _ _ _ h hn => exact zKp hts (zFV hts h)
end
end Rt
namespace Rt
open Go.RowKit
open Px (RT tokAt isT levelT signsOf)
open Qe (Q)
open Pe (Ex inc dec)
section
variable (NmOk:List UInt8 → Prop) (NuOk:Int → Prop)
def Ok (p:PT):Prop:=(p.1 = 1 → NmOk p.2.1) ∧ (p.1 = 2 → NuOk p.2.2)
def OkL (l:List PT):Prop:=∀ p ∈ l,Ok NmOk NuOk p
def WR (n:Nat)(e:Ex)(o:Int):Prop:=∃ d l,EW n e d l ∧ OkL NmOk NuOk l ∧ (d:Int) + o ≤ 50
def TokOk (ts:List RT):Prop:=∀ k,((tokAt ts k).kind = 1 → NmOk (tokAt ts k).text) ∧ ((tokAt ts k).kind = 2 → NuOk (tokAt ts k).num)
end
section
variable {NmOk:List UInt8 → Prop} {NuOk:Int → Prop}
theorem zV (t:List UInt8):Ok NmOk NuOk (sg t):=⟨fun h => absurd h (by show ¬ (4:Int) = 1; decide),fun h => absurd h (by show ¬ (4:Int) = 2; decide)⟩
theorem zA9 (t:List UInt8):Ok NmOk NuOk (wd t):=⟨fun h => absurd h (by show ¬ (3:Int) = 1; decide),fun h => absurd h (by show ¬ (3:Int) = 2; decide)⟩
theorem zCR {t:List UInt8}(h:NmOk t):Ok NmOk NuOk (nm t):=⟨fun _ => h,fun h => absurd h (by show ¬ (1:Int) = 2; decide)⟩
theorem zOr {n:Int}(h:NuOk n):Ok NmOk NuOk (nu n):=⟨fun h => absurd h (by show ¬ (2:Int) = 1; decide),fun _ => h⟩
theorem OkL.nil:OkL NmOk NuOk []:=fun _ h => by cases h
theorem OkL.cons {p:PT}{l:List PT}(h:Ok NmOk NuOk p)(hl:OkL NmOk NuOk l):OkL NmOk NuOk (p :: l):=fun q hq => by
 rcases List.mem_cons.1 hq with rfl | hq
 ·exact h
 ·exact hl q hq
theorem OkL.app {a b:List PT}(h:OkL NmOk NuOk a)(hl:OkL NmOk NuOk b):OkL NmOk NuOk (a ++ b):=fun q hq => by
 rcases List.mem_append.1 hq with hq | hq
 ·exact h q hq
 ·exact hl q hq
theorem OkL.rep {p:PT}(h:Ok NmOk NuOk p)(n:Nat):OkL NmOk NuOk (List.replicate n p):=fun q hq => by
 rw [(List.mem_replicate.1 hq).2]; exact h
def TyOk (NmOk:List UInt8 → Prop)(t:List UInt8):Prop:=(t = [105,110,116] ∨ t = [98,111,111,108]) ∨ NmOk t
theorem zGF {t:List UInt8}(h:TyOk NmOk t)(d:Nat):OkL NmOk NuOk (tyT t d):=by
 have hw:Ok NmOk NuOk (word t):=by
  unfold word
  split
  ·exact zA9 _
  ·rename_i hn; exact zCR (h.resolve_left hn)
 exact ((OkL.rep (zV _) d).app (OkL.nil.cons hw)).app (OkL.rep (zV _) d)
theorem WR.weak {n m:Nat}{e:Ex}{o:Int}(h:WR NmOk NuOk m e o)(hn:n ≤ m):WR NmOk NuOk n e o:=by
 obtain ⟨d,l,h,hk,ho⟩:=h
 cases h with
 | bare _ _ _ _ _ h hl => exact ⟨d,l,.bare _ _ _ _ _ h (by omega),hk,ho⟩
 | par _ _ lv d _ h hl =>
   by_cases hc:n ≤ lv
   ·exact ⟨d,_,.bare _ _ _ _ _ h hc,fun p hp => hk p (List.mem_cons_of_mem _ (List.mem_append_left _ hp)),by push_cast at ho; omega⟩
   ·exact ⟨_,_,.par _ _ _ _ _ h (by omega),hk,ho⟩
theorem WR.par {n m:Nat}{e:Ex}{o:Int}(h:WR NmOk NuOk m e (o + 1)):WR NmOk NuOk n e o:=by
 obtain ⟨d,l,h,hk,ho⟩:=h
 have key:∀ {lv d:Nat} {l:List PT},EP e lv d l → OkL NmOk NuOk l → (d:Int) + (o + 1) ≤ 50 → WR NmOk NuOk n e o:=by
  intro lv d l h hk ho
  by_cases hc:n ≤ lv
  ·exact ⟨d,l,.bare _ _ _ _ _ h hc,hk,by omega⟩
  ·exact ⟨d + 1,_,.par _ _ _ _ _ h (by omega),((hk.app (OkL.nil.cons (zV _)))).cons (zV _),by push_cast; omega⟩
 cases h with
 | bare _ _ _ _ _ h hl => exact key h hk ho
 | par _ _ lv d _ h hl => exact key h (fun p hp => hk p (List.mem_cons_of_mem _ (List.mem_append_left _ hp))) (by push_cast at ho; omega)
theorem WR.of {n lv d:Nat}{e:Ex}{l:List PT}{o:Int}(h:EP e lv d l)(hn:n ≤ lv)(hk:OkL NmOk NuOk l)(ho:(d:Int) + o ≤ 50):WR NmOk NuOk n e o:=⟨d,l,.bare _ _ _ _ _ h hn,hk,ho⟩
end
section
variable {ts:List RT}
theorem zAh {s:Q}{e:Int}(he:e ≠ 0)(h:(Qe.fail ts s e).E = 0):False:=by
 unfold Qe.fail at h
 split at h
 ·exact he h
 ·rename_i hs; exact hs h
theorem is_E {s:Q}{b:Bool}{t:List UInt8}(h:Qe.is ts s b t = true):s.E = 0:=by
 unfold Qe.is at h
 rw [Bool.and_eq_true] at h
 simpa using h.1
theorem zId {s:Q}{b:Bool}{t:List UInt8}(h:Qe.is ts s b t = true):(tokAt ts s.k).kind = (if b then 3 else 4) ∧ (tokAt ts s.k).text = t:=by
 unfold Qe.is isT at h
 simp only [Bool.and_eq_true,decide_eq_true_eq,beq_iff_eq] at h
 exact h.2
theorem zBM {s:Q}{b:Bool}{t:List UInt8}(h:(Qe.take ts s b t).E = 0):Qe.is ts s b t = true ∧ Qe.take ts s b t = Qe.next s:=by
 unfold Qe.take at h ⊢
 by_cases hi:Qe.is ts s b t = true
 ·rw [if_pos hi]; exact ⟨hi,rfl⟩
 ·rw [if_neg hi] at h; exact (zAh (by decide) h).elim
theorem zCZ {o:Int}(h0 : 0 ≤ o)(h:o < 50):inc o = o + 1:=by unfold inc; simp [wrap64]; omega
theorem zC5 {o:Int}(h0 : 0 ≤ o)(h:o < 50):dec (o + 1) = o:=by unfold dec; simp [wrap64]; omega
theorem zBk {s:Q}{t:List UInt8}(h:(Qe.opens ts s t).E = 0):s.E = 0 ∧ s.o < 50 ∧ (Qe.opens ts s t).o = inc s.o:=by
 unfold Qe.opens at h ⊢
 by_cases hc:(Qe.is ts s false t && decide (50 ≤ s.o)) = true
 ·rw [if_pos hc] at h; exact (zAh (by decide) h).elim
 ·rw [if_neg hc] at h ⊢
  have ht:=zBM h
  rw [ht.1,Bool.true_and,decide_eq_true_eq] at hc
  exact ⟨is_E ht.1,by omega,by show inc (Qe.take ts s false t).o = _; rw [ht.2]; rfl⟩
theorem zBc {s:Q}{t:List UInt8}(h:(Qe.closes ts s t).E = 0):s.E = 0 ∧ (Qe.closes ts s t).o = dec s.o:=by
 have ht:=zBM (show (Qe.take ts s false t).E = 0 from h)
 exact ⟨is_E ht.1,by show dec (Qe.take ts s false t).o = _; rw [ht.2]; rfl⟩
theorem zA0 {s:Q}(h:(Qe.name ts s).2.E = 0):s.E = 0 ∧ (tokAt ts s.k).kind = 1 ∧ Qe.name ts s = ((tokAt ts s.k).text,Qe.next s):=by
 unfold Qe.name at h ⊢
 by_cases hc:s.E = 0 ∧ (tokAt ts s.k).kind = 1
 ·rw [if_pos hc]; exact ⟨hc.1,hc.2,rfl⟩
 ·rw [if_neg hc] at h; exact (zAh (by decide) h).elim
theorem zEf:∀ (n:Nat){s:Q},(Qe.dims ts n s).2.E = 0 → s.E = 0 ∧ (Qe.dims ts n s).2.o = s.o ∧ ∃ d,(Qe.dims ts n s).1 = some d ∧ d ≤ n
 | 0,s,h => by
   rw [Qe.dims] at h ⊢
   by_cases hi:Qe.is ts s false [91] = true
   ·rw [if_pos hi] at h; exact (zAh (by decide) h).elim
   ·rw [if_neg hi] at h ⊢; exact ⟨h,rfl,0,rfl,Nat.le_refl _⟩
 | n + 1,s,h => by
   rw [Qe.dims] at h ⊢
   by_cases hi:Qe.is ts s false [91] = true
   ·rw [if_pos hi] at h ⊢
    obtain ⟨h1,h2,d,h3,h4⟩:=zEf n h
    exact ⟨is_E hi,h2,d + 1,by dsimp only; rw [h3]; rfl,by omega⟩
   ·rw [if_neg hi] at h ⊢; exact ⟨h,rfl,0,rfl,Nat.zero_le _⟩
theorem zG7:∀ (n:Nat){s:Q},(Qe.shut ts n s).E = 0 → s.E = 0 ∧ (Qe.shut ts n s).o = s.o
 | 0,_,h => ⟨h,rfl⟩
 | n + 1,s,h => by
   obtain ⟨h1,h2⟩:=zG7 n (s:=Qe.take ts s false [93]) h
   have ht:=zBM h1
   exact ⟨is_E ht.1,by show (Qe.shut ts n (Qe.take ts s false [93])).o = _; rw [h2,ht.2]; rfl⟩
variable {NmOk:List UInt8 → Prop} {NuOk:Int → Prop}
theorem zLS (H:TokOk NmOk NuOk ts){s:Q}(h:(Qe.base ts s).2.E = 0):s.E = 0 ∧ (Qe.base ts s).2.o = s.o ∧ TyOk NmOk (Qe.base ts s).1:=by
 unfold Qe.base at h ⊢
 by_cases hi:(Qe.is ts s true [105,110,116] || Qe.is ts s true [98,111,111,108]) = true
 ·rw [if_pos hi]
  rw [Bool.or_eq_true] at hi
  rcases hi with hi | hi
  ·exact ⟨is_E hi,rfl,.inl (.inl (zId hi).2)⟩
  ·exact ⟨is_E hi,rfl,.inl (.inr (zId hi).2)⟩
 ·rw [if_neg hi] at h ⊢
  obtain ⟨h1,h2,h3⟩:=zA0 h
  rw [h3]
  exact ⟨h1,rfl,.inr ((H s.k).1 h2)⟩
theorem zHX (H:TokOk NmOk NuOk ts){s:Q}(h:(Qe.of ts s).2.2.E = 0):s.E = 0 ∧ (Qe.of ts s).2.2.o = s.o ∧ TyOk NmOk (Qe.of ts s).1 ∧ (Qe.of ts s).2.1 ≤ 3:=by
 unfold Qe.of at h ⊢
 cases hd:(Qe.dims ts 3 s).1 with
 | none =>
   rw [hd] at h
   obtain ⟨-,-,d,h1,-⟩:=zEf 3 h
   rw [hd] at h1; cases h1
 | some d =>
   rw [hd] at h
   dsimp only at h ⊢
   obtain ⟨h1,h2⟩:=zG7 d h
   obtain ⟨h3,h4,h5⟩:=zLS H h1
   obtain ⟨h6,h7,d',h8,h9⟩:=zEf 3 h3
   rw [hd] at h8
   obtain rfl:=Option.some.inj h8
   exact ⟨h6,by rw [h2,h4,h7],h5,h9⟩
def Wr (NmOk:List UInt8 → Prop)(NuOk:Int → Prop)(n:Nat)(s:Q)(x:Ex × Q):Prop:=x.2.E = 0 → s.E = 0 ∧ (0 ≤ s.o ∧ s.o ≤ 50 → x.2.o = s.o ∧ WR NmOk NuOk n x.1 s.o)
def RecW (NmOk:List UInt8 → Prop)(NuOk:Int → Prop)(rec:Nat → Q → Qe.Out):Prop:=∀ n,n ≤ 5 → ∀ s x,rec n s = some x → Wr NmOk NuOk (n + 1) s x
theorem zD7 {rec:Nat → Q → Qe.Out}(hr:RecW NmOk NuOk rec){s:Q}{x:Ex × Q}(h:Qe.inner ts rec s = some x)(hx:x.2.E = 0):s.E = 0 ∧ (0 ≤ s.o ∧ s.o ≤ 50 → x.2.o = s.o ∧ WR NmOk NuOk 1 x.1 (s.o + 1)):=by
 unfold Qe.inner at h
 split at h
 ·cases h
 ·rename_i e s2 he
  obtain rfl:=Option.some.inj h
  obtain ⟨h1,h2⟩:=zBc hx
  obtain ⟨h3,h7⟩:=hr 0 (by omega) _ _ he h1
  obtain ⟨h4,h5,h6⟩:=zBk h3
  refine ⟨h4,fun h0 => ?_⟩
  rw [zCZ h0.1 h5] at h6
  obtain ⟨h8,h9⟩:=h7 (by rw [h6]; omega)
  rw [h6] at h8 h9
  refine ⟨?_,h9⟩
  show (Qe.closes ts s2 [41]).o = s.o
  rw [h2,show s2.o = s.o + 1 from h8,zC5 h0.1 h5]
theorem zDL {rec:Nat → Q → Qe.Out}(hr:RecW NmOk NuOk rec):∀ (g:Nat){l:List Ex}{s:Q}{x:List Ex × Q},Qe.argLoop ts rec g l s = some x → x.2.E = 0 → s.E = 0 ∧ (0 ≤ s.o ∧ s.o ≤ 50 → x.2.o = s.o ∧ ∃ xs d tl,x.1 = l ++ xs ∧ EM xs d tl ∧ OkL NmOk NuOk tl ∧ (d:Int) + s.o ≤ 50 ∨ x.1 = l ∧ xs = [] ∧ d = 0 ∧ tl = [])
 | 0,_,_,_,h,_ => by cases h
 | g + 1,l,s,x,h,hx => by
   rw [Qe.argLoop] at h
   by_cases hi:Qe.is ts s false [44] = true
   ·rw [if_pos hi] at h
    split at h
    ·cases h
    ·rename_i e s2 he
     obtain ⟨h1,h2⟩:=zDL hr g h hx
     obtain ⟨h3,h4⟩:=hr 0 (by omega) _ _ he h1
     refine ⟨is_E hi,fun h0 => ?_⟩
     obtain ⟨h5,d,l1,h6,h7,h8⟩:=h4 h0
     have h5':s2.o = s.o:=h5
     obtain ⟨h9,xs,d2,tl,h10⟩:=h2 (by rw [h5']; exact h0)
     rw [h5'] at h9 h10
     have h8':(d:Int) + s.o ≤ 50:=h8
     refine ⟨h9,?_⟩
     rcases h10 with ⟨h11,h12,h13,h14⟩ | ⟨h11,-,-,-⟩
     ·exact ⟨e :: xs,max d d2,sg [44] :: (l1 ++ tl),.inl ⟨by rw [h11]; simp,.cons _ _ _ _ _ _ h6 h12,(h7.app h13).cons (zV _),by omega⟩⟩
     ·exact ⟨[e],max d 0,sg [44] :: (l1 ++ []),.inl ⟨h11,.cons _ _ _ _ _ _ h6 .nil,(h7.app OkL.nil).cons (zV _),by omega⟩⟩
   ·rw [if_neg hi] at h
    obtain rfl:=Option.some.inj h
    exact ⟨hx,fun _ => ⟨rfl,[],0,[],.inr ⟨rfl,rfl,rfl,rfl⟩⟩⟩
theorem zLW {rec:Nat → Q → Qe.Out}(hr:RecW NmOk NuOk rec)(g:Nat){s:Q}{x:List Ex × Q}(h:Qe.args ts rec g s = some x)(hx:x.2.E = 0):s.E = 0 ∧ (0 ≤ s.o ∧ s.o ≤ 50 → x.2.o = s.o ∧ ((x.1 = [] ∧ 1 + s.o ≤ 50) ∨ ∃ y d l xs d2 l2,x.1 = y :: xs ∧ EW 1 y d l ∧ EM xs d2 l2 ∧ OkL NmOk NuOk l ∧ OkL NmOk NuOk l2 ∧ ((max d d2 + 1:Nat):Int) + s.o ≤ 50)):=by
 unfold Qe.args at h
 by_cases hi:Qe.is ts (Qe.opens ts s [40]) false [41] = true
 ·rw [if_pos hi] at h
  obtain rfl:=Option.some.inj h
  obtain ⟨h1,h2⟩:=zBc hx
  obtain ⟨h4,h5,h6⟩:=zBk h1
  refine ⟨h4,fun h0 => ⟨?_,.inl ⟨rfl,by omega⟩⟩⟩
  show (Qe.closes ts (Qe.opens ts s [40]) [41]).o = s.o
  rw [h2,h6,zCZ h0.1 h5,zC5 h0.1 h5]
 ·rw [if_neg hi] at h
  split at h
  ·cases h
  ·rename_i e s2 he
   split at h
   ·cases h
   ·rename_i l s3 hl
    obtain rfl:=Option.some.inj h
    obtain ⟨h1,h2⟩:=zBc hx
    obtain ⟨h3,h7⟩:=zDL hr g hl h1
    obtain ⟨h8,h9⟩:=hr 0 (by omega) _ _ he h3
    obtain ⟨h4,h5,h6⟩:=zBk h8
    refine ⟨h4,fun h0 => ?_⟩
    rw [zCZ h0.1 h5] at h6
    obtain ⟨h10,d,l1,h11,h12,h13⟩:=h9 (by rw [h6]; omega)
    rw [h6] at h10 h13
    have h10':s2.o = s.o + 1:=h10
    obtain ⟨h14,xs,d2,tl,h15⟩:=h7 (by rw [h10']; omega)
    rw [h10'] at h14 h15
    refine ⟨?_,.inr ?_⟩
    ·show (Qe.closes ts s3 [41]).o = s.o
     rw [h2,show s3.o = s.o + 1 from h14,zC5 h0.1 h5]
    ·rcases h15 with ⟨h16,h17,h18,h19⟩ | ⟨h16,-,-,-⟩
     ·exact ⟨e,d,l1,xs,d2,tl,h16,h11,h17,h12,h18,by push_cast; omega⟩
     ·exact ⟨e,d,l1,[],0,[],h16,h11,.nil,h12,OkL.nil,by push_cast; omega⟩
theorem zJH (H:TokOk NmOk NuOk ts){rec:Nat → Q → Qe.Out}(hr:RecW NmOk NuOk rec){s:Q}{a:Int}{x:Ex × Q}(h:Qe.fresh ts rec s a = some x):Wr NmOk NuOk 7 s x:=by
 intro hx
 unfold Qe.fresh at h
 by_cases hi:Qe.is ts s false [91] = true
 ·rw [if_pos hi] at h
  dsimp only at h
  split at h
  ·cases h
  ·rename_i e s2 he
   obtain rfl:=Option.some.inj h
   obtain ⟨h1,h2⟩:=zD7 hr he hx
   have ht:=zBM h1
   have hE:(Qe.of ts (Qe.next s)).2.2.E = 0:=is_E ht.1
   obtain ⟨-,h4,h5,h6⟩:=zHX H hE
   refine ⟨is_E hi,fun h0 => ?_⟩
   have ho:(Qe.take ts (Qe.of ts (Qe.next s)).2.2 false [93]).o = s.o:=by rw [ht.2]; exact h4
   rw [ho] at h2
   obtain ⟨h7,d,l,h8,h9,h10⟩:=h2 h0
   exact ⟨h7,.of (.make _ _ _ _ _ a h6 h8) (Nat.le_refl _) (((((h9.app (OkL.nil.cons (zV _))).cons (zV _)).cons (zV _) |> (zGF h5 _).app).cons (zV _)).cons (zA9 _)) (by push_cast; omega)⟩
 ·rw [if_neg hi] at h
  obtain rfl:=Option.some.inj h
  obtain ⟨h1,h2,h3⟩:=zA0 hx
  refine ⟨h1,fun h0 => ?_⟩
  rw [h3]
  exact ⟨rfl,.of (.new _ a) (Nat.le_refl _) ((OkL.nil.cons (zCR ((H s.k).1 h2))).cons (zA9 _)) (by have:=h0.2; push_cast; omega)⟩
theorem zJX (H:TokOk NmOk NuOk ts){rec:Nat → Q → Qe.Out}(hr:RecW NmOk NuOk rec)(g:Nat){s:Q}{x:Ex × Q}(h:Qe.first ts rec g s = some x):Wr NmOk NuOk 7 s x:=by
 intro hx
 unfold Qe.first at h
 dsimp only at h
 by_cases c0:s.E = 0 ∧ (tokAt ts s.k).kind = 2
 ·rw [if_pos c0] at h
  obtain rfl:=Option.some.inj h
  exact ⟨c0.1,fun h0 => ⟨rfl,.of (.num _ _) (Nat.le_refl _) (OkL.nil.cons (zOr ((H s.k).2 c0.2))) (by have:=h0.2; push_cast; omega)⟩⟩
 rw [if_neg c0] at h
 by_cases c1:Qe.is ts s true [116,114,117,101] = true
 ·rw [if_pos c1] at h
  obtain rfl:=Option.some.inj h
  exact ⟨is_E c1,fun h0 => ⟨rfl,.of (.tru _) (Nat.le_refl _) (OkL.nil.cons (zA9 _)) (by have:=h0.2; push_cast; omega)⟩⟩
 rw [if_neg c1] at h
 by_cases c2:Qe.is ts s true [102,97,108,115,101] = true
 ·rw [if_pos c2] at h
  obtain rfl:=Option.some.inj h
  exact ⟨is_E c2,fun h0 => ⟨rfl,.of (.fls _) (Nat.le_refl _) (OkL.nil.cons (zA9 _)) (by have:=h0.2; push_cast; omega)⟩⟩
 rw [if_neg c2] at h
 by_cases c3:Qe.is ts s true [110,117,108,108] = true
 ·rw [if_pos c3] at h
  obtain rfl:=Option.some.inj h
  obtain ⟨-,h4,h5,h6⟩:=zHX H hx
  exact ⟨is_E c3,fun h0 => ⟨h4,.of (.null _ _ _ h6) (Nat.le_refl _) ((zGF h5 _).cons (zA9 _)) (by have:=h0.2; push_cast; omega)⟩⟩
 rw [if_neg c3] at h
 by_cases c4:Qe.is ts s true [110,101,119] = true
 ·rw [if_pos c4] at h
  exact ⟨is_E c4,(zJH H hr h hx).2⟩
 rw [if_neg c4] at h
 by_cases c5:Qe.is ts s true [108,101,110] = true
 ·rw [if_pos c5] at h
  split at h
  ·cases h
  ·rename_i e s2 he
   obtain rfl:=Option.some.inj h
   obtain ⟨h1,h2⟩:=zD7 hr he hx
   refine ⟨is_E c5,fun h0 => ?_⟩
   obtain ⟨h7,d,l,h8,h9,h10⟩:=h2 h0
   have h10':(d:Int) + (s.o + 1) ≤ 50:=h10
   exact ⟨h7,.of (.len _ _ _ _ h8) (Nat.le_refl _) (((h9.app (OkL.nil.cons (zV _))).cons (zV _)).cons (zA9 _)) (by push_cast; omega)⟩
 rw [if_neg c5] at h
 by_cases c6:Qe.is ts s true [114,101,97,100] = true
 ·rw [if_pos c6] at h
  obtain rfl:=Option.some.inj h
  obtain ⟨h1,h2⟩:=zBc hx
  obtain ⟨h4,h5,h6⟩:=zBk h1
  refine ⟨is_E c6,fun h0 => ⟨?_,.of (.read _) (Nat.le_refl _) (((OkL.nil.cons (zV _)).cons (zV _)).cons (zA9 _)) (by have:s.o < 50:=h5; push_cast; omega)⟩⟩
  show (Qe.closes ts (Qe.opens ts (Qe.next s) [40]) [41]).o = s.o
  rw [h2,h6]
  show dec (inc s.o) = s.o
  rw [zCZ h0.1 h5,zC5 h0.1 h5]
 rw [if_neg c6] at h
 by_cases c7:Qe.is ts s false [40] = true
 ·rw [if_pos c7] at h
  obtain ⟨h1,h2⟩:=zD7 hr h hx
  exact ⟨h1,fun h0 => ⟨(h2 h0).1,(h2 h0).2.par⟩⟩
 rw [if_neg c7] at h
 by_cases c8:Qe.is ts (Qe.name ts s).2 false [40] = true
 ·rw [if_pos c8] at h
  split at h
  ·cases h
  ·rename_i l s2 hl
   obtain rfl:=Option.some.inj h
   obtain ⟨h1,h2⟩:=zLW hr g hl hx
   obtain ⟨h3,h4,h5⟩:=zA0 h1
   refine ⟨h3,fun h0 => ?_⟩
   rw [h5] at h2 ⊢
   obtain ⟨h6,h7⟩:=h2 h0
   have hn:=zCR (NuOk:=NuOk) ((H s.k).1 h4)
   refine ⟨h6,?_⟩
   rcases h7 with ⟨h7,h8⟩ | ⟨y,d,l1,xs,d2,l2,h8,h9,h10,h11,h12,h13⟩
   ·dsimp only at h7
    subst h7
    exact .of (.call0 _ _) (Nat.le_refl _) (((OkL.nil.cons (zV _)).cons (zV _)).cons hn) (by have : 1 + s.o ≤ 50:=h8; push_cast; omega)
   ·dsimp only at h8
    subst h8
    exact .of (.call _ _ _ _ _ _ _ _ h9 h10) (Nat.le_refl _) (((h11.app (h12.app (OkL.nil.cons (zV _)))).cons (zV _)).cons hn) h13
 ·rw [if_neg c8] at h
  obtain rfl:=Option.some.inj h
  obtain ⟨h1,h2,h3⟩:=zA0 hx
  rw [h3]
  exact ⟨h1,fun h0 => ⟨rfl,.of (.var _ _) (Nat.le_refl _) (OkL.nil.cons (zCR ((H s.k).1 h2))) (by have:=h0.2; push_cast; omega)⟩⟩
theorem zC9 (H:TokOk NmOk NuOk ts){rec:Nat → Q → Qe.Out}(hr:RecW NmOk NuOk rec):∀ (g:Nat){e:Ex}{s:Q}{x:Ex × Q},Qe.behind ts rec g e s = some x → x.2.E = 0 → s.E = 0 ∧ (0 ≤ s.o ∧ s.o ≤ 50 → WR NmOk NuOk 7 e s.o → x.2.o = s.o ∧ WR NmOk NuOk 7 x.1 s.o)
 | 0,_,_,_,h,_ => by cases h
 | g + 1,e,s,x,h,hx => by
   rw [Qe.behind] at h
   by_cases c1:Qe.is ts s false [46] = true
   ·rw [if_pos c1] at h
    obtain ⟨h1,h2⟩:=zC9 H hr g h hx
    obtain ⟨-,h4,h5⟩:=zA0 h1
    refine ⟨is_E c1,fun h0 hw => ?_⟩
    obtain ⟨d,l,h6,h7,h8⟩:=hw
    rw [h5] at h2
    exact h2 h0 (.of (.field _ _ _ _ _ h6) (Nat.le_refl _) (h7.app ((OkL.nil.cons (zCR ((H _).1 h4))).cons (zV _))) h8)
   rw [if_neg c1] at h
   by_cases c2:Qe.is ts s false [91] = true
   ·rw [if_pos c2] at h
    split at h
    ·cases h
    ·rename_i i s2 hi
     obtain ⟨h1,h2⟩:=zC9 H hr g h hx
     obtain ⟨h3,h4⟩:=zBc h1
     obtain ⟨h8,h9⟩:=hr 0 (by omega) _ _ hi h3
     obtain ⟨h10,h5,h6⟩:=zBk h8
     refine ⟨h10,fun h0 hw => ?_⟩
     rw [zCZ h0.1 h5] at h6
     obtain ⟨h11,d2,l2,h12,h13,h14⟩:=h9 (by rw [h6]; omega)
     rw [h6] at h11 h14
     have h11':s2.o = s.o + 1:=h11
     rw [h4,h11',zC5 h0.1 h5] at h2
     obtain ⟨d,l,h15,h16,h17⟩:=hw
     exact h2 h0 (.of (.item _ _ _ _ _ _ _ h15 h12) (Nat.le_refl _) (h16.app ((h13.app (OkL.nil.cons (zV _))).cons (zV _))) (by push_cast; omega))
   ·rw [if_neg c2] at h
    obtain rfl:=Option.some.inj h
    exact ⟨hx,fun _ hw => ⟨rfl,hw⟩⟩
theorem zCM {rec:Nat → Q → Qe.Out}(hr:RecW NmOk NuOk rec){s:Q}{t:List UInt8}{kd:Int}(hk:kd = 12 ∧ t = [45] ∨ kd = 13 ∧ t = [33]){x:Ex × Q}(h:Qe.prefixed ts rec s t kd = some x):Wr NmOk NuOk 6 s x:=by
 intro hx
 unfold Qe.prefixed at h
 split at h
 ·cases h
 ·rename_i e s2 he
  obtain rfl:=Option.some.inj h
  obtain ⟨h8,h9⟩:=hr 5 (by omega) _ _ he hx
  obtain ⟨h10,h5,h6⟩:=zBk h8
  refine ⟨h10,fun h0 => ?_⟩
  rw [zCZ h0.1 h5] at h6
  obtain ⟨h11,d,l,h12,h13,h14⟩:=h9 (by rw [h6]; omega)
  rw [h6] at h11 h14
  refine ⟨?_,?_⟩
  ·show dec s2.o = s.o
   rw [show s2.o = s.o + 1 from h11,zC5 h0.1 h5]
  ·rcases hk with ⟨rfl,rfl⟩ | ⟨rfl,rfl⟩
   ·exact .of (.neg _ _ _ _ h12) (Nat.le_refl _) (h13.cons (zV _)) (by push_cast; omega)
   ·exact .of (.not _ _ _ _ h12) (Nat.le_refl _) (h13.cons (zV _)) (by push_cast; omega)
theorem zIN (H:TokOk NmOk NuOk ts){rec:Nat → Q → Qe.Out}(hr:RecW NmOk NuOk rec)(g:Nat){s:Q}{x:Ex × Q}(h:Qe.unary ts rec g s = some x):Wr NmOk NuOk 6 s x:=by
 unfold Qe.unary at h
 by_cases c1:Qe.is ts s false [45] = true
 ·rw [if_pos c1] at h; exact zCM hr (.inl ⟨rfl,rfl⟩) h
 rw [if_neg c1] at h
 by_cases c2:Qe.is ts s false [33] = true
 ·rw [if_pos c2] at h; exact zCM hr (.inr ⟨rfl,rfl⟩) h
 rw [if_neg c2] at h
 split at h
 ·cases h
 ·rename_i e s2 he
  intro hx
  obtain ⟨h1,h2⟩:=zC9 H hr g h hx
  obtain ⟨h3,h4⟩:=zJX H hr g he h1
  refine ⟨h3,fun h0 => ?_⟩
  obtain ⟨h5,h6⟩:=h4 h0
  have h5':s2.o = s.o:=h5
  rw [h5'] at h2
  obtain ⟨h7,h8⟩:=h2 h0 h6
  exact ⟨h7,h8.weak (by omega)⟩
theorem zKV {s:Q}{n:Nat}(h:¬ Qe.sign ts s n = 0):s.E = 0 ∧ ∃ t,(t,Qe.sign ts s n) ∈ signsOf n:=by
 unfold Qe.sign at h ⊢
 by_cases hE:s.E = 0
 ·rw [if_pos hE] at h ⊢
  unfold levelT at h ⊢
  by_cases hk:(tokAt ts s.k).kind = 4
  ·rw [if_pos hk] at h ⊢
   cases hf:(signsOf n).find? fun p => p.1 == (tokAt ts s.k).text with
   | none => rw [hf] at h; exact absurd rfl h
   | some p => exact ⟨hE,p.1,List.mem_of_find?_eq_some hf⟩
  ·rw [if_neg hk] at h; exact absurd rfl h
 ·rw [if_neg hE] at h; exact absurd rfl h
theorem zDH {rec:Nat → Q → Qe.Out}(hr:RecW NmOk NuOk rec){n:Nat}(hn:n < 5):∀ (g:Nat){e:Ex}{s:Q}{x:Ex × Q},Qe.binLoop ts rec n g e s = some x → x.2.E = 0 → s.E = 0 ∧ (0 ≤ s.o ∧ s.o ≤ 50 → WR NmOk NuOk (n + 1) e s.o → x.2.o = s.o ∧ WR NmOk NuOk (n + 1) x.1 s.o)
 | 0,_,_,_,h,_ => by cases h
 | g + 1,e,s,x,h,hx => by
   rw [Qe.binLoop] at h
   by_cases c1:Qe.sign ts s n = 0
   ·rw [if_pos c1] at h
    obtain rfl:=Option.some.inj h
    exact ⟨hx,fun _ hw => ⟨rfl,hw⟩⟩
   ·rw [if_neg c1] at h
    split at h
    ·cases h
    ·rename_i r s2 he
     obtain ⟨h1,h2⟩:=zDH hr hn g h hx
     obtain ⟨h3,h4⟩:=hr (n + 1) (by omega) _ _ he h1
     obtain ⟨h5,t,h6⟩:=zKV c1
     refine ⟨h5,fun h0 hw => ?_⟩
     obtain ⟨h7,d2,l2,h8,h9,h10⟩:=h4 h0
     have h7':s2.o = s.o:=h7
     have h10':(d2:Int) + s.o ≤ 50:=h10
     obtain ⟨d,l,h11,h12,h13⟩:=hw
     rw [h7'] at h2
     exact h2 h0 (.of (.bin n t _ _ _ _ _ _ _ _ h6 h11 h8) (Nat.le_refl _) (h12.app (h9.cons (zV _))) (by push_cast; omega))
theorem zMv (H:TokOk NmOk NuOk ts):∀ (f:Nat),RecW NmOk NuOk (Qe.run ts f)
 | 0 => fun _ _ _ _ h => by cases h
 | f + 1 => fun n hn s x h => by
   have ih:=zMv H f
   rw [Qe.run] at h
   dsimp only at h
   by_cases c:n = 5
   ·rw [if_pos c] at h
    subst c
    exact zIN H ih f h
   ·rw [if_neg c] at h
    split at h
    ·cases h
    ·rename_i l s1 hl
     intro hx
     obtain ⟨h1,h2⟩:=zDH ih (show n < 5 by omega) f h hx
     obtain ⟨h3,h4⟩:=ih (n + 1) (by omega) _ _ hl h1
     refine ⟨h3,fun h0 => ?_⟩
     obtain ⟨h5,h6⟩:=h4 h0
     have h5':s1.o = s.o:=h5
     rw [h5'] at h2
     exact h2 h0 (h6.weak (by omega))
end
end Rt
end Go.Proofs.YtmiiplefgkcklaaDoor
