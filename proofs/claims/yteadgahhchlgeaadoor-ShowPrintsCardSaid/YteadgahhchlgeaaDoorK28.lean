/-
  Expressions as the printer writes them are read back: each k
-/
import Derived.Test.YteadgahhchlgeaaDoorK27
namespace Go.Proofs.YteadgahhchlgeaaDoor
namespace Rt
open Go.RowKit
open Px (RT tokAt isT levelT signsOf)
open Qe (Q)
open Pe (Ex inc dec)
open Al (E2 L2)
theorem EM.head {xs:List Ex}{d:Nat}{l:List PT}(h:EM xs d l):l = [] ∨ ∃ r,l = sg [44] :: r:=by
 cases h with
 | nil => exact .inl rfl
 | cons => exact .inr ⟨_,rfl⟩
section
variable {ts:List RT}
theorem zL6 {l r:List PT}(hh:Head l){k o:Nat}(h:Has ts k (l ++ r)):Qe.is ts (st k o) false [41] = false:=by
 obtain ⟨p,q,rfl,-,hp⟩:=hh
 refine zCh fun hc => ?_
 have h1:p.1 = 4:=h.1.1.symm.trans hc.1
 have h2:p.2.1 = [41]:=h.1.2.1.symm.trans hc.2
 rcases hp with hp | hp | hp | hp
 ·exact hp h1
 ·rw [h2] at hp; exact absurd hp (by decide)
 ·rw [h2] at hp; exact absurd hp (by decide)
 ·rw [h2] at hp; exact absurd hp (by decide)
theorem zKM {xs:List Ex}{d:Nat}{l:List PT}(h:EM xs d l){k:Nat}(hk:Has ts k (l ++ [sg [41]]))(n:Nat):Stop ts n k:=by
 rcases h.head with rfl | ⟨r,rfl⟩
 ·exact zCb hk.1 (by decide) n
 ·exact zCb hk.1 (by decide) n
theorem zDY {e:Ex}{k o k':Nat}(f0:Nat)(e':Ex)(he:E2 e e')(hf:∀ f,f0 ≤ f → Qe.unary ts (Qe.run ts f) f (st k o) = Qe.behind ts (Qe.run ts f) f e' (st k' o)):BH ts e k o k':=
 ⟨e',f0 + 1,0,by omega,he,fun f hh => by rw [hf f (by omega)]; rfl⟩
theorem zAO {k o:Nat}{p:PT}(h:Is ts k p)(hp:p.1 ≠ 4){rec:Nat → Q → Qe.Out}{g:Nat}{e':Ex}{s2:Q}(hf:Qe.first ts rec g (st k o) = some (e',s2)):Qe.unary ts rec g (st k o) = Qe.behind ts rec g e' s2:=by
 unfold Qe.unary
 rw [zA8 h false hp,zA8 h false hp,if_neg (by decide),if_neg (by decide),hf]
theorem m1_7 {e:Ex}{d:Nat}{l:List PT}(hh:Head l)(h:∀ k o,Has ts k l → d + o ≤ 50 → NoPar ts (k + l.length) → BH ts e k o (k + l.length)):M1 ts e 7 d l:=
 ⟨hh,by omega,fun k o hk ho => ⟨fun _ hn => h k o hk ho hn,fun h => by omega,fun n hn h => by omega,by omega⟩⟩
theorem zC8 {k:Nat}{p:PT}(h:Is ts k p)(hp:p.1 ≠ 2){o:Nat}:¬ ((st k o).E = 0 ∧ (tokAt ts (st k o).k).kind = 2):=fun hc => hp (h.1.symm.trans hc.2)
theorem zDO {t:List UInt8}{l:List PT}:Head (wd t :: l):=⟨_,_,rfl,n3,.inl n34⟩
theorem zKu {t:List UInt8}{l:List PT}:Head (nm t :: l):=⟨_,_,rfl,n1,.inl n14⟩
theorem zFi {l r:List PT}(h:Head l):Head (l ++ r):=by
 obtain ⟨p,q,rfl,h1,h2⟩:=h
 exact ⟨p,q ++ r,rfl,h1,h2⟩
theorem n12:(1:Int) ≠ 2:=by decide
theorem n32:(3:Int) ≠ 2:=by decide
theorem zS0 (hts:ts.length ≤ 900000000)(n a:Int):M1 ts (Ex.of 1 n [] [] 0 [] a) 7 0 [nu n]:=
 m1_7 ⟨_,_,rfl,n2,.inl n24⟩ fun k o hk _ _ => zDY 0 (Ex.of 1 n [] [] 0 [] (tokAt ts k).at_) (E2.mk _ _ _ _ _ _ _ Al.L2.nil) fun f _ => zAO hk.1 n24 (by
  unfold Qe.first
  dsimp only
  rw [if_pos ⟨rfl,hk.1.1⟩,zW hts hk.1 n2]
  show some (Ex.of 1 (tokAt ts k).num [] [] 0 [] (tokAt ts k).at_,st (k + 1) o) = _
  rw [hk.1.2.2]
  rfl)
theorem zSZ (hts:ts.length ≤ 900000000)(a:Int):M1 ts (Ex.of 2 1 [] [] 0 [] a) 7 0 [wd [116,114,117,101]]:=
 m1_7 zDO fun k o hk _ _ => zDY 0 (Ex.of 2 1 [] [] 0 [] (tokAt ts k).at_) (E2.mk _ _ _ _ _ _ _ Al.L2.nil) fun f _ => zAO hk.1 n34 (by
  unfold Qe.first
  dsimp only
  rw [if_neg (zC8 hk.1 n32),zP hk.1,if_pos (by decide),zW hts hk.1 n3]
  rfl)
theorem zS8 (hts:ts.length ≤ 900000000)(a:Int):M1 ts (Ex.of 2 0 [] [] 0 [] a) 7 0 [wd [102,97,108,115,101]]:=
 m1_7 zDO fun k o hk _ _ => zDY 0 (Ex.of 2 0 [] [] 0 [] (tokAt ts k).at_) (E2.mk _ _ _ _ _ _ _ Al.L2.nil) fun f _ => zAO hk.1 n34 (by
  unfold Qe.first
  dsimp only
  rw [if_neg (zC8 hk.1 n32),zP hk.1,if_neg (by decide),zP hk.1,if_pos (by decide),zW hts hk.1 n3]
  rfl)
theorem zQ5 (hts:ts.length ≤ 900000000)(t:List UInt8)(d:Nat)(a:Int)(hd:d ≤ 3):M1 ts (Ex.of 3 0 [] t d [] a) 7 0 (wd [110,117,108,108] :: tyT t d):=
 m1_7 zDO fun k o hk _ _ => zDY 0 (Ex.of 3 0 [] t d [] (tokAt ts k).at_) (E2.mk _ _ _ _ _ _ _ Al.L2.nil) fun f _ => zAO hk.1 n34 (by
  unfold Qe.first
  dsimp only
  rw [if_neg (zC8 hk.1 n32),zP hk.1,if_neg (by decide),zP hk.1,if_neg (by decide),zP hk.1,if_pos (by decide),zW hts hk.1 n3,zEu hts hd hk.2,List.length_cons,show k + ((tyT t d).length + 1) = k + 1 + (tyT t d).length by omega]
  rfl)
theorem zSY (hts:ts.length ≤ 900000000)(t:List UInt8)(a:Int):M1 ts (Ex.of 4 0 t [] 0 [] a) 7 0 [nm t]:=
 m1_7 zKu fun k o hk _ hn => zDY 0 (Ex.of 4 0 t [] 0 [] (tokAt ts k).at_) (E2.mk _ _ _ _ _ _ _ Al.L2.nil) fun f _ => zAO hk.1 n14 (by
  have hn':=zCh (o:=o) hn
  unfold Qe.first
  dsimp only
  rw [if_neg (zC8 hk.1 n12)]
  simp only [zA8 (o:=o) hk.1 true n13,zA8 (o:=o) hk.1 false n14,Bool.false_eq_true,if_false,zBO hts hk.1]
  rw [List.length_singleton] at hn'
  rw [hn',if_neg (by decide)]
  rfl)
theorem zOO (hts:ts.length ≤ 900000000)(x:Ex)(d:Nat)(l:List PT)(t:List UInt8)(a:Int)(h:M2 ts 7 x d l):M1 ts (Ex.of 5 0 t [] 0 [x] a) 7 d (l ++ [sg [46],nm t]):=
 m1_7 (zFi h.1) fun k o hk ho _ => by
  have ha:=hk.app
  obtain ⟨x',f0,c,hc,he,hf⟩:=(h.2 k o ha.1 ho).1 rfl (fun hh => absurd (ha.2.1.2.1.symm.trans hh.2) (by decide))
  refine ⟨Ex.of 5 0 t [] 0 [x'] (tokAt ts (k + l.length:Nat)).at_,f0 + 1,c + 1,by omega,E2.mk _ _ _ _ _ _ _ (Al.L2.one he),fun f hh => ?_⟩
  rw [hf f (by omega),show f - c = (f - (c + 1)) + 1 by omega,Qe.behind,zA5 ha.2.1,if_pos (by decide),zW hts ha.2.1 n4,zBO hts ha.2.2.1,List.length_append]
  rfl
theorem zQ7 (hts:ts.length ≤ 900000000)(x:Ex)(d:Nat)(l:List PT)(i:Ex)(d2:Nat)(l2:List PT)(a:Int)(h:M2 ts 7 x d l)(h2:M2 ts 1 i d2 l2):M1 ts (Ex.of 6 0 [] [] 0 [x,i] a) 7 (max d (d2 + 1)) (l ++ (sg [91] :: (l2 ++ [sg [93]]))):=
 m1_7 (zFi h.1) fun k o hk ho _ => by
  have ha:=hk.app
  have hb:=ha.2.2.app
  obtain ⟨x',f0,c,hc,he,hf⟩:=(h.2 k o ha.1 (by omega)).1 rfl (fun hh => absurd (ha.2.1.2.1.symm.trans hh.2) (by decide))
  obtain ⟨i',f1,he2,hf2⟩:=(h2.2 (k + l.length + 1) (o + 1) hb.1 (by omega)).2.1 0 (by omega) rfl (zCb hb.2.1 (by decide) 0)
  refine ⟨Ex.of 6 0 [] [] 0 [x',i'] (tokAt ts (k + l.length:Nat)).at_,f0 + f1 + 1,c + 1,by omega,E2.mk _ _ _ _ _ _ _ (Al.L2.two he he2),fun f hh => ?_⟩
  rw [hf f (by omega),show f - c = (f - (c + 1)) + 1 by omega,Qe.behind,zA5 ha.2.1,if_neg (by decide),zA5 ha.2.1,if_pos (by decide),zBl hts ha.2.1 (by omega),hf2 f (by omega)]
  dsimp only
  rw [zBf hts hb.2.1 (by omega)]
  simp only [List.length_append,List.length_cons]
  rw [show k + l.length + 1 + l2.length + 1 = k + (l.length + (l2.length + 1 + 1)) by omega]
  rfl
theorem zEC (hts:ts.length ≤ 900000000){k o:Nat}{t:List UInt8}(h:Is ts k (nm t))(h2:Is ts (k + 1) (sg [40])){rec:Nat → Q → Qe.Out}{g:Nat}{ys:List Ex}{s2:Q}(ha:Qe.args ts rec g (st (k + 1) o) = some (ys,s2)) :
 Qe.first ts rec g (st k o) = some (Ex.of 7 0 t [] 0 ys (tokAt ts k).at_,s2):=by
 unfold Qe.first
 dsimp only
 rw [if_neg (zC8 h n12)]
 simp only [zA8 (o:=o) h true n13,zA8 (o:=o) h false n14,Bool.false_eq_true,if_false,zBO hts h]
 rw [zA5 h2,if_pos (by decide),ha]
 rfl
theorem zOP (hts:ts.length ≤ 900000000)(t:List UInt8)(a:Int):M1 ts (Ex.of 7 0 t [] 0 [] a) 7 1 [nm t,sg [40],sg [41]]:=
 m1_7 zKu fun k o hk ho _ => zDY 0 (Ex.of 7 0 t [] 0 [] (tokAt ts k).at_) (E2.mk _ _ _ _ _ _ _ Al.L2.nil) fun f _ => zAO hk.1 n14 (zEC hts hk.1 hk.2.1 (by
  unfold Qe.args
  rw [zBl hts hk.2.1 (by omega),zA5 hk.2.2.1,if_pos (by decide),zBf hts hk.2.2.1 (by omega)]
  rfl))
theorem zQ9 (hts:ts.length ≤ 900000000)(t:List UInt8)(a:Int)(x:Ex)(d:Nat)(l:List PT)(xs:List Ex)(d2:Nat)(l2:List PT)(hm:EM xs d2 l2)(h:M2 ts 1 x d l)(h2:M3 ts xs d2 l2):M1 ts (Ex.of 7 0 t [] 0 (x :: xs) a) 7 (max d d2 + 1) (nm t :: sg [40] :: (l ++ (l2 ++ [sg [41]]))):=
 m1_7 zKu fun k o hk ho _ => by
  have ha:=hk.2.2.app
  have hb:=ha.2.app
  obtain ⟨x',f0,he,hf⟩:=(h.2 (k + 1 + 1) (o + 1) ha.1 (by omega)).2.1 0 (by omega) rfl (zKM hm ha.2 0)
  obtain ⟨ys,f1,hl,hg⟩:=h2 (k + 1 + 1 + l.length) (o + 1) [x] [x'] (Al.L2.one he) ha.2 (by omega)
  refine zDY (f0 + f1) (Ex.of 7 0 t [] 0 ys (tokAt ts k).at_) (E2.mk _ _ _ _ _ _ _ hl) fun f hh => zAO hk.1 n14 (zEC hts hk.1 hk.2.1 ?_)
  unfold Qe.args
  rw [zBl hts hk.2.1 (by omega),zL6 h.1 hk.2.2,if_neg (by decide),hf f (by omega)]
  dsimp only
  rw [hg f (by omega) f (by omega)]
  dsimp only
  rw [zBf hts hb.2.1 (by omega)]
  simp only [List.length_append,List.length_cons]
  rw [show k + 1 + 1 + l.length + l2.length + 1 = k + (l.length + (l2.length + 1) + 1 + 1) by omega]
  rfl
theorem zF6 (hts:ts.length ≤ 900000000){k o:Nat}(h:Is ts k (wd [110,101,119])){rec:Nat → Q → Qe.Out}{g:Nat}:Qe.first ts rec g (st k o) = Qe.fresh ts rec (st (k + 1) o) (tokAt ts k).at_:=by
 unfold Qe.first
 dsimp only
 rw [if_neg (zC8 h n32),zP h,if_neg (by decide),zP h,if_neg (by decide),zP h,if_neg (by decide),zP h,if_pos (by decide),zW hts h n3]
 rfl
theorem zF0 (hts:ts.length ≤ 900000000){x:Ex}{d:Nat}{l:List PT}(h:M2 ts 1 x d l){k o:Nat}(hk:Has ts k (sg [40] :: (l ++ [sg [41]])))(ho:d + 1 + o ≤ 50):∃ x' f0,E2 x x' ∧ ∀ f,f0 ≤ f → Qe.inner ts (Qe.run ts f) (st k o) = some (x',st (k + (l.length + 2)) o):=by
 have hb:=hk.2.app
 obtain ⟨x',f0,he,hf⟩:=(h.2 (k + 1) (o + 1) hb.1 (by omega)).2.1 0 (by omega) rfl (zCb hb.2.1 (by decide) 0)
 refine ⟨x',f0,he,fun f hh => ?_⟩
 unfold Qe.inner
 rw [zBl hts hk.1 (by omega),hf f hh]
 dsimp only
 rw [zBf hts hb.2.1 (by omega),show k + 1 + l.length + 1 = k + (l.length + 2) by omega]
theorem zS3 (hts:ts.length ≤ 900000000)(t:List UInt8)(a:Int):M1 ts (Ex.of 8 0 [] t 0 [] a) 7 0 [wd [110,101,119],nm t]:=
 m1_7 zDO fun k o hk _ _ => zDY 0 (Ex.of 8 0 [] t 0 [] (tokAt ts k).at_) (E2.mk _ _ _ _ _ _ _ Al.L2.nil) fun f _ => zAO hk.1 n34 (by
  rw [zF6 hts hk.1]
  unfold Qe.fresh
  rw [zA8 hk.2.1 false n14,if_neg (by decide),zBO hts hk.2.1]
  rfl)
theorem zQ6 (hts:ts.length ≤ 900000000)(t:List UInt8)(d:Nat)(x:Ex)(dx:Nat)(l:List PT)(a:Int)(hd:d ≤ 3)(h:M2 ts 1 x dx l):M1 ts (Ex.of 9 0 [] t d [x] a) 7 (dx + 1) (wd [110,101,119] :: sg [91] :: (tyT t d ++ (sg [93] :: sg [40] :: (l ++ [sg [41]])))):=
 m1_7 zDO fun k o hk ho _ => by
  have ha:=hk.2.2.app
  obtain ⟨x',f0,he,hf⟩:=zF0 hts h (o:=o) ha.2.2 (by omega)
  refine zDY f0 (Ex.of 9 0 [] t d [x'] (tokAt ts k).at_) (E2.mk _ _ _ _ _ _ _ (Al.L2.one he)) fun f hh => zAO hk.1 n34 ?_
  rw [zF6 hts hk.1]
  unfold Qe.fresh
  rw [zA5 hk.2.1,if_pos (by decide),zW hts hk.2.1 n4,zEu hts hd ha.1]
  dsimp only
  rw [zAa hts ha.2.1,hf f hh]
  simp only [List.length_append,List.length_cons]
  rw [show k + 1 + 1 + (tyT t d).length + 1 + (l.length + 2) = k + ((tyT t d).length + (l.length + 1 + 1 + 1) + 1 + 1) by omega]
  rfl
theorem zS5 (hts:ts.length ≤ 900000000)(x:Ex)(d:Nat)(l:List PT)(a:Int)(h:M2 ts 1 x d l):M1 ts (Ex.of 10 0 [] [] 0 [x] a) 7 (d + 1) (wd [108,101,110] :: sg [40] :: (l ++ [sg [41]])):=
 m1_7 zDO fun k o hk ho _ => by
  obtain ⟨x',f0,he,hf⟩:=zF0 hts h (o:=o) hk.2 (by omega)
  refine zDY f0 (Ex.of 10 0 [] [] 0 [x'] (tokAt ts k).at_) (E2.mk _ _ _ _ _ _ _ (Al.L2.one he)) fun f hh => zAO hk.1 n34 ?_
  unfold Qe.first
  dsimp only
  rw [if_neg (zC8 hk.1 n32),zP hk.1,if_neg (by decide),zP hk.1,if_neg (by decide),zP hk.1,if_neg (by decide),zP hk.1,if_neg (by decide),zP hk.1,if_pos (by decide),zW hts hk.1 n3,hf f hh]
  simp only [List.length_append,List.length_cons]
  rw [show k + 1 + (l.length + 2) = k + (l.length + 1 + 1 + 1) by omega]
  rfl
theorem zQ4 (hts:ts.length ≤ 900000000)(a:Int):M1 ts (Ex.of 11 0 [] [] 0 [] a) 7 1 [wd [114,101,97,100],sg [40],sg [41]]:=
 m1_7 zDO fun k o hk ho _ => zDY 0 (Ex.of 11 0 [] [] 0 [] (tokAt ts k).at_) (E2.mk _ _ _ _ _ _ _ Al.L2.nil) fun f _ => zAO hk.1 n34 (by
  unfold Qe.first
  dsimp only
  rw [if_neg (zC8 hk.1 n32),zP hk.1,if_neg (by decide),zP hk.1,if_neg (by decide),zP hk.1,if_neg (by decide),zP hk.1,if_neg (by decide),zP hk.1,if_neg (by decide),zP hk.1,if_pos (by decide),zW hts hk.1 n3,zBl hts hk.2.1 (by omega),zBf hts hk.2.2.1 (by omega)]
  rfl)
theorem m1_6 {e:Ex}{d:Nat}{l:List PT}(hh:Head l)(h:∀ k o,Has ts k l → d + o ≤ 50 → Stop ts 5 (k + l.length) → UN ts e k o (k + l.length)):M1 ts e 6 d l:=
 ⟨hh,by omega,fun k o hk ho => ⟨fun h => by omega,fun _ hs => h k o hk ho hs,fun n hn h => by omega,by omega⟩⟩
theorem zC6 (hts:ts.length ≤ 900000000){x:Ex}{d:Nat}{l:List PT}(h:M2 ts 6 x d l){k o:Nat}{t:List UInt8}(hk:Has ts k (sg t :: l))(ho:d + 1 + o ≤ 50)(hs:Stop ts 5 (k + (l.length + 1)))(kd a:Int):∃ x' f0,E2 (Ex.of kd 0 [] [] 0 [x] a) x' ∧ ∀ f,f0 ≤ f → Qe.prefixed ts (Qe.run ts f) (st k o) t kd = some (x',st (k + (l.length + 1)) o):=by
 obtain ⟨x',f0,he,hf⟩:=(h.2 (k + 1) (o + 1) hk.2 (by omega)).2.1 5 (by omega) rfl (by rw [show k + 1 + l.length = k + (l.length + 1) by omega]; exact hs)
 refine ⟨Ex.of kd 0 [] [] 0 [x'] (tokAt ts k).at_,f0,E2.mk _ _ _ _ _ _ _ (Al.L2.one he),fun f hh => ?_⟩
 unfold Qe.prefixed
 rw [zBl hts hk.1 (by omega),hf f hh]
 dsimp only
 rw [show k + 1 + l.length = k + (l.length + 1) by omega]
 show some (_,(⟨((k + (l.length + 1):Nat):Int),dec ((o + 1:Nat):Int),0,0⟩:Q)) = _
 rw [zNb (by omega)]
 rfl
theorem zS4 (hts:ts.length ≤ 900000000)(x:Ex)(d:Nat)(l:List PT)(a:Int)(h:M2 ts 6 x d l):M1 ts (Ex.of 12 0 [] [] 0 [x] a) 6 (d + 1) (sg [45] :: l):=
 m1_6 ⟨_,_,rfl,n4,.inr (.inr (.inl rfl))⟩ fun k o hk ho hs => by
  obtain ⟨x',f0,he,hf⟩:=zC6 hts h hk ho hs 12 a
  refine ⟨x',f0,he,fun f hh => ?_⟩
  unfold Qe.unary
  rw [zA5 hk.1,if_pos (by decide),hf f hh]
  rfl
theorem zS1 (hts:ts.length ≤ 900000000)(x:Ex)(d:Nat)(l:List PT)(a:Int)(h:M2 ts 6 x d l):M1 ts (Ex.of 13 0 [] [] 0 [x] a) 6 (d + 1) (sg [33] :: l):=
 m1_6 ⟨_,_,rfl,n4,.inr (.inr (.inr rfl))⟩ fun k o hk ho hs => by
  obtain ⟨x',f0,he,hf⟩:=zC6 hts h hk ho hs 13 a
  refine ⟨x',f0,he,fun f hh => ?_⟩
  unfold Qe.unary
  rw [zA5 hk.1,if_neg (by decide),zA5 hk.1,if_pos (by decide),hf f hh]
  rfl
theorem zS9 (hts:ts.length ≤ 900000000)(n:Nat)(t:List UInt8)(kind:Int)(x:Ex)(d:Nat)(l:List PT)(y:Ex)(d2:Nat)(l2:List PT)(a:Int)(hs:(t,kind) ∈ signsOf n)(h:M2 ts (n + 1) x d l)(h2:M2 ts (n + 2) y d2 l2):M1 ts (Ex.of kind 0 [] [] 0 [x,y] a) (n + 1) (max d d2) (l ++ (sg t :: l2)):=by
 obtain ⟨hn5,hk1,hk2,hk3,hk4⟩:=zBK hs
 refine ⟨zFi h.1,by omega,fun k o hk ho => ⟨fun h => by omega,fun h => by omega,fun m hm hv hst => ?_,by omega⟩⟩
 obtain rfl:n = m:=by omega
 have ha:=hk.app
 obtain ⟨x',f0,c,hc,he,hf⟩:=(h.2 k o ha.1 (by omega)).2.2 n hn5 rfl (zI6 ha.2.1 hk3 hk4)
 have hlen:k + l.length + 1 + l2.length = k + (l ++ (sg t :: l2)).length:=by rw [List.length_append,List.length_cons]; omega
 obtain ⟨y',f1,he2,hf2⟩:=(h2.2 (k + l.length + 1) o ha.2.2 (by omega)).2.1 (n + 1) (by omega) rfl (by rw [hlen]; exact hst)
 refine ⟨Ex.of kind 0 [] [] 0 [x',y'] (tokAt ts (k + l.length:Nat)).at_,f0 + f1 + 1,c + 1,by omega,E2.mk _ _ _ _ _ _ _ (Al.L2.two he he2),fun f hh => ?_⟩
 have hsg:Qe.sign ts (st (k + l.length) o) n = kind:=by
  refine (if_pos rfl).trans ?_
  show levelT n (tokAt ts (k + l.length:Nat)) = kind
  unfold levelT
  rw [if_pos (show (tokAt ts (k + l.length:Nat)).kind = 4 from ha.2.1.1),show (tokAt ts (k + l.length:Nat)).text = t from ha.2.1.2.1]
  exact hk1
 rw [hf f (by omega),show f - c = (f - (c + 1)) + 1 by omega,Qe.binLoop,hsg,if_neg hk2,zW hts ha.2.1 n4,hf2 f (by omega),hlen]
 rfl
theorem zS2:M3 ts [] 0 []:=by
 intro k o acc acc' hl hk _
 refine ⟨acc',1,by rw [List.append_nil]; exact hl,fun f _ g hg => ?_⟩
 rw [show g = (g - 1) + 1 by omega,Qe.argLoop,zA5 hk.1,if_neg (by decide)]
 rfl
theorem zQ8 (hts:ts.length ≤ 900000000)(x:Ex)(d:Nat)(l:List PT)(xs:List Ex)(d2:Nat)(l2:List PT)(hm:EM xs d2 l2)(h:M2 ts 1 x d l)(h2:M3 ts xs d2 l2):M3 ts (x :: xs) (max d d2) (sg [44] :: (l ++ l2)):=by
 intro k o acc acc' hl hk ho
 have hk':Has ts (k + 1) (l ++ (l2 ++ [sg [41]])):=by rw [← List.append_assoc]; exact hk.2
 have ha:=hk'.app
 obtain ⟨x',f0,he,hf⟩:=(h.2 (k + 1) o ha.1 (by omega)).2.1 0 (by omega) rfl (zKM hm ha.2 0)
 obtain ⟨ys,f1,hy,hg⟩:=h2 (k + 1 + l.length) o (acc ++ [x]) (acc' ++ [x']) (hl.snoc he) ha.2 (by omega)
 refine ⟨ys,f0 + f1 + 1,by rw [show acc ++ x :: xs = acc ++ [x] ++ xs by simp]; exact hy,fun f hh g hgg => ?_⟩
 rw [show g = (g - 1) + 1 by omega,Qe.argLoop,zA5 hk.1,if_pos (by decide),zW hts hk.1 n4,hf f (by omega)]
 dsimp only
 rw [hg f (by omega) (g - 1) (by omega),List.length_cons,List.length_append,show k + 1 + l.length + l2.length = k + (l.length + l2.length + 1) by omega]
theorem zHG (hts:ts.length ≤ 900000000){e:Ex}{lv d:Nat}{l:List PT}(h:EP e lv d l):M1 ts e lv d l:=
 EP.rec (motive_1:=fun e lv d l _ => M1 ts e lv d l) (motive_2:=fun n e d l _ => M2 ts n e d l) (motive_3:=fun xs d l _ => M3 ts xs d l)
  (fun n a => zS0 hts n a) (fun a => zSZ hts a) (fun a => zS8 hts a) (fun t d a hd => zQ5 hts t d a hd) (fun t a => zSY hts t a)
  (fun x d l t a _ h => zOO hts x d l t a h) (fun x d l i d2 l2 a _ _ h h2 => zQ7 hts x d l i d2 l2 a h h2) (fun t a => zOP hts t a)
  (fun t a x d l xs d2 l2 _ hm h h2 => zQ9 hts t a x d l xs d2 l2 hm h h2) (fun t a => zS3 hts t a) (fun t d x dx l a hd _ h => zQ6 hts t d x dx l a hd h)
  (fun x d l a _ h => zS5 hts x d l a h) (fun a => zQ4 hts a) (fun x d l a _ h => zS4 hts x d l a h) (fun x d l a _ h => zS1 hts x d l a h)
  (fun n t kind x d l y d2 l2 a hs _ _ h h2 => zS9 hts n t kind x d l y d2 l2 a hs h h2)
  (fun _ _ _ _ _ _ hn h => zKg hn h) (fun _ _ _ _ _ _ _ h => zM3 hts h)
  zS2 (fun x d l xs d2 l2 _ hm h h2 => zQ8 hts x d l xs d2 l2 hm h h2) h
theorem zHF (hts:ts.length ≤ 900000000){n:Nat}{e:Ex}{d:Nat}{l:List PT}(h:EW n e d l):M2 ts n e d l:=by
 cases h with
 | bare _ _ _ _ _ h hn => exact zKg hn (zHG hts h)
 | par _ _ _ _ _ h hn => exact zM3 hts (zHG hts h)
end
end Rt
end Go.Proofs.YteadgahhchlgeaaDoor
