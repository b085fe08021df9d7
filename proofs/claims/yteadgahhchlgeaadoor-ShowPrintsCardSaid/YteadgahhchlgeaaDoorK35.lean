/-
  A program that was read of a text, its declarations printed
-/
import Derived.Test.YteadgahhchlgeaaDoorK34
namespace Go.Proofs.YteadgahhchlgeaaDoor
namespace Rt
open Go.RowKit
open Px (RT tokAt isT levelT signsOf)
open Qe (Q)
open Pe (Ex inc dec)
open Ps (Sm kindOf nameOf)
open Pg (Pm Rc Fc Gm)
open Ln.Lx (Tk lexF skipS toks lexAll one alnB digB letB isName isWord valN numBad)
def TkOk (t:Tk):Prop:=(t.kind = 1 → isName t.text = true) ∧ (t.kind = 2 → t.num ≤ 9223372036854775807)
theorem zN6 {r:List UInt8}{kind:Nat}{text:List UInt8}{num m:Nat}(p:Nat)(h:one r = some (kind,text,num,m)):TkOk ⟨kind,text,num,p⟩:=by
 unfold one at h
 split at h
 ·cases h
 ·split at h
  ·split at h
   ·obtain ⟨rfl,rfl,rfl,rfl⟩:=by simpa using h
    exact ⟨fun h => (by cases h),fun h => (by cases h)⟩
   ·split at h
    ·rename_i hn
     obtain ⟨rfl,rfl,rfl,rfl⟩:=by simpa using h
     exact ⟨fun _ => hn,fun h => (by cases h)⟩
    ·cases h
  ·split at h
   ·split at h
    ·cases h
    ·rename_i hb
     obtain ⟨rfl,rfl,rfl,rfl⟩:=by simpa using h
     refine ⟨fun h => (by cases h),fun _ => ?_⟩
     unfold numBad at hb
     simp only [Bool.or_eq_true,decide_eq_true_eq,not_or] at hb
     exact Nat.le_of_not_lt hb.1.2
   ·split at h
    ·cases h
    ·obtain ⟨rfl,rfl,rfl,rfl⟩:=by simpa using h
     exact ⟨fun h => (by cases h),fun h => (by cases h)⟩
theorem zKl:∀ (f k:Nat)(r:List UInt8)(us:List Tk),lexF f k r = .ok us → ∀ t ∈ us,TkOk t
 | 0,_,_,_,h => by cases h
 | _ + 1,_,[],_,h => by
   rw [lexF] at h
   injection h with h
   rw [← h]
   intro t ht
   cases ht
 | f + 1,k,c :: r,us,h => by
   rw [lexF] at h
   split at h
   ·cases h
   ·rename_i h1
    split at h
    ·cases h
    ·rename_i vs hv
     have ih:=zKl f _ _ vs hv
     injection h with h
     rw [← h]
     intro t ht
     rcases List.mem_cons.1 ht with rfl | ht
     ·exact zN6 _ h1
     ·exact ih t ht
theorem toks_ok {r:List UInt8}{vs:List Tk}{K:Nat}(h:toks r = (vs,0,K)):∀ t ∈ vs,TkOk t:=by
 unfold toks at h
 split at h
 ·cases h
 ·split at h
  ·cases h
  ·rename_i us hu
   injection h with h _
   rw [← h]
   intro t ht
   rcases List.mem_append.1 ht with ht | ht
   ·unfold lexAll at hu
    exact zKl _ _ _ _ hu t ht
   ·rw [List.mem_singleton.1 ht]
    exact ⟨fun h => (by cases h),fun h => (by cases h)⟩
theorem zES {vs:List Tk}(h:∀ t ∈ vs,TkOk t):TokOk NmB NuB (vs.map toRT):=by
 intro k
 by_cases hk : 0 ≤ k ∧ k < ((vs.map toRT).length:Int)
 ·have hl:k.toNat < vs.length:=by rw [List.length_map] at hk; omega
  have h1:vs[k.toNat]? = some vs[k.toNat]:=List.getElem?_eq_getElem hl
  have h2:=zG6 vs k.toNat _ h1
  rw [show ((k.toNat:Nat):Int) = k by omega] at h2
  rw [h2]
  have h3:=h _ (List.getElem_mem hl)
  refine ⟨fun hh => h3.1 ?_,fun hh => ⟨Int.natCast_nonneg _,?_⟩⟩
  ·have:((vs[k.toNat].kind:Nat):Int) = 1:=hh
   omega
  ·have:((vs[k.toNat].kind:Nat):Int) = 2:=hh
   have h4:=h3.2 (by omega)
   show ((vs[k.toNat].num:Nat):Int) ≤ _
   omega
 ·rw [Px.tokAt_out hk]
  exact ⟨fun hh => absurd hh (by decide),fun hh => absurd hh (by decide)⟩
theorem zLI {ts:List RT}(H:TokOk NmB NuB ts){F f g:Nat}{x:Gm × Int × Int}(h:Qg.run ts (Qs.run ts (Qe.run ts F 0) f).2 g = some x)(hx:x.2.1 = 0):GI NmB NuB x.1:=by
 unfold Qg.run at h
 split at h
 ·cases h
 rename_i p q hq
 obtain rfl:=Option.some.inj h
 unfold Qg.pgEnd at hx ⊢
 by_cases hE:q.E = 0
 ·rw [if_pos hE]
  exact zBY H (zE0 H (zHh H F 0 (by omega)) f).2 g hq hE rfl ⟨(fun _ h => by cases h),(fun _ h => by cases h),⟨[],.nil,OkL.nil⟩,(by decide),(by decide),(by decide)⟩
 ·rw [if_neg hE] at hx
  exact (hE hx).elim
theorem zBF {r:List UInt8}(h:(answer r).2.1 = 0):GI NmB NuB (answer r).1:=by
 obtain ⟨vs,E,K,ht⟩:∃ vs E K,toks r = (vs,E,K):=⟨_,_,_,rfl⟩
 by_cases hE:E = 0
 ·subst hE
  obtain ⟨x,h1,h2,-⟩:=zD4 ht
  rw [h1] at h ⊢
  exact zLI (zES (toks_ok ht)) h2 h
 ·unfold answer at h
  rw [ht] at h
  dsimp only at h
  rw [if_neg hE] at h
  exact absurd h (by show ¬ ((E:Nat):Int) = 0; omega)
theorem zGY {xs:List Fc}{l:List PT}(h:FsP xs l)(ho:OkL NmB NuB l):∀ x ∈ xs,∃ d lx,FP x d lx ∧ d ≤ 50 ∧ OkL NmB NuB lx:=by
 induction h with
 | nil => intro x hx; cases hx
 | cons y d l ys l2 hy hd _ ih =>
   intro x hx
   rcases List.mem_cons.1 hx with rfl | hx
   ·exact ⟨d,l,hy,hd,ho.left⟩
   ·exact ih ho.right x hx
def part (P:Gm)(r g h:Nat):Gm:=⟨P.recs.take r,P.globals.take g,P.funcs.take h⟩
theorem zLJ {P:Gm}{r g h:Nat}(hr:P.recs.length ≤ r)(hg:P.globals.length ≤ g)(hh:P.funcs.length ≤ h):part P r g h = P:=by
 unfold part
 rw [List.take_of_length_le hr,List.take_of_length_le hg,List.take_of_length_le hh]
section
variable {P:Gm} {r g h:Nat} {t:List UInt8}
theorem zLX (H:GI NmB NuB P)(hl:Laid (part P r g h) t)(hr:r < P.recs.length):Laid (part P (r + 1) g h) (t ++ rcB P.recs[r]):=by
 have:=hl.rcd (H.recs _ (List.getElem_mem hr)) (by show (P.recs.take r).length < 12; have:=H.nr; rw [List.length_take]; omega)
 unfold part Gm.addR at this
 unfold part
 rw [List.take_succ_eq_append_getElem hr]
 exact this
theorem zKn (H:GI NmB NuB P)(hl:Laid (part P r g h) t)(hr:g < P.globals.length):Laid (part P r (g + 1) h) (t ++ glB P.globals[g]):=by
 have:=hl.glob (H.globs _ (List.getElem_mem hr)) (by show (P.globals.take g).length < 8; have:=H.ng; rw [List.length_take]; omega)
 unfold part Gm.addG at this
 unfold part
 rw [List.take_succ_eq_append_getElem hr]
 exact this
theorem zKo (H:GI NmB NuB P)(hl:Laid (part P r g h) t)(hr:h < P.funcs.length):Laid (part P r g (h + 1)) (t ++ fcB P.funcs[h]):=by
 obtain ⟨l,h1,h2⟩:=H.funcs
 obtain ⟨d,lx,h3,h4,h5⟩:=zGY h1 h2 _ (List.getElem_mem hr)
 have:=hl.func h3 h4 h5 (by show (P.funcs.take h).length < 16; have:=H.nf; rw [List.length_take]; omega)
 unfold part Gm.addF at this
 unfold part
 rw [List.take_succ_eq_append_getElem hr]
 exact this
end
theorem zLZ {P:Gm}(H:GI NmB NuB P):Laid P (prG P):=by
 have h1:∀ n,n ≤ P.recs.length → Laid (part P n 0 0) ((P.recs.take n).flatMap rcB):=by
  intro n
  induction n with
  | zero => intro _; exact zLY
  | succ n ih =>
    intro hn
    have:=zLX H (ih (by omega)) (show n < P.recs.length by omega)
    rw [List.take_succ_eq_append_getElem (show n < P.recs.length by omega),List.flatMap_append]
    simpa using this
 have h2:∀ n,n ≤ P.globals.length → Laid (part P P.recs.length n 0) (P.recs.flatMap rcB ++ (P.globals.take n).flatMap glB):=by
  intro n
  induction n with
  | zero =>
    intro _
    have:=h1 P.recs.length (Nat.le_refl _)
    rw [List.take_length] at this
    simpa using this
  | succ n ih =>
    intro hn
    have:=zKn H (ih (by omega)) (show n < P.globals.length by omega)
    rw [List.take_succ_eq_append_getElem (show n < P.globals.length by omega),List.flatMap_append]
    simpa using this
 have h3:∀ n,n ≤ P.funcs.length → Laid (part P P.recs.length P.globals.length n) (P.recs.flatMap rcB ++ P.globals.flatMap glB ++ (P.funcs.take n).flatMap fcB):=by
  intro n
  induction n with
  | zero =>
    intro _
    have:=h2 P.globals.length (Nat.le_refl _)
    rw [List.take_length] at this
    simpa using this
  | succ n ih =>
    intro hn
    have:=zKo H (ih (by omega)) (show n < P.funcs.length by omega)
    rw [List.take_succ_eq_append_getElem (show n < P.funcs.length by omega),List.flatMap_append]
    simpa using this
 have:=h3 P.funcs.length (Nat.le_refl _)
 rw [List.take_length,zLJ (Nat.le_refl _) (Nat.le_refl _) (Nat.le_refl _)] at this
 unfold prG
 rw [← List.append_assoc]
 exact this
theorem zEn {r:List UInt8}(h:(answer r).2.1 = 0)(hl:(prG (answer r).1).length ≤ 6000):(answer (prG (answer r).1)).2.1 = 0 ∧ sameG (answer r).1 (answer (prG (answer r).1)).1 = true:=
 (zLZ (zBF h)).answer hl
end Rt
namespace Rt
open Go.RowKit
open Px (RT tokAt isT levelT signsOf)
open Qe (Q)
open Pe (Ex inc dec)
open Ps (Sm kindOf nameOf)
open Pg (Pm Rc Fc Gm)
open Al (E2 L2 B2 S2 zCx)
open Ln.Lx (Tk toks)
mutual
theorem zQc:∀ (e e':Ex),E2 e e' → prE e = prE e'
 | .mk k n a b d l p b1 r1 d1 f1,.mk k' n' a' b' d' l' p' b1' r1' d1' f1',h => by
   rw [E2,sameE] at h
   simp only [Bool.and_eq_true,beq_iff_eq] at h
   obtain ⟨⟨⟨⟨⟨⟨rfl,rfl⟩,rfl⟩,rfl,rfl⟩,-⟩,-⟩,hl⟩:=h
   rw [prE,prE,zJU l l' hl]
theorem zJU:∀ (l l':List Ex),L2 l l' → prL l = prL l'
 | [],[],_ => rfl
 | [],_ :: _,h => by rw [L2,sameL] at h; · cases h
                     all_goals simp
 | _ :: _,[],h => by rw [L2,sameL] at h; · cases h
                     all_goals simp
 | x :: l,y :: l',h => by
   rw [L2,sameL,Bool.and_eq_true] at h
   have hk:=(zCx h.1).1
   rw [prL,prL,zJU l l' h.2,zQc x y h.1,hk]
end
theorem zQw:∀ (l l':List Sm),B2 l l' → l.isEmpty = l'.isEmpty
 | [],[],_ => rfl
 | [],_ :: _,h => by rw [B2,sameML] at h; · cases h
                     all_goals simp
 | _ :: _,[],h => by rw [B2,sameML] at h; · cases h
                     all_goals simp
 | _ :: _,_ :: _,_ => rfl
mutual
theorem zQa:∀ (x x':Sm)(deep:Nat),Al.M2 x x' → prS x deep = prS x' deep
 | .mk k n o d es bs ls a r,.mk k2 n2 o2 d2 es2 bs2 ls2 a2 r2,deep,h => by
   rw [Al.M2,sameM] at h
   simp only [Bool.and_eq_true,beq_iff_eq] at h
   obtain ⟨⟨⟨⟨⟨⟨rfl,rfl⟩,rfl,rfl⟩,-⟩,he⟩,hb⟩,hl⟩:=h
   rw [prS,prS,zJU es es2 he,zHk bs bs2 (deep + 1) hb,zHk ls ls2 (deep + 1) hl,zQw ls ls2 hl]
theorem zHk:∀ (l l':List Sm)(deep:Nat),B2 l l' → prB l deep = prB l' deep
 | [],[],_,_ => rfl
 | [],_ :: _,_,h => by rw [B2,sameML] at h; · cases h
                       all_goals simp
 | _ :: _,[],_,h => by rw [B2,sameML] at h; · cases h
                       all_goals simp
 | x :: l,y :: l',deep,h => by
   rw [B2,sameML,Bool.and_eq_true] at h
   rw [prB,prB,zHk l l' deep h.2,zQa x y deep h.1]
end
theorem zCA {α:Type}{f : α → α → Bool}{β:Type}{g:List α → β}(hg:∀ (x y : α)(l l':List α),f x y = true → g l = g l' → g (x :: l) = g (y :: l')):∀ {l l':List α},S2 f l l' → g l = g l'
 | [],[],_ => rfl
 | [],_ :: _,h => by have:=h.len; cases this
 | _ :: _,[],h => by have:=h.len; cases this
 | x :: l,y :: l',h => by
   rw [S2,sameLs,Bool.and_eq_true] at h
   exact hg x y l l' h.1 (zCA hg h.2)
theorem zHm {x y:Pm}(h:sameP x y = true):pmB x = pmB y:=by
 unfold sameP at h
 simp only [Bool.and_eq_true,beq_iff_eq] at h
 unfold pmB
 rw [h.1,h.2.1,h.2.2]
theorem zQN {l l':List Pm}(h:S2 sameP l l'):fdB l = fdB l':=
 zCA (fun x y l l' h1 h2 => by rw [fdB,fdB,h2,zHm h1]) h
theorem zM0:∀ {l l':List Pm},S2 sameP l l' → paB l = paB l'
 | [],[],_ => rfl
 | [],_ :: _,h => by have:=h.len; cases this
 | _ :: _,[],h => by have:=h.len; cases this
 | [_],_ :: _ :: _,h => by have:=h.len; simp at this
 | _ :: _ :: _,[_],h => by have:=h.len; simp at this
 | [x],[y],h => by
   rw [S2,sameLs,Bool.and_eq_true] at h
   exact zHm h.1
 | x :: x2 :: l,y :: y2 :: l',h => by
   rw [S2,sameLs,Bool.and_eq_true] at h
   rw [paB,paB,zHm h.1,zM0 (l:=x2 :: l) (l':=y2 :: l') h.2]
theorem zPY {x y:Rc}(h:sameR x y = true):rcB x = rcB y:=by
 unfold sameR at h
 simp only [Bool.and_eq_true,beq_iff_eq] at h
 unfold rcB
 rw [h.1,zQN h.2]
theorem zQJ {x y:Pm}(h:sameP x y = true):glB x = glB y:=by
 unfold glB
 rw [zHm h]
theorem zQP {x y:Fc}(h:sameF x y = true):fcB x = fcB y:=by
 unfold sameF at h
 simp only [Bool.and_eq_true,beq_iff_eq] at h
 unfold fcB
 rw [h.1.1.1.1,h.1.1.1.2,h.1.1.2.1,h.1.1.2.2,zM0 h.1.2,zHk _ _ 1 h.2]
theorem zQb {p p':Gm}(h:sameG p p' = true):prG p = prG p':=by
 unfold sameG at h
 simp only [Bool.and_eq_true] at h
 unfold prG
 rw [zCA (g:=fun l => l.flatMap rcB) (fun x y l l' h1 h2 => by rw [List.flatMap_cons,List.flatMap_cons,zPY h1]; exact congrArg _ h2) h.1.1,zCA (g:=fun l => l.flatMap glB) (fun x y l l' h1 h2 => by rw [List.flatMap_cons,List.flatMap_cons,zQJ h1]; exact congrArg _ h2) h.1.2,zCA (g:=fun l => l.flatMap fcB) (fun x y l l' h1 h2 => by rw [List.flatMap_cons,List.flatMap_cons,zQP h1]; exact congrArg _ h2) h.2]
theorem zGC {r:List UInt8}(h:(answer r).2.1 = 0)(hl:(prG (answer r).1).length ≤ 6000):prG (answer (prG (answer r).1)).1 = prG (answer r).1:=
 (zQb (zEn h hl).2).symm
theorem zI7 {ts:List RT}{k:Nat}(h:(tokAt ts k).kind = 0)(n:Nat):Stop ts n k:=
 ⟨fun t _ hh => absurd (h.symm.trans hh.1) (by decide),fun m _ => by unfold levelT; rw [h]; rfl⟩
theorem zDS {r:List UInt8}{vs:List Tk}{K:Nat}(ht:toks r = (vs,0,K)){f:Nat}{e:Ex}{k F:Int}(h:Qe.expr (vs.map toRT) f 0 0 = some (e,k,0,F)):∃ d l,EW 1 e d l ∧ OkL NmB NuB l ∧ d ≤ 50:=by
 unfold Qe.expr at h
 split at h
 ·cases h
 rename_i e2 s h2
 have h3:=Option.some.inj h
 unfold Qe.exEnd at h3
 by_cases hE:s.E = 0
 ·rw [if_pos hE] at h3
  injection h3 with h3 _
  subst h3
  obtain ⟨-,h4⟩:=zHh (zES (toks_ok ht)) f 0 (by omega) _ _ h2 hE
  obtain ⟨-,d,l,h5,h6,h7⟩:=h4 ⟨(by decide),(by decide)⟩
  have h8:(d:Int) + 0 ≤ 50:=h7
  exact ⟨d,l,h5,h6,by omega⟩
 ·rw [if_neg hE] at h3
  injection h3 with _ h3
  injection h3 with _ h3
  injection h3 with h3 _
  exact absurd h3 hE
theorem zF7 {e:Ex}{d:Nat}{l:List PT}(h:EW 1 e d l)(ho:OkL NmB NuB l)(hd:d ≤ 50)(hl:(prE e).length ≤ 6000):∃ us,toks (prE e) = (us ++ [⟨0,[],0,(prE e).length⟩],0,0) ∧
 ∀ f y,Qe.expr ((us ++ [(⟨0,[],0,(prE e).length⟩:Tk)]).map toRT) f 0 0 = some y → E2 e y.1 ∧ y.2 = ((us.length:Int),0,0):=by
 have h1:=(zA7 (zBe h) ho).1 [] [] zJi .nil
 rw [List.append_nil,List.append_nil] at h1
 obtain ⟨us,h2,rfl⟩:=zGK h1 hl
 refine ⟨us,h2,fun f y hy => ?_⟩
 have hu:=Ln.Lx.toks_len (prE e)
 rw [h2] at hu
 have hk:Has ((us ++ [(⟨0,[],0,(prE e).length⟩:Tk)]).map toRT) 0 (us.map ptOf):=zHx us [] _
 have he:(tokAt ((us ++ [(⟨0,[],0,(prE e).length⟩:Tk)]).map toRT) (us.map ptOf).length).kind = 0:=by
  rw [List.length_map,zG6 _ us.length (⟨0,[],0,(prE e).length⟩:Tk) (by rw [List.getElem?_append_right (Nat.le_refl _),Nat.sub_self]; rfl)]
  rfl
 have hlen:((us ++ [(⟨0,[],0,(prE e).length⟩:Tk)]).map toRT).length ≤ 900000000:=by rw [List.length_map]; exact Nat.le_trans hu (by decide)
 generalize (us ++ [(⟨0,[],0,(prE e).length⟩:Tk)]).map toRT = ts at hk he hlen hy
 obtain ⟨e',f0,h3,h4⟩:=((zHF hlen h).2 0 0 hk (by omega)).2.1 0 (by omega) rfl (by rw [Nat.zero_add]; exact zI7 he 0)
 unfold Qe.expr at hy
 split at hy
 ·cases hy
 rename_i e2 s h5
 have h6:=zJo f (f + f0) (by omega) 0 _ _ h5
 have h7:=h4 (f + f0) (by omega)
 rw [show (⟨0,max 0 0,0,0⟩:Q) = st 0 0 from rfl,h7] at h6
 injection h6 with h6
 injection h6 with h6 h8
 subst h6 h8
 have h9:=Option.some.inj hy
 rw [← h9]
 refine ⟨h3,?_⟩
 show (((0 + (us.map ptOf).length:Nat):Int),(0:Int),(0:Int)) = _
 rw [Nat.zero_add,List.length_map]
end Rt
end Go.Proofs.YteadgahhchlgeaaDoor
