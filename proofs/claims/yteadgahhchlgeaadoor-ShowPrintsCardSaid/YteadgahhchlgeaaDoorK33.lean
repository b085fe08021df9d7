/-
  A text's tokens, byte by byte (plain); what is answered of a
-/
import Derived.Test.YteadgahhchlgeaaDoorK32
namespace Go.Proofs.YteadgahhchlgeaaDoor
namespace Rt
open Go.RowKit
open Px (RT tokAt isT levelT signsOf)
open Qe (Q)
open Pe (Ex inc dec)
open Ps (Sm kindOf nameOf)
open Pg (Pm Rc Fc Gm)
open Ln.Lx (Tk lexF skipS toks lexAll one spcB)
inductive FL:Gm → List PT → Prop
 | nil:FL Gm.zero []
 | rcd (p:Gm) (l:List PT) (x:Rc) (h:FL p l) (hx:RcOk x) (hp:p.recs.length < 12):FL (p.addR x) (l ++ rcT x)
 | glob (p:Gm) (l:List PT) (x:Pm) (h:FL p l) (hx:PmOk x) (hp:p.globals.length < 8):FL (p.addG x) (l ++ glT x)
 | func (p:Gm) (l:List PT) (x:Fc) (d:Nat) (lx:List PT) (h:FL p l) (hx:FP x d lx) (hd:d ≤ 50) (hp:p.funcs.length < 16):FL (p.addF x) (l ++ lx)
theorem zMe {ts:List RT}(hts:ts.length ≤ 900000000){ke:Nat}{P p:Gm}{l:List PT}(h:FL p l)(hk:Has ts 0 l)(hd:Done ts ke P p l.length):Done ts ke P Gm.zero 0:=by
 induction h with
 | nil => exact hd
 | rcd p l x h hx hp ih =>
   have ha:=hk.app
   refine ih ha.1 (zHJ hts hx (by rw [← Nat.zero_add l.length]; exact ha.2) hp ?_)
   rw [List.length_append] at hd
   exact hd
 | glob p l x h hx hp ih =>
   have ha:=hk.app
   refine ih ha.1 (zF9 hts hx (by rw [← Nat.zero_add l.length]; exact ha.2) hp ?_)
   rw [List.length_append] at hd
   exact hd
 | func p l x d lx h hx hd2 hp ih =>
   have ha:=hk.app
   refine ih ha.1 (zGa hts hx hd2 (by rw [← Nat.zero_add l.length]; exact ha.2) hp ?_)
   rw [List.length_append] at hd
   exact hd
theorem zKw {ts:List RT}(hts:ts.length ≤ 900000000){p:Gm}{l:List PT}(h:FL p l)(hk:Has ts 0 l)(he:(tokAt ts l.length).kind = 0){F f g:Nat}{y:Gm × Int × Int}(hr:Qg.run ts (Qs.run ts (Qe.run ts F 0) f).2 g = some y):Al.G2 p y.1 ∧ y.2 = (0,0):=by
 obtain ⟨z,f0,h1,h2⟩:=zMe hts h hk (zHK he) Gm.zero ⟨.nil,.nil,.nil⟩
 have h3:=zHn (show F ≤ F + f0 by omega) (show f ≤ f + f0 by omega) (show g ≤ g + f0 by omega) hr
 unfold Qg.run at h3
 rw [show (⟨0,0,0,0⟩:Q) = st 0 0 from rfl,h2 (F + f0) (by omega) (f + f0) (by omega) (g + f0) (by omega)] at h3
 obtain rfl:=Option.some.inj h3
 exact ⟨h1,rfl⟩
inductive LX:List UInt8 → List PT → Prop
 | nil:LX [] []
 | blank (c:UInt8) (r:List UInt8) (l:List PT) (h:spcB (c.toNat:Int) = true) (hr:LX r l):LX (c :: r) l
 | tok (r:List UInt8) (kind:Nat) (text:List UInt8) (num m:Nat) (l:List PT) (hs:skipS false r = 0) (h:one r = some (kind,text,num,m)) (hr:LX (r.drop m) l):LX r (((kind:Int),text,(num:Int)) :: l)
def ptOf (t:Tk):PT:=((t.kind:Int),t.text,(t.num:Int))
theorem zQm {r:List UInt8}{l:List PT}(h:LX r l):∀ k f,r.length < f → ∃ us,lexF f (k + skipS false r) (r.drop (skipS false r)) = .ok us ∧ us.map ptOf = l:=by
 induction h with
 | nil =>
   intro k f hf
   rw [show f = (f - 1) + 1 by have : 0 < f:=hf; omega]
   exact ⟨[],rfl,rfl⟩
 | blank c r l h hr ih =>
   intro k f hf
   rw [List.length_cons] at hf
   obtain ⟨us,h1,h2⟩:=ih (k + 1) f (by omega)
   refine ⟨us,?_,h2⟩
   rw [skipS,if_pos h,List.drop_succ_cons,show k + (skipS false r + 1) = k + 1 + skipS false r by omega]
   exact h1
 | tok r kind text num m l hs h hr ih =>
   intro k f hf
   have hm:=Ln.Lx.one_len h
   obtain ⟨us,h1,h2⟩:=ih (k + m) (f - 1) (by rw [List.length_drop]; omega)
   rw [hs,List.drop_zero,Nat.add_zero]
   cases r with
   | nil => rw [one] at h; cases h
   | cons c r =>
     rw [show f = (f - 1) + 1 by omega,lexF,h]
     dsimp only
     rw [List.drop_drop,Nat.add_assoc] at h1
     rw [h1]
     exact ⟨_,rfl,by rw [List.map_cons,h2]; rfl⟩
theorem zGK {r:List UInt8}{l:List PT}(h:LX r l)(hl:r.length ≤ 6000):∃ us,toks r = (us ++ [⟨0,[],0,r.length⟩],0,0) ∧ us.map ptOf = l:=by
 obtain ⟨us,h1,h2⟩:=zQm h 0 (r.length + 1) (by omega)
 refine ⟨us,?_,h2⟩
 rw [Nat.zero_add] at h1
 unfold toks lexAll
 rw [if_neg (by omega),h1]
theorem zG6 (us:List Tk)(k:Nat)(t:Tk)(h:us[k]? = some t):tokAt (us.map toRT) k = toRT t:=by
 have hk:k < us.length:=by
  by_cases hk:k < us.length
  ·exact hk
  ·rw [List.getElem?_eq_none (by omega)] at h; cases h
 unfold tokAt
 rw [if_pos ⟨by omega,by rw [List.length_map]; omega⟩,List.getD_eq_getElem?_getD,List.getElem?_map,Int.toNat_natCast,h]
 rfl
theorem zHx:∀ (us vs ws:List Tk),Has ((vs ++ (us ++ ws)).map toRT) vs.length (us.map ptOf)
 | [],_,_ => trivial
 | u :: us,vs,ws => by
   have h1:tokAt ((vs ++ (u :: us ++ ws)).map toRT) vs.length = toRT u:=zG6 _ _ _ (by rw [List.cons_append,List.getElem?_append_right (Nat.le_refl _),Nat.sub_self]; rfl)
   have h2:=zHx us (vs ++ [u]) ws
   rw [List.append_assoc,List.length_append,List.length_singleton] at h2
   refine ⟨⟨?_,?_,?_⟩,h2⟩
   ·rw [h1]; rfl
   ·rw [h1]; rfl
   ·rw [h1]; rfl
theorem zD4 {r:List UInt8}{vs:List Tk}{K:Nat}(h:toks r = (vs,0,K)):∃ x,answer r = x ∧ Qg.run (vs.map toRT) (Qs.run (vs.map toRT) (Qe.run (vs.map toRT) (Sim.enough (vs.map toRT)) 0) (Sim.enough (vs.map toRT))).2 (Sim.enough (vs.map toRT)) = some x ∧ (vs.map toRT).length ≤ 6001:=by
 have hu:=Ln.Lx.toks_len r
 rw [h] at hu
 have hu:vs.length ≤ 6001:=hu
 obtain ⟨x,h3,h4⟩:=Sim.prog_same (ts:=vs.map toRT) (by rw [List.length_map]; omega) (zDx hu) (zEG hu)
 have e1:runOf vs = some x:=by rw [zBr] at h3; exact h3
 refine ⟨x,?_,h4,by rw [List.length_map]; exact hu⟩
 unfold answer
 rw [h]
 dsimp only
 rw [if_pos rfl,e1]
 rfl
theorem zOx {r:List UInt8}{l:List PT}(h:LX r l)(hl:r.length ≤ 6000){p:Gm}(hp:FL p l):(answer r).2.1 = 0 ∧ sameG p (answer r).1 = true:=by
 obtain ⟨us,h1,rfl⟩:=zGK h hl
 have hk:Has ((us ++ [(⟨0,[],0,r.length⟩:Tk)]).map toRT) 0 (us.map ptOf):=zHx us [] _
 have he:(tokAt ((us ++ [(⟨0,[],0,r.length⟩:Tk)]).map toRT) (us.map ptOf).length).kind = 0:=by
  rw [List.length_map,zG6 _ us.length (⟨0,[],0,r.length⟩:Tk) (by rw [List.getElem?_append_right (Nat.le_refl _),Nat.sub_self]; rfl)]
  rfl
 generalize us ++ [(⟨0,[],0,r.length⟩:Tk)] = vs at h1 hk he
 obtain ⟨x,h2,h3,h4⟩:=zD4 h1
 rw [h2]
 obtain ⟨h5,h6⟩:=zKw (by omega) hp hk he h3
 exact ⟨by rw [h6],h5.same⟩
end Rt
namespace Rt
open Go.RowKit
open Go.Lib (decDigits)
open Px (RT tokAt isT levelT signsOf)
open Qe (Q)
open Pe (Ex inc dec)
open Ps (Sm kindOf nameOf)
open Pg (Pm Rc Fc Gm)
open Ln.Lx (Tk lexF skipS toks lexAll one spcB alnB digB letB isName isWord words signAt numBad nextLet valN)
def Sep (r:List UInt8):Prop:=∀ c q,r = c :: q → alnB (c.toNat:Int) = false
theorem zF {c:UInt8}{r:List UInt8}(h:alnB (c.toNat:Int) = false):Sep (c :: r):=fun d q hh => by
 injection hh with h1 h2
 rw [← h1]
 exact h
theorem zJi:Sep []:=fun _ _ h => by cases h
theorem zMV (p:Int → Bool)(c:UInt8)(r:List UInt8)(h:p (c.toNat:Int) = false):Ln.Lx.runN p (c :: r) = 0:=by rw [Ln.Lx.runN,if_neg (by rw [h]; decide)]
theorem zGn (p:Int → Bool)(c:UInt8)(r:List UInt8)(h:p (c.toNat:Int) = true):Ln.Lx.runN p (c :: r) = Ln.Lx.runN p r + 1:=by rw [Ln.Lx.runN,if_pos h]
theorem zNm (acc:Nat):valN acc [] = acc:=List.foldl_nil
theorem zK4 (acc:Nat)(c:UInt8)(l:List UInt8):valN acc (c :: l) = valN (10 * acc + (c.toNat - 48)) l:=List.foldl_cons ..
theorem zHf (q:Int → Bool){r:List UInt8}(hr:∀ c s,r = c :: s → q (c.toNat:Int) = false):∀ l:List UInt8,Ln.Lx.runN q l = l.length → Ln.Lx.runN q (l ++ r) = l.length
 | [],_ => by
   cases r with
   | nil => rfl
   | cons c s => exact zMV _ _ _ (hr c s rfl)
 | d :: l,h => by
   cases hd:q (d.toNat:Int)
   ·rw [zMV _ _ _ hd] at h; simp at h
   ·rw [zGn _ _ _ hd] at h
    rw [List.cons_append,zGn _ _ _ hd,zHf q hr l (by simpa using h)]; rfl
theorem zFI (q:Int → Bool):∀ l:List UInt8,(∀ c ∈ l,q (c.toNat:Int) = true) → Ln.Lx.runN q l = l.length
 | [],_ => rfl
 | c :: l,h => by
   rw [zGn _ _ _ (h c (List.mem_cons_self ..)),zFI q l (fun d hd => h d (List.mem_cons_of_mem _ hd))]; rfl
theorem zEV {c:UInt8}(r:List UInt8)(h:alnB (c.toNat:Int) = true):skipS false (c :: r) = 0:=by
 have h1 : 97 ≤ c.toNat ∧ c.toNat ≤ 122 ∨ 65 ≤ c.toNat ∧ c.toNat ≤ 90 ∨ 48 ≤ c.toNat ∧ c.toNat ≤ 57:=by simp [alnB,letB,digB] at h; omega
 rw [skipS,if_neg (by simp [spcB]; omega),if_neg (fun hc => by rw [hc.1] at h1; revert h1; decide)]
theorem zKY {c:Int}(h:letB c = true):alnB c = true:=by unfold alnB; rw [h]; rfl
theorem zO3 {c:Int}(h:digB c = true):alnB c = true:=by unfold alnB; rw [h,Bool.or_true]
def Hd (l:List UInt8):Prop:=∃ c r,l = c :: r ∧ c ≠ 61
theorem Hd.app {a:List UInt8}(h:Hd a)(b:List UInt8):Hd (a ++ b):=by
 obtain ⟨c,r,rfl,h2⟩:=h
 exact ⟨c,r ++ b,rfl,h2⟩
def Seg (t:List UInt8)(l:List PT):Prop:=∀ r lr,Sep r → LX r lr → LX (t ++ r) (l ++ lr)
abbrev NmB (t:List UInt8):Prop:=isName t = true
abbrev NuB (n:Int):Prop:=0 ≤ n ∧ n ≤ 9223372036854775807
theorem zII {t:List UInt8}(h:isName t = true):∃ c r,t = c :: r ∧ letB (c.toNat:Int) = true ∧ Ln.Lx.runN alnB t = t.length ∧ isWord t = false:=by
 cases t with
 | nil => cases h
 | cons c r =>
   unfold isName at h
   simp only [Bool.and_eq_true,decide_eq_true_eq,Bool.not_eq_true'] at h
   exact ⟨c,r,rfl,h.1.1.2,h.1.2,h.2⟩
theorem zM6 {c:UInt8}(h:letB (c.toNat:Int) = true):c ≠ 61:=by
 rintro rfl
 revert h
 decide
theorem zAE {t:List UInt8}(h:isName t = true):Seg t [nm t] ∧ Hd t:=by
 obtain ⟨c,s,rfl,hl,ha,hw⟩:=zII h
 refine ⟨fun r lr hr hx => ?_,c,s,rfl,zM6 hl⟩
 have h1:=zHf alnB hr (c :: s) ha
 refine .tok (c :: s ++ r) 1 (c :: s) 0 (c :: s).length lr (zEV _ (zKY hl)) ?_ (by rw [List.drop_left]; exact hx)
 rw [List.cons_append] at h1 ⊢
 rw [one,if_pos hl,h1,← List.cons_append,List.take_left,if_neg (by rw [hw]; decide),if_pos h]
theorem zIT:∀ t ∈ words,∃ c r,t = c :: r ∧ letB (c.toNat:Int) = true ∧ Ln.Lx.runN alnB t = t.length ∧ isWord t = true:=by
 intro t ht
 simp only [words,List.mem_cons,List.not_mem_nil,or_false] at ht
 rcases ht with rfl | rfl | rfl | rfl | rfl | rfl | rfl | rfl | rfl | rfl | rfl | rfl | rfl | rfl | rfl | rfl | rfl | rfl <;> exact ⟨_,_,rfl,by decide,by decide,by decide⟩
theorem zZ {t:List UInt8}(h:t ∈ words):Seg t [wd t] ∧ Hd t:=by
 obtain ⟨c,s,rfl,hl,ha,hw⟩:=zIT t h
 refine ⟨fun r lr hr hx => ?_,c,s,rfl,zM6 hl⟩
 have h1:=zHf alnB hr (c :: s) ha
 refine .tok (c :: s ++ r) 3 (c :: s) 0 (c :: s).length lr (zEV _ (zKY hl)) ?_ (by rw [List.drop_left]; exact hx)
 rw [List.cons_append] at h1 ⊢
 rw [one,if_pos hl,h1,← List.cons_append,List.take_left,if_pos hw]
theorem zDU {u:Nat}(h:u < 10):decDigits u = [UInt8.ofNat (48 + u)]:=by rw [decDigits,dif_pos h]
theorem zGd {u:Nat}(h:¬ u < 10):decDigits u = decDigits (u / 10) ++ [UInt8.ofNat (48 + u % 10)]:=by rw [decDigits,dif_neg h]
theorem zDW (d:Nat)(h:d < 10):(UInt8.ofNat (48 + d)).toNat = 48 + d:=by
 rw [UInt8.toNat_ofNat']; omega
theorem zG4 (P:Nat → Prop)(lo:∀ u,u < 10 → P u)(hi:∀ u,¬ u < 10 → P (u / 10) → P u)(u:Nat):P u:=by
 induction u using Nat.strongRecOn with
 | _ u ih =>
   by_cases h:u < 10
   ·exact lo u h
   ·exact hi u h (ih (u / 10) (by omega))
theorem zOI (u:Nat):∀ c ∈ decDigits u,48 ≤ c.toNat ∧ c.toNat ≤ 57:=by
 refine zG4 (fun u => ∀ c ∈ decDigits u,48 ≤ c.toNat ∧ c.toNat ≤ 57) ?_ ?_ u
 ·intro u h c hc
  rw [zDU h,List.mem_singleton] at hc
  rw [hc,zDW u h]; omega
 ·intro u h ih c hc
  rw [zGd h,List.mem_append,List.mem_singleton] at hc
  rcases hc with hc | hc
  ·exact ih c hc
  ·rw [hc,zDW _ (by omega)]; omega
theorem zNc (u:Nat):decDigits u ≠ []:=by
 by_cases h:u < 10
 ·rw [zDU h]; simp
 ·rw [zGd h]; simp
theorem zMz (u:Nat) : 1 ≤ u → ∀ c r,decDigits u = c :: r → c.toNat ≠ 48:=by
 refine zG4 (fun u => 1 ≤ u → ∀ c r,decDigits u = c :: r → c.toNat ≠ 48) ?_ ?_ u
 ·intro u h h1 c r e
  rw [zDU h] at e
  injection e with e _
  rw [← e,zDW u h]; omega
 ·intro u h ih _ c r e
  rw [zGd h] at e
  cases hd:decDigits (u / 10) with
  | nil => exact absurd hd (zNc _)
  | cons c' r' =>
    rw [hd,List.cons_append] at e
    injection e with e _
    exact e ▸ ih (by omega) c' r' hd
theorem zK3 (l:List UInt8)(c:UInt8)(a:Nat):valN a (l ++ [c]) = 10 * valN a l + (c.toNat - 48):=by
 rw [valN,valN,List.foldl_append]; rfl
theorem zNn (u:Nat):valN 0 (decDigits u) = u:=by
 refine zG4 (fun u => valN 0 (decDigits u) = u) ?_ ?_ u
 ·intro u h
  rw [zDU h,zK4,zNm,zDW u h]; omega
 ·intro u h ih
  rw [zGd h,zK3,ih,zDW _ (by omega)]; omega
theorem zJk {n:Int}(h:NuB n):Seg (decDigits n.toNat) [nu n] ∧ Hd (decDigits n.toNat):=by
 obtain ⟨u,rfl⟩:∃ u:Nat,n = u:=⟨n.toNat,by have:=h.1; omega⟩
 rw [Int.toNat_natCast]
 have hall:∀ d ∈ decDigits u,digB (d.toNat:Int) = true:=fun d hd => by
  have:=zOI u d hd
  simp [digB]; omega
 have ha:=zFI digB _ hall
 have hv:=zNn u
 have hh:=zMz u
 have hlen1:u = 0 → (decDigits u).length = 1:=fun h0 => by rw [h0,zDU (by omega)]; rfl
 cases hd:decDigits u with
 | nil => exact absurd hd (zNc u)
 | cons d l =>
   rw [hd] at hv hall hlen1 ha
   have hdd:=hall d (List.mem_cons_self ..)
   have hdl:letB (d.toNat:Int) = false:=by
    simp [digB] at hdd
    simp [letB]; omega
   refine ⟨fun r lr hr hx => ?_,d,l,rfl,fun hc => by rw [hc] at hdd; revert hdd; decide⟩
   have hrl:∀ c s,r = c :: s → letB (c.toNat:Int) = false:=fun c s hc => by
    have:=hr c s hc
    unfold alnB at this
    exact (Bool.or_eq_false_iff.1 this).1
   have h1:=zHf digB (fun c s hc => by
    have:=hr c s hc
    unfold alnB at this
    exact (Bool.or_eq_false_iff.1 this).2) (d :: l) ha
   refine .tok (d :: l ++ r) 2 [] u (d :: l).length lr (zEV _ (zO3 hdd)) ?_ (by rw [List.drop_left]; exact hx)
   have hbad:numBad (d :: l ++ r) = false:=by
    have hn48:¬ ((d :: l ++ r).head? = some 48 ∧ 1 < (d :: l).length):=fun ⟨h1,h2⟩ => by
        rw [List.cons_append,List.head?_cons] at h1
        injection h1 with h1
        rcases Nat.eq_zero_or_pos u with h0 | h0
        ·have:=hlen1 h0; omega
        ·exact hh h0 d l hd (by rw [h1]; decide)
    rw [numBad,h1,List.take_left,List.drop_left,hv]
    simp only [Bool.or_eq_false_iff,decide_eq_false_iff_not]
    refine ⟨⟨hn48,by have:=h.2; omega⟩,?_⟩
    cases r with
    | nil => rfl
    | cons c s => exact hrl c s rfl
   rw [List.cons_append] at h1 hbad ⊢
   rw [one,if_neg (by rw [hdl]; decide),if_pos hdd,if_neg (by rw [hbad]; decide),h1,← List.cons_append,List.take_left,hv]
theorem zAA {c:UInt8}(hc:c ∈ ([123,125,40,41,91,93,59,58,44,46,45]:List UInt8)){r:List UInt8}{lr:List PT}(h:LX r lr):LX (c :: r) (sg [c] :: lr):=by
 simp only [List.mem_cons,List.not_mem_nil,or_false] at hc
 rcases hc with rfl | rfl | rfl | rfl | rfl | rfl | rfl | rfl | rfl | rfl | rfl <;> exact .tok _ 4 _ 0 1 lr rfl rfl h
theorem zQl {r:List UInt8}{lr:List PT}(hr:Hd r)(h:LX r lr):LX (33 :: r) (sg [33] :: lr):=by
 obtain ⟨c,s,rfl,hc⟩:=hr
 refine .tok _ 4 [33] 0 1 lr rfl ?_ h
 have hs:signAt (33 :: c :: s) = some [33]:=by
  unfold signAt Ln.Lx.signs
  have:(61 == c) = false:=by rw [beq_eq_false_iff_ne]; exact fun hh => hc hh.symm
  simp [List.find?,List.isPrefixOf,this]
 rw [one,if_neg (by decide),if_neg (by decide),hs]
 rfl
theorem zK {r:List UInt8}{lr:List PT}(h:LX r lr):LX (32 :: r) lr:=.blank 32 r lr (by decide) h
theorem zCv {r:List UInt8}{lr:List PT}(h:LX r lr):LX (10 :: r) lr:=.blank 10 r lr (by decide) h
theorem zN9 {r:List UInt8}{lr:List PT}(h:LX r lr):LX (61 :: 32 :: r) (sg [61] :: lr):=.tok _ 4 [61] 0 1 lr rfl rfl (zK h)
def ops:List (List UInt8):=[[43],[45],[42],[47],[37],[60],[60,61],[61,61],[33,61],[38,38],[124,124]]
theorem zSw {t:List UInt8}(ht:t ∈ ops){r:List UInt8}{lr:List PT}(h:LX r lr):LX (t ++ 32 :: r) (sg t :: lr):=by
 simp only [ops,List.mem_cons,List.not_mem_nil,or_false] at ht
 rcases ht with rfl | rfl | rfl | rfl | rfl | rfl | rfl | rfl | rfl | rfl | rfl
 all_goals first | exact .tok _ 4 _ 0 1 lr rfl rfl (zK h) | exact .tok _ 4 _ 0 2 lr rfl rfl (zK h)
def tyB (t:List UInt8)(d:Nat):List UInt8:=List.replicate d 91 ++ (t ++ List.replicate d 93)
theorem zFH:∀ (d:Nat){r:List UInt8}{lr:List PT},LX r lr → LX (List.replicate d 93 ++ r) (List.replicate d (sg [93]) ++ lr)
 | 0,_,_,h => h
 | d + 1,_,_,h => zAA (by decide) (zFH d h)
theorem zHe:∀ (d:Nat){r:List UInt8}{lr:List PT},LX r lr → LX (List.replicate d 91 ++ r) (List.replicate d (sg [91]) ++ lr)
 | 0,_,_,h => h
 | d + 1,_,_,h => zAA (by decide) (zHe d h)
theorem zJj (d:Nat){r:List UInt8}(h:Sep r):Sep (List.replicate d 93 ++ r):=by
 cases d with
 | zero => exact h
 | succ d => exact zF (by decide)
theorem OkL.left {a b:List PT}(h:OkL NmB NuB (a ++ b)):OkL NmB NuB a:=fun p hp => h p (List.mem_append_left _ hp)
theorem OkL.right {a b:List PT}(h:OkL NmB NuB (a ++ b)):OkL NmB NuB b:=fun p hp => h p (List.mem_append_right _ hp)
theorem OkL.tail {p:PT}{b:List PT}(h:OkL NmB NuB (p :: b)):OkL NmB NuB b:=fun q hq => h q (List.mem_cons_of_mem _ hq)
theorem OkL.name {t:List UInt8}{b:List PT}(h:OkL NmB NuB (nm t :: b)):NmB t:=(h _ (List.mem_cons_self ..)).1 rfl
theorem zEe {t:List UInt8}{d:Nat}(h:OkL NmB NuB (tyT t d)):Seg (tyB t d) (tyT t d):=by
 intro r lr hr hx
 have hw:Seg t [word t]:=by
  unfold word
  have hm:Ok NmB NuB (word t):=h _ (List.mem_append_left _ (List.mem_append_right _ (List.mem_singleton.2 rfl)))
  unfold word at hm
  split
  ·rename_i hc
   refine (zZ ?_).1
   rcases hc with rfl | rfl <;> decide
  ·rename_i hc
   rw [if_neg hc] at hm
   exact (zAE (hm.1 rfl)).1
 unfold tyB tyT
 rw [List.append_assoc,List.append_assoc,List.append_assoc,List.append_assoc]
 exact zHe d (hw _ _ (zJj d hr) (zFH d hx))
end Rt
end Go.Proofs.YteadgahhchlgeaaDoor
