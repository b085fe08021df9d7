/- Programs read of tokens that are alike but for their places  -/
import Derived.Test.YtipmjjfknhblnaaGreatDoorIa
import Derived.Test.YtipmjjfknhblnaaGreatDoorK45
namespace Go.Proofs.YtipmjjfknhblnaaGreatDoor
namespace Al
open Go.RowKit
open Px (RT tokAt isT levelT)
open Qe (Q)
open Pe (Ex inc dec)
open Ps (Sm)
open Pg (Pm Rc Fc Gm)
abbrev S2 {α:Type}(f : α → α → Bool)(l l':List α):Prop:=sameLs f l l' = true
theorem S2.nil {α:Type}{f : α → α → Bool}:S2 f [] []:=by rw [S2,sameLs]
theorem S2.len {α:Type}{f : α → α → Bool}{l l':List α}(h:S2 f l l'):l'.length = l.length:=by
 by_cases hl:l.length = l'.length
 ·exact hl.symm
 ·rw [S2,zBf l l' hl] at h; cases h
theorem S2.snoc {α:Type}{f : α → α → Bool}:∀ {l l':List α}{e e' : α},S2 f l l' → f e e' = true → S2 f (l ++ [e]) (l' ++ [e'])
 | [],[],e,e',_,he => by rw [S2,List.nil_append,List.nil_append,sameLs,he,sameLs]; rfl
 | [],_ :: _,_,_,h,_ => by have:=h.len; cases this
 | _ :: _,[],_,_,h,_ => by have:=h.len; cases this
 | x :: l,y :: l',e,e',h,he => by
   rw [S2,sameLs,Bool.and_eq_true] at h
   have:=S2.snoc (l:=l) (l':=l') h.2 he
   rw [S2,List.cons_append,List.cons_append,sameLs,h.1,this]
   rfl
def G2 (p p':Gm):Prop:=S2 sameR p.recs p'.recs ∧ S2 sameP p.globals p'.globals ∧ S2 sameF p.funcs p'.funcs
theorem G2.same {p p':Gm}(h:G2 p p'):sameG p p' = true:=by
 unfold sameG
 rw [h.1,h.2.1,h.2.2]
 rfl
section
variable {ts ts':List RT}
theorem zN5 (H:Tl ts ts'){s s':Q}(h:R s s'):sameP (Qg.param ts s).1 (Qg.param ts' s').1 = true ∧ R (Qg.param ts s).2 (Qg.param ts' s').2:=by
 have hn:=zNX H h
 have ho:=zOi H (zNS H hn.2 false [58])
 unfold Qg.param sameP
 dsimp only
 rw [hn.1,ho.1,ho.2.1]
 exact ⟨by simp,ho.2.2⟩
theorem zNZ (H:Tl ts ts'):∀ (g:Nat){l l':List Pm}{s s':Q},S2 sameP l l' → R s s' → OR (S2 sameP) (Qg.fieldLoop ts g l s) (Qg.fieldLoop ts' g l' s')
 | 0,_,_,_,_,_,_ => trivial
 | g + 1,l,l',s,s',hl,h => by
   have hp:=zN5 H h
   rw [Qg.fieldLoop,Qg.fieldLoop,zNT H h,← h.2.2,← h.1,← (H s.k).1,hl.len]
   split
   ·split
    ·exact ⟨hl,zNU h 4⟩
    ·exact zNZ H g (hl.snoc hp.1) (zNS H hp.2 false [59])
   ·exact ⟨hl,h⟩
theorem zOg (H:Tl ts ts')(g:Nat){s s':Q}(h:R s s'):OR (fun a b => sameR a b = true) (Qg.record ts g s) (Qg.record ts' g s'):=by
 have hn:=zNX H h
 unfold Qg.record
 obtain ⟨e1,e2⟩ | ⟨x,q,y,q',e1,e2,he,hq⟩:=(zNZ H g S2.nil (zNS H hn.2 false [123])).elim
 ·rw [e1,e2]; trivial
 ·rw [e1,e2,hn.1]
  exact ⟨by show (_ == _ && sameLs sameP x y) = true; rw [he]; simp,zNS H hq false [125]⟩
theorem zOs (H:Tl ts ts'){s s':Q}(h:R s s'):R (Qg.comma ts s) (Qg.comma ts' s'):=by
 have ht:=zNS H h false [44]
 unfold Qg.comma
 rw [zNT H h,zNT H ht]
 split
 ·exact h
 split
 ·exact zNU ht 2
 ·exact ht
theorem zN2 (H:Tl ts ts'):∀ (g:Nat){l l':List Pm}{s s':Q},S2 sameP l l' → R s s' → OR (S2 sameP) (Qg.parLoop ts g l s) (Qg.parLoop ts' g l' s')
 | 0,_,_,_,_,_,_ => trivial
 | g + 1,l,l',s,s',hl,h => by
   have hp:=zN5 H h
   rw [Qg.parLoop,Qg.parLoop,zNT H h,← h.2.2,← h.1,← (H s.k).1,hl.len]
   split
   ·split
    ·exact ⟨hl,zNU h 4⟩
    ·exact zN2 H g (hl.snoc hp.1) (zOs H hp.2)
   ·exact ⟨hl,h⟩
theorem zN9 (H:Tl ts ts'){s s':Q}(h:R s s'):(Qg.resultOf ts' s').1 = (Qg.resultOf ts s).1 ∧ (Qg.resultOf ts' s').2.1 = (Qg.resultOf ts s).2.1 ∧ (Qg.resultOf ts' s').2.2.1 = (Qg.resultOf ts s).2.2.1 ∧ R (Qg.resultOf ts s).2.2.2 (Qg.resultOf ts' s').2.2.2:=by
 unfold Qg.resultOf
 rw [zNT H h]
 split
 ·have ho:=zOi H (zNO h)
  exact ⟨rfl,ho.1,ho.2.1,ho.2.2⟩
 ·exact ⟨rfl,rfl,rfl,h⟩
variable {rb rb':Q → Qs.OutB}
theorem zOb (H:Tl ts ts')(hb:∀ s s',R s s' → OR B2 (rb s) (rb' s'))(g:Nat){s s':Q}(h:R s s'):OR (fun a b => sameF a b = true) (Qg.function ts rb g s) (Qg.function ts' rb' g s'):=by
 have hn:=zNX H h
 unfold Qg.function
 obtain ⟨e1,e2⟩ | ⟨x,q,y,q',e1,e2,he,hq⟩:=(zN2 H g S2.nil (zNS H hn.2 false [40])).elim
 ·rw [e1,e2]; trivial
 rw [e1,e2]
 have hr:=zN9 H (zNS H hq false [41])
 dsimp only
 obtain ⟨e1,e2⟩ | ⟨l,u,l',u',e1,e2,hl,hu⟩:=(hb _ _ hr.2.2.2).elim
 ·rw [e1,e2]; trivial
 ·rw [e1,e2,hn.1,hr.1,hr.2.1,hr.2.2.1]
  exact ⟨by show (_ == _ && _ == _ && (_ == _ && _ == _) && sameLs sameP x y && sameML l l') = true; rw [he,hl]; simp,hu⟩
theorem zOw (H:Tl ts ts'){p p':Gm}(hp:G2 p p'){s s':Q}(h:R s s'):Qg.over ts' p' s' ↔ Qg.over ts p s:=by
 unfold Qg.over
 rw [zNT H h,zNT H h,zNT H h,hp.1.len,hp.2.1.len,hp.2.2.len]
theorem zNV (H:Tl ts ts')(hb:∀ s s',R s s' → OR B2 (rb s) (rb' s')):∀ (g:Nat){p p':Gm}{s s':Q},G2 p p' → R s s' → OR G2 (Qg.loop ts rb g p s) (Qg.loop ts' rb' g p' s')
 | 0,_,_,_,_,_,_ => trivial
 | g + 1,p,p',s,s',hp,h => by
   have hov:=zOw H hp h
   rw [Qg.loop,Qg.loop,zNT H h,zNT H h,zNT H h,← h.2.2,← h.1,← (H s.k).1]
   split
   ·by_cases ho:Qg.over ts p s
    ·rw [if_pos ho,if_pos (hov.2 ho)]
     exact zNV H hb g hp (zNU h 4)
    rw [if_neg ho,if_neg (fun hh => ho (hov.1 hh))]
    split
    ·obtain ⟨e1,e2⟩ | ⟨x,q,y,q',e1,e2,he,hq⟩:=(zOg H g (zNO h)).elim
     ·rw [e1,e2]; trivial
     ·rw [e1,e2]; exact zNV H hb g ⟨hp.1.snoc he,hp.2.1,hp.2.2⟩ hq
    split
    ·have hm:=zN5 H (zNO h)
     exact zNV H hb g ⟨hp.1,hp.2.1.snoc hm.1,hp.2.2⟩ (zNS H hm.2 false [59])
    split
    ·obtain ⟨e1,e2⟩ | ⟨x,q,y,q',e1,e2,he,hq⟩:=(zOb H hb g (zNO h)).elim
     ·rw [e1,e2]; trivial
     ·rw [e1,e2]; exact zNV H hb g ⟨hp.1,hp.2.1,hp.2.2.snoc he⟩ hq
    ·exact zNV H hb g hp (zNU h 2)
   ·exact ⟨hp,h⟩
theorem pgRun_al (H:Tl ts ts')(hb:∀ s s',R s s' → OR B2 (rb s) (rb' s'))(g:Nat){x y:Gm × Int × Int}(h1:Qg.run ts rb g = some x)(h2:Qg.run ts' rb' g = some y):G2 x.1 y.1 ∧ y.2.1 = x.2.1:=by
 unfold Qg.run at h1 h2
 obtain ⟨e1,e2⟩ | ⟨p,q,p',q',e1,e2,he,hq⟩:=(zNV H hb g (p:=Gm.zero) (p':=Gm.zero) ⟨S2.nil,S2.nil,S2.nil⟩ (s:=⟨0,0,0,0⟩) (s':=⟨0,0,0,0⟩) ⟨rfl,rfl,rfl⟩).elim
 ·rw [e1] at h1; cases h1
 ·rw [e1] at h1
  rw [e2] at h2
  obtain rfl:=Option.some.inj h1
  obtain rfl:=Option.some.inj h2
  unfold Qg.pgEnd
  rw [← hq.2.2]
  split
  ·exact ⟨he,rfl⟩
  ·exact ⟨⟨S2.nil,S2.nil,S2.nil⟩,rfl⟩
end
open Ln.Lx (Tk lexF skipS toks lexAll one)
def up (t:Tk):Tk:=⟨t.kind,t.text,t.num,t.at_ + 2⟩
def upE:Except Nat (List Tk) → Except Nat (List Tk)
 | .error k => .error (k + 2)
 | .ok ts => .ok (ts.map up)
theorem zOj:∀ (f k:Nat)(r:List UInt8),lexF f (k + 2) r = upE (lexF f k r)
 | 0,_,_ => rfl
 | f + 1,k,[] => rfl
 | f + 1,k,c :: r => by
   rw [lexF,lexF]
   cases one (c :: r) with
   | none => rfl
   | some x =>
     obtain ⟨kd,tx,n,m⟩:=x
     dsimp only
     rw [show k + 2 + (m + skipS false ((c :: r).drop m)) = k + (m + skipS false ((c :: r).drop m)) + 2 by omega,zOj f]
     cases lexF f (k + (m + skipS false ((c :: r).drop m))) ((c :: r).drop (m + skipS false ((c :: r).drop m))) <;> rfl
theorem zN8:∀ (f g k:Nat)(r:List UInt8),r.length < f → r.length < g → lexF f k r = lexF g k r
 | 0,_,_,_,h,_ => absurd h (Nat.not_lt_zero _)
 | _ + 1,0,_,_,_,h => absurd h (Nat.not_lt_zero _)
 | _ + 1,_ + 1,_,[],_,_ => rfl
 | f + 1,g + 1,k,c :: r,h,h2 => by
   rw [lexF,lexF]
   cases ho:one (c :: r) with
   | none => rfl
   | some x =>
     obtain ⟨kd,tx,n,m⟩:=x
     have hm:=Ln.Lx.one_len ho
     dsimp only
     rw [List.length_cons] at h h2
     rw [zN8 f g _ _ (by rw [List.length_drop,List.length_cons]; omega) (by rw [List.length_drop,List.length_cons]; omega)]
theorem zOk (l:List UInt8):lexAll (10 :: 32 :: l) = upE (lexAll l):=by
 have hs:skipS false (10 :: 32 :: l) = skipS false l + 2:=by
  rw [skipS,if_pos (by decide),skipS,if_pos (by decide)]
 have hd:(l.drop (skipS false l)).length ≤ l.length:=by rw [List.length_drop]; omega
 unfold lexAll
 rw [hs,show (10 :: 32 :: l:List UInt8).drop (skipS false l + 2) = l.drop (skipS false l) from rfl,zOj,zN8 _ (l.length + 1) _ _ (by simp only [List.length_cons]; omega) (by omega)]
theorem toks_up {l:List UInt8}(hl:l.length ≤ 3000){us:List Tk}{K:Nat}(h:toks l = (us,0,K)):toks (10 :: 32 :: l) = (us.map up,0,0):=by
 unfold toks at h ⊢
 rw [if_neg (by omega)] at h
 rw [if_neg (by simp only [List.length_cons]; omega),zOk]
 cases ha:lexAll l with
 | error k => rw [ha] at h; cases h
 | ok ts =>
   rw [ha] at h
   dsimp only at h
   injection h with h1 h2
   subst h1
   dsimp only [upE]
   rw [List.map_append]
   rfl
theorem tl_up (us:List Tk):Tl (us.map toRT) ((us.map up).map toRT):=by
 intro k
 unfold tokAt
 rw [List.length_map,List.length_map,List.length_map]
 split
 ·rw [List.getD_eq_getElem?_getD,List.getD_eq_getElem?_getD,List.getElem?_map,List.getElem?_map,List.getElem?_map]
  cases us[k.toNat]? with
  | none => exact ⟨rfl,rfl,rfl⟩
  | some t => exact ⟨rfl,rfl,rfl⟩
 ·exact ⟨rfl,rfl,rfl⟩
end Al
open Pg (Gm)
theorem zOn {l:List UInt8}(hl:l.length ≤ 3000)(hok:(answer l).2.1 = 0):(answer (10 :: 32 :: l)).2.1 = 0 ∧ sameG (answer l).1 (answer (10 :: 32 :: l)).1 = true:=by
 obtain ⟨us,E,K,h⟩:∃ us E K,Ln.Lx.toks l = (us,E,K):=⟨_,_,_,rfl⟩
 have hu:=Ln.Lx.toks_len l
 unfold answer at hok ⊢
 rw [h] at hok hu ⊢
 dsimp only at hok hu ⊢
 by_cases hE:E = 0
 ·subst hE
  rw [if_pos rfl] at hok ⊢
  rw [Al.toks_up hl h]
  dsimp only
  rw [if_pos rfl]
  have hv:(us.map Al.up).length ≤ 6001:=by rw [List.length_map]; exact hu
  obtain ⟨x,h1,h2⟩:=Sim.prog_same (ts:=us.map toRT) (by rw [List.length_map]; omega) (zEI hu) (zGu hu)
  obtain ⟨y,h3,h4⟩:=Sim.prog_same (ts:=(us.map Al.up).map toRT) (by rw [List.length_map]; omega) (zEI hv) (zGu hv)
  have e1:runOf us = some x:=by rw [zBy] at h1; exact h1
  have e2:runOf (us.map Al.up) = some y:=by rw [zBy] at h3; exact h3
  have he:Sim.enough ((us.map Al.up).map toRT) = Sim.enough (us.map toRT):=by unfold Sim.enough; rw [List.length_map,List.length_map,List.length_map]
  have H:=Al.tl_up us
  have hx:∀ s s',Al.R s s' → Al.OR Al.E2 (Sim.rx (us.map toRT) s) (Sim.rx ((us.map Al.up).map toRT) s'):=by
   intro s s' hs
   unfold Sim.rx
   rw [he]
   exact Al.run_al H _ 0 s s' hs
  rw [he] at h4
  have:=Al.pgRun_al H (Al.runs_al H hx (Sim.enough (us.map toRT))).2 _ h2 h4
  rw [e1] at hok ⊢
  rw [e2]
  exact ⟨by show y.2.1 = 0; rw [this.2]; exact hok,this.1.same⟩
 ·rw [if_neg hE] at hok
  exact absurd hok (by show ¬ ((E:Nat):Int) = 0; omega)
end Go.Proofs.YtipmjjfknhblnaaGreatDoor
