/-
  The answer's reader keeps the fault's place while there is n
-/
import Derived.Test.YtjleggpbghmobaaK02
import Derived.Test.YtjleggpbghmobaaK03
namespace Go.Proofs.Ytjleggpbghmobaa
namespace Sim
open Go.RowKit
open Px (RT tokAt isT)
open Pe (Ex Cs St inc dec)
open Qe (Q)
def Kp (q q':Q):Prop:=q'.E = 0 → q.E = 0 ∧ q'.F = q.F
theorem Kp.refl (q:Q):Kp q q:=fun h => ⟨h,rfl⟩
theorem Kp.trans {a b c:Q}(h:Kp a b)(g:Kp b c):Kp a c:=fun h0 => ⟨(h (g h0).1).1,(g h0).2.trans (h (g h0).1).2⟩
theorem zV (q:Q):Kp q (Qe.next q):=fun h => ⟨h,rfl⟩
theorem zCe (ts:List RT)(q:Q){e:Int}(he:e ≠ 0):Kp q (Qe.fail ts q e):=fun h => absurd h (fail_dead he)
theorem zBE (ts:List RT)(q:Q)(wd:Bool)(t:List UInt8):Kp q (Qe.take ts q wd t):=by
 unfold Qe.take
 split
 ·exact zV q
 ·exact zCe ts q (by decide)
theorem zAT (ts:List RT)(q:Q)(t:List UInt8):Kp q (Qe.opens ts q t):=by
 unfold Qe.opens
 split
 ·exact zCe ts q (by decide)
 ·exact fun h => zBE ts q false t h
theorem zAN (ts:List RT)(q:Q)(t:List UInt8):Kp q (Qe.closes ts q t):=fun h => zBE ts q false t h
theorem zBj (ts:List RT)(q:Q):Kp q (Qe.name ts q).2:=by
 unfold Qe.name
 split
 ·exact zV q
 ·exact zCe ts q (by decide)
theorem zDS (ts:List RT):∀ (n:Nat)(q:Q),Kp q (Qe.dims ts n q).2
 | 0,q => by
   rw [Qe.dims]
   split
   ·exact zCe ts q (by decide)
   ·exact Kp.refl q
 | n + 1,q => by
   rw [Qe.dims]
   split
   ·exact (zV q).trans (zDS ts n (Qe.next q))
   ·exact Kp.refl q
theorem zIt (ts:List RT)(q:Q):Kp q (Qe.base ts q).2:=by
 unfold Qe.base
 split
 ·exact zV q
 ·exact zBj ts q
theorem zF9 (ts:List RT):∀ (n:Nat)(q:Q),Kp q (Qe.shut ts n q)
 | 0,q => Kp.refl q
 | n + 1,q => by rw [Qe.shut]; exact (zBE ts q false [93]).trans (zF9 ts n _)
theorem zIs (ts:List RT)(q:Q):Kp q (Qe.of ts q).2.2:=by
 unfold Qe.of
 split
 ·exact zDS ts 3 q
 ·exact (zDS ts 3 q).trans ((zIt ts _).trans (zF9 ts _ _))
def RecK (rec:Nat → Q → Qe.Out):Prop:=∀ n q e q',rec n q = some (e,q') → Kp q q'
theorem zCZ {ts:List RT}{rec:Nat → Q → Qe.Out}(h:RecK rec){q q':Q}{e:Ex}(hx:Qe.inner ts rec q = some (e,q')):Kp q q':=by
 unfold Qe.inner at hx
 split at hx
 ·cases hx
 ·rename_i e2 s2 he
  injection hx with hx
  injection hx with _ hx
  subst hx
  exact (zAT ts q [40]).trans ((h _ _ _ _ he).trans (zAN ts s2 [41]))
theorem zCB {ts:List RT}{rec:Nat → Q → Qe.Out}(h:RecK rec):∀ (g:Nat){l l':List Ex}{q q':Q},Qe.argLoop ts rec g l q = some (l',q') → Kp q q'
 | 0,_,_,_,_,hx => by cases hx
 | g + 1,l,l',q,q',hx => by
   rw [Qe.argLoop] at hx
   split at hx
   ·split at hx
    ·cases hx
    ·rename_i e2 s2 he
     exact (zV q).trans ((h _ _ _ _ he).trans (zCB h g hx))
   ·injection hx with hx
    injection hx with _ hx
    subst hx
    exact Kp.refl q
theorem zIu {ts:List RT}{rec:Nat → Q → Qe.Out}(h:RecK rec){g:Nat}{l':List Ex}{q q':Q}(hx:Qe.args ts rec g q = some (l',q')):Kp q q':=by
 unfold Qe.args at hx
 split at hx
 ·injection hx with hx
  injection hx with _ hx
  subst hx
  exact (zAT ts q [40]).trans (zAN ts _ [41])
 ·split at hx
  ·cases hx
  ·rename_i e2 s2 he
   split at hx
   ·cases hx
   ·rename_i l3 s3 hl
    injection hx with hx
    injection hx with _ hx
    subst hx
    exact (zAT ts q [40]).trans ((h _ _ _ _ he).trans ((zCB h g hl).trans (zAN ts s3 [41])))
theorem zHg {ts:List RT}{rec:Nat → Q → Qe.Out}(h:RecK rec){q q':Q}{at_:Int}{e:Ex}(hx:Qe.fresh ts rec q at_ = some (e,q')):Kp q q':=by
 unfold Qe.fresh at hx
 dsimp only at hx
 split at hx
 ·split at hx
  ·cases hx
  ·rename_i e2 s2 he
   injection hx with hx
   injection hx with _ hx
   subst hx
   exact (zV q).trans ((zIs ts _).trans ((zBE ts _ false [93]).trans (zCZ h he)))
 ·injection hx with hx
  injection hx with _ hx
  subst hx
  exact zBj ts q
theorem zHh {ts:List RT}{rec:Nat → Q → Qe.Out}(h:RecK rec){g:Nat}{q q':Q}{e:Ex}(hx:Qe.first ts rec g q = some (e,q')):Kp q q':=by
 have one:∀ {e2:Ex} {s2:Q},Kp q s2 → some (e2,s2) = some (e,q') → Kp q q':=fun hk hx => by
  injection hx with hx
  injection hx with _ hx
  exact hx ▸ hk
 unfold Qe.first at hx
 dsimp only at hx
 split at hx
 ·exact one (zV q) hx
 ·split at hx
  ·exact one (zV q) hx
  ·split at hx
   ·exact one (zV q) hx
   ·split at hx
    ·exact one ((zV q).trans (zIs ts _)) hx
    ·split at hx
     ·exact (zV q).trans (zHg h hx)
     ·split at hx
      ·split at hx
       ·cases hx
       ·rename_i e2 s2 he
        exact one ((zV q).trans (zCZ h he)) hx
      ·split at hx
       ·exact one ((zV q).trans ((zAT ts _ [40]).trans (zAN ts _ [41]))) hx
       ·split at hx
        ·exact zCZ h hx
        ·split at hx
         ·split at hx
          ·cases hx
          ·rename_i l2 s2 he
           exact one ((zBj ts q).trans (zIu h he)) hx
         ·exact one (zBj ts q) hx
theorem zCf {ts:List RT}{rec:Nat → Q → Qe.Out}(h:RecK rec):∀ (g:Nat){e e':Ex}{q q':Q},Qe.behind ts rec g e q = some (e',q') → Kp q q'
 | 0,_,_,_,_,hx => by cases hx
 | g + 1,e,e',q,q',hx => by
   rw [Qe.behind] at hx
   split at hx
   ·exact (zV q).trans ((zBj ts _).trans (zCf h g hx))
   ·split at hx
    ·split at hx
     ·cases hx
     ·rename_i e2 s2 he
      exact (zAT ts q [91]).trans ((h _ _ _ _ he).trans ((zAN ts s2 [93]).trans (zCf h g hx)))
    ·injection hx with hx
     injection hx with _ hx
     subst hx
     exact Kp.refl q
theorem zCd {ts:List RT}{rec:Nat → Q → Qe.Out}(h:RecK rec){q q':Q}{t:List UInt8}{kind:Int}{e:Ex}(hx:Qe.prefixed ts rec q t kind = some (e,q')):Kp q q':=by
 unfold Qe.prefixed at hx
 split at hx
 ·cases hx
 ·rename_i e2 s2 he
  injection hx with hx
  injection hx with _ hx
  subst hx
  exact (zAT ts q t).trans ((h _ _ _ _ he).trans fun h0 => ⟨h0,rfl⟩)
theorem zHf {ts:List RT}{rec:Nat → Q → Qe.Out}(h:RecK rec){g:Nat}{q q':Q}{e:Ex}(hx:Qe.unary ts rec g q = some (e,q')):Kp q q':=by
 unfold Qe.unary at hx
 split at hx
 ·exact zCd h hx
 ·split at hx
  ·exact zCd h hx
  ·split at hx
   ·cases hx
   ·rename_i e2 s2 he
    exact (zHh h he).trans (zCf h g hx)
theorem zCA {ts:List RT}{rec:Nat → Q → Qe.Out}(h:RecK rec)(n:Nat):∀ (g:Nat){e e':Ex}{q q':Q},Qe.binLoop ts rec n g e q = some (e',q') → Kp q q'
 | 0,_,_,_,_,hx => by cases hx
 | g + 1,e,e',q,q',hx => by
   rw [Qe.binLoop] at hx
   split at hx
   ·injection hx with hx
    injection hx with _ hx
    subst hx
    exact Kp.refl q
   ·split at hx
    ·cases hx
    ·rename_i e2 s2 he
     exact (zV q).trans ((h _ _ _ _ he).trans (zCA h n g hx))
theorem zEc (ts:List RT):∀ f,RecK (Qe.run ts f)
 | 0 => fun n q e q' hx => by cases hx
 | f + 1 => fun n q e q' hx => by
   rw [qrun] at hx
   split at hx
   ·exact zHf (zEc ts f) hx
   ·split at hx
    ·cases hx
    ·rename_i e2 s2 he
     exact (zEc ts f _ _ _ _ he).trans (zCA (zEc ts f) n f hx)
end Sim
namespace Sim
open Go.RowKit
open Px (RT tokAt isT)
open Pe (Ex Cs St inc dec)
open Qe (Q)
open Ps (Sm kindOf nameOf)
def F0 (q:Q):Prop:=q.E = 0 → q.F = 0
theorem F0.kp {q q':Q}(h:F0 q)(k:Kp q q'):F0 q':=fun h0 => (k h0).2.trans (h (k h0).1)
def IsP (ts:List RT)(P:Ps.PX):Prop:=∀ k o,Pe.parse ts (enough ts) k o = some (P k o)
def rx (ts:List RT):Qs.RX:=Qe.run ts (enough ts) 0
theorem zQ {ts:List RT}{q:Q}(h:q.E ≠ 0)(wd:Bool)(t:List UInt8):Qe.take ts q wd t = q:=by
 unfold Qe.take
 rw [zBk h,if_neg (by decide)]
 unfold Qe.fail
 rw [if_neg h]
theorem Rel.put {s:St}{q q':Q}(h:Rel s q)(hq:q.E ≠ 0)(hE:q'.E = q.E)(hF:q'.F = q.F):Rel s q':=
 ⟨h.E.trans hE.symm,h.F.trans hF.symm,fun h0 => absurd (hE ▸ h0) hq⟩
theorem Rel.pdead {s:St}{q:Q}(h:Rel s q)(hq:q.E ≠ 0):s.c.E ≠ 0:=by rw [h.E]; exact hq
theorem zBr {ts:List RT}(hl:ts.length ≤ 900000000){P:Ps.PX}(hP:IsP ts P){s:St}{q:Q}(h:Rel s q)(hF:F0 q) :
 ∃ e' t',rx ts q = some (e',t') ∧ Rel (Ps.rd P s).2 t' ∧ F0 t' ∧ Adv ts q t' ∧ (t'.E = 0 → (Ps.rd P s).1 = e'):=by
 by_cases hq:q.E = 0
 ·have hk:=h.live hq
  have hsE:s.c.E = 0:=h.E.trans hq
  have hsF:s.c.F = 0:=h.F.trans (hF hq)
  have ho:Pe.clamp s.o = s.o:=by unfold Pe.clamp; omega
  have h1:Rel ⟨⟨s.c.k,0,0⟩,Pe.clamp s.o⟩ q:=⟨hq.symm,(hF hq).symm,fun _ => ⟨hk.1,by rw [ho]; exact hk.2.1,hk.2.2⟩⟩
  obtain ⟨e,t,e',t',h2,h3,h4,h5,h6⟩:=(zDB hl ts.length _ _ h1 (N_le ts _)).2 0 (by decide) (enough ts) (enough ts) (by unfold enough; omega) (by unfold enough; omega)
  have hp:=hP s.c.k s.o
  unfold Pe.parse at hp
  rw [h2] at hp
  have hp:Pe.exEnd e t.c = P s.c.k s.o:=by simpa using hp
  have hf:F0 t':=hF.kp (zEc ts (enough ts) _ _ _ _ h3)
  refine ⟨e',t',h3,?_,hf,h5,fun h0 => ?_⟩
  ·by_cases h0:t'.E = 0
   ·have hv:P s.c.k s.o = (e,t.c.k,0,0):=by rw [← hp]; exact if_pos (by rw [h4.E,h0])
    unfold Ps.rd
    rw [if_pos hsE,hv,if_pos rfl]
    have ha:=h5 h0
    have hb:=h4.live h0
    exact ⟨by show s.c.E = t'.E; rw [hsE,h0],by show s.c.F = t'.F; rw [hsF,hf h0],fun _ => ⟨hb.1,by show s.o = _; rw [hk.2.1,ha.2.2.2.2],hb.2.2⟩⟩
   ·have hE:t.c.E ≠ 0:=by rw [h4.E]; exact h0
    have hv:P s.c.k s.o = (Ex.zero,0,t.c.E,t.c.F):=by rw [← hp]; exact if_neg hE
    unfold Ps.rd
    rw [if_pos hsE,hv,if_neg hE]
    exact Rel.dead h4.E h4.F h0
  ·have hv:P s.c.k s.o = (e,t.c.k,0,0):=by rw [← hp]; exact if_pos (by rw [h4.E,h0])
   unfold Ps.rd
   rw [if_pos hsE,hv,if_pos rfl]
   exact h6 h0
 ·have hs:=h.pdead hq
  obtain ⟨e,t,e',t',h2,h3,h4,h5,h6⟩:=(zDB hl ts.length _ _ h (N_le ts _)).2 0 (by decide) (enough ts) (enough ts) (by unfold enough; omega) (by unfold enough; omega)
  obtain ⟨g,hg⟩:∃ g,enough ts = g + 8:=⟨enough ts - 8,by unfold enough; omega⟩
  rw [hg,Pe.dead_run hs g] at h2
  obtain rfl:s = t:=by simpa using (Option.some.inj h2 |> Prod.mk.inj).2
  have hd:t'.E ≠ 0:=fun h0 => hq (h5 h0).1
  refine ⟨e',t',h3,?_,fun h0 => absurd h0 hd,h5,fun h0 => absurd h0 hd⟩
  unfold Ps.rd
  rw [if_neg hs]
  exact h4
theorem zD4 {ts:List RT}(hl:ts.length ≤ 900000000){s:St}{q:Q}(h:Rel s q)(hF:F0 q) :
 Rel (Ps.rdOf ts s).2.2 (Qe.of ts q).2.2 ∧ F0 (Qe.of ts q).2.2 ∧ Adv ts q (Qe.of ts q).2.2 ∧ ((Qe.of ts q).2.2.E = 0 → (Ps.rdOf ts s).1 = (Qe.of ts q).1 ∧ (Ps.rdOf ts s).2.1 = (Qe.of ts q).2.1):=by
 obtain ⟨h1,h2,h3⟩:=zBQ hl h
 have hf:F0 (Qe.of ts q).2.2:=hF.kp (zIs ts q)
 by_cases hq:q.E = 0
 ·have hk:=h.live hq
  have hsE:s.c.E = 0:=h.E.trans hq
  have hsF:s.c.F = 0:=h.F.trans (hF hq)
  have hc:(⟨s.c.k,0,0⟩:Cs) = s.c:=by
   obtain ⟨⟨k,E,F⟩,o⟩:=s
   dsimp only at hsE hsF ⊢
   rw [hsE,hsF]
  refine ⟨?_,hf,h3,fun h0 => ?_⟩
  ·by_cases h0:(Qe.of ts q).2.2.E = 0
   ·have hv:Pe.ofAns ts s.c.k = ((Pe.readType ts s.c).1,(Pe.readType ts s.c).2.1,(Pe.readType ts s.c).2.2.k,0,0):=by
     unfold Pe.ofAns
     rw [hc]
     exact if_pos (by rw [← h0]; exact h1.E)
    unfold Ps.rdOf
    rw [if_pos hsE,hv,if_pos rfl]
    have ha:=h3 h0
    have hb:=h1.live h0
    exact ⟨by show s.c.E = _; rw [hsE,h0],by show s.c.F = _; rw [hsF,hf h0],fun _ => hb⟩
   ·have hE:(Pe.readType ts s.c).2.2.E ≠ 0:=fun hh => h0 (h1.E.symm.trans hh)
    have hv:Pe.ofAns ts s.c.k = ([],0,0,(Pe.readType ts s.c).2.2.E,(Pe.readType ts s.c).2.2.F):=by
     unfold Pe.ofAns
     rw [hc]
     exact if_neg hE
    unfold Ps.rdOf
    rw [if_pos hsE,hv,if_neg hE]
    exact Rel.dead h1.E h1.F h0
  ·have hv:Pe.ofAns ts s.c.k = ((Pe.readType ts s.c).1,(Pe.readType ts s.c).2.1,(Pe.readType ts s.c).2.2.k,0,0):=by
        unfold Pe.ofAns
        rw [hc]
        exact if_pos (by rw [← h0]; exact h1.E)
   unfold Ps.rdOf
   rw [if_pos hsE,hv,if_pos rfl]
   exact h2 h0
 ·have hd:(Qe.of ts q).2.2.E ≠ 0:=fun h0 => hq (h3 h0).1
  refine ⟨?_,hf,h3,fun h0 => absurd h0 hd⟩
  have hs:=h.pdead hq
  unfold Ps.rdOf
  rw [if_neg hs]
  have h4:(Pe.readType ts s.c).2.2.E = s.c.E ∧ (Pe.readType ts s.c).2.2.F = s.c.F:=by
   obtain ⟨d1,-⟩:=zC2 hl 3 h
   have hdm:Pe.dims ts 3 s.c = (0,s.c):=by
        rw [Pe.dims,zL h,zBk hq,if_neg (by decide)]
   unfold Pe.readType
   rw [hdm]
   dsimp only
   rw [zCx hs]
   exact zBB (ts:=ts) 0 (c:=Pe.next s.c) hs
  exact h.put hq (by rw [← h1.E,h4.1]; exact h.E) (by rw [← h1.F,h4.2]; exact h.F)
theorem zAR {ts:List RT}(hl:ts.length ≤ 900000000){s:St}{q:Q}(h:Rel s q)(hF:F0 q)(t:List UInt8) :
 Rel (Ps.sgn ts s t) (Qe.take ts q false t) ∧ F0 (Qe.take ts q false t) ∧ Adv ts q (Qe.take ts q false t):=
 ⟨h.sign t,hF.kp (zBE ts q false t),zAf hl q false t⟩
theorem zEk {ts:List RT}(hl:ts.length ≤ 900000000){s:St}{q:Q}(h:Rel s q)(hF:F0 q)(hk : 0 ≤ q.k)(hk2:q.k < (ts.length:Int)) :
 Rel (Ps.decl ts s).2.2.2 (Qs.decl ts q).2.2.2 ∧ F0 (Qs.decl ts q).2.2.2 ∧ Adv ts q (Qs.decl ts q).2.2.2 ∧
 ((Qs.decl ts q).2.2.2.E = 0 → (Ps.decl ts s).1 = (Qs.decl ts q).1 ∧ (Ps.decl ts s).2.1 = (Qs.decl ts q).2.1 ∧ (Ps.decl ts s).2.2.1 = (Qs.decl ts q).2.2.1):=by
 have a1:=h.next
 have f1:=hF.kp (zV q)
 have v1:=zW hl hk hk2
 have a2:=a1.name (ts:=ts)
 have f2:=f1.kp (zBj ts _)
 have v2:=v1.trans (zAH hl a1)
 obtain ⟨a3,f3,v3⟩:=zAR hl a2 f2 [58]
 obtain ⟨a4,f4,v4,e4⟩:=zD4 hl a3 f3
 refine ⟨a4,f4,v2.trans (v3.trans v4),fun h0 => ⟨?_,e4 h0⟩⟩
 have h1:=(v3 (v4 h0).1).1
 exact (name_live hl a1 h1).1
def SameS (ts:List RT)(x:Ps.Out)(y:Qs.Out)(q:Q):Prop:=∃ e t e' t',x = some (e,t) ∧ y = some (e',t') ∧ Rel t t' ∧ F0 t' ∧ Adv ts q t' ∧ (t'.E = 0 → e = e')
def SameB (ts:List RT)(x:Ps.OutB)(y:Qs.OutB)(q:Q):Prop:=∃ e t e' t',x = some (e,t) ∧ y = some (e',t') ∧ Rel t t' ∧ F0 t' ∧ Adv ts q t' ∧ (t'.E = 0 → e = e')
def RecB (ts:List RT)(M:Nat)(recP:St → Ps.OutB)(recQ:Q → Qs.OutB):Prop:=∀ (s:St)(q:Q),Rel s q → F0 q → N ts q < M → SameB ts (recP s) (recQ q) q
def RecS (ts:List RT)(M:Nat)(recP:St → Ps.Out)(recQ:Q → Qs.Out):Prop:=∀ (s:St)(q:Q),Rel s q → F0 q → N ts q < M → SameS ts (recP s) (recQ q) q
def putS (a:Int)(x:Ps.Out):Ps.Out:=x.map fun y => (y.1.put a,y.2)
theorem zHU {ts:List RT}(hl:ts.length ≤ 900000000){s:St}{q:Q}(h:Rel s q)(hF:F0 q)(hk : 0 ≤ q.k)(hk2:q.k < (ts.length:Int))(hx:(tokAt ts q.k).text ≠ [108,101,116])(R:Qs.RX) :
 SameS ts (putS (tokAt ts q.k).at_ (some (Ps.variable_ ts s))) (Qs.declared ts R q) q:=by
 obtain ⟨a,f,v,e⟩:=zEk hl h hF hk hk2
 obtain ⟨a2,f2,v2⟩:=zAR hl a f [59]
 unfold Qs.declared
 dsimp only
 rw [if_neg hx]
 refine ⟨_,_,_,_,rfl,rfl,a2,f2,v.trans v2,fun h0 => ?_⟩
 obtain ⟨e1,e2,e3⟩:=e (v2 h0).1
 simp only [Ps.variable_,Sm.put,e1,e2,e3]
theorem zIq {ts:List RT}(hl:ts.length ≤ 900000000){P:Ps.PX}(hP:IsP ts P){s:St}{q:Q}(h:Rel s q)(hF:F0 q)(hk : 0 ≤ q.k)(hk2:q.k < (ts.length:Int))(hx:(tokAt ts q.k).text = [108,101,116]) :
 SameS ts (putS (tokAt ts q.k).at_ (some (Ps.definition ts P s))) (Qs.declared ts (rx ts) q) q:=by
 obtain ⟨a,f,v,e⟩:=zEk hl h hF hk hk2
 obtain ⟨a2,f2,v2⟩:=zAR hl a f [61]
 obtain ⟨e',t',r1,a3,f3,v3,e3⟩:=zBr hl hP a2 f2
 obtain ⟨a4,f4,v4⟩:=zAR hl a3 f3 [59]
 unfold Qs.declared
 dsimp only
 rw [if_pos hx,r1]
 refine ⟨_,_,_,_,rfl,rfl,a4,f4,v.trans (v2.trans (v3.trans v4)),fun h0 => ?_⟩
 have h3:=(v4 h0).1
 have h2:=(v3 h3).1
 obtain ⟨e1,e2,e4⟩:=e (v2 h2).1
 simp only [Ps.definition,Sm.put,e1,e2,e4,e3 h3]
theorem zH8 {ts:List RT}(hl:ts.length ≤ 900000000){P:Ps.PX}(hP:IsP ts P){s:St}{q:Q}(h:Rel s q)(hF:F0 q)(hk : 0 ≤ q.k)(hk2:q.k < (ts.length:Int)) :
 SameS ts (putS (tokAt ts q.k).at_ (some (Ps.result ts P s))) (Qs.result ts (rx ts) q) q:=by
 have a1:Rel (Ps.nxt s) (Qe.next q):=h.next
 have f1:=hF.kp (zV q)
 have v1:=zW hl hk hk2
 have hs:Pe.sees ts (Pe.next s.c) 4 [59] = Qe.is ts (Qe.next q) false [59]:=zL a1 [59]
 unfold Ps.result Qs.result
 rw [hs]
 cases hv:Qe.is ts (Qe.next q) false [59] with
 | true =>
   obtain ⟨a2,f2,v2⟩:=zAR hl a1 f1 [59]
   exact ⟨_,_,_,_,rfl,rfl,a2,f2,v1.trans v2,fun h0 => rfl⟩
 | false =>
   obtain ⟨e',t',r1,a3,f3,v3,e3⟩:=zBr hl hP a1 f1
   obtain ⟨a4,f4,v4⟩:=zAR hl a3 f3 [59]
   rw [r1]
   refine ⟨_,_,_,_,rfl,rfl,a4,f4,v1.trans (v3.trans v4),fun h0 => ?_⟩
   rw [← e3 (v4 h0).1]
   rfl
theorem zIm {ts:List RT}(hl:ts.length ≤ 900000000){P:Ps.PX}(hP:IsP ts P){s:St}{q:Q}(h:Rel s q)(hF:F0 q)(hk : 0 ≤ q.k)(hk2:q.k < (ts.length:Int)) :
 SameS ts (putS (tokAt ts q.k).at_ (some (Ps.output ts P s))) (Qs.output ts (rx ts) q) q:=by
 have a1:Rel (Ps.nxt s) (Qe.next q):=h.next
 have f1:=hF.kp (zV q)
 have v1:=zW hl hk hk2
 obtain ⟨e',t',r1,a3,f3,v3,e3⟩:=zBr hl hP a1 f1
 obtain ⟨a4,f4,v4⟩:=zAR hl a3 f3 [59]
 unfold Qs.output
 rw [r1]
 refine ⟨_,_,_,_,rfl,rfl,a4,f4,v1.trans (v3.trans v4),fun h0 => ?_⟩
 rw [← e3 (v4 h0).1]
 rfl
theorem zBY {ts:List RT}{s:St}{q:Q}(h:Rel s q):Rel (Ps.refuse ts s).2 (Qe.fail ts q 2):=h.fail (by decide)
theorem zB8 {ts:List RT}{q _q1 q2:Q}{s1:St}{e2:Sm}(hr:Rel (Ps.refuse ts s1).2 q2)(h2:q2.E ≠ 0)(a:Int):SameS ts (putS a (some (Ps.refuse ts s1))) (some (e2,q2)) q:=
 ⟨_,_,_,_,rfl,rfl,hr,fun h0 => absurd h0 h2,fun h0 => absurd h0 h2,fun h0 => absurd h0 h2⟩
theorem zJ0 {ts:List RT}(hl:ts.length ≤ 900000000){s:St}{q q0:Q}(h:Rel s q)(hF:F0 q)(hv0:Adv ts q0 q)(_hq:q.E = 0)(hv:Qe.is ts q false [59] = true)(e:Ex)(a:Int) :
 SameS ts (putS a (some (Ps.call ts e s))) (some (Qs.plainDo ts a e q)) q0:=by
 unfold Ps.call Qs.plainDo
 by_cases hk:kindOf e = 7
 ·rw [if_pos hk,if_neg (fun hh => hh.2 hk)]
  obtain ⟨-,k1,k2,-,-⟩:=zAo hv
  have ht:Qe.take ts q false [59] = Qe.next q:=by unfold Qe.take; rw [if_pos hv]
  rw [ht]
  exact ⟨_,_,_,_,rfl,rfl,h.next,hF.kp (zV q),hv0.trans (zW hl k1 k2),fun _ => rfl⟩
 ·rw [if_neg hk,if_pos ⟨hv,hk⟩,zQ (fail_dead (by decide))]
  exact zB8 (_q1:=q) (zBY h) (fail_dead (by decide)) a
theorem zIh {ts:List RT}(hl:ts.length ≤ 900000000){P:Ps.PX}(hP:IsP ts P){s:St}{q q0:Q}(h:Rel s q)(hF:F0 q)(hv0:Adv ts q0 q)(hv:Qe.is ts q false [61] = true)(e:Ex)(a:Int) :
 SameS ts (putS a (some (Ps.assignment ts P e s))) (Qs.plainPut ts (rx ts) a e q) q0:=by
 obtain ⟨-,k1,k2,-,-⟩:=zAo hv
 have ht:Qe.take ts q false [61] = Qe.next q:=by unfold Qe.take; rw [if_pos hv]
 have a1:Rel (Ps.nxt s) (Qe.next q):=h.next
 have f1:=hF.kp (zV q)
 have v1:=zW hl k1 k2
 unfold Ps.assignment Qs.plainPut
 by_cases h4:kindOf e = 4
 ·rw [if_pos h4,if_neg (fun hh => hh.1 h4),ht]
  obtain ⟨e',t',r1,a3,f3,v3,e3⟩:=zBr hl hP a1 f1
  obtain ⟨a4,f4,v4⟩:=zAR hl a3 f3 [59]
  rw [r1]
  refine ⟨_,_,_,_,rfl,rfl,a4,f4,hv0.trans (v1.trans (v3.trans v4)),fun h0 => ?_⟩
  rw [← e3 (v4 h0).1,if_pos h4]
  rfl
 ·rw [if_neg h4]
  by_cases h5:kindOf e = 5 ∨ kindOf e = 6
  ·rw [if_pos h5,if_neg (fun hh => h5.elim hh.2.1 hh.2.2),ht]
   obtain ⟨e',t',r1,a3,f3,v3,e3⟩:=zBr hl hP a1 f1
   obtain ⟨a4,f4,v4⟩:=zAR hl a3 f3 [59]
   rw [r1]
   refine ⟨_,_,_,_,rfl,rfl,a4,f4,hv0.trans (v1.trans (v3.trans v4)),fun h0 => ?_⟩
   rw [← e3 (v4 h0).1,if_neg h4]
   rfl
  ·rw [if_neg h5,if_pos ⟨h4,fun hh => h5 (.inl hh),fun hh => h5 (.inr hh)⟩]
   have hd:=fail_dead (ts:=ts) (q:=q) (e:=2) (by decide)
   rw [zQ hd]
   have hr:=zBY (ts:=ts) h
   obtain ⟨e',t',r1,a3,f3,v3,e3⟩:=zBr hl hP hr (fun h0 => absurd h0 hd)
   rw [r1]
   have hd2:t'.E ≠ 0:=fun h0 => hd (v3 h0).1
   dsimp only
   rw [zQ hd2]
   have hs:(Ps.rd P (Ps.refuse ts s).2).2 = (Ps.refuse ts s).2:=by unfold Ps.rd; rw [if_neg (hr.pdead hd)]
   rw [hs] at a3
   exact zB8 (_q1:=q) a3 hd2 a
theorem zCa {ts:List RT}(hl:ts.length ≤ 900000000){P:Ps.PX}(hP:IsP ts P){s:St}{q:Q}(h:Rel s q)(hF:F0 q)(a:Int) :
 SameS ts (putS a (some (Ps.fromExpr ts P s))) (Qs.plain ts (rx ts) a q) q:=by
 obtain ⟨e',t',r1,a3,f3,v3,e3⟩:=zBr hl hP h hF
 unfold Ps.fromExpr Qs.plain
 rw [r1]
 dsimp only
 by_cases hd:t'.E = 0
 ·rw [zM a3 hd,← e3 hd]
  by_cases hk:(tokAt ts t'.k).kind = 4
  ·rw [if_pos hk]
   by_cases h1:(tokAt ts t'.k).text = [59]
   ·have hv:Qe.is ts t' false [59] = true:=zCC hd (wd:=false) hk h1
    have hv2:Qe.is ts t' false [61] = false:=is_text (by rw [h1]; decide)
    rw [if_pos h1,hv2,if_neg (by decide)]
    exact zJ0 hl a3 f3 v3 hd hv _ a
   ·rw [if_neg h1]
    by_cases h2:(tokAt ts t'.k).text = [61]
    ·have hv:Qe.is ts t' false [61] = true:=zCC hd (wd:=false) hk h2
     rw [if_pos h2,hv,if_pos rfl]
     exact zIh hl hP a3 f3 v3 hv _ a
    ·have hv:Qe.is ts t' false [61] = false:=is_text h2
     have hv2:Qe.is ts t' false [59] = false:=is_text h1
     rw [if_neg h2,hv,if_neg (by decide)]
     unfold Qs.plainDo
     rw [if_neg (fun hh => by rw [hv2] at hh; exact absurd hh.1 (by decide))]
     have ht:Qe.take ts t' false [59] = Qe.fail ts t' 2:=by unfold Qe.take; rw [hv2,if_neg (by decide)]
     rw [ht]
     exact zB8 (_q1:=q) (zBY a3) (fail_dead (by decide)) a
  ·have hv:Qe.is ts t' false [61] = false:=zAI (wd:=false) hk _
   have hv2:Qe.is ts t' false [59] = false:=zAI (wd:=false) hk _
   rw [if_neg hk,hv,if_neg (by decide)]
   unfold Qs.plainDo
   rw [if_neg (fun hh => by rw [hv2] at hh; exact absurd hh.1 (by decide))]
   have ht:Qe.take ts t' false [59] = Qe.fail ts t' 2:=by unfold Qe.take; rw [hv2,if_neg (by decide)]
   rw [ht]
   exact zB8 (_q1:=q) (zBY a3) (fail_dead (by decide)) a
 ·rw [peek_dead a3 hd,if_neg (by decide),zBk hd,if_neg (by decide)]
  unfold Qs.plainDo
  rw [if_neg (fun hh => by rw [zBk hd] at hh; exact absurd hh.1 (by decide)),zQ hd]
  have hr:Rel (Ps.refuse ts (Ps.rd P s).2).2 t':=by
   have:(Ps.refuse ts (Ps.rd P s).2).2 = (Ps.rd P s).2:=by
      unfold Ps.refuse
      rw [Pe.fail_dead (a3.pdead hd)]
   rw [this]; exact a3
  exact zB8 (_q1:=q) hr hd a
end Sim
end Go.Proofs.Ytjleggpbghmobaa
