/-
  The answer's reader keeps the fault's place while there is n
-/
import Derived.Test.YteadgahhchlgeaaDoorK05
import Derived.Test.YteadgahhchlgeaaDoorK04
namespace Go.Proofs.YteadgahhchlgeaaDoor
namespace Sim
open Go.RowKit
open Px (RT tokAt isT)
open Pe (Ex Cs St inc dec)
open Qe (Q)
def Kp (q q':Q):Prop:=q'.E = 0 → q.E = 0 ∧ q'.F = q.F
theorem Kp.refl (q:Q):Kp q q:=fun h => ⟨h,rfl⟩
theorem Kp.trans {a b c:Q}(h:Kp a b)(g:Kp b c):Kp a c:=fun h0 => ⟨(h (g h0).1).1,(g h0).2.trans (h (g h0).1).2⟩
theorem zAc (q:Q):Kp q (Qe.next q):=fun h => ⟨h,rfl⟩
theorem zDI (ts:List RT)(q:Q){e:Int}(he:e ≠ 0):Kp q (Qe.fail ts q e):=fun h => absurd h (fail_dead he)
theorem zCY (ts:List RT)(q:Q)(wd:Bool)(t:List UInt8):Kp q (Qe.take ts q wd t):=by
 unfold Qe.take
 split
 ·exact zAc q
 ·exact zDI ts q (by decide)
theorem zBP (ts:List RT)(q:Q)(t:List UInt8):Kp q (Qe.opens ts q t):=by
 unfold Qe.opens
 split
 ·exact zDI ts q (by decide)
 ·exact fun h => zCY ts q false t h
theorem zBA (ts:List RT)(q:Q)(t:List UInt8):Kp q (Qe.closes ts q t):=fun h => zCY ts q false t h
theorem zCw (ts:List RT)(q:Q):Kp q (Qe.name ts q).2:=by
 unfold Qe.name
 split
 ·exact zAc q
 ·exact zDI ts q (by decide)
theorem zGM (ts:List RT):∀ (n:Nat)(q:Q),Kp q (Qe.dims ts n q).2
 | 0,q => by
   rw [Qe.dims]
   split
   ·exact zDI ts q (by decide)
   ·exact Kp.refl q
 | n + 1,q => by
   rw [Qe.dims]
   split
   ·exact (zAc q).trans (zGM ts n (Qe.next q))
   ·exact Kp.refl q
theorem zOh (ts:List RT)(q:Q):Kp q (Qe.base ts q).2:=by
 unfold Qe.base
 split
 ·exact zAc q
 ·exact zCw ts q
theorem zKp (ts:List RT):∀ (n:Nat)(q:Q),Kp q (Qe.shut ts n q)
 | 0,q => Kp.refl q
 | n + 1,q => by rw [Qe.shut]; exact (zCY ts q false [93]).trans (zKp ts n _)
theorem zOg (ts:List RT)(q:Q):Kp q (Qe.of ts q).2.2:=by
 unfold Qe.of
 split
 ·exact zGM ts 3 q
 ·exact (zGM ts 3 q).trans ((zOh ts _).trans (zKp ts _ _))
def RecK (rec:Nat → Q → Qe.Out):Prop:=∀ n q e q',rec n q = some (e,q') → Kp q q'
theorem zFd {ts:List RT}{rec:Nat → Q → Qe.Out}(h:RecK rec){q q':Q}{e:Ex}(hx:Qe.inner ts rec q = some (e,q')):Kp q q':=by
 unfold Qe.inner at hx
 split at hx
 ·cases hx
 ·rename_i e2 s2 he
  injection hx with hx
  injection hx with _ hx
  subst hx
  exact (zBP ts q [40]).trans ((h _ _ _ _ he).trans (zBA ts s2 [41]))
theorem zEx {ts:List RT}{rec:Nat → Q → Qe.Out}(h:RecK rec):∀ (g:Nat){l l':List Ex}{q q':Q},Qe.argLoop ts rec g l q = some (l',q') → Kp q q'
 | 0,_,_,_,_,hx => by cases hx
 | g + 1,l,l',q,q',hx => by
   rw [Qe.argLoop] at hx
   split at hx
   ·split at hx
    ·cases hx
    ·rename_i e2 s2 he
     exact (zAc q).trans ((h _ _ _ _ he).trans (zEx h g hx))
   ·injection hx with hx
    injection hx with _ hx
    subst hx
    exact Kp.refl q
theorem zOi {ts:List RT}{rec:Nat → Q → Qe.Out}(h:RecK rec){g:Nat}{l':List Ex}{q q':Q}(hx:Qe.args ts rec g q = some (l',q')):Kp q q':=by
 unfold Qe.args at hx
 split at hx
 ·injection hx with hx
  injection hx with _ hx
  subst hx
  exact (zBP ts q [40]).trans (zBA ts _ [41])
 ·split at hx
  ·cases hx
  ·rename_i e2 s2 he
   split at hx
   ·cases hx
   ·rename_i l3 s3 hl
    injection hx with hx
    injection hx with _ hx
    subst hx
    exact (zBP ts q [40]).trans ((h _ _ _ _ he).trans ((zEx h g hl).trans (zBA ts s3 [41])))
theorem zL1 {ts:List RT}{rec:Nat → Q → Qe.Out}(h:RecK rec){q q':Q}{at_:Int}{e:Ex}(hx:Qe.fresh ts rec q at_ = some (e,q')):Kp q q':=by
 unfold Qe.fresh at hx
 dsimp only at hx
 split at hx
 ·split at hx
  ·cases hx
  ·rename_i e2 s2 he
   injection hx with hx
   injection hx with _ hx
   subst hx
   exact (zAc q).trans ((zOg ts _).trans ((zCY ts _ false [93]).trans (zFd h he)))
 ·injection hx with hx
  injection hx with _ hx
  subst hx
  exact zCw ts q
theorem zL2 {ts:List RT}{rec:Nat → Q → Qe.Out}(h:RecK rec){g:Nat}{q q':Q}{e:Ex}(hx:Qe.first ts rec g q = some (e,q')):Kp q q':=by
 have one:∀ {e2:Ex} {s2:Q},Kp q s2 → some (e2,s2) = some (e,q') → Kp q q':=fun hk hx => by
  injection hx with hx
  injection hx with _ hx
  exact hx ▸ hk
 unfold Qe.first at hx
 dsimp only at hx
 split at hx
 ·exact one (zAc q) hx
 ·split at hx
  ·exact one (zAc q) hx
  ·split at hx
   ·exact one (zAc q) hx
   ·split at hx
    ·exact one ((zAc q).trans (zOg ts _)) hx
    ·split at hx
     ·exact (zAc q).trans (zL1 h hx)
     ·split at hx
      ·split at hx
       ·cases hx
       ·rename_i e2 s2 he
        exact one ((zAc q).trans (zFd h he)) hx
      ·split at hx
       ·exact one ((zAc q).trans ((zBP ts _ [40]).trans (zBA ts _ [41]))) hx
       ·split at hx
        ·exact zFd h hx
        ·split at hx
         ·split at hx
          ·cases hx
          ·rename_i l2 s2 he
           exact one ((zCw ts q).trans (zOi h he)) hx
         ·exact one (zCw ts q) hx
theorem zDJ {ts:List RT}{rec:Nat → Q → Qe.Out}(h:RecK rec):∀ (g:Nat){e e':Ex}{q q':Q},Qe.behind ts rec g e q = some (e',q') → Kp q q'
 | 0,_,_,_,_,hx => by cases hx
 | g + 1,e,e',q,q',hx => by
   rw [Qe.behind] at hx
   split at hx
   ·exact (zAc q).trans ((zCw ts _).trans (zDJ h g hx))
   ·split at hx
    ·split at hx
     ·cases hx
     ·rename_i e2 s2 he
      exact (zBP ts q [91]).trans ((h _ _ _ _ he).trans ((zBA ts s2 [93]).trans (zDJ h g hx)))
    ·injection hx with hx
     injection hx with _ hx
     subst hx
     exact Kp.refl q
theorem zDH {ts:List RT}{rec:Nat → Q → Qe.Out}(h:RecK rec){q q':Q}{t:List UInt8}{kind:Int}{e:Ex}(hx:Qe.prefixed ts rec q t kind = some (e,q')):Kp q q':=by
 unfold Qe.prefixed at hx
 split at hx
 ·cases hx
 ·rename_i e2 s2 he
  injection hx with hx
  injection hx with _ hx
  subst hx
  exact (zBP ts q t).trans ((h _ _ _ _ he).trans fun h0 => ⟨h0,rfl⟩)
theorem zL0 {ts:List RT}{rec:Nat → Q → Qe.Out}(h:RecK rec){g:Nat}{q q':Q}{e:Ex}(hx:Qe.unary ts rec g q = some (e,q')):Kp q q':=by
 unfold Qe.unary at hx
 split at hx
 ·exact zDH h hx
 ·split at hx
  ·exact zDH h hx
  ·split at hx
   ·cases hx
   ·rename_i e2 s2 he
    exact (zL2 h he).trans (zDJ h g hx)
theorem zEw {ts:List RT}{rec:Nat → Q → Qe.Out}(h:RecK rec)(n:Nat):∀ (g:Nat){e e':Ex}{q q':Q},Qe.binLoop ts rec n g e q = some (e',q') → Kp q q'
 | 0,_,_,_,_,hx => by cases hx
 | g + 1,e,e',q,q',hx => by
   rw [Qe.binLoop] at hx
   split at hx
   ·injection hx with hx
    injection hx with _ hx
    subst hx
    exact Kp.refl q
   ·split at hx
    ·cases hx
    ·rename_i e2 s2 he
     exact (zAc q).trans ((h _ _ _ _ he).trans (zEw h n g hx))
theorem zHv (ts:List RT):∀ f,RecK (Qe.run ts f)
 | 0 => fun n q e q' hx => by cases hx
 | f + 1 => fun n q e q' hx => by
   rw [qrun] at hx
   split at hx
   ·exact zL0 (zHv ts f) hx
   ·split at hx
    ·cases hx
    ·rename_i e2 s2 he
     exact (zHv ts f _ _ _ _ he).trans (zEw (zHv ts f) n f hx)
end Sim
namespace Sim
open Go.RowKit
open Px (RT tokAt isT)
open Pe (Ex Cs St inc dec)
open Qe (Q)
open Ps (Sm kindOf nameOf)
def F0 (q:Q):Prop:=q.E = 0 → q.F = 0
theorem F0.kp {q q':Q}(h:F0 q)(k:Kp q q'):F0 q':=fun h0 => (k h0).2.trans (h (k h0).1)
def IsP (ts:List RT)(P:Ps.PX):Prop:=∀ k o,Pe.parse ts (enough ts) k o = some (P k o)
def rx (ts:List RT):Qs.RX:=Qe.run ts (enough ts) 0
theorem zS {ts:List RT}{q:Q}(h:q.E ≠ 0)(wd:Bool)(t:List UInt8):Qe.take ts q wd t = q:=by
 unfold Qe.take
 rw [zCy h,if_neg (by decide)]
 unfold Qe.fail
 rw [if_neg h]
theorem Rel.put {s:St}{q q':Q}(h:Rel s q)(hq:q.E ≠ 0)(hE:q'.E = q.E)(hF:q'.F = q.F):Rel s q':=
 ⟨h.E.trans hE.symm,h.F.trans hF.symm,fun h0 => absurd (hE ▸ h0) hq⟩
theorem Rel.pdead {s:St}{q:Q}(h:Rel s q)(hq:q.E ≠ 0):s.c.E ≠ 0:=by rw [h.E]; exact hq
theorem zCC {ts:List RT}(hl:ts.length ≤ 900000000){P:Ps.PX}(hP:IsP ts P){s:St}{q:Q}(h:Rel s q)(hF:F0 q) :
 ∃ e' t',rx ts q = some (e',t') ∧ Rel (Ps.rd P s).2 t' ∧ F0 t' ∧ Adv ts q t' ∧ (t'.E = 0 → (Ps.rd P s).1 = e'):=by
 by_cases hq:q.E = 0
 ·have hk:=h.live hq
  have hsE:s.c.E = 0:=h.E.trans hq
  have hsF:s.c.F = 0:=h.F.trans (hF hq)
  have ho:Pe.clamp s.o = s.o:=by unfold Pe.clamp; omega
  have h1:Rel ⟨⟨s.c.k,0,0⟩,Pe.clamp s.o⟩ q:=⟨hq.symm,(hF hq).symm,fun _ => ⟨hk.1,by rw [ho]; exact hk.2.1,hk.2.2⟩⟩
  obtain ⟨e,t,e',t',h2,h3,h4,h5,h6⟩:=(zGo hl ts.length _ _ h1 (N_le ts _)).2 0 (by decide) (enough ts) (enough ts) (by unfold enough; omega) (by unfold enough; omega)
  have hp:=hP s.c.k s.o
  unfold Pe.parse at hp
  rw [h2] at hp
  have hp:Pe.exEnd e t.c = P s.c.k s.o:=by simpa using hp
  have hf:F0 t':=hF.kp (zHv ts (enough ts) _ _ _ _ h3)
  refine ⟨e',t',h3,?_,hf,h5,fun h0 => ?_⟩
  ·by_cases h0:t'.E = 0
   ·have hv:P s.c.k s.o = (e,t.c.k,0,0):=by rw [← hp]; exact if_pos (by rw [h4.E,h0])
    unfold Ps.rd
    rw [if_pos hsE,hv,if_pos rfl]
    have ha:=h5 h0
    have hb:=h4.live h0
    exact ⟨by show s.c.E = t'.E; rw [hsE,h0],by show s.c.F = t'.F; rw [hsF,hf h0],fun _ => ⟨hb.1,by show s.o = _; rw [hk.2.1,ha.2.2.2.2],hb.2.2⟩⟩
   ·have hE:t.c.E ≠ 0:=by rw [h4.E]; exact h0
    have hv:P s.c.k s.o = (Ex.zero,0,t.c.E,t.c.F):=by rw [← hp]; exact if_neg hE
    unfold Ps.rd
    rw [if_pos hsE,hv,if_neg hE]
    exact Rel.dead h4.E h4.F h0
  ·have hv:P s.c.k s.o = (e,t.c.k,0,0):=by rw [← hp]; exact if_pos (by rw [h4.E,h0])
   unfold Ps.rd
   rw [if_pos hsE,hv,if_pos rfl]
   exact h6 h0
 ·have hs:=h.pdead hq
  obtain ⟨e,t,e',t',h2,h3,h4,h5,h6⟩:=(zGo hl ts.length _ _ h (N_le ts _)).2 0 (by decide) (enough ts) (enough ts) (by unfold enough; omega) (by unfold enough; omega)
  obtain ⟨g,hg⟩:∃ g,enough ts = g + 8:=⟨enough ts - 8,by unfold enough; omega⟩
  rw [hg,Pe.dead_run hs g] at h2
  obtain rfl:s = t:=by simpa using (Option.some.inj h2 |> Prod.mk.inj).2
  have hd:t'.E ≠ 0:=fun h0 => hq (h5 h0).1
  refine ⟨e',t',h3,?_,fun h0 => absurd h0 hd,h5,fun h0 => absurd h0 hd⟩
  unfold Ps.rd
  rw [if_neg hs]
  exact h4
theorem zHj {ts:List RT}(hl:ts.length ≤ 900000000){s:St}{q:Q}(h:Rel s q)(hF:F0 q) :
 Rel (Ps.rdOf ts s).2.2 (Qe.of ts q).2.2 ∧ F0 (Qe.of ts q).2.2 ∧ Adv ts q (Qe.of ts q).2.2 ∧ ((Qe.of ts q).2.2.E = 0 → (Ps.rdOf ts s).1 = (Qe.of ts q).1 ∧ (Ps.rdOf ts s).2.1 = (Qe.of ts q).2.1):=by
 obtain ⟨h1,h2,h3⟩:=zDg hl h
 have hf:F0 (Qe.of ts q).2.2:=hF.kp (zOg ts q)
 by_cases hq:q.E = 0
 ·have hk:=h.live hq
  have hsE:s.c.E = 0:=h.E.trans hq
  have hsF:s.c.F = 0:=h.F.trans (hF hq)
  have hc:(⟨s.c.k,0,0⟩:Cs) = s.c:=by
   obtain ⟨⟨k,E,F⟩,o⟩:=s
   dsimp only at hsE hsF ⊢
   rw [hsE,hsF]
  refine ⟨?_,hf,h3,fun h0 => ?_⟩
  ·by_cases h0:(Qe.of ts q).2.2.E = 0
   ·have hv:Pe.ofAns ts s.c.k = ((Pe.readType ts s.c).1,(Pe.readType ts s.c).2.1,(Pe.readType ts s.c).2.2.k,0,0):=by
     unfold Pe.ofAns
     rw [hc]
     exact if_pos (by rw [← h0]; exact h1.E)
    unfold Ps.rdOf
    rw [if_pos hsE,hv,if_pos rfl]
    have ha:=h3 h0
    have hb:=h1.live h0
    exact ⟨by show s.c.E = _; rw [hsE,h0],by show s.c.F = _; rw [hsF,hf h0],fun _ => hb⟩
   ·have hE:(Pe.readType ts s.c).2.2.E ≠ 0:=fun hh => h0 (h1.E.symm.trans hh)
    have hv:Pe.ofAns ts s.c.k = ([],0,0,(Pe.readType ts s.c).2.2.E,(Pe.readType ts s.c).2.2.F):=by
     unfold Pe.ofAns
     rw [hc]
     exact if_neg hE
    unfold Ps.rdOf
    rw [if_pos hsE,hv,if_neg hE]
    exact Rel.dead h1.E h1.F h0
  ·have hv:Pe.ofAns ts s.c.k = ((Pe.readType ts s.c).1,(Pe.readType ts s.c).2.1,(Pe.readType ts s.c).2.2.k,0,0):=by
        unfold Pe.ofAns
        rw [hc]
        exact if_pos (by rw [← h0]; exact h1.E)
   unfold Ps.rdOf
   rw [if_pos hsE,hv,if_pos rfl]
   exact h2 h0
 ·have hd:(Qe.of ts q).2.2.E ≠ 0:=fun h0 => hq (h3 h0).1
  refine ⟨?_,hf,h3,fun h0 => absurd h0 hd⟩
  have hs:=h.pdead hq
  unfold Ps.rdOf
  rw [if_neg hs]
  have h4:(Pe.readType ts s.c).2.2.E = s.c.E ∧ (Pe.readType ts s.c).2.2.F = s.c.F:=by
   obtain ⟨d1,-⟩:=zFn hl 3 h
   have hdm:Pe.dims ts 3 s.c = (0,s.c):=by
        rw [Pe.dims,zN h,zCy hq,if_neg (by decide)]
   unfold Pe.readType
   rw [hdm]
   dsimp only
   rw [zEp hs]
   exact zCV (ts:=ts) 0 (c:=Pe.next s.c) hs
  exact h.put hq (by rw [← h1.E,h4.1]; exact h.E) (by rw [← h1.F,h4.2]; exact h.F)
theorem zBL {ts:List RT}(hl:ts.length ≤ 900000000){s:St}{q:Q}(h:Rel s q)(hF:F0 q)(t:List UInt8) :
 Rel (Ps.sgn ts s t) (Qe.take ts q false t) ∧ F0 (Qe.take ts q false t) ∧ Adv ts q (Qe.take ts q false t):=
 ⟨h.sign t,hF.kp (zCY ts q false t),zAz hl q false t⟩
theorem zHM {ts:List RT}(hl:ts.length ≤ 900000000){s:St}{q:Q}(h:Rel s q)(hF:F0 q)(hk : 0 ≤ q.k)(hk2:q.k < (ts.length:Int)) :
 Rel (Ps.decl ts s).2.2.2 (Qs.decl ts q).2.2.2 ∧ F0 (Qs.decl ts q).2.2.2 ∧ Adv ts q (Qs.decl ts q).2.2.2 ∧
 ((Qs.decl ts q).2.2.2.E = 0 → (Ps.decl ts s).1 = (Qs.decl ts q).1 ∧ (Ps.decl ts s).2.1 = (Qs.decl ts q).2.1 ∧ (Ps.decl ts s).2.2.1 = (Qs.decl ts q).2.2.1):=by
 have a1:=h.next
 have f1:=hF.kp (zAc q)
 have v1:=zAe hl hk hk2
 have a2:=a1.name (ts:=ts)
 have f2:=f1.kp (zCw ts _)
 have v2:=v1.trans (zBp hl a1)
 obtain ⟨a3,f3,v3⟩:=zBL hl a2 f2 [58]
 obtain ⟨a4,f4,v4,e4⟩:=zHj hl a3 f3
 refine ⟨a4,f4,v2.trans (v3.trans v4),fun h0 => ⟨?_,e4 h0⟩⟩
 have h1:=(v3 (v4 h0).1).1
 exact (name_live hl a1 h1).1
def SameS (ts:List RT)(x:Ps.Out)(y:Qs.Out)(q:Q):Prop:=∃ e t e' t',x = some (e,t) ∧ y = some (e',t') ∧ Rel t t' ∧ F0 t' ∧ Adv ts q t' ∧ (t'.E = 0 → e = e')
def SameB (ts:List RT)(x:Ps.OutB)(y:Qs.OutB)(q:Q):Prop:=∃ e t e' t',x = some (e,t) ∧ y = some (e',t') ∧ Rel t t' ∧ F0 t' ∧ Adv ts q t' ∧ (t'.E = 0 → e = e')
def RecB (ts:List RT)(M:Nat)(recP:St → Ps.OutB)(recQ:Q → Qs.OutB):Prop:=∀ (s:St)(q:Q),Rel s q → F0 q → N ts q < M → SameB ts (recP s) (recQ q) q
def RecS (ts:List RT)(M:Nat)(recP:St → Ps.Out)(recQ:Q → Qs.Out):Prop:=∀ (s:St)(q:Q),Rel s q → F0 q → N ts q < M → SameS ts (recP s) (recQ q) q
def putS (a:Int)(x:Ps.Out):Ps.Out:=x.map fun y => (y.1.put a,y.2)
theorem zNl {ts:List RT}(hl:ts.length ≤ 900000000){s:St}{q:Q}(h:Rel s q)(hF:F0 q)(hk : 0 ≤ q.k)(hk2:q.k < (ts.length:Int))(hx:(tokAt ts q.k).text ≠ [108,101,116])(R:Qs.RX) :
 SameS ts (putS (tokAt ts q.k).at_ (some (Ps.variable_ ts s))) (Qs.declared ts R q) q:=by
 obtain ⟨a,f,v,e⟩:=zHM hl h hF hk hk2
 obtain ⟨a2,f2,v2⟩:=zBL hl a f [59]
 unfold Qs.declared
 dsimp only
 rw [if_neg hx]
 refine ⟨_,_,_,_,rfl,rfl,a2,f2,v.trans v2,fun h0 => ?_⟩
 obtain ⟨e1,e2,e3⟩:=e (v2 h0).1
 simp only [Ps.variable_,Sm.put,e1,e2,e3]
theorem zOe {ts:List RT}(hl:ts.length ≤ 900000000){P:Ps.PX}(hP:IsP ts P){s:St}{q:Q}(h:Rel s q)(hF:F0 q)(hk : 0 ≤ q.k)(hk2:q.k < (ts.length:Int))(hx:(tokAt ts q.k).text = [108,101,116]) :
 SameS ts (putS (tokAt ts q.k).at_ (some (Ps.definition ts P s))) (Qs.declared ts (rx ts) q) q:=by
 obtain ⟨a,f,v,e⟩:=zHM hl h hF hk hk2
 obtain ⟨a2,f2,v2⟩:=zBL hl a f [61]
 obtain ⟨e',t',r1,a3,f3,v3,e3⟩:=zCC hl hP a2 f2
 obtain ⟨a4,f4,v4⟩:=zBL hl a3 f3 [59]
 unfold Qs.declared
 dsimp only
 rw [if_pos hx,r1]
 refine ⟨_,_,_,_,rfl,rfl,a4,f4,v.trans (v2.trans (v3.trans v4)),fun h0 => ?_⟩
 have h3:=(v4 h0).1
 have h2:=(v3 h3).1
 obtain ⟨e1,e2,e4⟩:=e (v2 h2).1
 simp only [Ps.definition,Sm.put,e1,e2,e4,e3 h3]
theorem zNL {ts:List RT}(hl:ts.length ≤ 900000000){P:Ps.PX}(hP:IsP ts P){s:St}{q:Q}(h:Rel s q)(hF:F0 q)(hk : 0 ≤ q.k)(hk2:q.k < (ts.length:Int)) :
 SameS ts (putS (tokAt ts q.k).at_ (some (Ps.result ts P s))) (Qs.result ts (rx ts) q) q:=by
 have a1:Rel (Ps.nxt s) (Qe.next q):=h.next
 have f1:=hF.kp (zAc q)
 have v1:=zAe hl hk hk2
 have hs:Pe.sees ts (Pe.next s.c) 4 [59] = Qe.is ts (Qe.next q) false [59]:=zN a1 [59]
 unfold Ps.result Qs.result
 rw [hs]
 cases hv:Qe.is ts (Qe.next q) false [59] with
 | true =>
   obtain ⟨a2,f2,v2⟩:=zBL hl a1 f1 [59]
   exact ⟨_,_,_,_,rfl,rfl,a2,f2,v1.trans v2,fun h0 => rfl⟩
 | false =>
   obtain ⟨e',t',r1,a3,f3,v3,e3⟩:=zCC hl hP a1 f1
   obtain ⟨a4,f4,v4⟩:=zBL hl a3 f3 [59]
   rw [r1]
   refine ⟨_,_,_,_,rfl,rfl,a4,f4,v1.trans (v3.trans v4),fun h0 => ?_⟩
   rw [← e3 (v4 h0).1]
   rfl
theorem zN5 {ts:List RT}(hl:ts.length ≤ 900000000){P:Ps.PX}(hP:IsP ts P){s:St}{q:Q}(h:Rel s q)(hF:F0 q)(hk : 0 ≤ q.k)(hk2:q.k < (ts.length:Int)) :
 SameS ts (putS (tokAt ts q.k).at_ (some (Ps.output ts P s))) (Qs.output ts (rx ts) q) q:=by
 have a1:Rel (Ps.nxt s) (Qe.next q):=h.next
 have f1:=hF.kp (zAc q)
 have v1:=zAe hl hk hk2
 obtain ⟨e',t',r1,a3,f3,v3,e3⟩:=zCC hl hP a1 f1
 obtain ⟨a4,f4,v4⟩:=zBL hl a3 f3 [59]
 unfold Qs.output
 rw [r1]
 refine ⟨_,_,_,_,rfl,rfl,a4,f4,v1.trans (v3.trans v4),fun h0 => ?_⟩
 rw [← e3 (v4 h0).1]
 rfl
theorem zDl {ts:List RT}{s:St}{q:Q}(h:Rel s q):Rel (Ps.refuse ts s).2 (Qe.fail ts q 2):=h.fail (by decide)
theorem zDv {ts:List RT}{q _q1 q2:Q}{s1:St}{e2:Sm}(hr:Rel (Ps.refuse ts s1).2 q2)(h2:q2.E ≠ 0)(a:Int):SameS ts (putS a (some (Ps.refuse ts s1))) (some (e2,q2)) q:=
 ⟨_,_,_,_,rfl,rfl,hr,fun h0 => absurd h0 h2,fun h0 => absurd h0 h2,fun h0 => absurd h0 h2⟩
theorem zQW {ts:List RT}(hl:ts.length ≤ 900000000){s:St}{q q0:Q}(h:Rel s q)(hF:F0 q)(hv0:Adv ts q0 q)(_hq:q.E = 0)(hv:Qe.is ts q false [59] = true)(e:Ex)(a:Int) :
 SameS ts (putS a (some (Ps.call ts e s))) (some (Qs.plainDo ts a e q)) q0:=by
 unfold Ps.call Qs.plainDo
 by_cases hk:kindOf e = 7
 ·rw [if_pos hk,if_neg (fun hh => hh.2 hk)]
  obtain ⟨-,k1,k2,-,-⟩:=zAV hv
  have ht:Qe.take ts q false [59] = Qe.next q:=by unfold Qe.take; rw [if_pos hv]
  rw [ht]
  exact ⟨_,_,_,_,rfl,rfl,h.next,hF.kp (zAc q),hv0.trans (zAe hl k1 k2),fun _ => rfl⟩
 ·rw [if_neg hk,if_pos ⟨hv,hk⟩,zS (fail_dead (by decide))]
  exact zDv (_q1:=q) (zDl h) (fail_dead (by decide)) a
theorem zNZ {ts:List RT}(hl:ts.length ≤ 900000000){P:Ps.PX}(hP:IsP ts P){s:St}{q q0:Q}(h:Rel s q)(hF:F0 q)(hv0:Adv ts q0 q)(hv:Qe.is ts q false [61] = true)(e:Ex)(a:Int) :
 SameS ts (putS a (some (Ps.assignment ts P e s))) (Qs.plainPut ts (rx ts) a e q) q0:=by
 obtain ⟨-,k1,k2,-,-⟩:=zAV hv
 have ht:Qe.take ts q false [61] = Qe.next q:=by unfold Qe.take; rw [if_pos hv]
 have a1:Rel (Ps.nxt s) (Qe.next q):=h.next
 have f1:=hF.kp (zAc q)
 have v1:=zAe hl k1 k2
 unfold Ps.assignment Qs.plainPut
 by_cases h4:kindOf e = 4
 ·rw [if_pos h4,if_neg (fun hh => hh.1 h4),ht]
  obtain ⟨e',t',r1,a3,f3,v3,e3⟩:=zCC hl hP a1 f1
  obtain ⟨a4,f4,v4⟩:=zBL hl a3 f3 [59]
  rw [r1]
  refine ⟨_,_,_,_,rfl,rfl,a4,f4,hv0.trans (v1.trans (v3.trans v4)),fun h0 => ?_⟩
  rw [← e3 (v4 h0).1,if_pos h4]
  rfl
 ·rw [if_neg h4]
  by_cases h5:kindOf e = 5 ∨ kindOf e = 6
  ·rw [if_pos h5,if_neg (fun hh => h5.elim hh.2.1 hh.2.2),ht]
   obtain ⟨e',t',r1,a3,f3,v3,e3⟩:=zCC hl hP a1 f1
   obtain ⟨a4,f4,v4⟩:=zBL hl a3 f3 [59]
   rw [r1]
   refine ⟨_,_,_,_,rfl,rfl,a4,f4,hv0.trans (v1.trans (v3.trans v4)),fun h0 => ?_⟩
   rw [← e3 (v4 h0).1,if_neg h4]
   rfl
  ·rw [if_neg h5,if_pos ⟨h4,fun hh => h5 (.inl hh),fun hh => h5 (.inr hh)⟩]
   have hd:=fail_dead (ts:=ts) (q:=q) (e:=2) (by decide)
   rw [zS hd]
   have hr:=zDl (ts:=ts) h
   obtain ⟨e',t',r1,a3,f3,v3,e3⟩:=zCC hl hP hr (fun h0 => absurd h0 hd)
   rw [r1]
   have hd2:t'.E ≠ 0:=fun h0 => hd (v3 h0).1
   dsimp only
   rw [zS hd2]
   have hs:(Ps.rd P (Ps.refuse ts s).2).2 = (Ps.refuse ts s).2:=by unfold Ps.rd; rw [if_neg (hr.pdead hd)]
   rw [hs] at a3
   exact zDv (_q1:=q) a3 hd2 a
theorem zDD {ts:List RT}(hl:ts.length ≤ 900000000){P:Ps.PX}(hP:IsP ts P){s:St}{q:Q}(h:Rel s q)(hF:F0 q)(a:Int) :
 SameS ts (putS a (some (Ps.fromExpr ts P s))) (Qs.plain ts (rx ts) a q) q:=by
 obtain ⟨e',t',r1,a3,f3,v3,e3⟩:=zCC hl hP h hF
 unfold Ps.fromExpr Qs.plain
 rw [r1]
 dsimp only
 by_cases hd:t'.E = 0
 ·rw [zO a3 hd,← e3 hd]
  by_cases hk:(tokAt ts t'.k).kind = 4
  ·rw [if_pos hk]
   by_cases h1:(tokAt ts t'.k).text = [59]
   ·have hv:Qe.is ts t' false [59] = true:=zEz hd (wd:=false) hk h1
    have hv2:Qe.is ts t' false [61] = false:=is_text (by rw [h1]; decide)
    rw [if_pos h1,hv2,if_neg (by decide)]
    exact zQW hl a3 f3 v3 hd hv _ a
   ·rw [if_neg h1]
    by_cases h2:(tokAt ts t'.k).text = [61]
    ·have hv:Qe.is ts t' false [61] = true:=zEz hd (wd:=false) hk h2
     rw [if_pos h2,hv,if_pos rfl]
     exact zNZ hl hP a3 f3 v3 hv _ a
    ·have hv:Qe.is ts t' false [61] = false:=is_text h2
     have hv2:Qe.is ts t' false [59] = false:=is_text h1
     rw [if_neg h2,hv,if_neg (by decide)]
     unfold Qs.plainDo
     rw [if_neg (fun hh => by rw [hv2] at hh; exact absurd hh.1 (by decide))]
     have ht:Qe.take ts t' false [59] = Qe.fail ts t' 2:=by unfold Qe.take; rw [hv2,if_neg (by decide)]
     rw [ht]
     exact zDv (_q1:=q) (zDl a3) (fail_dead (by decide)) a
  ·have hv:Qe.is ts t' false [61] = false:=is_kind (wd:=false) hk _
   have hv2:Qe.is ts t' false [59] = false:=is_kind (wd:=false) hk _
   rw [if_neg hk,hv,if_neg (by decide)]
   unfold Qs.plainDo
   rw [if_neg (fun hh => by rw [hv2] at hh; exact absurd hh.1 (by decide))]
   have ht:Qe.take ts t' false [59] = Qe.fail ts t' 2:=by unfold Qe.take; rw [hv2,if_neg (by decide)]
   rw [ht]
   exact zDv (_q1:=q) (zDl a3) (fail_dead (by decide)) a
 ·rw [peek_dead a3 hd,if_neg (by decide),zCy hd,if_neg (by decide)]
  unfold Qs.plainDo
  rw [if_neg (fun hh => by rw [zCy hd] at hh; exact absurd hh.1 (by decide)),zS hd]
  have hr:Rel (Ps.refuse ts (Ps.rd P s).2).2 t':=by
   have:(Ps.refuse ts (Ps.rd P s).2).2 = (Ps.rd P s).2:=by
      unfold Ps.refuse
      rw [Pe.fail_dead (a3.pdead hd)]
   rw [this]; exact a3
  exact zDv (_q1:=q) hr hd a
end Sim
namespace Pe
open Px (RT tokAt)
theorem zHC {ts:List RT}{c:Cs}{e:Int}(he:e ≠ 0):(fail ts c e).E ≠ 0:=by
 unfold fail
 split
 ·exact he
 ·assumption
theorem none_run {ts:List RT}{s:St}(h:(peek ts s.c).kind = 0)(f:Nat):(run ts (f + 8)).1 1 s = some (Ex.zero,⟨fail ts s.c 2,s.o⟩):=by
 have hs:∀ t,sees ts s.c 4 t = false:=fun t => by unfold sees; rw [h]; rfl
 refine run_up (f:=f + 2) ?_ (zCi (zHC (by decide)))
 rw [run]
 show unary ts _ _ (f + 1) s = _
 rw [unary,hs,hs]
 simp only [Bool.false_eq_true,if_false]
 rw [postfix_,primary]
 simp only [h]
 rw [if_neg (by decide),if_neg (by decide),if_neg (by decide),if_neg (by decide),refuse]
 exact zBB (zCi (zHC (by decide))) _ _ _
end Pe
namespace Sim
open Go.RowKit
open Px (RT tokAt isT)
open Pe (Ex Cs St inc dec)
open Qe (Q)
open Ps (Sm kindOf nameOf)
theorem zIO {ts:List RT}(hl:ts.length ≤ 900000000){P:Ps.PX}(hP:IsP ts P){M:Nat}{recP:St → Ps.OutB}{recQ:Q → Qs.OutB}(hr:RecB ts M recP recQ){s:St}{q:Q}(h:Rel s q)(hF:F0 q)(hk : 0 ≤ q.k)(hk2:q.k < (ts.length:Int))(hM:N ts q ≤ M)(hM1 : 1 ≤ N ts q) :
 SameS ts (putS (tokAt ts q.k).at_ (Ps.choice ts P recP s)) (Qs.choice ts (rx ts) recQ q) q:=by
 have a1:Rel (Ps.nxt s) (Qe.next q):=h.next
 have f1:=hF.kp (zAc q)
 have v1:=zAe hl hk hk2
 obtain ⟨e',t',r1,a3,f3,v3,e3⟩:=zCC hl hP a1 f1
 have v13:=v1.trans v3
 have n1:=zB9 v13 hM1
 obtain ⟨b,t,b',u,j1,j2,a4,f4,v4,e4⟩:=hr _ _ a3 f3 (by omega)
 unfold Ps.choice Qs.choice
 dsimp only
 rw [r1]
 dsimp only
 rw [j1,j2]
 dsimp only
 have hs:Pe.sees ts t.c 3 [101,108,115,101] = Qe.is ts u true [101,108,115,101]:=zBu a4 _
 rw [hs]
 cases hv:Qe.is ts u true [101,108,115,101] with
 | false =>
   rw [if_neg (by decide),if_neg (by decide)]
   refine ⟨_,_,_,_,rfl,rfl,a4,f4,v13.trans v4,fun h0 => ?_⟩
   rw [← e4 h0,← e3 (v4 h0).1]
   rfl
 | true =>
   obtain ⟨-,k1,k2,-,-⟩:=zAV hv
   have a5:Rel (Ps.nxt t) (Qe.next u):=a4.next
   have v5:=zAe hl k1 k2
   have n4:=zB9 (v13.trans (v4.trans v5)) hM1
   obtain ⟨c,t2,c',u2,i1,i2,a6,f6,v6,e6⟩:=hr _ _ a5 (f4.kp (zAc u)) (by omega)
   rw [if_pos rfl,if_pos rfl,i1,i2]
   refine ⟨_,_,_,_,rfl,rfl,a6,f6,v13.trans (v4.trans (v5.trans v6)),fun h0 => ?_⟩
   have h5:=(v5 (v6 h0).1).1
   rw [← e6 h0,← e4 h5,← e3 (v4 h5).1]
   rfl
theorem zLS {ts:List RT}(hl:ts.length ≤ 900000000){P:Ps.PX}(hP:IsP ts P){M:Nat}{recP:St → Ps.OutB}{recQ:Q → Qs.OutB}(hr:RecB ts M recP recQ){s:St}{q:Q}(h:Rel s q)(hF:F0 q)(hk : 0 ≤ q.k)(hk2:q.k < (ts.length:Int))(hM:N ts q ≤ M)(hM1 : 1 ≤ N ts q) :
 SameS ts (putS (tokAt ts q.k).at_ (Ps.loop P recP s)) (Qs.loop ts (rx ts) recQ q) q:=by
 have a1:Rel (Ps.nxt s) (Qe.next q):=h.next
 have f1:=hF.kp (zAc q)
 have v1:=zAe hl hk hk2
 obtain ⟨e',t',r1,a3,f3,v3,e3⟩:=zCC hl hP a1 f1
 have v13:=v1.trans v3
 have n1:=zB9 v13 hM1
 obtain ⟨b,t,b',u,j1,j2,a4,f4,v4,e4⟩:=hr _ _ a3 f3 (by omega)
 unfold Ps.loop Qs.loop
 dsimp only
 rw [r1]
 dsimp only
 rw [j1,j2]
 refine ⟨_,_,_,_,rfl,rfl,a4,f4,v13.trans v4,fun h0 => ?_⟩
 rw [← e4 h0,← e3 (v4 h0).1]
 rfl
theorem zLB {ts:List RT}{P:Ps.PX}{recP:St → Ps.OutB}{s:St}:Ps.statement ts P recP s = putS (Pe.peek ts s.c).at_ (Ps.step ts P recP s):=by
 unfold Ps.statement putS
 cases Ps.step ts P recP s <;> rfl
theorem zLa {ts:List RT}(hl:ts.length ≤ 900000000){P:Ps.PX}(hP:IsP ts P){M:Nat}{recP:St → Ps.OutB}{recQ:Q → Qs.OutB}(hr:RecB ts M recP recQ){s:St}{q:Q}(h:Rel s q)(hF:F0 q)(hM:N ts q ≤ M) :
 SameS ts (Ps.statement ts P recP s) (Qs.stmt ts (rx ts) recQ q) q:=by
 rw [zLB]
 have plain:(∀ t,Qe.is ts q true t = true → t ≠ [118,97,114] ∧ t ≠ [108,101,116] ∧ t ≠ [105,102] ∧ t ≠ [119,104,105,108,101] ∧ t ≠ [114,101,116,117,114,110] ∧ t ≠ [112,114,105,110,116]) → ∀ a:Int,(q.E = 0 → a = (tokAt ts q.k).at_) →
  SameS ts (putS a (some (Ps.fromExpr ts P s))) (Qs.stmt ts (rx ts) recQ q) q:=by
  intro hn a ha
  have no:∀ t,t = [118,97,114] ∨ t = [108,101,116] ∨ t = [105,102] ∨ t = [119,104,105,108,101] ∨ t = [114,101,116,117,114,110] ∨ t = [112,114,105,110,116] → Qe.is ts q true t = false:=fun t ht => by
   cases hv:Qe.is ts q true t with
   | false => rfl
   | true =>
     obtain ⟨a1,a2,a3,a4,a5,a6⟩:=hn t hv
     rcases ht with ht | ht | ht | ht | ht | ht <;> exact absurd ht (by assumption)
  have hs:Qs.stmt ts (rx ts) recQ q = Qs.plain ts (rx ts) (tokAt ts q.k).at_ q:=by
   unfold Qs.stmt
   rw [no _ (.inl rfl),no _ (.inr (.inl rfl)),no _ (.inr (.inr (.inl rfl))),no _ (.inr (.inr (.inr (.inl rfl)))),no _ (.inr (.inr (.inr (.inr (.inl rfl))))),no _ (.inr (.inr (.inr (.inr (.inr rfl)))))]
   rfl
  rw [hs]
  by_cases hq:q.E = 0
  ·rw [ha hq]
   exact zDD hl hP h hF _
  ·obtain ⟨e,t,e',t',h1,h2,h3,h4,h5,h6⟩:=zDD hl hP h hF (tokAt ts q.k).at_
   have hd:t'.E ≠ 0:=fun h0 => hq (h5 h0).1
   have h1:Ps.fromExpr ts P s = ((Ps.fromExpr ts P s).1,t):=by
        have h1:=Prod.mk.inj (Option.some.inj h1)
        exact Prod.ext rfl h1.2
   rw [h1]
   exact ⟨_,_,e',t',rfl,h2,h3,h4,h5,fun h0 => absurd h0 hd⟩
 by_cases hq:q.E = 0
 case neg =>
  have hp:=peek_dead (ts:=ts) h hq
  have hstep:Ps.step ts P recP s = some (Ps.fromExpr ts P s):=by
   unfold Ps.step
   rw [hp,if_neg (by decide)]
  rw [hstep]
  exact plain (fun t ht => by rw [zCy hq] at ht; cases ht) _ (fun h0 => absurd h0 hq)
 case pos =>
 have hp:=zO (ts:=ts) h hq
 unfold Ps.step
 rw [hp]
 by_cases hk:(tokAt ts q.k).kind = 3
 case neg =>
  rw [if_neg hk]
  exact plain (fun t ht => by rw [is_kind (wd:=true) hk] at ht; cases ht) _ (fun _ => rfl)
 case pos =>
 rw [if_pos hk]
 have hin:=zBj (ts:=ts) (k:=q.k) (by rw [hk]; decide)
 have hN1 : 1 ≤ N ts q:=zGh hq (by rw [hk]; decide)
 have yes:∀ t,(tokAt ts q.k).text = t → Qe.is ts q true t = true:=fun t ht => zEz hq (wd:=true) hk ht
 have no:∀ t,(tokAt ts q.k).text ≠ t → Qe.is ts q true t = false:=fun t ht => is_text ht
 unfold Qs.stmt at plain ⊢
 by_cases h1:(tokAt ts q.k).text = [118,97,114]
 ·rw [if_pos h1,yes _ h1,Bool.true_or,if_pos rfl]
  exact zNl hl h hF hin.1 hin.2 (by rw [h1]; decide) _
 rw [if_neg h1]
 by_cases h2:(tokAt ts q.k).text = [108,101,116]
 ·rw [if_pos h2,yes _ h2,Bool.or_true,if_pos rfl]
  exact zOe hl hP h hF hin.1 hin.2 h2
 rw [if_neg h2]
 by_cases h3:(tokAt ts q.k).text = [105,102]
 ·rw [if_pos h3,no _ h1,no _ h2,yes _ h3,if_neg (by decide),if_pos rfl]
  exact zIO hl hP hr h hF hin.1 hin.2 hM hN1
 rw [if_neg h3]
 by_cases h4:(tokAt ts q.k).text = [119,104,105,108,101]
 ·rw [if_pos h4,no _ h1,no _ h2,no _ h3,yes _ h4,if_neg (by decide),if_neg (by decide),if_pos rfl]
  exact zLS hl hP hr h hF hin.1 hin.2 hM hN1
 rw [if_neg h4]
 by_cases h5:(tokAt ts q.k).text = [114,101,116,117,114,110]
 ·rw [if_pos h5,no _ h1,no _ h2,no _ h3,no _ h4,yes _ h5,if_neg (by decide),if_neg (by decide),if_neg (by decide),if_pos rfl]
  exact zNL hl hP h hF hin.1 hin.2
 rw [if_neg h5]
 by_cases h6:(tokAt ts q.k).text = [112,114,105,110,116]
 ·rw [if_pos h6,no _ h1,no _ h2,no _ h3,no _ h4,no _ h5,yes _ h6,if_neg (by decide),if_neg (by decide),if_neg (by decide),if_neg (by decide),if_pos rfl]
  exact zN5 hl hP h hF hin.1 hin.2
 rw [if_neg h6]
 refine plain (fun t ht => ?_) _ (fun _ => rfl)
 have ht:=(zAV ht).2.2.2.2
 subst ht
 exact ⟨h1,h2,h3,h4,h5,h6⟩
theorem zI9 {ts:List RT}(hl:ts.length ≤ 900000000){P:Ps.PX}(hP:IsP ts P){recQ:Q → Qs.OutB}{s:St}{q:Q}(h:Rel s q)(hF:F0 q)(hq:q.E = 0)(hk:(tokAt ts q.k).kind = 0) :
 ∃ e' t',Qs.stmt ts (rx ts) recQ q = some (e',t') ∧ t'.E = 2 ∧ t'.F = (tokAt ts q.k).at_:=by
 have hs:Qs.stmt ts (rx ts) recQ q = Qs.plain ts (rx ts) (tokAt ts q.k).at_ q:=by
  have no:∀ t,Qe.is ts q true t = false:=fun t => is_kind (wd:=true) (by rw [hk]; decide) t
  unfold Qs.stmt
  simp only [no]
  rfl
 rw [hs]
 obtain ⟨e,t,e',t',h1,h2,h3,h4,h5,h6⟩:=zDD hl hP h hF (tokAt ts q.k).at_
 refine ⟨e',t',h2,?_⟩
 have hsk:=(h.live hq).1
 have hsE:s.c.E = 0:=h.E.trans hq
 have hp:P s.c.k s.o = (Ex.zero,0,2,(tokAt ts q.k).at_):=by
  have hp:=hP s.c.k s.o
  obtain ⟨g,hg⟩:∃ g,enough ts = g + 8:=⟨enough ts - 8,by unfold enough; omega⟩
  unfold Pe.parse at hp
  have hpk:(Pe.peek ts (⟨s.c.k,0,0⟩:Cs)) = tokAt ts q.k:=by rw [Pe.peek,if_pos rfl,hsk]
  rw [hg,Pe.none_run (s:=⟨⟨s.c.k,0,0⟩,Pe.clamp s.o⟩) (by show (Pe.peek ts (⟨s.c.k,0,0⟩:Cs)).kind = 0; rw [hpk,hk]) g] at hp
  have hf:Pe.fail ts (⟨s.c.k,0,0⟩:Cs) 2 = ⟨s.c.k,2,(tokAt ts q.k).at_⟩:=by unfold Pe.fail; rw [if_pos rfl,hsk]
  have hp:=(Option.some.inj hp).symm
  rw [hp]
  show Pe.exEnd Ex.zero (Pe.fail ts (⟨s.c.k,0,0⟩:Cs) 2) = _
  rw [hf]
  exact if_neg (show ¬ (2:Int) = 0 by decide)
 have hrd:Ps.rd P s = (Ex.zero,⟨⟨s.c.k,2,(tokAt ts q.k).at_⟩,s.o⟩):=by
  unfold Ps.rd
  rw [if_pos hsE,hp,if_neg (show ¬ (2:Int) = 0 by decide)]
 have hfe:Ps.fromExpr ts P s = (Sm.zero,⟨⟨s.c.k,2,(tokAt ts q.k).at_⟩,s.o⟩):=by
  unfold Ps.fromExpr
  rw [hrd]
  dsimp only
  rw [Pe.peek_dead (c:=⟨s.c.k,2,(tokAt ts q.k).at_⟩) (show (2:Int) ≠ 0 by decide),if_neg (by decide)]
  unfold Ps.refuse
  rw [Pe.fail_dead (c:=⟨s.c.k,2,(tokAt ts q.k).at_⟩) (show (2:Int) ≠ 0 by decide)]
 rw [hfe] at h1
 have h1:=(Prod.mk.inj (Option.some.inj h1)).2
 dsimp only at h1
 subst h1
 exact ⟨h3.E.symm,h3.F.symm⟩
theorem zHY {ts:List RT}(_hl:ts.length ≤ 900000000){P:Ps.PX}(_hP:IsP ts P){M:Nat}{recP:St → Ps.Out}{recQ:Q → Qs.Out}(hr:RecS ts M recP recQ)
 (hz:∀ (s:St) (q:Q),Rel s q → F0 q → N ts q < M → q.E = 0 → (tokAt ts q.k).kind = 0 → ∃ e' t',recQ q = some (e',t') ∧ t'.E = 2 ∧ t'.F = (tokAt ts q.k).at_) :
 ∀ (g g':Nat) {l l':List Sm} {s:St} {q:Q},Rel s q → F0 q → N ts q < g → N ts q + 1 < g' → N ts q < M → (q.E = 0 → l = l') →
 ∃ a t a' t',Ps.stLoop ts recP g l s = some (a,t) ∧ Qs.stLoop ts recQ g' l' q = some (a',t') ∧
   ((Rel t t' ∧ F0 t' ∧ Adv0 ts q t' ∧ (t'.E = 0 → a = a')) ∨ (t.c.E = 0 ∧ t'.E = 2 ∧ t'.F = (tokAt ts t.c.k).at_ ∧ (tokAt ts t.c.k).kind = 0)):=by
 intro g
 induction g with
 | zero => intro g' l l' s q _ _ h; omega
 | succ g ih =>
   intro g' l l' s q h hF hg hg' hM hll
   obtain ⟨g',rfl⟩:∃ k,g' = k + 1:=⟨g' - 1,by omega⟩
   rw [Ps.stLoop,Qs.stLoop,zN h]
   by_cases hq:q.E = 0
   case neg =>
    rw [zCy hq,if_neg (by decide),peek_dead h hq,if_pos (show RT.none.kind = 0 from rfl),if_neg (fun hh => hq hh.1)]
    exact ⟨_,_,_,_,rfl,rfl,.inl ⟨h,hF,Adv0.refl ts q,fun h0 => absurd h0 hq⟩⟩
   case pos =>
   cases hv:Qe.is ts q false [125] with
   | true =>
     rw [if_pos rfl,if_neg (fun hh => by cases hh.2)]
     exact ⟨_,_,_,_,rfl,rfl,.inl ⟨h,hF,Adv0.refl ts q,hll⟩⟩
   | false =>
     rw [if_neg (by decide),zO h hq,if_pos (c:=q.E = 0 ∧ false = false) ⟨hq,rfl⟩]
     by_cases hk:(tokAt ts q.k).kind = 0
     ·rw [if_pos hk]
      obtain ⟨e',t',h1,h2,h3⟩:=hz s q h hF hM hq hk
      rw [h1]
      dsimp only
      obtain ⟨g',rfl⟩:∃ k,g' = k + 1:=⟨g' - 1,by omega⟩
      rw [Qs.stLoop,if_neg (fun hh => by rw [h2] at hh; exact absurd hh.1 (by decide))]
      have hsk:=(h.live hq).1
      exact ⟨_,_,_,_,rfl,rfl,.inr ⟨h.E.trans hq,h2,by rw [hsk]; exact h3,by rw [hsk]; exact hk⟩⟩
     ·rw [if_neg hk]
      obtain ⟨e,t,e',t',h1,h2,h3,h4,h5,h6⟩:=hr s q h hF hM
      rw [h1,h2]
      dsimp only
      have hN1:=zGh (ts:=ts) hq hk
      have hn:=zB9 h5 hN1
      obtain ⟨a,u,a',u',j1,j2,j3⟩:=ih g' (l:=l ++ [e]) (l':=l' ++ [e']) h3 h4 (by omega) (by omega) (by omega) (fun h0 => by rw [hll hq,h6 h0])
      refine ⟨a,u,a',u',j1,j2,?_⟩
      rcases j3 with ⟨k1,k2,k3,k4⟩ | j3
      ·exact .inl ⟨k1,k2,(h5.to0).trans k3,k4⟩
      ·exact .inr j3
theorem zLW {ts:List RT}{s:St}{t:List UInt8}(hE:s.c.E = 0)(hk:(tokAt ts s.c.k).kind = 0):(Pe.leave ts s t).c.E = 2 ∧ (Pe.leave ts s t).c.F = (tokAt ts s.c.k).at_:=by
 have hs:Pe.sees ts s.c 4 t = false:=by
  unfold Pe.sees
  rw [Pe.peek,if_pos hE,hk]
  rfl
 unfold Pe.leave Pe.sign Pe.failUnless
 rw [hs]
 simp only [Bool.false_eq_true,if_false]
 unfold Pe.next Pe.fail
 rw [if_pos hE]
 exact ⟨rfl,rfl⟩
theorem zKU {ts:List RT}(hl:ts.length ≤ 900000000){P:Ps.PX}(hP:IsP ts P){M:Nat}{recP:St → Ps.Out}{recQ:Q → Qs.Out}(hr:RecS ts M recP recQ)
 (hz:∀ (s:St) (q:Q),Rel s q → F0 q → N ts q < M → q.E = 0 → (tokAt ts q.k).kind = 0 → ∃ e' t',recQ q = some (e',t') ∧ t'.E = 2 ∧ t'.F = (tokAt ts q.k).at_)
 {s:St} {q:Q} (h:Rel s q) (hF:F0 q) (hM:N ts q ≤ M) (hM1 : 1 ≤ M) (g g':Nat) (hg:M < g) (hg':M + 1 < g'):SameB ts (Ps.block ts recP g s) (Qs.block ts recQ g' q) q:=by
 have h1:=h.enter (ts:=ts) [123]
 have hn:=zFu hl h [123] hM hM1
 have hf1:=hF.kp (zBP ts q [123])
 obtain ⟨a,t,a',t',j1,j2,j3⟩:=zHY hl hP hr hz g g' (l:=[]) (l':=[]) h1 hf1 (by omega) (by omega) hn (fun _ => rfl)
 unfold Ps.block Qs.block
 rw [j1,j2]
 dsimp only
 rcases j3 with ⟨k1,k2,k3,k4⟩ | ⟨k1,k2,k3,k4⟩
 ·have hb:t'.E = 0 → (Qe.opens ts q [123]).E = 0 ∧ t'.o = q.o + 1 ∧ q.o < 50 ∧ 0 ≤ q.o ∧ q.E = 0 ∧ 0 ≤ q.k ∧ q.k + 1 ≤ t'.k ∧ t'.k ≤ (ts.length:Int):=fun h0 => by
   obtain ⟨b1,b2,b3⟩:=k3 h0
   obtain ⟨o1,o2,o3,o4,o5⟩:=zA0 hl h b1
   rw [o1] at b2 b3
   refine ⟨b1,b2,o2,(h.live o3).2.2,o3,o4,?_,?_⟩ <;> rcases b3 with b3 | ⟨-,b3,b4⟩ <;> dsimp only at * <;> omega
  have ho:t'.E = 0 → 1 ≤ t'.o ∧ t'.o ≤ 50:=fun h0 => by
   obtain ⟨-,o1,o2,o3,-⟩:=hb h0
   omega
  refine ⟨a,_,a',_,rfl,rfl,k1.leave [125] ho,k2.kp (zBA ts t' [125]),fun h0 => ?_,fun h0 => ?_⟩
  ·obtain ⟨c1,c2,c3,c4⟩:=zAD hl ho h0
   obtain ⟨-,o1,o2,o3,o4,o5,o6,o7⟩:=hb c2
   rw [c1]
   refine ⟨o4,o5,?_,?_,?_⟩ <;> show _ <;> dsimp only <;> omega
  ·exact k4 (zAD hl ho h0).2.1
 ·have hd:t'.E ≠ 0:=by rw [k2]; decide
  have hc:Qe.closes ts t' [125] = ⟨t'.k,dec t'.o,t'.E,t'.F⟩:=by unfold Qe.closes; rw [zS hd]
  obtain ⟨l1,l2⟩:=zLW (ts:=ts) (t:=[125]) k1 k4
  rw [hc]
  refine ⟨a,_,a',_,rfl,rfl,Rel.dead (l1.trans k2.symm) (l2.trans k3.symm) hd,fun h0 => absurd h0 hd,fun h0 => absurd h0 hd,fun h0 => absurd h0 hd⟩
theorem zEZ {ts:List RT}(hl:ts.length ≤ 900000000){P:Ps.PX}(hP:IsP ts P):∀ (K:Nat),
 (∀ (s:St) (q:Q),Rel s q → F0 q → N ts q ≤ K → ∀ f f',4 * K + 4 ≤ f → 4 * K + 4 ≤ f' → SameS ts ((Ps.run ts P f).1 s) ((Qs.run ts (rx ts) f').1 q) q) ∧
 (∀ (s:St) (q:Q),Rel s q → F0 q → N ts q ≤ K → ∀ f f',4 * K + 6 ≤ f → 4 * K + 6 ≤ f' → SameB ts ((Ps.run ts P f).2 s) ((Qs.run ts (rx ts) f').2 q) q):=by
 intro K
 induction K using Nat.strongRecOn with
 | _ K ih =>
 have hS:∀ (s:St) (q:Q),Rel s q → F0 q → N ts q ≤ K → ∀ f f',4 * K + 4 ≤ f → 4 * K + 4 ≤ f' → SameS ts ((Ps.run ts P f).1 s) ((Qs.run ts (rx ts) f').1 q) q:=fun s q h hF hN f f' hf hf' => by
  obtain ⟨g,rfl⟩:∃ g,f = g + 1:=⟨f - 1,by omega⟩
  obtain ⟨g',rfl⟩:∃ g',f' = g' + 1:=⟨f' - 1,by omega⟩
  exact zLa hl hP (M:=K) (fun s2 q2 h2 hF2 hN2 => (ih (N ts q2) hN2).2 s2 q2 h2 hF2 (Nat.le_refl _) g g' (by omega) (by omega)) h hF hN
 refine ⟨hS,fun s q h hF hN f f' hf hf' => ?_⟩
 obtain ⟨g,rfl⟩:∃ g,f = g + 1:=⟨f - 1,by omega⟩
 obtain ⟨g',rfl⟩:∃ g',f' = g' + 1:=⟨f' - 1,by omega⟩
 refine zKU hl hP (M:=max K 1) (fun s2 q2 h2 hF2 hN2 => ?_) (fun s2 q2 h2 hF2 hN2 hq hk => ?_) h hF (by omega) (by omega) g g' (by omega) (by omega)
 ·exact hS s2 q2 h2 hF2 (by omega) g g' (by omega) (by omega)
 ·obtain ⟨g2,rfl⟩:∃ g2,g' = g2 + 1:=⟨g' - 1,by omega⟩
  exact zI9 hl hP h2 hF2 hq hk
theorem zFy (k o:Int):Rel ⟨⟨k,0,0⟩,Pe.clamp o⟩ ⟨k,max o 0,0,0⟩:=⟨rfl,rfl,fun _ => ⟨rfl,by show Pe.clamp o = min (max o 0) 50; rfl,by show 0 ≤ max o 0; omega⟩⟩
theorem block_same {ts:List RT}(hl:ts.length ≤ 900000000){P:Ps.PX}(hP:IsP ts P)(k o:Int):∃ x,Ps.parseB ts P (enough ts) k o = some x ∧ Qs.parseB ts (rx ts) (enough ts) k o = some x:=by
 obtain ⟨e,t,e',t',h1,h2,h3,-,-,h5⟩:=(zEZ hl hP ts.length).2 _ _ (zFy k o) (fun _ => rfl) (N_le ts _) (enough ts) (enough ts) (by unfold enough; omega) (by unfold enough; omega)
 refine ⟨Ps.blEnd e t.c,?_,?_⟩
 ·unfold Ps.parseB
  rw [h1]
 ·unfold Qs.parseB
  rw [h2]
  show some (Qs.blEnd e' t') = some (Ps.blEnd e t.c)
  unfold Qs.blEnd Ps.blEnd
  by_cases h0:t'.E = 0
  ·rw [if_pos h0,if_pos (by rw [h3.E,h0]),h5 h0,(h3.live h0).1]
  ·rw [if_neg h0,if_neg (by rw [h3.E]; exact h0),h3.E,h3.F]
end Sim
end Go.Proofs.YteadgahhchlgeaaDoor
