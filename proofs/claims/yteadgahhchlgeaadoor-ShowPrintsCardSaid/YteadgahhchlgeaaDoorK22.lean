/-
  Both readers of programs (the project's and the answer's) re
-/
import Derived.Test.YteadgahhchlgeaaDoorK06
import Derived.Test.YteadgahhchlgeaaDoorK21
namespace Go.Proofs.YteadgahhchlgeaaDoor
namespace Sim
open Go.RowKit
open Px (RT tokAt isT)
open Pe (Ex Cs St inc dec)
open Qe (Q)
open Ps (Sm)
open Pg (Pm Rc Fc Gm BX)
def RG (c:Cs)(q:Q):Prop:=Rel ⟨c,0⟩ q ∧ F0 q
def IsB (ts:List RT)(P:Ps.PX)(B:BX):Prop:=∀ k,Ps.parseB ts P (enough ts) k 0 = some (B k)
section
variable {ts:List RT} {c:Cs} {q q0:Q}
theorem RG.dead (hE:c.E = q.E)(hF:c.F = q.F)(h:q.E ≠ 0):RG c q:=⟨Rel.dead hE hF h,fun h0 => absurd h0 h⟩
theorem RG.pdead (h:RG c q)(hq:q.E ≠ 0):c.E ≠ 0:=h.1.pdead hq
theorem RG.next (h:RG c q):RG (Pe.next c) (Qe.next q):=⟨h.1.next,h.2.kp (zAc q)⟩
theorem RG.take (h:RG c q)(t:List UInt8):RG (Pg.sg ts c t) (Qe.take ts q false t):=⟨h.1.sign t,h.2.kp (zCY ts q false t)⟩
theorem RG.name (h:RG c q):RG (Pe.name ts c).2 (Qe.name ts q).2:=⟨h.1.name,h.2.kp (zCw ts q)⟩
theorem RG.fail (h:RG c q){e:Int}(he:e ≠ 0):RG (Pe.fail ts c e) (Qe.fail ts q e):=⟨h.1.fail he,h.2.kp (zDI ts q he)⟩
theorem RG.of (hl:ts.length ≤ 900000000)(h:RG c q) :
 RG (Pg.rdOf ts c).2.2 (Qe.of ts q).2.2 ∧ Adv ts q (Qe.of ts q).2.2 ∧ ((Qe.of ts q).2.2.E = 0 → (Pg.rdOf ts c).1 = (Qe.of ts q).1 ∧ (Pg.rdOf ts c).2.1 = (Qe.of ts q).2.1):=by
 obtain ⟨a,b,d,e⟩:=zHj hl h.1 h.2
 have he:Ps.rdOf ts ⟨c,0⟩ = ((Pg.rdOf ts c).1,(Pg.rdOf ts c).2.1,⟨(Pg.rdOf ts c).2.2,0⟩):=by
  unfold Ps.rdOf Pg.rdOf
  dsimp only
  split
  ·split <;> rfl
  ·rfl
 rw [he] at a e
 exact ⟨⟨a,b⟩,d,e⟩
theorem zIP {recS:Q → Qs.Out}{g:Nat}(h:q.E ≠ 0):∃ t',Qs.block ts recS (g + 1) q = some ([],t') ∧ t'.E = q.E ∧ t'.F = q.F:=by
 have ho:Qe.opens ts q [123] = ⟨q.k,inc q.o,q.E,q.F⟩:=by
  unfold Qe.opens
  rw [zCy h,zS h]
  rfl
 unfold Qs.block
 rw [ho,Qs.stLoop,if_neg (fun hh => h hh.1)]
 refine ⟨_,rfl,?_⟩
 unfold Qe.closes
 rw [zS (q:=⟨q.k,inc q.o,q.E,q.F⟩) h]
 exact ⟨rfl,rfl⟩
theorem RG.block (hl:ts.length ≤ 900000000){P:Ps.PX}(hP:IsP ts P){B:BX}(hB:IsB ts P B){f':Nat}(hf : 4 * ts.length + 6 ≤ f')(h:RG c q) :
 ∃ b' t',(Qs.run ts (rx ts) f').2 q = some (b',t') ∧ RG (Pg.rdB B c).2 t' ∧ Adv ts q t' ∧ (t'.E = 0 → (Pg.rdB B c).1 = b'):=by
 by_cases hq:q.E = 0
 ·have hk:=h.1.live hq
  have hsE:c.E = 0:=h.1.E.trans hq
  have hsF:c.F = 0:=h.1.F.trans (h.2 hq)
  have hc:c = ⟨c.k,0,0⟩:=by
   obtain ⟨k,E,F⟩:=c
   dsimp only at hsE hsF
   rw [hsE,hsF]
  obtain ⟨e,t,e',t',h2,h3,h4,h5,h6,h7⟩:=(zEZ hl hP ts.length).2 _ _ h.1 h.2 (N_le ts _) (enough ts) f' (by unfold enough; omega) hf
  have hb:=hB c.k
  unfold Ps.parseB at hb
  rw [show (⟨⟨c.k,0,0⟩,Pe.clamp 0⟩:St) = ⟨c,0⟩ by rw [← hc]; rfl,h2] at hb
  have hb:Ps.blEnd e t.c = B c.k:=by simpa using hb
  refine ⟨e',t',h3,?_,h6,fun h0 => ?_⟩
  ·by_cases h0:t'.E = 0
   ·have hv:B c.k = (e,t.c.k,0,0):=by rw [← hb]; exact if_pos (by rw [h4.E,h0])
    unfold Pg.rdB
    rw [if_pos hsE,hv,if_pos rfl]
    have ha:=h6 h0
    have hz:=h4.live h0
    exact ⟨⟨by show c.E = t'.E; rw [hsE,h0],by show c.F = t'.F; rw [hsF,h5 h0],fun _ => ⟨hz.1,by show (0:Int) = _; rw [ha.2.2.2.2]; exact hk.2.1,hz.2.2⟩⟩,h5⟩
   ·have hE:t.c.E ≠ 0:=by rw [h4.E]; exact h0
    have hv:B c.k = ([],0,t.c.E,t.c.F):=by rw [← hb]; exact if_neg hE
    unfold Pg.rdB
    rw [if_pos hsE,hv,if_neg hE]
    exact RG.dead h4.E h4.F h0
  ·have hv:B c.k = (e,t.c.k,0,0):=by rw [← hb]; exact if_pos (by rw [h4.E,h0])
   unfold Pg.rdB
   rw [if_pos hsE,hv,if_pos rfl]
   exact h7 h0
 ·obtain ⟨g,rfl⟩:∃ g,f' = g + 2:=⟨f' - 2,by omega⟩
  obtain ⟨t',h1,h2,h3⟩:=zIP (ts:=ts) (recS:=(Qs.run ts (rx ts) (g + 1)).1) (g:=g) hq
  refine ⟨[],t',h1,?_,fun h0 => absurd (h2 ▸ h0) hq,fun h0 => absurd (h2 ▸ h0) hq⟩
  unfold Pg.rdB
  rw [if_neg (h.pdead hq)]
  exact RG.dead (h.1.E.trans h2.symm) (h.1.F.trans h3.symm) (by rw [h2]; exact hq)
theorem RG.param (hl:ts.length ≤ 900000000)(h:RG c q) :
 RG (Pg.declared ts c).2 (Qg.param ts q).2 ∧ Adv ts q (Qg.param ts q).2 ∧ ((Qg.param ts q).2.E = 0 → (Pg.declared ts c).1 = (Qg.param ts q).1):=by
 have a2:=h.name (ts:=ts)
 have v2:=zBp hl h.1
 have a3:=a2.take (ts:=ts) [58]
 have v3:=zAz hl (Qe.name ts q).2 false [58]
 obtain ⟨a4,v4,e4⟩:=a3.of hl
 refine ⟨a4,v2.trans (v3.trans v4),fun h0 => ?_⟩
 have h1:=(v4 h0).1
 have h2:=(v3 h1).1
 have h3:=(v2 h2).1
 obtain ⟨e5,e6⟩:=e4 h0
 unfold Pg.declared Qg.param
 dsimp only
 rw [(name_live hl h.1 h2).1,e5,e6,zO h.1 h3]
def Keep (c c':Cs):Prop:=c'.E = c.E ∧ c'.F = c.F
theorem Keep.refl (c:Cs):Keep c c:=⟨rfl,rfl⟩
theorem Keep.trans {a b d:Cs}(h:Keep a b)(g:Keep b d):Keep a d:=⟨g.1.trans h.1,g.2.trans h.2⟩
theorem Keep.ne {c c':Cs}(h:Keep c c')(hc:c.E ≠ 0):c'.E ≠ 0:=by rw [h.1]; exact hc
theorem zBc (c:Cs):Keep c (Pe.next c):=⟨rfl,rfl⟩
theorem zBQ (hc:c.E ≠ 0)(t:List UInt8):Keep c (Pg.sg ts c t):=by unfold Pg.sg; rw [Pe.sign_dead hc]; exact zBc c
theorem zDK (hc:c.E ≠ 0):Keep c (Pe.name ts c).2:=by rw [zEo hc]; exact zBc c
theorem zBR (hc:c.E ≠ 0):Keep c (Pg.declared ts c).2:=by
 have h1:=zDK (ts:=ts) hc
 have h2:=h1.trans (zBQ (ts:=ts) (h1.ne hc) [58])
 unfold Pg.declared Pg.rdOf
 dsimp only
 rw [if_neg (h2.ne hc)]
 exact h2
theorem zE6 (hc:c.E ≠ 0):(Pe.peek ts c).kind = 0:=by rw [Pe.peek_dead hc]; rfl
theorem zFZ {l:List Pm}{m:Int}(hc:c.E ≠ 0):Keep c (Pg.oneMore ts l m c).2:=by
 unfold Pg.oneMore
 rw [zE6 hc,if_neg (by decide)]
 exact zBR hc
theorem zA4 (hc:c.E ≠ 0)(g:Nat)(l:List Pm):Pg.parLoop ts (g + 1) l c = some (l,c):=by
 rw [Pg.parLoop,Pe.sees_dead hc]
 exact if_neg (by decide)
theorem zBs (hc:c.E ≠ 0)(g:Nat)(l:List Pm):Pg.fieldLoop ts (g + 1) l c = some (l,c):=by
 rw [Pg.fieldLoop,zE6 hc]
 exact if_neg (by decide)
theorem zGu (hc:c.E ≠ 0)(g:Nat):∃ x c',Pg.record ts (g + 1) c = some (x,c') ∧ Keep c c':=by
 have h1:=(zBc c).trans (zDK (ts:=ts) (c:=Pe.next c) hc)
 have h2:=h1.trans (zBQ (ts:=ts) (h1.ne hc) [123])
 unfold Pg.record
 rw [zBs (h2.ne hc)]
 exact ⟨_,_,rfl,h2.trans (zBQ (ts:=ts) (h2.ne hc) [125])⟩
theorem zGS (hc:c.E ≠ 0):Keep c (Pg.global ts c).2:=by
 have h1:=(zBc c).trans (zBR (ts:=ts) (c:=Pe.next c) hc)
 exact h1.trans (zBQ (ts:=ts) (h1.ne hc) [59])
theorem zFj {B:BX}(hc:c.E ≠ 0)(g:Nat):∃ x c',Pg.function ts B (g + 1) c = some (x,c') ∧ Keep c c':=by
 have h1:=(zBc c).trans (zDK (ts:=ts) (c:=Pe.next c) hc)
 have h2:=h1.trans (zBQ (ts:=ts) (h1.ne hc) [40])
 have h3:Keep c (Pg.parFirst ts (Pg.sg ts (Pe.name ts (Pe.next c)).2 [40])).2:=by
  unfold Pg.parFirst
  rw [Pe.sees_dead (h2.ne hc),if_neg (by decide)]
  exact h2.trans (zFZ (h2.ne hc))
 have h4:=h3.trans (zBQ (ts:=ts) (h3.ne hc) [41])
 unfold Pg.function Pg.params
 rw [zA4 (h3.ne hc)]
 dsimp only
 unfold Pg.resultOf
 rw [Pe.sees_dead (h4.ne hc),if_neg (by decide)]
 dsimp only
 unfold Pg.rdB
 rw [if_neg (h4.ne hc)]
 exact ⟨_,_,rfl,h4⟩
theorem zKI (hq:c.E = 0)(e:Int):Pe.fail ts c e = ⟨c.k,e,(tokAt ts c.k).at_⟩:=if_pos hq
theorem zDi (hq:q.E = 0)(e:Int):Qe.fail ts q e = ⟨q.k,q.o,e,(tokAt ts q.k).at_⟩:=if_pos hq
theorem zLL (hl:ts.length ≤ 900000000)(h:RG c q)(hk:(tokAt ts q.k).kind ≠ 1):(Qg.param ts q).2.E ≠ 0:=fun h0 => by
 obtain ⟨-,v,-⟩:=h.param hl
 have hq:=(v h0).1
 have hn:(Qe.name ts q).2 = Qe.fail ts q 2:=by unfold Qe.name; rw [if_neg (fun hh => hk hh.2)]
 unfold Qg.param at h0
 dsimp only at h0
 rw [hn,zS (fail_dead (by decide))] at h0
 have hr:RG (Pe.fail ts c 2) (Qe.fail ts q 2):=h.fail (by decide)
 exact absurd ((hr.of hl).2.1 h0).1 (fail_dead (by decide))
theorem zJX (_hl:ts.length ≤ 900000000)(h:RG c q)(hq:q.E = 0)(hk:(tokAt ts q.k).kind ≠ 1):Keep (Pe.fail ts c 2) (Pg.declared ts c).2:=by
 have hpk:=zO (ts:=ts) h.1 hq
 have hn:(Pe.name ts c).2 = Pe.next (Pe.fail ts c 2):=by
  unfold Pe.name Pe.failUnless
  rw [hpk]
  simp [hk]
 have hd:(Pe.fail ts c 2).E ≠ 0:=by rw [zKI (h.1.E.trans hq)]; show (2:Int) ≠ 0; decide
 have h1:Keep (Pe.fail ts c 2) (Pe.name ts c).2:=by rw [hn]; exact zBc _
 have h2:=h1.trans (zBQ (ts:=ts) (h1.ne hd) [58])
 unfold Pg.declared Pg.rdOf
 dsimp only
 rw [if_neg (h2.ne hd)]
 exact h2
theorem zPM (h:RG c q)(_hq:q.E = 0){t:List UInt8}(hv:Qe.is ts q false t = false):Keep (Pe.fail ts c 2) (Pg.sg ts c t):=by
 unfold Pg.sg Pe.sign Pe.failUnless
 rw [zN h.1,hv]
 exact zBc _
theorem zNt {t:List UInt8}(hv:Qe.is ts q false t = false):Qe.take ts q false t = Qe.fail ts q 2:=by unfold Qe.take; rw [hv]; rfl
def Ends (ts:List RT)(q0:Q)(x:Option (List Pm × Cs))(y:Option (List Pm × Q))(t:List UInt8):Prop:=
 ∃ a c a' q,x = some (a,c) ∧ y = some (a',q) ∧ RG (Pg.sg ts c t) (Qe.take ts q false t) ∧ Adv0 ts q0 (Qe.take ts q false t) ∧ ((Qe.take ts q false t).E = 0 → a = a')
theorem Ends.bad {q0:Q}{a a':List Pm}{c':Cs}{q':Q}{t:List UInt8}(hE:c'.E = q'.E)(hF:c'.F = q'.F)(hd:q'.E ≠ 0):Ends ts q0 (some (a,c')) (some (a',q')) t:=by
 have hc:c'.E ≠ 0:=by rw [hE]; exact hd
 obtain ⟨k1,k2⟩:=zBQ (ts:=ts) hc t
 exact ⟨a,c',a',q',rfl,rfl,by rw [zS hd]; exact RG.dead (k1.trans hE) (k2.trans hF) hd,fun h0 => absurd h0 (by rw [zS hd]; exact hd),fun h0 => absurd h0 (by rw [zS hd]; exact hd)⟩
theorem Ends.good (hl:ts.length ≤ 900000000){a a':List Pm}{t:List UInt8}(h:RG c q)(he:q.E = 0 → a = a'):Ends ts q (some (a,c)) (some (a',q)) t:=
 ⟨a,c,a',q,rfl,rfl,h.take t,(zAz hl q false t).to0,fun h0 => he ((zAz hl q false t) h0).1⟩
theorem Ends.adv {q0 q:Q}{x:Option (List Pm × Cs)}{y:Option (List Pm × Q)}{t:List UInt8}(h:Ends ts q x y t)(v:Adv0 ts q0 q):Ends ts q0 x y t:=by
 obtain ⟨a,c,a',q',h1,h2,h3,h4,h5⟩:=h
 exact ⟨a,c,a',q',h1,h2,h3,v.trans h4,h5⟩
theorem zDj (hc:c.E = 0){n m:Int}(h:n = m):Pg.limit ts c n m = ⟨c.k,4,(tokAt ts c.k).at_⟩:=by unfold Pg.limit; rw [if_pos h,zKI hc]
theorem zFc {l:List Pm}{m:Int}(hk:(Pe.peek ts c).kind ≠ 1 ∨ ¬ (l.length:Int) = m):Pg.oneMore ts l m c = (l ++ [(Pg.declared ts c).1],(Pg.declared ts c).2):=by
 have:(if (Pe.peek ts c).kind = 1 then Pg.limit ts c l.length m else c) = c:=by
  split
  ·rename_i h1
   unfold Pg.limit
   rw [if_neg (hk.resolve_left (fun hh => hh h1))]
  ·rfl
 unfold Pg.oneMore
 rw [this]
theorem zFU {l:List Pm}{m:Int}(hc:c.E = 0)(hk:(Pe.peek ts c).kind = 1)(hm:(l.length:Int) = m):Keep ⟨c.k,4,(tokAt ts c.k).at_⟩ (Pg.oneMore ts l m c).2:=by
 unfold Pg.oneMore
 rw [if_pos hk,zDj hc hm]
 exact zBR (c:=⟨c.k,4,(tokAt ts c.k).at_⟩) (by show (4:Int) ≠ 0; decide)
theorem zKH (hl:ts.length ≤ 900000000):∀ (g g':Nat){l l':List Pm}{c:Cs}{q:Q},RG c q → N ts q < g → N ts q + 1 < g' → (q.E = 0 → l = l') →
 Ends ts q (Pg.fieldLoop ts g l c) (Qg.fieldLoop ts g' l' q) [125]:=by
 intro g
 induction g with
 | zero => intro g' l l' c q _ h; omega
 | succ g ih =>
   intro g' l l' c q h hg hg' hll
   obtain ⟨g',rfl⟩:∃ k,g' = k + 1:=⟨g' - 1,by omega⟩
   by_cases hq:q.E = 0
   case neg =>
    rw [zBs (h.pdead hq),Qg.fieldLoop,if_neg (fun hh => hq hh.1)]
    exact Ends.bad h.1.E h.1.F hq
   case pos =>
   have hcE:=h.1.E.trans hq
   have hpk:=zO (ts:=ts) h.1 hq
   rw [Pg.fieldLoop,Qg.fieldLoop,hpk]
   by_cases hk:(tokAt ts q.k).kind = 1
   ·have hv:Qe.is ts q false [125] = false:=is_kind (by rw [hk]; decide) _
    have hN1:=zGh (ts:=ts) hq (by rw [hk]; decide)
    obtain ⟨g,rfl⟩:∃ k,g = k + 1:=⟨g - 1,by omega⟩
    rw [if_pos hk,if_pos (⟨hq,hv⟩:q.E = 0 ∧ Qe.is ts q false [125] = false)]
    by_cases hm:l'.length = 8
    ·rw [if_pos ⟨hk,hm⟩,zDi hq]
     have h1:=zFU (ts:=ts) (c:=c) (l:=l) (m:=8) hcE (by rw [hpk]; exact hk) (by rw [hll hq,hm]; rfl)
     have h4:(⟨c.k,4,(tokAt ts c.k).at_⟩:Cs).E ≠ 0:=by show (4:Int) ≠ 0; decide
     have h2:=h1.trans (zBQ (ts:=ts) (h1.ne h4) [59])
     rw [zBs (h2.ne h4)]
     exact Ends.bad h2.1 (h2.2.trans (by show (tokAt ts c.k).at_ = (tokAt ts q.k).at_; rw [(h.1.live hq).1])) (by show (4:Int) ≠ 0; decide)
    ·rw [if_neg (fun hh => hm hh.2),zFc (.inr (by rw [hll hq]; omega))]
     obtain ⟨a1,v1,e1⟩:=h.param hl
     have a2:=a1.take (ts:=ts) [59]
     have v2:=v1.trans (zAz hl (Qg.param ts q).2 false [59])
     have hn:=zB9 v2 hN1
     exact (ih g' a2 (by omega) (by omega) (fun h0 => by rw [hll hq,e1 ((zAz hl (Qg.param ts q).2 false [59]) h0).1])).adv v2.to0
   ·rw [if_neg hk]
    cases hv:Qe.is ts q false [125] with
    | true =>
      rw [if_neg (fun hh => by cases hh.2)]
      exact Ends.good hl h hll
    | false =>
      rw [if_pos (c:=q.E = 0 ∧ false = false) ⟨hq,rfl⟩,if_neg (fun hh => hk hh.1)]
      have hd:=zLL hl h hk
      obtain ⟨a1,-,-⟩:=h.param hl
      have hf:=zJX hl h hq hk
      obtain ⟨g',rfl⟩:∃ k,g' = k + 1:=⟨g' - 1,by omega⟩
      rw [zS hd,Qg.fieldLoop,if_neg (fun hh => hd hh.1)]
      have hs:=zPM h hq hv
      refine ⟨_,_,_,_,rfl,rfl,?_,fun h0 => absurd h0 (by rw [zS hd]; exact hd),fun h0 => absurd h0 (by rw [zS hd]; exact hd)⟩
      rw [zS hd]
      exact RG.dead (hs.1.trans (hf.1.symm.trans a1.1.E)) (hs.2.trans (hf.2.symm.trans a1.1.F)) hd
theorem zN3 (hl:ts.length ≤ 900000000):∀ (g g':Nat){l l':List Pm}{c:Cs}{q:Q},RG c q → N ts q < g → N ts q + 1 < g' → (q.E = 0 → l = l') →
 Ends ts q (Pg.parLoop ts g l c) (Qg.parLoop ts g' l' (Qg.comma ts q)) [41]:=by
 intro g
 induction g with
 | zero => intro g' l l' c q _ h; omega
 | succ g ih =>
   intro g' l l' c q h hg hg' hll
   obtain ⟨g',rfl⟩:∃ k,g' = k + 1:=⟨g' - 1,by omega⟩
   by_cases hq:q.E = 0
   case neg =>
    have hcm:Qg.comma ts q = q:=by unfold Qg.comma; rw [zCy hq,if_neg (by decide),zS hq,zCy hq,if_neg (by decide)]
    rw [zA4 (h.pdead hq),hcm,Qg.parLoop,if_neg (fun hh => hq hh.1)]
    exact Ends.bad h.1.E h.1.F hq
   case pos =>
   have hcE:=h.1.E.trans hq
   rw [Pg.parLoop,zN h.1]
   cases hv:Qe.is ts q false [44] with
   | false =>
     rw [if_neg (by decide)]
     cases hv2:Qe.is ts q false [41] with
     | true =>
       have hcm:Qg.comma ts q = q:=by unfold Qg.comma; rw [hv2]; rfl
       rw [hcm,Qg.parLoop,hv2,if_neg (fun hh => by cases hh.2)]
       exact Ends.good hl h hll
     | false =>
       have hd:(Qe.fail ts q 2).E ≠ 0:=fail_dead (by decide)
       have hcm:Qg.comma ts q = Qe.fail ts q 2:=by unfold Qg.comma; rw [hv2,if_neg (by decide),zNt hv,zCy hd,if_neg (by decide)]
       rw [hcm,Qg.parLoop,if_neg (fun hh => hd hh.1)]
       have hs:=zPM h hq hv2
       have hf:RG (Pe.fail ts c 2) (Qe.fail ts q 2):=h.fail (by decide)
       refine ⟨_,_,_,_,rfl,rfl,?_,fun h0 => absurd h0 (by rw [zS hd]; exact hd),fun h0 => absurd h0 (by rw [zS hd]; exact hd)⟩
       rw [zS hd]
       exact RG.dead (hs.1.trans hf.1.E) (hs.2.trans hf.1.F) hd
   | true =>
     obtain ⟨-,k1,k2,k3,k4⟩:=zAV hv
     have hv2:Qe.is ts q false [41] = false:=is_text (by rw [k4]; decide)
     have hN1:=N_is hv
     have ht:Qe.take ts q false [44] = Qe.next q:=by unfold Qe.take; rw [hv]; rfl
     have hnq:(Qe.next q).E = 0:=hq
     have a1:=h.next
     have v1:=zAe hl k1 k2
     obtain ⟨g,rfl⟩:∃ k,g = k + 1:=⟨g - 1,by omega⟩
     rw [if_pos rfl]
     have hpk:=zO (ts:=ts) a1.1 hnq
     cases hv3:Qe.is ts (Qe.next q) false [41] with
     | true =>
       have hcm:Qg.comma ts q = Qe.fail ts (Qe.next q) 2:=by unfold Qg.comma; rw [hv2,if_neg (by decide),ht,hv3]; rfl
       have hd:(Qe.fail ts (Qe.next q) 2).E ≠ 0:=fail_dead (by decide)
       have hk:(tokAt ts (Qe.next q).k).kind ≠ 1:=by rw [(zAV hv3).2.2.2.1]; decide
       have hf:=zJX hl a1 hnq hk
       have hr:RG (Pe.fail ts (Pe.next c) 2) (Qe.fail ts (Qe.next q) 2):=a1.fail (by decide)
       rw [hcm,zFc (.inl (by rw [hpk]; exact hk)),zA4 (hf.ne (hr.pdead hd)),Qg.parLoop,if_neg (fun hh => hd hh.1)]
       exact Ends.bad (hf.1.trans hr.1.E) (hf.2.trans hr.1.F) hd
     | false =>
       have hcm:Qg.comma ts q = Qe.next q:=by unfold Qg.comma; rw [hv2,if_neg (by decide),ht,hv3]; rfl
       rw [hcm,Qg.parLoop,if_pos (⟨hnq,hv3⟩:(Qe.next q).E = 0 ∧ Qe.is ts (Qe.next q) false [41] = false)]
       by_cases hm:(tokAt ts (Qe.next q).k).kind = 1 ∧ l'.length = 6
       ·have hcn:(Pe.next c).E = 0:=hcE
        have h1:=zFU (ts:=ts) (c:=Pe.next c) (l:=l) (m:=6) hcn (by rw [hpk]; exact hm.1) (by rw [hll hq,hm.2]; rfl)
        have h4:(⟨(Pe.next c).k,4,(tokAt ts (Pe.next c).k).at_⟩:Cs).E ≠ 0:=by show (4:Int) ≠ 0; decide
        rw [if_pos hm,zDi hnq,zA4 (h1.ne h4)]
        exact Ends.bad h1.1 (h1.2.trans (by show (tokAt ts (Pe.next c).k).at_ = (tokAt ts (Qe.next q).k).at_; rw [(a1.1.live hnq).1])) (by show (4:Int) ≠ 0; decide)
       ·rw [if_neg hm,zFc (by rw [hpk]; exact (Classical.em _).symm.imp id fun hh => by rw [hll hq]; exact fun h6 => hm ⟨hh,by omega⟩)]
        obtain ⟨a2,v2,e2⟩:=a1.param hl
        have v3:=v1.trans v2
        have hn:=zB9 v3 hN1
        exact (ih g' a2 (by omega) (by omega) (fun h0 => by rw [hll hq,e2 h0])).adv v3.to0
theorem zLK (hl:ts.length ≤ 900000000){g g':Nat}(h:RG c q)(hg:N ts q < g)(hg':N ts q + 2 < g') :
 Ends ts q (Pg.parLoop ts g (Pg.parFirst ts c).1 (Pg.parFirst ts c).2) (Qg.parLoop ts g' [] q) [41]:=by
 obtain ⟨g,rfl⟩:∃ k,g = k + 1:=⟨g - 1,by omega⟩
 obtain ⟨g',rfl⟩:∃ k,g' = k + 1:=⟨g' - 1,by omega⟩
 unfold Pg.parFirst
 rw [zN h.1,Qg.parLoop]
 by_cases hq:q.E = 0
 case neg =>
  have hm:=zFZ (ts:=ts) (l:=[]) (m:=6) (h.pdead hq)
  rw [zCy hq,if_neg (by decide),if_neg (fun hh => hq hh.1),zA4 (hm.ne (h.pdead hq))]
  exact Ends.bad (hm.1.trans h.1.E) (hm.2.trans h.1.F) hq
 case pos =>
 have hpk:=zO (ts:=ts) h.1 hq
 cases hv:Qe.is ts q false [41] with
 | true =>
   have hv2:Qe.is ts q false [44] = false:=is_text (by rw [(zAV hv).2.2.2.2]; decide)
   rw [if_pos rfl,if_neg (fun hh => by cases hh.2),Pg.parLoop,zN h.1,hv2,if_neg (by decide)]
   exact Ends.good hl h (fun _ => rfl)
 | false =>
   rw [if_neg (by decide),if_pos (c:=q.E = 0 ∧ false = false) ⟨hq,rfl⟩,if_neg (fun hh => by cases hh.2),zFc (.inr (by show ¬ (0:Int) = 6; decide))]
   obtain ⟨a1,v1,e1⟩:=h.param hl
   have hn:=zCp v1.to0
   exact (zN3 hl (g + 1) g' a1 (by omega) (by omega) (fun h0 => by rw [e1 h0])).adv v1.to0
end
section
variable {ts:List RT} {c:Cs} {q:Q}
def SameG {α:Type}(ts:List RT)(q:Q)(x:Option (α × Cs))(y:Option (α × Q)):Prop:=∃ a c' a' q',x = some (a,c') ∧ y = some (a',q') ∧ RG c' q' ∧ Adv ts q q' ∧ (q'.E = 0 → a = a')
theorem zIf (hl:ts.length ≤ 900000000){g g':Nat}(h:RG (Pe.next c) q)(hg:N ts q < g)(hg':N ts q + 1 < g'):SameG ts q (Pg.record ts g c) (Qg.record ts g' q):=by
 have a1:=h.name (ts:=ts)
 have v1:=zBp hl h.1
 have a2:=a1.take (ts:=ts) [123]
 have v2:=v1.trans (zAz hl (Qe.name ts q).2 false [123])
 have hn:=zCp v2.to0
 obtain ⟨a,c',a',q',h1,h2,h3,h4,h5⟩:=zKH hl g g' (l:=[]) (l':=[]) a2 (by omega) (by omega) (fun _ => rfl)
 unfold Pg.record Qg.record
 rw [h1,h2]
 refine ⟨_,_,_,_,rfl,rfl,h3,v2.then0 h4,fun h0 => ?_⟩
 have hb:=((zAz hl (Qe.name ts q).2 false [123]) (h4 h0).1).1
 rw [h5 h0,(name_live hl h.1 hb).1,zO h.1 (v1 hb).1]
theorem zH9 (hl:ts.length ≤ 900000000)(h:RG c q):RG (Pg.resultOf ts c).2.2.2 (Qg.resultOf ts q).2.2.2 ∧ Adv0 ts q (Qg.resultOf ts q).2.2.2 ∧
 ((Qg.resultOf ts q).2.2.2.E = 0 → (Pg.resultOf ts c).1 = (Qg.resultOf ts q).1 ∧ (Pg.resultOf ts c).2.1 = (Qg.resultOf ts q).2.1 ∧ (Pg.resultOf ts c).2.2.1 = (Qg.resultOf ts q).2.2.1):=by
 unfold Pg.resultOf Qg.resultOf
 rw [zN h.1]
 cases hv:Qe.is ts q false [58] with
 | true =>
   obtain ⟨-,k1,k2,-,-⟩:=zAV hv
   obtain ⟨a1,v1,e1⟩:=(h.next).of (ts:=ts) hl
   exact ⟨a1,((zAe hl k1 k2).trans v1).to0,fun h0 => ⟨rfl,e1 h0⟩⟩
 | false => exact ⟨h,Adv0.refl ts q,fun _ => ⟨rfl,rfl,rfl⟩⟩
theorem zF1 (hl:ts.length ≤ 900000000){P:Ps.PX}(hP:IsP ts P){B:BX}(hB:IsB ts P B){f':Nat}(hf : 4 * ts.length + 6 ≤ f'){g g':Nat}(h:RG (Pe.next c) q)(hg:N ts q < g)(hg':N ts q + 2 < g') :
 SameG ts q (Pg.function ts B g c) (Qg.function ts (Qs.run ts (rx ts) f').2 g' q):=by
 have a1:=h.name (ts:=ts)
 have v1:=zBp hl h.1
 have a2:=a1.take (ts:=ts) [40]
 have v2:=v1.trans (zAz hl (Qe.name ts q).2 false [40])
 have hn:=zCp v2.to0
 obtain ⟨a,c',a',q',h1,h2,h3,h4,h5⟩:=zLK hl (g:=g) (g':=g') a2 (by omega) (by omega)
 obtain ⟨r1,r2,r3⟩:=zH9 hl h3
 obtain ⟨b',t',b1,b2,b3,b4⟩:=r1.block hl hP hB hf
 unfold Pg.function Pg.params Qg.function
 rw [h1,h2]
 dsimp only
 rw [b1]
 refine ⟨_,_,_,_,rfl,rfl,b2,v2.then0 (h4.trans (r2.trans b3.to0)),fun h0 => ?_⟩
 have hr:=(b3 h0).1
 have ht:=(r2 hr).1
 have hb:=((zAz hl (Qe.name ts q).2 false [40]) (h4 ht).1).1
 obtain ⟨e1,e2,e3⟩:=r3 hr
 rw [h5 ht,(name_live hl h.1 hb).1,zO h.1 (v1 hb).1,e1,e2,e3,b4 h0]
theorem zLD (hl:ts.length ≤ 900000000){P:Ps.PX}(hP:IsP ts P){B:BX}(hB:IsB ts P B){f':Nat}(hf : 4 * ts.length + 6 ≤ f'):∀ (g g':Nat){p p':Gm}{c:Cs}{q:Q},RG c q → N ts q + 1 < g → N ts q + 3 < g' → (q.E = 0 → p = p') →
 ∃ a c' a' q',Pg.loop ts B g p c = some (a,c') ∧ Qg.loop ts (Qs.run ts (rx ts) f').2 g' p' q = some (a',q') ∧ RG c' q' ∧ (q'.E = 0 → a = a'):=by
 intro g
 induction g with
 | zero => intro g' p p' c q _ h; omega
 | succ g ih =>
   intro g' p p' c q h hg hg' hll
   obtain ⟨g',rfl⟩:∃ k,g' = k + 1:=⟨g' - 1,by omega⟩
   obtain ⟨g,rfl⟩:∃ k,g = k + 1:=⟨g - 1,by omega⟩
   obtain ⟨g',rfl⟩:∃ k,g' = k + 1:=⟨g' - 1,by omega⟩
   have stop:∀ {p p':Gm} {c':Cs} {q':Q},c'.E = q'.E → c'.F = q'.F → q'.E ≠ 0 → ∃ a d a' r,Pg.loop ts B (g + 1) p c' = some (a,d) ∧ Qg.loop ts (Qs.run ts (rx ts) f').2 (g' + 1) p' q' = some (a',r) ∧ RG d r ∧ (r.E = 0 → a = a'):=by
    intro p p' c' q' hE hF hd
    refine ⟨p,c',p',q',?_,?_,RG.dead hE hF hd,fun h0 => absurd h0 hd⟩
    ·rw [Pg.loop,if_pos (zE6 (by rw [hE]; exact hd))]
    ·rw [Qg.loop,if_neg (fun hh => hd hh.1)]
   rw [Pg.loop,Qg.loop]
   by_cases hq:q.E = 0
   case neg =>
    rw [if_pos (zE6 (h.pdead hq)),if_neg (fun hh => hq hh.1)]
    exact ⟨_,_,_,_,rfl,rfl,h,fun h0 => absurd h0 hq⟩
   case pos =>
   have hcE:=h.1.E.trans hq
   have hck:=(h.1.live hq).1
   rw [zO h.1 hq]
   by_cases hk:(tokAt ts q.k).kind = 0
   ·rw [if_pos hk,if_neg (fun hh => hh.2 hk)]
    exact ⟨_,_,_,_,rfl,rfl,h,hll⟩
   have hN1:=zGh (ts:=ts) hq hk
   obtain ⟨k1,k2⟩:=zBj hk
   have v1:=zAe hl k1 k2
   have hn1:=zB9 v1 hN1
   rw [if_neg hk,if_pos (c:=q.E = 0 ∧ (tokAt ts q.k).kind ≠ 0) ⟨hq,hk⟩,zBu h.1,zBu h.1,zBu h.1]
   have h4:(⟨c.k,4,(tokAt ts c.k).at_⟩:Cs).E ≠ 0:=by show (4:Int) ≠ 0; decide
   have full:∀ {p:Gm} {x:Cs},Keep ⟨c.k,4,(tokAt ts c.k).at_⟩ x → ∃ a d a' r,Pg.loop ts B (g + 1) p x = some (a,d) ∧ Qg.loop ts (Qs.run ts (rx ts) f').2 (g' + 1) p' (Qe.fail ts q 4) = some (a',r) ∧ RG d r ∧ (r.E = 0 → a = a'):=by
    intro p x hx
    refine stop ?_ ?_ (fail_dead (by decide))
    ·rw [zDi hq]; exact hx.1
    ·rw [zDi hq,hx.2,hck]
   have lim:∀ {n:Nat} {m:Int},¬ (n:Int) = m → Pg.limit ts c n m = c:=fun hn => if_neg hn
   cases w1:Qe.is ts q true [114,101,99,111,114,100] with
   | true =>
     have w2:Qe.is ts q true [103,108,111,98,97,108] = false:=is_text (by rw [(zAV w1).2.2.2.2]; decide)
     have w3:Qe.is ts q true [102,117,110,99] = false:=is_text (by rw [(zAV w1).2.2.2.2]; decide)
     rw [if_pos rfl]
     by_cases hm:p'.recs.length = 12
     ·rw [if_pos (.inl ⟨w1,hm⟩),zDj hcE (by rw [hll hq,hm]; rfl)]
      obtain ⟨x,c',hx,hkp⟩:=zGu (ts:=ts) h4 g
      rw [hx]
      exact full hkp
     ·rw [if_neg (fun hh => by unfold Qg.over at hh; rw [w2,w3] at hh; rcases hh with hh | hh | hh <;> first | exact hm hh.2 | cases hh.1),if_pos rfl,lim (by rw [hll hq]; omega)]
      obtain ⟨a,c',a',q',e1,e2,e3,e4,e5⟩:=zIf hl (g:=g + 1) (g':=g' + 1) (c:=c) h.next (by omega) (by omega)
      rw [e1,e2]
      have hn:=zCp (v1.trans e4).to0
      have hn2:=zB9 (v1.trans e4) hN1
      exact ih (g' + 1) e3 (by omega) (by omega) (fun h0 => by rw [hll hq,e5 h0])
   | false =>
   rw [if_neg (by decide)]
   cases w2:Qe.is ts q true [103,108,111,98,97,108] with
   | true =>
     have w3:Qe.is ts q true [102,117,110,99] = false:=is_text (by rw [(zAV w2).2.2.2.2]; decide)
     rw [if_pos rfl]
     by_cases hm:p'.globals.length = 8
     ·rw [if_pos (.inr (.inl ⟨w2,hm⟩)),zDj hcE (by rw [hll hq,hm]; rfl)]
      exact full (zGS (ts:=ts) h4)
     ·rw [if_neg (fun hh => by unfold Qg.over at hh; rw [w1,w3] at hh; rcases hh with hh | hh | hh <;> first | cases hh.1 | exact hm hh.2),if_neg (by decide),if_pos rfl,lim (by rw [hll hq]; omega)]
      obtain ⟨a1,v2,e1⟩:=(h.next).param hl
      have v3:=v1.trans (v2.trans (zAz hl (Qg.param ts (Qe.next q)).2 false [59]))
      have hn2:=zB9 v3 hN1
      exact ih (g' + 1) (a1.take (ts:=ts) [59]) (by omega) (by omega) (fun h0 => by rw [hll hq]; unfold Pg.global; rw [e1 ((zAz hl (Qg.param ts (Qe.next q)).2 false [59]) h0).1])
   | false =>
   rw [if_neg (by decide)]
   cases w3:Qe.is ts q true [102,117,110,99] with
   | true =>
     rw [if_pos rfl]
     by_cases hm:p'.funcs.length = 16
     ·rw [if_pos (.inr (.inr ⟨w3,hm⟩)),zDj hcE (by rw [hll hq,hm]; rfl)]
      obtain ⟨x,c',hx,hkp⟩:=zFj (ts:=ts) (B:=B) h4 g
      rw [hx]
      exact full hkp
     ·rw [if_neg (fun hh => by unfold Qg.over at hh; rw [w1,w2] at hh; rcases hh with hh | hh | hh <;> first | cases hh.1 | exact hm hh.2),if_neg (by decide),if_neg (by decide),if_pos rfl,lim (by rw [hll hq]; omega)]
      obtain ⟨a,c',a',q',e1,e2,e3,e4,e5⟩:=zF1 hl hP hB hf (g:=g + 1) (g':=g' + 1) (c:=c) h.next (by omega) (by omega)
      rw [e1,e2]
      have hn2:=zB9 (v1.trans e4) hN1
      exact ih (g' + 1) e3 (by omega) (by omega) (fun h0 => by rw [hll hq,e5 h0])
   | false =>
     rw [if_neg (by decide),if_neg (fun hh => by unfold Qg.over at hh; rw [w1,w2,w3] at hh; rcases hh with hh | hh | hh <;> cases hh.1),if_neg (by decide),if_neg (by decide),if_neg (by decide)]
     have hr:RG (Pe.fail ts c 2) (Qe.fail ts q 2):=h.fail (by decide)
     exact stop hr.1.E hr.1.F (fail_dead (by decide))
theorem prog_same (hl:ts.length ≤ 900000000){P:Ps.PX}(hP:IsP ts P){B:BX}(hB:IsB ts P B):∃ x,Pg.run ts B (enough ts) = some x ∧ Qg.run ts (Qs.run ts (rx ts) (enough ts)).2 (enough ts) = some x:=by
 have h0:RG ⟨0,0,0⟩ ⟨0,0,0,0⟩:=⟨⟨rfl,rfl,fun _ => ⟨rfl,by decide,Int.le_refl 0⟩⟩,fun _ => rfl⟩
 have hN:=N_le ts ⟨0,0,0,0⟩
 obtain ⟨a,c,a',q,h1,h2,h3,h4⟩:=zLD hl hP hB (f':=enough ts) (by unfold enough; omega) (enough ts) (enough ts) (p:=Gm.zero) (p':=Gm.zero) h0 (by unfold enough; omega) (by unfold enough; omega) (fun _ => rfl)
 refine ⟨Pg.pgEnd a c,?_,?_⟩
 ·unfold Pg.run
  rw [h1]
 ·unfold Qg.run
  rw [h2]
  show some (Qg.pgEnd a' q) = some (Pg.pgEnd a c)
  unfold Qg.pgEnd Pg.pgEnd
  by_cases hq:q.E = 0
  ·rw [if_pos hq,if_pos (h3.1.E.trans hq),h4 hq]
  ·rw [if_neg hq,if_neg (h3.pdead hq),h3.1.E,h3.1.F]
end
end Sim
end Go.Proofs.YteadgahhchlgeaaDoor
