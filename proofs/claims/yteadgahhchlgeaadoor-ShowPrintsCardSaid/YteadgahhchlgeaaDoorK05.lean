/-
  The project's reader and the answer's, both in plain data: w
-/
import Derived.Test.YteadgahhchlgeaaDoorK01
import Derived.Test.YteadgahhchlgeaaDoorK04
namespace Go.Proofs.YteadgahhchlgeaaDoor
namespace Sim
open Go.RowKit
open Px (RT tokAt isT)
open Pe (Ex Cs St inc dec)
open Qe (Q)
structure Rel (s:St) (q:Q):Prop where
 E:s.c.E = q.E
 F:s.c.F = q.F
 live:q.E = 0 → s.c.k = q.k ∧ s.o = min q.o 50 ∧ 0 ≤ q.o
theorem Rel.dead {c:Cs}{o:Int}{q:Q}(hE:c.E = q.E)(hF:c.F = q.F)(h:q.E ≠ 0):Rel ⟨c,o⟩ q:=⟨hE,hF,fun h0 => absurd h0 h⟩
theorem zBj {ts:List RT}{k:Int}(h:(tokAt ts k).kind ≠ 0) : 0 ≤ k ∧ k < (ts.length:Int):=by
 by_cases hk : 0 ≤ k ∧ k < (ts.length:Int)
 ·exact hk
 ·rw [Px.tokAt_out hk] at h
  exact absurd rfl h
theorem zDN {k:Int}(h : 0 ≤ k)(h2:k < 1000000000):inc k = k + 1:=by unfold inc; simp [wrap64]; omega
theorem dec_eq {k:Int}(h : 0 ≤ k)(h2:k < 1000000000):dec k = k - 1:=by unfold dec; simp [wrap64]; omega
theorem zO {ts:List RT}{s:St}{q:Q}(h:Rel s q)(hq:q.E = 0):Pe.peek ts s.c = tokAt ts q.k:=by
 unfold Pe.peek
 rw [if_pos (by rw [h.E,hq]),(h.live hq).1]
theorem peek_dead {ts:List RT}{s:St}{q:Q}(h:Rel s q)(hq:q.E ≠ 0):Pe.peek ts s.c = RT.none:=by
 unfold Pe.peek
 rw [if_neg (by rw [h.E]; exact hq)]
theorem zJl {ts:List RT}{s:St}{q:Q}(h:Rel s q)(wd:Bool)(t:List UInt8):Pe.sees ts s.c (if wd then 3 else 4) t = Qe.is ts q wd t:=by
 unfold Pe.sees Qe.is isT
 by_cases hq:q.E = 0
 ·rw [zO h hq,hq]; rfl
 ·rw [peek_dead h hq,show (q.E == 0) = false by simpa using hq]
  cases wd <;> rfl
theorem zN {ts:List RT}{s:St}{q:Q}(h:Rel s q)(t:List UInt8):Pe.sees ts s.c 4 t = Qe.is ts q false t:=zJl h false t
theorem zBu {ts:List RT}{s:St}{q:Q}(h:Rel s q)(t:List UInt8):Pe.sees ts s.c 3 t = Qe.is ts q true t:=zJl h true t
theorem zAV {ts:List RT}{q:Q}{wd:Bool}{t:List UInt8}(h:Qe.is ts q wd t = true):q.E = 0 ∧ 0 ≤ q.k ∧ q.k < (ts.length:Int) ∧ (tokAt ts q.k).kind = (if wd then 3 else 4) ∧ (tokAt ts q.k).text = t:=by
 unfold Qe.is isT at h
 simp only [Bool.and_eq_true,beq_iff_eq,decide_eq_true_eq] at h
 have hk:=zBj (ts:=ts) (k:=q.k) (by rw [h.2.1]; cases wd <;> decide)
 exact ⟨h.1,hk.1,hk.2,h.2.1,h.2.2⟩
theorem Rel.next {s:St}{q:Q}(h:Rel s q):Rel ⟨Pe.next s.c,s.o⟩ (Qe.next q):=
 ⟨h.E,h.F,fun hq => ⟨by show inc s.c.k = inc q.k; rw [(h.live hq).1],(h.live hq).2⟩⟩
theorem Rel.fail {ts:List RT}{s:St}{q:Q}(h:Rel s q){e:Int}(he:e ≠ 0):Rel ⟨Pe.fail ts s.c e,s.o⟩ (Qe.fail ts q e):=by
 unfold Pe.fail Qe.fail
 by_cases hq:q.E = 0
 ·rw [if_pos (by rw [h.E,hq]),if_pos hq]
  exact Rel.dead rfl (by show (tokAt ts s.c.k).at_ = (tokAt ts q.k).at_; rw [(h.live hq).1]) he
 ·rw [if_neg (by rw [h.E]; exact hq),if_neg hq]
  exact h
theorem fail_dead {ts:List RT}{q:Q}{e:Int}(he:e ≠ 0):(Qe.fail ts q e).E ≠ 0:=by
 unfold Qe.fail
 by_cases hq:q.E = 0
 ·rw [if_pos hq]; exact he
 ·rw [if_neg hq]; exact hq
theorem Rel.on {c:Cs}{o o2:Int}{q:Q}(h:Rel ⟨c,o⟩ q)(hq:q.E ≠ 0):Rel ⟨c,o2⟩ q:=Rel.dead h.E h.F hq
theorem Rel.go {c:Cs}{o:Int}{q:Q}(h:Rel ⟨c,o⟩ q)(hq:q.E ≠ 0)(q2:Q)(hE:q2.E = q.E)(hF:q2.F = q.F):Rel ⟨Pe.next c,o⟩ q2:=Rel.dead (h.E.trans hE.symm) (h.F.trans hF.symm) (by rw [hE]; exact hq)
theorem Rel.sign {ts:List RT}{s:St}{q:Q}(h:Rel s q)(t:List UInt8):Rel ⟨(Pe.sign ts s.c t).2,s.o⟩ (Qe.take ts q false t):=by
 unfold Pe.sign Pe.failUnless Qe.take
 rw [zN h]
 cases hv:Qe.is ts q false t with
 | true => exact h.next
 | false =>
   simp only [Bool.false_eq_true,if_false]
   exact (h.fail (by decide)).go (fail_dead (by decide)) _ rfl rfl
theorem zDo {ts:List RT}{q:Q}{wd:Bool}{t:List UInt8}(hl:ts.length ≤ 900000000)(h:(Qe.take ts q wd t).E = 0):Qe.is ts q wd t = true ∧ Qe.take ts q wd t = ⟨q.k + 1,q.o,0,q.F⟩ ∧ q.E = 0 ∧ 0 ≤ q.k ∧ q.k < (ts.length:Int):=by
 unfold Qe.take at h ⊢
 cases hv:Qe.is ts q wd t with
 | true =>
   obtain ⟨h1,h2,h3,-,-⟩:=zAV hv
   refine ⟨rfl,?_,h1,h2,h3⟩
   rw [if_pos rfl,Qe.next,zDN h2 (by omega),h1]
 | false =>
   rw [hv] at h
   exact absurd h (fail_dead (by decide))
theorem Rel.name {ts:List RT}{s:St}{q:Q}(h:Rel s q):Rel ⟨(Pe.name ts s.c).2,s.o⟩ (Qe.name ts q).2:=by
 by_cases hc:q.E = 0 ∧ (tokAt ts q.k).kind = 1
 ·have h1:(Qe.name ts q).2 = Qe.next q:=by unfold Qe.name; rw [if_pos hc]
  have h2:(Pe.name ts s.c).2 = Pe.next s.c:=by
   unfold Pe.name Pe.failUnless
   rw [zO h hc.1]
   simp [hc.2]
  rw [h1,h2]
  exact h.next
 ·have h1:(Qe.name ts q).2 = Qe.fail ts q 2:=by unfold Qe.name; rw [if_neg hc]
  have hk:¬ (Pe.peek ts s.c).kind = 1:=by
   by_cases hq:q.E = 0
   ·rw [zO h hq]; exact fun hk => hc ⟨hq,hk⟩
   ·rw [peek_dead h hq]; decide
  have h2:(Pe.name ts s.c).2 = Pe.next (Pe.fail ts s.c 2):=by
   unfold Pe.name Pe.failUnless
   simp [hk]
  rw [h1,h2]
  exact (h.fail (by decide)).go (fail_dead (by decide)) _ rfl rfl
theorem name_live {ts:List RT}{s:St}{q:Q}(hl:ts.length ≤ 900000000)(h:Rel s q)(h0:(Qe.name ts q).2.E = 0):(Pe.name ts s.c).1 = (Qe.name ts q).1 ∧ (Qe.name ts q).2 = ⟨q.k + 1,q.o,0,q.F⟩ ∧ q.E = 0 ∧ 0 ≤ q.k ∧ q.k < (ts.length:Int):=by
 unfold Qe.name at h0 ⊢
 by_cases hc:q.E = 0 ∧ (tokAt ts q.k).kind = 1
 ·rw [if_pos hc] at h0 ⊢
  have hk:=zBj (ts:=ts) (k:=q.k) (by rw [hc.2]; decide)
  refine ⟨?_,by rw [Qe.next,zDN hk.1 (by omega),hc.1],hc.1,hk.1,hk.2⟩
  unfold Pe.name Pe.failUnless
  rw [zO h hc.1]
  simp only [hc.2,decide_true,if_true]
  exact congrArg RT.text (zO h hc.1)
 ·rw [if_neg hc] at h0
  exact absurd h0 (fail_dead (by decide))
theorem Rel.enter {ts:List RT}{s:St}{q:Q}(h:Rel s q)(t:List UInt8):Rel (Pe.enter ts s t).2 (Qe.opens ts q t):=by
 unfold Pe.enter Qe.opens
 rw [zN h]
 cases hv:Qe.is ts q false t with
 | false =>
   simp only [Bool.false_and,Bool.false_eq_true,if_false]
   have h1:=h.sign (ts:=ts) t
   have h2:(Qe.take ts q false t).E ≠ 0:=by unfold Qe.take; rw [hv]; exact fail_dead (by decide)
   exact Rel.dead h1.E h1.F h2
 | true =>
   obtain ⟨h1,h2,h3,-,-⟩:=zAV hv
   have hl:=h.live h1
   by_cases ho : 50 ≤ q.o
   ·have hs:s.o = 50:=by rw [hl.2.1]; omega
    simp only [hs,decide_true,Bool.and_true,if_true,ho]
    have hf:=h.fail (ts:=ts) (e:=4) (by decide)
    have hf2:Rel ⟨(Pe.sign ts (Pe.fail ts s.c 4) t).2,s.o⟩ (Qe.take ts (Qe.fail ts q 4) false t):=Rel.sign (s:=⟨Pe.fail ts s.c 4,s.o⟩) hf t
    have hd:(Qe.fail ts q 4).E ≠ 0:=fail_dead (by decide)
    have ht:Qe.take ts (Qe.fail ts q 4) false t = Qe.fail ts q 4:=by
        unfold Qe.take
        rw [show Qe.is ts (Qe.fail ts q 4) false t = false by unfold Qe.is; rw [show ((Qe.fail ts q 4).E == 0) = false by simpa using hd]; rfl]
        simp only [Bool.false_eq_true,if_false]
        rw [Qe.fail,if_neg hd]
    rw [ht] at hf2
    exact Rel.dead hf2.E hf2.F hd
   ·have hs:¬ s.o = 50:=by rw [hl.2.1]; omega
    simp only [hs,decide_false,Bool.and_false,Bool.false_eq_true,if_false,ho]
    have h4:=h.sign (ts:=ts) t
    refine ⟨h4.E,h4.F,fun h0 => ⟨(h4.live h0).1,?_,?_⟩⟩
    ·show inc s.o = min (inc (Qe.take ts q false t).o) 50
     have:(Qe.take ts q false t).o = q.o:=by unfold Qe.take; rw [hv]; rfl
     rw [this,hl.2.1,zDN (by omega) (by omega),zDN hl.2.2 (by omega)]
     omega
    ·show 0 ≤ inc (Qe.take ts q false t).o
     have:(Qe.take ts q false t).o = q.o:=by unfold Qe.take; rw [hv]; rfl
     rw [this,zDN hl.2.2 (by omega)]
     omega
theorem zA0 {ts:List RT}{s:St}{q:Q}(hl:ts.length ≤ 900000000)(h:Rel s q){t:List UInt8}(h0:(Qe.opens ts q t).E = 0):Qe.opens ts q t = ⟨q.k + 1,q.o + 1,0,q.F⟩ ∧ q.o < 50 ∧ q.E = 0 ∧ 0 ≤ q.k ∧ q.k < (ts.length:Int):=by
 unfold Qe.opens at h0 ⊢
 split at h0
 ·exact absurd h0 (fail_dead (by decide))
 ·rename_i hc
  obtain ⟨h1,h2,h3,h4,h5⟩:=zDo hl h0
  rw [h1] at hc
  have ho:q.o < 50:=by simpa using hc
  rw [if_neg (by rw [h1]; exact hc),h2]
  refine ⟨?_,ho,h3,h4,h5⟩
  show (⟨q.k + 1,inc q.o,0,q.F⟩:Q) = _
  rw [zDN (h.live h3).2.2 (by omega)]
theorem Rel.leave {ts:List RT}{s:St}{q:Q}(h:Rel s q)(t:List UInt8)(ho:q.E = 0 → 1 ≤ q.o ∧ q.o ≤ 50):Rel (Pe.leave ts s t) (Qe.closes ts q t):=by
 unfold Pe.leave Qe.closes
 have h1:=h.sign (ts:=ts) t
 refine ⟨h1.E,h1.F,fun h0 => ⟨(h1.live h0).1,?_,?_⟩⟩
 ·have hv:Qe.is ts q false t = true:=by
   cases hv:Qe.is ts q false t with
   | true => rfl
   | false => exact absurd h0 (by show ¬ (Qe.take ts q false t).E = 0; unfold Qe.take; rw [hv]; exact fail_dead (by decide))
  have hq:=(zAV hv).1
  have ho:=ho hq
  show dec s.o = min (dec (Qe.take ts q false t).o) 50
  have:(Qe.take ts q false t).o = q.o:=by unfold Qe.take; rw [hv]; rfl
  rw [this,(h.live hq).2.1,dec_eq (by omega) (by omega),dec_eq (by omega) (by omega)]
  omega
 ·have hv:Qe.is ts q false t = true:=by
   cases hv:Qe.is ts q false t with
   | true => rfl
   | false => exact absurd h0 (by show ¬ (Qe.take ts q false t).E = 0; unfold Qe.take; rw [hv]; exact fail_dead (by decide))
  have hq:=(zAV hv).1
  have ho:=ho hq
  show 0 ≤ dec (Qe.take ts q false t).o
  have:(Qe.take ts q false t).o = q.o:=by unfold Qe.take; rw [hv]; rfl
  rw [this,dec_eq (by omega) (by omega)]
  omega
theorem zAD {ts:List RT}{q:Q}(hl:ts.length ≤ 900000000){t:List UInt8}(ho:q.E = 0 → 1 ≤ q.o ∧ q.o ≤ 50)(h0:(Qe.closes ts q t).E = 0):Qe.closes ts q t = ⟨q.k + 1,q.o - 1,0,q.F⟩ ∧ q.E = 0 ∧ 0 ≤ q.k ∧ q.k < (ts.length:Int):=by
 unfold Qe.closes at h0 ⊢
 obtain ⟨h1,h2,h3,h4,h5⟩:=zDo hl h0
 rw [h2]
 have ho:=ho h3
 refine ⟨?_,h3,h4,h5⟩
 show (⟨q.k + 1,dec q.o,0,q.F⟩:Q) = _
 rw [dec_eq (by omega) (by omega)]
end Sim
end Go.Proofs.YteadgahhchlgeaaDoor
namespace Go.Proofs.YteadgahhchlgeaaDoor
namespace Sim
open Go.RowKit
open Px (RT tokAt isT)
open Pe (Ex Cs St inc dec)
open Qe (Q)
def Adv (ts:List RT)(q q':Q):Prop:=q'.E = 0 → q.E = 0 ∧ 0 ≤ q.k ∧ q.k < q'.k ∧ q'.k ≤ (ts.length:Int) ∧ q'.o = q.o
def Adv0 (ts:List RT)(q q':Q):Prop:=q'.E = 0 → q.E = 0 ∧ q'.o = q.o ∧ (q'.k = q.k ∨ (0 ≤ q.k ∧ q.k < q'.k ∧ q'.k ≤ (ts.length:Int)))
theorem Adv0.refl (ts:List RT)(q:Q):Adv0 ts q q:=fun h => ⟨h,rfl,.inl rfl⟩
theorem Adv.to0 {ts:List RT}{q q':Q}(h:Adv ts q q'):Adv0 ts q q':=fun h0 => ⟨(h h0).1,(h h0).2.2.2.2,.inr ⟨(h h0).2.1,(h h0).2.2.1,(h h0).2.2.2.1⟩⟩
theorem Adv0.trans {ts:List RT}{q q1 q2:Q}(h:Adv0 ts q q1)(g:Adv0 ts q1 q2):Adv0 ts q q2:=fun h0 => by
 obtain ⟨a1,a2,a3⟩:=g h0
 obtain ⟨b1,b2,b3⟩:=h a1
 refine ⟨b1,a2.trans b2,?_⟩
 rcases a3 with a3 | a3 <;> rcases b3 with b3 | b3
 ·exact .inl (a3.trans b3)
 ·exact .inr ⟨b3.1,by omega,by omega⟩
 ·exact .inr ⟨by omega,by omega,by omega⟩
 ·exact .inr ⟨by omega,by omega,by omega⟩
theorem Adv.then0 {ts:List RT}{q q1 q2:Q}(h:Adv ts q q1)(g:Adv0 ts q1 q2):Adv ts q q2:=fun h0 => by
 obtain ⟨a1,a2,a3⟩:=g h0
 obtain ⟨b1,b2,b3,b4,b5⟩:=h a1
 refine ⟨b1,b2,?_,?_,a2.trans b5⟩ <;> rcases a3 with a3 | a3 <;> omega
theorem Adv0.then {ts:List RT}{q q1 q2:Q}(h:Adv0 ts q q1)(g:Adv ts q1 q2):Adv ts q q2:=fun h0 => by
 obtain ⟨a1,a2,a3,a4,a5⟩:=g h0
 obtain ⟨b1,b2,b3⟩:=h a1
 refine ⟨b1,?_,?_,a4,a5.trans b2⟩ <;> rcases b3 with b3 | b3 <;> omega
theorem Adv.trans {ts:List RT}{q q1 q2:Q}(h:Adv ts q q1)(g:Adv ts q1 q2):Adv ts q q2:=h.then0 g.to0
theorem zAz {ts:List RT}(hl:ts.length ≤ 900000000)(q:Q)(wd:Bool)(t:List UInt8):Adv ts q (Qe.take ts q wd t):=fun h0 => by
 obtain ⟨-,h2,h3,h4,h5⟩:=zDo hl h0
 rw [h2]
 exact ⟨h3,h4,Int.lt_succ q.k,h5,rfl⟩
theorem zBp {ts:List RT}(hl:ts.length ≤ 900000000){s:St}{q:Q}(h:Rel s q):Adv ts q (Qe.name ts q).2:=fun h0 => by
 obtain ⟨-,h2,h3,h4,h5⟩:=name_live hl h h0
 rw [h2]
 exact ⟨h3,h4,Int.lt_succ q.k,h5,rfl⟩
theorem zAe {ts:List RT}(hl:ts.length ≤ 900000000){q:Q}(h1 : 0 ≤ q.k)(h2:q.k < (ts.length:Int)):Adv ts q (Qe.next q):=fun h0 => by
 refine ⟨h0,h1,?_,?_,rfl⟩ <;> show _ <;> simp only [Qe.next] <;> rw [zDN h1 (by omega)] <;> omega
theorem zFn {ts:List RT}(hl:ts.length ≤ 900000000):∀ (n:Nat){s:St}{q:Q},Rel s q → Rel ⟨(Pe.dims ts n s.c).2,s.o⟩ (Qe.dims ts n q).2 ∧ (∀ d,(Qe.dims ts n q).1 = some d → (Pe.dims ts n s.c).1 = d) ∧
 ((Qe.dims ts n q).1 = none → (Qe.dims ts n q).2.E ≠ 0) ∧ Adv0 ts q (Qe.dims ts n q).2
 | 0,s,q,h => by
   rw [Pe.dims,Qe.dims,zN h]
   cases hv:Qe.is ts q false [91] with
   | true =>
     simp only [if_true]
     exact ⟨h.fail (by decide),fun d hd => by simp at hd,fun _ => fail_dead (by decide),fun h0 => absurd h0 (fail_dead (by decide))⟩
   | false =>
     simp only [Bool.false_eq_true,if_false]
     exact ⟨h,fun d hd => by simpa using hd,fun hn => by simp at hn,Adv0.refl _ _⟩
 | n + 1,s,q,h => by
   rw [Pe.dims,Qe.dims,zN h]
   cases hv:Qe.is ts q false [91] with
   | true =>
     obtain ⟨h1,h2,h3,-,-⟩:=zAV hv
     simp only [if_true]
     obtain ⟨i1,i2,i3,i4⟩:=zFn hl n h.next
     refine ⟨i1,fun d hd => ?_,fun hn => ?_,((zAe hl h2 h3).then0 i4).to0⟩
     ·cases hd':(Qe.dims ts n (Qe.next q)).1 with
      | none => rw [hd'] at hd; simp at hd
      | some d' => rw [hd'] at hd; rw [i2 d' hd']; simpa using hd
     ·cases hd':(Qe.dims ts n (Qe.next q)).1 with
      | none => exact i3 hd'
      | some d' => rw [hd'] at hn; simp at hn
   | false =>
     simp only [Bool.false_eq_true,if_false]
     exact ⟨h,fun d hd => by simpa using hd,fun hn => by simp at hn,Adv0.refl _ _⟩
theorem zMM {ts:List RT}(hl:ts.length ≤ 900000000){s:St}{q:Q}(h:Rel s q):Rel ⟨(Pe.base ts s.c).2,s.o⟩ (Qe.base ts q).2 ∧ ((Qe.base ts q).2.E = 0 → (Pe.base ts s.c).1 = (Qe.base ts q).1) ∧ Adv ts q (Qe.base ts q).2:=by
 unfold Pe.base Qe.base
 rw [zBu h,zBu h]
 cases hv:(Qe.is ts q true [105,110,116] || Qe.is ts q true [98,111,111,108]) with
 | true =>
   have hq:q.E = 0 ∧ 0 ≤ q.k ∧ q.k < (ts.length:Int):=by
    rw [Bool.or_eq_true] at hv
    rcases hv with hv | hv
    ·exact ⟨(zAV hv).1,(zAV hv).2.1,(zAV hv).2.2.1⟩
    ·exact ⟨(zAV hv).1,(zAV hv).2.1,(zAV hv).2.2.1⟩
   simp only [if_true]
   exact ⟨h.next,fun _ => by rw [zO h hq.1],zAe hl hq.2.1 hq.2.2⟩
 | false =>
   simp only [Bool.false_eq_true,if_false]
   exact ⟨h.name,fun h0 => (name_live hl h h0).1,zBp hl h⟩
theorem zHa {ts:List RT}(hl:ts.length ≤ 900000000):∀ (n:Nat){s:St}{q:Q},Rel s q → Rel ⟨Pe.shut ts n s.c,s.o⟩ (Qe.shut ts n q) ∧ Adv0 ts q (Qe.shut ts n q)
 | 0,s,q,h => ⟨h,Adv0.refl _ _⟩
 | n + 1,s,q,h => by
   rw [Pe.shut,Qe.shut]
   obtain ⟨i1,i2⟩:=zHa hl n (h.sign (ts:=ts) [93])
   exact ⟨i1,((zAz hl q false [93]).then0 i2).to0⟩
theorem zCV {ts:List RT}:∀ (n:Nat){c:Cs},c.E ≠ 0 → (Pe.shut ts n c).E = c.E ∧ (Pe.shut ts n c).F = c.F
 | 0,_,_ => ⟨rfl,rfl⟩
 | n + 1,c,h => by
   rw [Pe.shut,Pe.sign_dead h]
   exact zCV n (c:=Pe.next c) h
theorem zEo {ts:List RT}{c:Cs}(h:c.E ≠ 0):(Pe.name ts c).2 = Pe.next c:=by
 unfold Pe.name Pe.failUnless
 rw [Pe.peek_dead h]
 have:decide (RT.none.kind = 1) = false:=by decide
 simp only [this,Bool.false_eq_true,if_false]
 rw [Pe.fail_dead h]
theorem zEp {ts:List RT}{c:Cs}(h:c.E ≠ 0):(Pe.base ts c).2 = Pe.next c:=by
 unfold Pe.base
 have h1:∀ t,Pe.sees ts c 3 t = false:=fun t => by unfold Pe.sees; rw [Pe.peek_dead h]; rfl
 rw [h1,h1]
 exact zEo h
theorem zDg {ts:List RT}(hl:ts.length ≤ 900000000){s:St}{q:Q}(h:Rel s q):Rel ⟨(Pe.readType ts s.c).2.2,s.o⟩ (Qe.of ts q).2.2 ∧
 ((Qe.of ts q).2.2.E = 0 → (Pe.readType ts s.c).1 = (Qe.of ts q).1 ∧ (Pe.readType ts s.c).2.1 = (Qe.of ts q).2.1) ∧ Adv ts q (Qe.of ts q).2.2:=by
 obtain ⟨d1,d2,d3,d4⟩:=zFn hl 3 h
 unfold Pe.readType Qe.of
 cases hd:(Qe.dims ts 3 q).1 with
 | none =>
   have hE:=d3 hd
   have hE2:(Pe.dims ts 3 s.c).2.E ≠ 0:=by rw [d1.E]; exact hE
   have hb:=zEp (ts:=ts) hE2
   have hs:=zCV (ts:=ts) (Pe.dims ts 3 s.c).1 (c:=Pe.next (Pe.dims ts 3 s.c).2) hE2
   dsimp only
   rw [hb]
   exact ⟨Rel.dead (hs.1.trans d1.E) (hs.2.trans d1.F) hE,fun h0 => absurd h0 hE,fun h0 => absurd h0 hE⟩
 | some d =>
   have hdd:=d2 d hd
   dsimp only
   rw [hdd]
   obtain ⟨b1,b2,b3⟩:=zMM hl d1
   obtain ⟨s1,s2⟩:=zHa hl d b1
   refine ⟨s1,fun h0 => ⟨b2 (s2 h0).1,rfl⟩,d4.then (b3.then0 s2)⟩
end Sim
end Go.Proofs.YteadgahhchlgeaaDoor
namespace Go.Proofs.YteadgahhchlgeaaDoor
namespace Sim
open Go.RowKit
open Px (RT tokAt isT)
open Pe (Ex Cs St inc dec)
open Qe (Q)
def N (ts:List RT)(q:Q):Nat:=if q.E = 0 ∧ 0 ≤ q.k then ((ts.length:Int) - q.k).toNat else 0
theorem zKZ {ts:List RT}{q:Q}(h:q.E ≠ 0):N ts q = 0:=if_neg (fun hh => h hh.1)
theorem N_is {ts:List RT}{q:Q}{wd:Bool}{t:List UInt8}(h:Qe.is ts q wd t = true) : 1 ≤ N ts q:=by
 obtain ⟨h1,h2,h3,-,-⟩:=zAV h
 unfold N
 rw [if_pos ⟨h1,h2⟩]
 omega
theorem zGh {ts:List RT}{q:Q}(h1:q.E = 0)(h:(tokAt ts q.k).kind ≠ 0) : 1 ≤ N ts q:=by
 obtain ⟨h2,h3⟩:=zBj h
 unfold N
 rw [if_pos ⟨h1,h2⟩]
 omega
theorem N_lt {ts:List RT}{q q':Q}(h:q'.E = 0 → q.E = 0 ∧ 0 ≤ q.k ∧ q.k < q'.k)(h1 : 1 ≤ N ts q):N ts q' < N ts q:=by
 by_cases h0:q'.E = 0
 ·obtain ⟨a,b,c⟩:=h h0
  unfold N at h1 ⊢
  rw [if_pos ⟨a,b⟩] at h1
  rw [if_pos (show q'.E = 0 ∧ 0 ≤ q'.k from ⟨h0,by omega⟩),if_pos (show q.E = 0 ∧ 0 ≤ q.k from ⟨a,b⟩)]
  omega
 ·rw [zKZ h0]; exact h1
theorem zB9 {ts:List RT}{q q':Q}(h:Adv ts q q')(h1 : 1 ≤ N ts q):N ts q' < N ts q:=N_lt (fun h0 => ⟨(h h0).1,(h h0).2.1,(h h0).2.2.1⟩) h1
theorem zCp {ts:List RT}{q q':Q}(h:Adv0 ts q q'):N ts q' ≤ N ts q:=by
 by_cases h0:q'.E = 0
 ·obtain ⟨a,-,c⟩:=h h0
  unfold N
  rcases c with c | ⟨c1,c2,c3⟩
  ·by_cases hk : 0 ≤ q.k
   ·rw [if_pos ⟨h0,by omega⟩,if_pos ⟨a,hk⟩]; omega
   ·rw [if_neg (by omega)]; exact Nat.zero_le _
  ·rw [if_pos ⟨h0,by omega⟩,if_pos ⟨a,c1⟩]; omega
 ·rw [zKZ h0]; exact Nat.zero_le _
theorem zFu {ts:List RT}(hl:ts.length ≤ 900000000){s:St}{q:Q}(h:Rel s q)(t:List UInt8){M:Nat}(hM:N ts q ≤ M)(hM1 : 1 ≤ M):N ts (Qe.opens ts q t) < M:=by
 by_cases h0:(Qe.opens ts q t).E = 0
 ·obtain ⟨e,-,a,b,c⟩:=zA0 hl h h0
  have h1 : 1 ≤ N ts q:=by unfold N; rw [if_pos ⟨a,b⟩]; omega
  have:=N_lt (ts:=ts) (q:=q) (q':=Qe.opens ts q t) (fun _ => ⟨a,b,by rw [e]; exact Int.lt_succ q.k⟩) h1
  omega
 ·rw [zKZ h0]; exact hM1
def Same (ts:List RT)(x:Option (Ex × St))(y:Option (Ex × Q))(q:Q):Prop:=∃ e t e' t',x = some (e,t) ∧ y = some (e',t') ∧ Rel t t' ∧ Adv ts q t' ∧ (t'.E = 0 → e = e')
def Same0 (ts:List RT)(x:Option (Ex × St))(y:Option (Ex × Q))(q:Q):Prop:=∃ e t e' t',x = some (e,t) ∧ y = some (e',t') ∧ Rel t t' ∧ Adv0 ts q t' ∧ (t'.E = 0 → e = e')
def RecGood (ts:List RT)(M:Nat)(recP:Nat → St → Pe.Out)(recQ:Nat → Q → Qe.Out):Prop:=∀ (s:St)(q:Q),Rel s q → N ts q < M → ∀ n,n ≤ 5 → Same ts (recP (n + 1) s) (recQ n q) q
def RecGoodU (ts:List RT)(M:Nat)(recU:St → Pe.Out)(recQ:Nat → Q → Qe.Out):Prop:=∀ (s:St)(q:Q),Rel s q → N ts q < M → Same ts (recU s) (recQ 5 q) q
theorem zCX {ts:List RT}(hl:ts.length ≤ 900000000){s:St}{q t':Q}(h:Rel s q){t:List UInt8}(ha:Adv ts (Qe.opens ts q t) t')(h0:t'.E = 0):(Qe.opens ts q t).E = 0 ∧ t'.o = q.o + 1 ∧ q.o < 50 ∧ 0 ≤ q.o ∧ q.E = 0 ∧ 0 ≤ q.k ∧ q.k + 1 < t'.k ∧ t'.k ≤ (ts.length:Int):=by
 obtain ⟨a,b,c,d,e⟩:=ha h0
 obtain ⟨o1,o2,o3,o4,o5⟩:=zA0 hl h a
 rw [o1] at b c e
 exact ⟨a,e,o2,(h.live o3).2.2,o3,o4,c,d⟩
theorem zHH {ts:List RT}(hl:ts.length ≤ 900000000){M:Nat}{recP:Nat → St → Pe.Out}{recQ:Nat → Q → Qe.Out}(hg:RecGood ts M recP recQ){s:St}{q:Q}(h:Rel s q)(hM:N ts q ≤ M)(hM1 : 1 ≤ M)(a b:List UInt8) :
 Same ts (Pe.enclosed ts recP s a b) (match recQ 0 (Qe.opens ts q a) with | none => none | some (e,s2) => some (e,Qe.closes ts s2 b)) q:=by
 obtain ⟨e,t,e',t',h1,h2,h3,h4,h5⟩:=hg _ _ (h.enter (ts:=ts) a) (zFu hl h a hM hM1) 0 (by decide)
 unfold Pe.enclosed
 rw [h1,h2]
 have ho:t'.E = 0 → 1 ≤ t'.o ∧ t'.o ≤ 50:=fun h0 => by
  obtain ⟨-,o1,o2,o3,-⟩:=zCX hl h h4 h0
  omega
 refine ⟨e,_,e',_,rfl,rfl,h3.leave b ho,fun h0 => ?_,fun h0 => ?_⟩
 ·obtain ⟨c1,c2,c3,c4⟩:=zAD hl ho h0
  obtain ⟨-,o1,o2,o3,o4,o5,o6,o7⟩:=zCX hl h h4 c2
  rw [c1]
  refine ⟨o4,o5,?_,?_,?_⟩ <;> show _ <;> dsimp only <;> omega
 ·exact h5 (zAD hl ho h0).2.1
theorem zDL {ts:List RT}(hl:ts.length ≤ 900000000){M:Nat}{recP:Nat → St → Pe.Out}{recQ:Nat → Q → Qe.Out}(hg:RecGood ts M recP recQ){s:St}{q:Q}(h:Rel s q)(hM:N ts q ≤ M)(hM1 : 1 ≤ M):Same ts (Pe.enclosed ts recP s [40] [41]) (Qe.inner ts recQ q) q:=zHH hl hg h hM hM1 [40] [41]
theorem zKL {ts:List RT}(hl:ts.length ≤ 900000000){s:St}{q:Q}(h:Rel s q){t:List UInt8}(h0:(Qe.opens ts q t).E = 0):(Pe.enter ts s t).1 = tokAt ts q.k:=by
 obtain ⟨-,o2,o3,o4,o5⟩:=zA0 hl h h0
 have hv:Qe.is ts q false t = true:=by
  cases hv:Qe.is ts q false t with
  | true => rfl
  | false => exact absurd h0 (by unfold Qe.opens Qe.take; rw [hv]; simp only [Bool.false_and,Bool.false_eq_true,if_false]; exact fail_dead (by decide))
 have hs:¬ s.o = 50:=by rw [(h.live o3).2.1]; omega
 unfold Pe.enter
 rw [zN h,hv]
 simp only [hs,decide_false,Bool.and_false,Bool.false_eq_true,if_false]
 unfold Pe.sign Pe.failUnless
 rw [zN h,hv]
 exact zO h o3
theorem zJT {ts:List RT}(hl:ts.length ≤ 900000000){M:Nat}{recU:St → Pe.Out}{recQ:Nat → Q → Qe.Out}(hg:RecGoodU ts M recU recQ){s:St}{q:Q}(h:Rel s q)(hM:N ts q ≤ M)(hM1 : 1 ≤ M)(t:List UInt8)(kind:Int) :
 Same ts (Pe.prefixed ts recU s t kind) (Qe.prefixed ts recQ q t kind) q:=by
 obtain ⟨e,u,e',u',h1,h2,h3,h4,h5⟩:=hg _ _ (h.enter (ts:=ts) t) (zFu hl h t hM hM1)
 unfold Pe.prefixed Qe.prefixed
 rw [h1,h2]
 refine ⟨_,_,_,_,rfl,rfl,⟨h3.E,h3.F,fun h0 => ?_⟩,fun h0 => ?_,fun h0 => ?_⟩
 ·obtain ⟨-,o1,o2,o3,-⟩:=zCX hl h h4 h0
  have hk:=h3.live h0
  refine ⟨hk.1,?_,?_⟩
  ·show dec u.o = min (dec u'.o) 50
   rw [hk.2.1,dec_eq (by omega) (by omega),dec_eq (by omega) (by omega)]
   omega
  ·show 0 ≤ dec u'.o
   rw [dec_eq (by omega) (by omega)]
   omega
 ·obtain ⟨-,o1,o2,o3,o4,o5,o6,o7⟩:=zCX hl h h4 h0
  refine ⟨o4,o5,by show q.k < u'.k; omega,o7,?_⟩
  show dec u'.o = q.o
  rw [dec_eq (by omega) (by omega)]
  omega
 ·have h0':u'.E = 0:=h0
  rw [h5 h0',zKL hl h (h4 h0').1]
theorem zD3 {ts:List RT}(hl:ts.length ≤ 900000000){M:Nat}{recP:Nat → St → Pe.Out}{recQ:Nat → Q → Qe.Out}(hg:RecGood ts M recP recQ):∀ (g g':Nat){l l':List Ex}{s:St}{q:Q},Rel s q → N ts q < g → N ts q < g' → N ts q ≤ M → (q.E = 0 → l = l') →
 ∃ m t m' t',Pe.argLoop ts recP g l s = some (m,t) ∧ Qe.argLoop ts recQ g' l' q = some (m',t') ∧ Rel t t' ∧ Adv0 ts q t' ∧ (t'.E = 0 → m = m')
 | 0,_,_,_,_,_,_,h,_,_,_ => absurd h (Nat.not_lt_zero _)
 | _,0,_,_,_,_,_,_,h,_,_ => absurd h (Nat.not_lt_zero _)
 | g + 1,g' + 1,l,l',s,q,h,hN,hN',hM,hll => by
   rw [Pe.argLoop,Qe.argLoop,zN h]
   cases hv:Qe.is ts q false [44] with
   | false =>
     simp only [Bool.false_eq_true,if_false]
     exact ⟨l,s,l',q,rfl,rfl,h,Adv0.refl _ _,hll⟩
   | true =>
     obtain ⟨i1,i2,i3,-,-⟩:=zAV hv
     have hp:=N_is hv
     have ha:=zAe hl i2 i3
     have hn:=zB9 ha hp
     simp only [if_true]
     obtain ⟨e,t,e',t',h1,h2,h3,h4,h5⟩:=hg _ _ h.next (by omega) 0 (by decide)
     rw [h1,h2]
     have hn2:=zCp h4.to0
     obtain ⟨m,u,m',u',j1,j2,j3,j4,j5⟩:=zD3 hl hg g g' (l:=l ++ [e]) (l':=l' ++ [e']) h3 (by omega) (by omega) (by omega) (fun h0 => by rw [h5 h0,hll i1])
     exact ⟨m,u,m',u',j1,j2,j3,((ha.trans h4).then0 j4).to0,j5⟩
theorem zMN {ts:List RT}(hl:ts.length ≤ 900000000){M:Nat}{recP:Nat → St → Pe.Out}{recQ:Nat → Q → Qe.Out}(hg:RecGood ts M recP recQ){s:St}{q:Q}(h:Rel s q)(hM:N ts q ≤ M)(hM1 : 1 ≤ M)(g g':Nat)(hgM:M < g)(hgM':M < g') :
 ∃ m t m' t',Pe.args ts recP g s = some (m,t) ∧ Qe.args ts recQ g' q = some (m',t') ∧ Rel t t' ∧ Adv ts q t' ∧ (t'.E = 0 → m = m'):=by
 have he:=h.enter (ts:=ts) [40]
 have hN:=zFu hl h [40] hM hM1
 unfold Pe.args Qe.args
 rw [zN he]
 cases hv:Qe.is ts (Qe.opens ts q [40]) false [41] with
 | true =>
   obtain ⟨i1,i2,i3,i4,i5⟩:=zAV hv
   obtain ⟨o1,o2,o3,o4,o5⟩:=zA0 hl h i1
   have ho:(Qe.opens ts q [40]).E = 0 → 1 ≤ (Qe.opens ts q [40]).o ∧ (Qe.opens ts q [40]).o ≤ 50:=fun _ => by
    have:=(h.live o3).2.2
    rw [o1]; dsimp only; omega
   obtain ⟨g1,rfl⟩:∃ g1,g = g1 + 1:=⟨g - 1,by omega⟩
   have hc:Qe.is ts (Qe.opens ts q [40]) false [44] = false:=by
    cases hc:Qe.is ts (Qe.opens ts q [40]) false [44] with
    | false => rfl
    | true => have:=(zAV hc).2.2.2.2; rw [i5] at this; exact absurd this (by decide)
   simp only [if_true]
   rw [Pe.argLoop,zN he,hc]
   simp only [Bool.false_eq_true,if_false]
   refine ⟨_,_,_,_,rfl,rfl,he.leave [41] ho,fun h0 => ?_,fun _ => rfl⟩
   obtain ⟨c1,c2,c3,c4⟩:=zAD hl ho h0
   rw [c1,o1]
   rw [o1] at c3 c4
   refine ⟨o3,o4,?_,?_,?_⟩ <;> show _ <;> dsimp only at c4 ⊢ <;> omega
 | false =>
   simp only [Bool.false_eq_true,if_false]
   obtain ⟨e,t,e',t',h1,h2,h3,h4,h5⟩:=hg _ _ he hN 0 (by decide)
   rw [h1,h2]
   have hn2:=zCp h4.to0
   obtain ⟨m,u,m',u',j1,j2,j3,j4,j5⟩:=zD3 hl hg g g' (l:=[e]) (l':=[e']) h3 (by omega) (by omega) (by omega) (fun h0 => by rw [h5 h0])
   dsimp only
   rw [j1,j2]
   have ha:=h4.then0 j4
   have ho:u'.E = 0 → 1 ≤ u'.o ∧ u'.o ≤ 50:=fun h0 => by
    obtain ⟨-,o1,o2,o3,-⟩:=zCX hl h ha h0
    omega
   refine ⟨_,_,_,_,rfl,rfl,j3.leave [41] ho,fun h0 => ?_,fun h0 => j5 (zAD hl ho h0).2.1⟩
   obtain ⟨c1,c2,c3,c4⟩:=zAD hl ho h0
   obtain ⟨-,o1,o2,o3,o4,o5,o6,o7⟩:=zCX hl h ha c2
   rw [c1]
   refine ⟨o4,o5,?_,?_,?_⟩ <;> show _ <;> dsimp only <;> omega
end Sim
end Go.Proofs.YteadgahhchlgeaaDoor
namespace Go.Proofs.YteadgahhchlgeaaDoor
namespace Sim
open Go.RowKit
open Px (RT tokAt isT)
open Pe (Ex Cs St inc dec)
open Qe (Q)
theorem zQB {ts:List RT}{q:Q}(hq:q.E = 0)(wd:Bool)(t:List UInt8):Qe.is ts q wd t = (decide ((tokAt ts q.k).kind = (if wd then 3 else 4)) && (tokAt ts q.k).text == t):=by
 unfold Qe.is isT
 rw [hq]; rfl
theorem zCy {ts:List RT}{q:Q}(hq:q.E ≠ 0)(wd:Bool)(t:List UInt8):Qe.is ts q wd t = false:=by
 unfold Qe.is
 rw [show (q.E == 0) = false by simpa using hq]; rfl
theorem is_kind {ts:List RT}{q:Q}{wd:Bool}(h:(tokAt ts q.k).kind ≠ (if wd then 3 else 4))(t:List UInt8):Qe.is ts q wd t = false:=by
 unfold Qe.is isT
 simp [h]
theorem zEz {ts:List RT}{q:Q}{wd:Bool}{t:List UInt8}(hq:q.E = 0)(h:(tokAt ts q.k).kind = (if wd then 3 else 4))(h2:(tokAt ts q.k).text = t):Qe.is ts q wd t = true:=by
 rw [zQB hq]
 simp [h,h2]
theorem is_text {ts:List RT}{q:Q}{wd:Bool}{t:List UInt8}(h2:(tokAt ts q.k).text ≠ t):Qe.is ts q wd t = false:=by
 unfold Qe.is isT
 simp [h2]
theorem zMo {ts:List RT}{recQ:Nat → Q → Qe.Out}{g:Nat}{q:Q}(hn:¬ (q.E = 0 ∧ (tokAt ts q.k).kind = 2))(h0:Qe.is ts q true [116,114,117,101] = true):Qe.first ts recQ g q = some (Ex.of 2 1 [] [] 0 [] (tokAt ts q.k).at_,Qe.next q):=by
 dsimp only [Qe.first]
 rw [if_neg hn,if_pos h0]
theorem zMn {ts:List RT}{recQ:Nat → Q → Qe.Out}{g:Nat}{q:Q}(hn:¬ (q.E = 0 ∧ (tokAt ts q.k).kind = 2))(h0:Qe.is ts q true [116,114,117,101] = false)(h1:Qe.is ts q true [102,97,108,115,101] = true):Qe.first ts recQ g q = some (Ex.of 2 0 [] [] 0 [] (tokAt ts q.k).at_,Qe.next q):=by
 dsimp only [Qe.first]
 rw [if_neg hn,if_neg (by rw [h0]; decide),if_pos h1]
theorem zMm {ts:List RT}{recQ:Nat → Q → Qe.Out}{g:Nat}{q:Q}(hn:¬ (q.E = 0 ∧ (tokAt ts q.k).kind = 2))(h0:Qe.is ts q true [116,114,117,101] = false)(h1:Qe.is ts q true [102,97,108,115,101] = false)(h2:Qe.is ts q true [110,117,108,108] = true):Qe.first ts recQ g q = some (Ex.of 3 0 [] (Qe.of ts (Qe.next q)).1 (Qe.of ts (Qe.next q)).2.1 [] (tokAt ts q.k).at_,(Qe.of ts (Qe.next q)).2.2):=by
 dsimp only [Qe.first]
 rw [if_neg hn,if_neg (by rw [h0]; decide),if_neg (by rw [h1]; decide),if_pos h2]
theorem zMl {ts:List RT}{recQ:Nat → Q → Qe.Out}{g:Nat}{q:Q}(hn:¬ (q.E = 0 ∧ (tokAt ts q.k).kind = 2))(h0:Qe.is ts q true [116,114,117,101] = false)(h1:Qe.is ts q true [102,97,108,115,101] = false)(h2:Qe.is ts q true [110,117,108,108] = false)(h3:Qe.is ts q true [110,101,119] = true):Qe.first ts recQ g q = Qe.fresh ts recQ (Qe.next q) (tokAt ts q.k).at_:=by
 dsimp only [Qe.first]
 rw [if_neg hn,if_neg (by rw [h0]; decide),if_neg (by rw [h1]; decide),if_neg (by rw [h2]; decide),if_pos h3]
theorem zMk {ts:List RT}{recQ:Nat → Q → Qe.Out}{g:Nat}{q:Q}(hn:¬ (q.E = 0 ∧ (tokAt ts q.k).kind = 2))(h0:Qe.is ts q true [116,114,117,101] = false)(h1:Qe.is ts q true [102,97,108,115,101] = false)(h2:Qe.is ts q true [110,117,108,108] = false)(h3:Qe.is ts q true [110,101,119] = false)(h4:Qe.is ts q true [108,101,110] = true):Qe.first ts recQ g q = (match Qe.inner ts recQ (Qe.next q) with | none => none | some (e,s2) => some (Ex.of 10 0 [] [] 0 [e] (tokAt ts q.k).at_,s2)):=by
 dsimp only [Qe.first]
 rw [if_neg hn,if_neg (by rw [h0]; decide),if_neg (by rw [h1]; decide),if_neg (by rw [h2]; decide),if_neg (by rw [h3]; decide),if_pos h4]
 rfl
theorem zMj {ts:List RT}{recQ:Nat → Q → Qe.Out}{g:Nat}{q:Q}(hn:¬ (q.E = 0 ∧ (tokAt ts q.k).kind = 2))(h0:Qe.is ts q true [116,114,117,101] = false)(h1:Qe.is ts q true [102,97,108,115,101] = false)(h2:Qe.is ts q true [110,117,108,108] = false)(h3:Qe.is ts q true [110,101,119] = false)(h4:Qe.is ts q true [108,101,110] = false)(h5:Qe.is ts q true [114,101,97,100] = true):Qe.first ts recQ g q = some (Ex.of 11 0 [] [] 0 [] (tokAt ts q.k).at_,Qe.closes ts (Qe.opens ts (Qe.next q) [40]) [41]):=by
 dsimp only [Qe.first]
 rw [if_neg hn,if_neg (by rw [h0]; decide),if_neg (by rw [h1]; decide),if_neg (by rw [h2]; decide),if_neg (by rw [h3]; decide),if_neg (by rw [h4]; decide),if_pos h5]
theorem zOy {ts:List RT}{recQ:Nat → Q → Qe.Out}{g:Nat}{q:Q}(hn:¬ (q.E = 0 ∧ (tokAt ts q.k).kind = 2))(h0:Qe.is ts q true [116,114,117,101] = false)(h1:Qe.is ts q true [102,97,108,115,101] = false)(h2:Qe.is ts q true [110,117,108,108] = false)(h3:Qe.is ts q true [110,101,119] = false)(h4:Qe.is ts q true [108,101,110] = false)(h5:Qe.is ts q true [114,101,97,100] = false)(h6:Qe.is ts q false [40] = true):Qe.first ts recQ g q = Qe.inner ts recQ q:=by
 dsimp only [Qe.first]
 rw [if_neg hn,if_neg (by rw [h0]; decide),if_neg (by rw [h1]; decide),if_neg (by rw [h2]; decide),if_neg (by rw [h3]; decide),if_neg (by rw [h4]; decide),if_neg (by rw [h5]; decide),if_pos h6]
theorem zOz {ts:List RT}{recQ:Nat → Q → Qe.Out}{g:Nat}{q:Q}(hn:¬ (q.E = 0 ∧ (tokAt ts q.k).kind = 2))(h0:Qe.is ts q true [116,114,117,101] = false)(h1:Qe.is ts q true [102,97,108,115,101] = false)(h2:Qe.is ts q true [110,117,108,108] = false)(h3:Qe.is ts q true [110,101,119] = false)(h4:Qe.is ts q true [108,101,110] = false)(h5:Qe.is ts q true [114,101,97,100] = false)(h6:Qe.is ts q false [40] = false):Qe.first ts recQ g q = (if Qe.is ts (Qe.name ts q).2 false [40] then (match Qe.args ts recQ g (Qe.name ts q).2 with | none => none | some (l,s2) => some (Ex.of 7 0 (Qe.name ts q).1 [] 0 l (tokAt ts q.k).at_,s2)) else some (Ex.of 4 0 (Qe.name ts q).1 [] 0 [] (tokAt ts q.k).at_,(Qe.name ts q).2)):=by
 dsimp only [Qe.first]
 rw [if_neg hn,if_neg (by rw [h0]; decide),if_neg (by rw [h1]; decide),if_neg (by rw [h2]; decide),if_neg (by rw [h3]; decide),if_neg (by rw [h4]; decide),if_neg (by rw [h5]; decide),if_neg (by rw [h6]; decide)]
 rfl
theorem zOA {ts:List RT}{recQ:Nat → Q → Qe.Out}{g:Nat}{q:Q}(hn:q.E = 0 ∧ (tokAt ts q.k).kind = 2):Qe.first ts recQ g q = some (Ex.of 1 (tokAt ts q.k).num [] [] 0 [] (tokAt ts q.k).at_,Qe.next q):=by
 dsimp only [Qe.first]
 rw [if_pos hn]
theorem zBo {ts:List RT}{recQ:Nat → Q → Qe.Out}{g:Nat}{q:Q}(h2:¬ (q.E = 0 ∧ (tokAt ts q.k).kind = 2))(h1:¬ (q.E = 0 ∧ (tokAt ts q.k).kind = 1))(hw:∀ t,t = [116,114,117,101] ∨ t = [102,97,108,115,101] ∨ t = [110,117,108,108] ∨ t = [110,101,119] ∨ t = [108,101,110] ∨ t = [114,101,97,100] → Qe.is ts q true t = false)(hs:Qe.is ts q false [40] = false) :
 ∃ e,Qe.first ts recQ g q = some (e,Qe.fail ts q 2):=by
 have hn:Qe.name ts q = ([],Qe.fail ts q 2):=if_neg h1
 have hd:Qe.is ts (Qe.fail ts q 2) false [40] = false:=zCy (fail_dead (by decide)) _ _
 dsimp only [Qe.first]
 rw [if_neg h2,hw _ (.inl rfl),hw _ (.inr (.inl rfl)),hw _ (.inr (.inr (.inl rfl))),hw _ (.inr (.inr (.inr (.inl rfl)))),hw _ (.inr (.inr (.inr (.inr (.inl rfl))))),hw _ (.inr (.inr (.inr (.inr (.inr rfl))))),hs,hn]
 simp only [Bool.false_eq_true,if_false,hd]
 exact ⟨_,rfl⟩
theorem zHR (ts:List RT)(q:Q):Adv ts q (Qe.fail ts q 2):=fun h0 => absurd h0 (fail_dead (by decide))
theorem zCt {ts:List RT}{s:St}{q:Q}(h:Rel s q){y:Qe.Out}(hy:∃ e,y = some (e,Qe.fail ts q 2)):Same ts (some (Pe.refuse ts s)) y q:=by
 obtain ⟨e,rfl⟩:=hy
 exact ⟨_,_,e,_,rfl,rfl,h.fail (by decide),zHR ts q,fun h0 => absurd h0 (fail_dead (by decide))⟩
theorem zKG {ts:List RT}(hl:ts.length ≤ 900000000){M:Nat}{recP:Nat → St → Pe.Out}{recQ:Nat → Q → Qe.Out}(hg:RecGood ts M recP recQ)(hdd:∀ s:St,s.c.E ≠ 0 → recP 1 s = some (Ex.zero,s)){s:St}{q:Q}(h:Rel s q)(hM:N ts q ≤ M)(g g':Nat)(hgM:M < g)(hgM':M < g') :
 Same ts (Pe.primary ts recP g s) (Qe.first ts recQ g' q) q:=by
 dsimp only [Pe.primary]
 by_cases hq:q.E = 0
 case neg =>
  rw [peek_dead h hq]
  have h0:RT.none.kind = 0:=rfl
  simp only [h0]
  rw [if_neg (by decide),if_neg (by decide),if_neg (by decide),if_neg (by decide)]
  exact zCt h (zBo (fun hh => hq hh.1) (fun hh => hq hh.1) (fun t _ => zCy hq _ _) (zCy hq _ _))
 case pos =>
  rw [zO h hq]
  have hpk:=zO (ts:=ts) h hq
  by_cases k1:(tokAt ts q.k).kind = 1
  ·rw [if_pos k1]
   have hM1 : 1 ≤ M:=Nat.le_trans (zGh hq (by rw [k1]; decide)) hM
   have hw:∀ t,Qe.is ts q true t = false:=fun t => is_kind (by rw [k1]; decide) t
   have hs:∀ t,Qe.is ts q false t = false:=fun t => is_kind (by rw [k1]; decide) t
   have hnm:(Qe.name ts q).2.E = 0:=by unfold Qe.name; rw [if_pos ⟨hq,k1⟩]; exact hq
   obtain ⟨n1,n2,n3,n4,n5⟩:=name_live hl h hnm
   have hr:=h.name (ts:=ts)
   have hadv:=zBp hl h
   have hN:=zB9 hadv (zGh hq (by rw [k1]; decide))
   rw [zOz (fun hh => by rw [k1] at hh; exact absurd hh.2 (by decide)) (hw _) (hw _) (hw _) (hw _) (hw _) (hw _) (hs _)]
   dsimp only [Pe.varOrCall]
   rw [show Pe.sees ts (Pe.name ts s.c).2 4 [40] = Qe.is ts (Qe.name ts q).2 false [40] from zN hr [40],hpk,n1]
   cases hv:Qe.is ts (Qe.name ts q).2 false [40] with
   | true =>
     obtain ⟨m,t,m',t',j1,j2,j3,j4,j5⟩:=zMN hl hg hr (by omega) hM1 g g' hgM hgM'
     simp only [if_true]
     rw [j1,j2]
     exact ⟨_,_,_,_,rfl,rfl,j3,hadv.trans j4,fun h0 => by rw [j5 h0]⟩
   | false =>
     simp only [Bool.false_eq_true,if_false]
     exact ⟨_,_,_,_,rfl,rfl,hr,hadv,fun _ => rfl⟩
  ·rw [if_neg k1]
   by_cases k2:(tokAt ts q.k).kind = 2
   ·rw [if_pos k2]
    rw [zOA ⟨hq,k2⟩]
    unfold Pe.number
    rw [hpk]
    obtain ⟨i1,i2⟩:=zBj (ts:=ts) (k:=q.k) (by rw [k2]; decide)
    exact ⟨_,_,_,_,rfl,rfl,h.next,zAe hl i1 i2,fun _ => rfl⟩
   ·rw [if_neg k2]
    have hn2:¬ (q.E = 0 ∧ (tokAt ts q.k).kind = 2):=fun hh => k2 hh.2
    have hn1:¬ (q.E = 0 ∧ (tokAt ts q.k).kind = 1):=fun hh => k1 hh.2
    by_cases k3:(tokAt ts q.k).kind = 3
    ·rw [if_pos k3]
     have hp:=zGh (ts:=ts) hq (by rw [k3]; decide)
     have hM1 : 1 ≤ M:=Nat.le_trans hp hM
     obtain ⟨i1,i2⟩:=zBj (ts:=ts) (k:=q.k) (by rw [k3]; decide)
     have hadv:=zAe hl i1 i2
     have hN:=zB9 hadv hp
     have hs:∀ t,Qe.is ts q false t = false:=fun t => is_kind (by rw [k3]; decide) t
     have hy:∀ t,(tokAt ts q.k).text = t → Qe.is ts q true t = true:=fun t ht => zEz hq k3 ht
     have hno:∀ t,(tokAt ts q.k).text ≠ t → Qe.is ts q true t = false:=fun t ht => is_text ht
     dsimp only [Pe.keyword]
     rw [hpk]
     by_cases t1:(tokAt ts q.k).text = [116,114,117,101]
     ·rw [if_pos t1]
      rw [zMo hn2 (hy _ t1)]
      dsimp only [Pe.truth]
      rw [hpk,if_pos t1]
      exact ⟨_,_,_,_,rfl,rfl,h.next,hadv,fun _ => rfl⟩
     rw [if_neg t1]
     by_cases t2:(tokAt ts q.k).text = [102,97,108,115,101]
     ·rw [if_pos t2]
      rw [zMn hn2 (hno _ t1) (hy _ t2)]
      dsimp only [Pe.truth]
      rw [hpk,if_neg t1]
      exact ⟨_,_,_,_,rfl,rfl,h.next,hadv,fun _ => rfl⟩
     rw [if_neg t2]
     by_cases t3:(tokAt ts q.k).text = [110,117,108,108]
     ·rw [if_pos t3]
      rw [zMm hn2 (hno _ t1) (hno _ t2) (hy _ t3)]
      dsimp only [Pe.null]
      rw [hpk]
      obtain ⟨o1,o2,o3⟩:=zDg hl h.next
      dsimp only at o1 o2
      exact ⟨_,_,_,_,rfl,rfl,o1,hadv.trans o3,fun h0 => by rw [(o2 h0).1,(o2 h0).2]⟩
     rw [if_neg t3]
     by_cases t4:(tokAt ts q.k).text = [110,101,119]
     ·rw [if_pos t4]
      rw [zMl hn2 (hno _ t1) (hno _ t2) (hno _ t3) (hy _ t4)]
      dsimp only [Pe.creation,Qe.fresh]
      rw [hpk]
      rw [show Pe.sees ts (Pe.next s.c) 4 [91] = Qe.is ts (Qe.next q) false [91] from zN h.next [91]]
      cases hv:Qe.is ts (Qe.next q) false [91] with
      | true =>
        obtain ⟨b1,b2,b3,-,-⟩:=zAV hv
        have hadv2:=zAe hl b2 b3
        have hN2:=zB9 hadv2 (N_is hv)
        obtain ⟨o1,o2,o3⟩:=zDg hl h.next.next
        dsimp only at o1 o2
        have o4:=o1.sign (ts:=ts) [93]
        have o5:=zAz hl (Qe.of ts (Qe.next (Qe.next q))).2.2 false [93]
        have hN3:=zCp (o3.trans o5).to0
        dsimp only at o4
        obtain ⟨e,t,e',t',j1,j2,j3,j4,j5⟩:=zDL hl hg o4 (by omega) hM1
        simp only [if_true]
        rw [j1,j2]
        exact ⟨_,_,_,_,rfl,rfl,j3,((hadv.trans hadv2).trans (o3.trans o5)).trans j4,fun h0 => by rw [j5 h0,(o2 (o5 (j4 h0).1).1).1,(o2 (o5 (j4 h0).1).1).2]⟩
      | false =>
        simp only [Bool.false_eq_true,if_false]
        exact ⟨_,_,_,_,rfl,rfl,h.next.name,hadv.trans (zBp hl h.next),fun h0 => by rw [← (name_live hl h.next h0).1]⟩
     rw [if_neg t4]
     by_cases t5:(tokAt ts q.k).text = [108,101,110]
     ·rw [if_pos t5]
      rw [zMk hn2 (hno _ t1) (hno _ t2) (hno _ t3) (hno _ t4) (hy _ t5)]
      dsimp only [Pe.length]
      rw [hpk]
      obtain ⟨e,t,e',t',j1,j2,j3,j4,j5⟩:=zDL hl hg h.next (by omega) hM1
      rw [j1,j2]
      exact ⟨_,_,_,_,rfl,rfl,j3,hadv.trans j4,fun h0 => by rw [j5 h0]⟩
     rw [if_neg t5]
     by_cases t6:(tokAt ts q.k).text = [114,101,97,100]
     ·rw [if_pos t6]
      rw [zMj hn2 (hno _ t1) (hno _ t2) (hno _ t3) (hno _ t4) (hno _ t5) (hy _ t6)]
      dsimp only [Pe.input]
      rw [hpk]
      have he:=h.next.enter (ts:=ts) [40]
      have ho:(Qe.opens ts (Qe.next q) [40]).E = 0 → 1 ≤ (Qe.opens ts (Qe.next q) [40]).o ∧ (Qe.opens ts (Qe.next q) [40]).o ≤ 50:=fun h0 => by
         obtain ⟨a1,a2,a3,a4,a5⟩:=zA0 hl h.next h0
         have:=(h.next.live a3).2.2
         rw [a1]; dsimp only; omega
      refine ⟨_,_,_,_,rfl,rfl,he.leave [41] ho,hadv.trans fun h0 => ?_,fun _ => rfl⟩
      obtain ⟨c1,c2,c3,c4⟩:=zAD hl ho h0
      obtain ⟨a1,a2,a3,a4,a5⟩:=zA0 hl h.next c2
      rw [c1,a1]
      rw [a1] at c3 c4
      refine ⟨a3,a4,?_,?_,?_⟩ <;> show _ <;> dsimp only at c4 ⊢ <;> omega
     rw [if_neg t6]
     refine zCt h (zBo hn2 hn1 (fun t ht => ?_) (hs _))
     rcases ht with rfl | rfl | rfl | rfl | rfl | rfl
     ·exact hno _ t1
     ·exact hno _ t2
     ·exact hno _ t3
     ·exact hno _ t4
     ·exact hno _ t5
     ·exact hno _ t6
    ·rw [if_neg k3]
     have hw:∀ t,Qe.is ts q true t = false:=fun t => is_kind (by show _ ≠ (3:Int); exact k3) t
     by_cases k4:(tokAt ts q.k).kind = 4
     ·rw [if_pos k4]
      have hp:=zGh (ts:=ts) hq (by rw [k4]; decide)
      have hM1 : 1 ≤ M:=Nat.le_trans hp hM
      cases hv:Qe.is ts q false [40] with
      | true =>
        rw [zOy hn2 (hw _) (hw _) (hw _) (hw _) (hw _) (hw _) hv]
        exact zDL hl hg h hM hM1
      | false =>
        obtain ⟨e',he'⟩:=zBo (recQ:=recQ) (g:=g') hn2 hn1 (fun t _ => hw t) hv
        rw [he']
        have hsn:Pe.sees ts s.c 4 [40] = false:=by rw [zN h]; exact hv
        have hf:=h.fail (ts:=ts) (e:=2) (by decide)
        have hd:(Pe.fail ts s.c 2).E ≠ 0:=by rw [hf.E]; exact fail_dead (by decide)
        have hen:(Pe.enter ts s [40]).2 = ⟨Pe.next (Pe.fail ts s.c 2),inc s.o⟩:=by
          unfold Pe.enter
          rw [hsn]
          simp only [Bool.false_and,Bool.false_eq_true,if_false]
          unfold Pe.sign Pe.failUnless
          rw [hsn]
          rfl
        unfold Pe.enclosed
        rw [hen,hdd _ (show (Pe.next (Pe.fail ts s.c 2)).E ≠ 0 from hd)]
        dsimp only
        have hlv:(Pe.leave ts ⟨Pe.next (Pe.fail ts s.c 2),inc s.o⟩ [41]).c.E = (Pe.fail ts s.c 2).E ∧ (Pe.leave ts ⟨Pe.next (Pe.fail ts s.c 2),inc s.o⟩ [41]).c.F = (Pe.fail ts s.c 2).F:=Pe.leave_dead (s:=⟨Pe.next (Pe.fail ts s.c 2),inc s.o⟩) hd [41]
        exact ⟨_,_,_,_,rfl,rfl,⟨hlv.1.trans hf.E,hlv.2.trans hf.F,fun h0 => absurd h0 (fail_dead (by decide))⟩,zHR ts q,fun h0 => absurd h0 (fail_dead (by decide))⟩
     ·rw [if_neg k4]
      exact zCt h (zBo hn2 hn1 (fun t _ => hw t) (is_kind (by show _ ≠ (4:Int); exact k4) _))
end Sim
end Go.Proofs.YteadgahhchlgeaaDoor
namespace Go.Proofs.YteadgahhchlgeaaDoor
namespace Sim
open Go.RowKit
open Px (RT tokAt isT levelT signsOf)
open Pe (Ex Cs St inc dec)
open Qe (Q)
theorem zC3 {ts:List RT}(hl:ts.length ≤ 900000000){M:Nat}{recP:Nat → St → Pe.Out}{recQ:Nat → Q → Qe.Out}(hg:RecGood ts M recP recQ):∀ (g g':Nat){e e':Ex}{s:St}{q:Q},Rel s q → N ts q < g → N ts q < g' → N ts q ≤ M → (q.E = 0 → e = e') →
 Same0 ts (Pe.sufLoop ts recP g e s) (Qe.behind ts recQ g' e' q) q
 | 0,_,_,_,_,_,_,h,_,_,_ => absurd h (Nat.not_lt_zero _)
 | _,0,_,_,_,_,_,_,h,_,_ => absurd h (Nat.not_lt_zero _)
 | g + 1,g' + 1,e,e',s,q,h,hN,hN',hM,hee => by
   cases hv:Qe.is ts q false [46] with
   | true =>
     obtain ⟨i1,i2,i3,i4,i5⟩:=zAV hv
     have i4:(tokAt ts q.k).kind = 4:=i4
     have hpk:=zO (ts:=ts) h i1
     have hb:Qe.behind ts recQ (g' + 1) e' q = Qe.behind ts recQ g' (Ex.of 5 0 (Qe.name ts (Qe.next q)).1 [] 0 [e'] (tokAt ts q.k).at_) (Qe.name ts (Qe.next q)).2:=by rw [Qe.behind,if_pos hv]
     have hsg:Pe.sign ts s.c [46] = (tokAt ts q.k,Pe.next s.c):=by
       unfold Pe.sign Pe.failUnless
       rw [zN h,hv]
       simp only [if_true]
       rw [hpk]
     have hs:Pe.sufLoop ts recP (g + 1) e s = Pe.sufLoop ts recP g (Ex.of 5 0 (Pe.name ts (Pe.next s.c)).1 [] 0 [e] (tokAt ts q.k).at_) ⟨(Pe.name ts (Pe.next s.c)).2,s.o⟩:=by
       rw [Pe.sufLoop,hpk,if_pos i4,if_pos i5,Pe.field,hsg]
     rw [hb,hs]
     have hadv:=(zAe hl i2 i3).trans (zBp hl h.next)
     have hn:=zB9 hadv (N_is hv)
     obtain ⟨a,t,a',t',j1,j2,j3,j4,j5⟩:=zC3 hl hg g g' (e:=Ex.of 5 0 (Pe.name ts (Pe.next s.c)).1 [] 0 [e] (tokAt ts q.k).at_) (e':=Ex.of 5 0 (Qe.name ts (Qe.next q)).1 [] 0 [e'] (tokAt ts q.k).at_) (h.next.name (ts:=ts)) (by omega) (by omega) (by omega) (fun h0 => by rw [← (name_live hl h.next h0).1,hee i1])
     exact ⟨a,t,a',t',j1,j2,j3,(hadv.then0 j4).to0,j5⟩
   | false =>
     cases hv2:Qe.is ts q false [91] with
     | true =>
       obtain ⟨i1,i2,i3,i4,i5⟩:=zAV hv2
       have i4:(tokAt ts q.k).kind = 4:=i4
       have hpk:=zO (ts:=ts) h i1
       obtain ⟨i,t,i',t',h1,h2,h3,h4,h5⟩:=zHH hl hg h hM (Nat.le_trans (N_is hv2) hM) [91] [93]
       obtain ⟨b,u,hrec,hb1,hb2⟩:∃ b u,recQ 0 (Qe.opens ts q [91]) = some (b,u) ∧ b = i' ∧ Qe.closes ts u [93] = t':=by
        split at h2
        ·cases h2
        ·rename_i b u hbu
         injection h2 with h2
         injection h2 with h2 h2'
         exact ⟨b,u,hbu,h2,h2'⟩
       subst hb1
       have hb:Qe.behind ts recQ (g' + 1) e' q = Qe.behind ts recQ g' (Ex.of 6 0 [] [] 0 [e',b] (tokAt ts q.k).at_) t':=by
        rw [Qe.behind,if_neg (by rw [hv]; decide),if_pos hv2,hrec]
        dsimp only
        rw [hb2]
       have hs:Pe.sufLoop ts recP (g + 1) e s = Pe.sufLoop ts recP g (Ex.of 6 0 [] [] 0 [e,i] (tokAt ts q.k).at_) t:=by
        rw [Pe.sufLoop,hpk,if_pos i4,if_neg (by rw [i5]; decide),if_pos i5,Pe.item,h1,hpk]
       rw [hb,hs]
       have hn:=zB9 h4 (N_is hv2)
       obtain ⟨a,w,a',w',j1,j2,j3,j4,j5⟩:=zC3 hl hg g g' (e:=Ex.of 6 0 [] [] 0 [e,i] (tokAt ts q.k).at_) (e':=Ex.of 6 0 [] [] 0 [e',b] (tokAt ts q.k).at_) h3 (by omega) (by omega) (by omega) (fun h0 => by rw [h5 h0,hee i1])
       exact ⟨a,w,a',w',j1,j2,j3,(h4.then0 j4).to0,j5⟩
     | false =>
       have hb:Qe.behind ts recQ (g' + 1) e' q = some (e',q):=by rw [Qe.behind,if_neg (by rw [hv]; decide),if_neg (by rw [hv2]; decide)]
       have hs:Pe.sufLoop ts recP (g + 1) e s = some (e,s):=by
        rw [Pe.sufLoop]
        by_cases hk:(Pe.peek ts s.c).kind = 4
        ·have hq:q.E = 0:=by
             by_cases hq:q.E = 0
             ·exact hq
             ·rw [peek_dead h hq] at hk; exact absurd hk (by decide)
         have hpk:=zO (ts:=ts) h hq
         rw [hpk] at hk
         rw [hpk,if_pos hk,if_neg (fun ht => by rw [zEz hq hk ht] at hv; cases hv),if_neg (fun ht => by rw [zEz hq hk ht] at hv2; cases hv2)]
        ·rw [if_neg hk]
       exact ⟨e,s,e',q,hs,hb,h,Adv0.refl _ _,hee⟩
theorem zQh {ts:List RT}{s:St}{q:Q}(h:Rel s q){n:Nat}(hn:n ≤ 4):Pe.seesOp ts s.c ((n + 1:Nat):Int) = (if Qe.sign ts q n = 0 then none else some (Qe.sign ts q n)):=by
 unfold Pe.seesOp Qe.sign
 by_cases hq:q.E = 0
 ·rw [if_pos hq]
  have hs:∀ t,Pe.sees ts s.c 4 t = (decide ((tokAt ts q.k).kind = 4) && (tokAt ts q.k).text == t):=fun t => by
   rw [zN h,zQB hq]; rfl
  generalize (tokAt ts q.k) = T at hs
  unfold levelT
  by_cases hk:T.kind = 4
  ·simp only [hk,decide_true,Bool.true_and] at hs
   rw [if_pos hk]
   obtain ⟨tk,tx,tn,ta⟩:=T
   dsimp only at hs ⊢
   match n,hn with
   | 0,_ =>
     by_cases h1:tx = [124,124]
     ·subst h1; simp [Pe.opList,hs,signsOf]
     ·have h1':=Ne.symm h1; simp [Pe.opList,hs,signsOf,h1,h1']
   | 1,_ =>
     by_cases h1:tx = [38,38]
     ·subst h1; simp [Pe.opList,hs,signsOf]
     ·have h1':=Ne.symm h1; simp [Pe.opList,hs,signsOf,h1,h1']
   | 2,_ =>
     by_cases h1:tx = [60]
     ·subst h1; simp [Pe.opList,hs,signsOf]
     ·by_cases h2:tx = [60,61]
      ·subst h2; simp [Pe.opList,hs,signsOf]
      ·by_cases h3:tx = [61,61]
       ·subst h3; simp [Pe.opList,hs,signsOf]
       ·by_cases h4:tx = [33,61]
        ·subst h4; simp [Pe.opList,hs,signsOf]
        ·have h1':=Ne.symm h1; have h2':=Ne.symm h2; have h3':=Ne.symm h3; have h4':=Ne.symm h4
         simp [Pe.opList,hs,signsOf,h1,h1',h2,h2',h3,h3',h4,h4']
   | 3,_ =>
     by_cases h1:tx = [43]
     ·subst h1; simp [Pe.opList,hs,signsOf]
     ·by_cases h2:tx = [45]
      ·subst h2; simp [Pe.opList,hs,signsOf]
      ·have h1':=Ne.symm h1; have h2':=Ne.symm h2
       simp [Pe.opList,hs,signsOf,h1,h1',h2,h2']
   | 4,_ =>
     by_cases h1:tx = [42]
     ·subst h1; simp [Pe.opList,hs,signsOf]
     ·by_cases h2:tx = [47]
      ·subst h2; simp [Pe.opList,hs,signsOf]
      ·by_cases h3:tx = [37]
       ·subst h3; simp [Pe.opList,hs,signsOf]
       ·have h1':=Ne.symm h1; have h2':=Ne.symm h2; have h3':=Ne.symm h3
        simp [Pe.opList,hs,signsOf,h1,h1',h2,h2',h3,h3']
  ·rw [if_neg hk]
   simp only [hk,decide_false,Bool.false_and] at hs
   simp [hs]
 ·rw [if_neg hq]
  have hs:∀ t,Pe.sees ts s.c 4 t = false:=fun t => by rw [zN h,zCy hq]
  simp [hs]
theorem zNE {ts:List RT}{q:Q}{n:Nat}(h:¬ Qe.sign ts q n = 0):q.E = 0 ∧ 0 ≤ q.k ∧ q.k < (ts.length:Int):=by
 unfold Qe.sign at h
 by_cases hq:q.E = 0
 ·rw [if_pos hq] at h
  have hk:(tokAt ts q.k).kind ≠ 0:=fun hk => h (by unfold levelT; rw [hk]; rfl)
  exact ⟨hq,zBj hk⟩
 ·rw [if_neg hq] at h
  exact absurd rfl h
theorem zKV {ts:List RT}(hl:ts.length ≤ 900000000){M:Nat}{recP:Nat → St → Pe.Out}{recQ:Nat → Q → Qe.Out}(hg:RecGood ts M recP recQ){n:Nat}(hn:n ≤ 4):∀ (g g':Nat){e e':Ex}{s:St}{q:Q},Rel s q → N ts q < g → N ts q < g' → N ts q ≤ M → (q.E = 0 → e = e') →
 Same0 ts (Pe.binLoop ts recP (n + 1) g e s) (Qe.binLoop ts recQ n g' e' q) q
 | 0,_,_,_,_,_,_,h,_,_,_ => absurd h (Nat.not_lt_zero _)
 | _,0,_,_,_,_,_,_,h,_,_ => absurd h (Nat.not_lt_zero _)
 | g + 1,g' + 1,e,e',s,q,h,hN,hN',hM,hee => by
   rw [Pe.binLoop,Qe.binLoop,zQh h hn]
   by_cases hs:Qe.sign ts q n = 0
   ·rw [if_pos hs,if_pos hs]
    exact ⟨e,s,e',q,rfl,rfl,h,Adv0.refl _ _,hee⟩
   ·rw [if_neg hs,if_neg hs]
    obtain ⟨i1,i2,i3⟩:=zNE hs
    have hadv:=zAe hl i2 i3
    have hp : 1 ≤ N ts q:=by unfold N; rw [if_pos ⟨i1,i2⟩]; omega
    have hn1:=zB9 hadv hp
    obtain ⟨r,t,r',t',h1,h2,h3,h4,h5⟩:=hg _ _ h.next (by omega) (n + 1) (by omega)
    dsimp only
    rw [h1,h2]
    have hn2:=zCp h4.to0
    rw [zO h i1]
    obtain ⟨a,w,a',w',j1,j2,j3,j4,j5⟩:=zKV hl hg hn g g' (e:=Ex.of (Qe.sign ts q n) 0 [] [] 0 [e,r] (tokAt ts q.k).at_) (e':=Ex.of (Qe.sign ts q n) 0 [] [] 0 [e',r'] (tokAt ts q.k).at_) h3 (by omega) (by omega) (by omega) (fun h0 => by rw [h5 h0,hee i1])
    exact ⟨a,w,a',w',j1,j2,j3,((hadv.trans h4).then0 j4).to0,j5⟩
theorem zI0 {ts:List RT}(hl:ts.length ≤ 900000000){M:Nat}{recP:Nat → St → Pe.Out}{recU:St → Pe.Out}{recQ:Nat → Q → Qe.Out}(hg:RecGood ts M recP recQ)(hu:RecGoodU ts M recU recQ)(hdd:∀ s:St,s.c.E ≠ 0 → recP 1 s = some (Ex.zero,s)){s:St}{q:Q}(h:Rel s q)(hM:N ts q ≤ M)(g g':Nat)(hgM:M < g)(hgM':M < g') :
 Same ts (Pe.unary ts recP recU g s) (Qe.unary ts recQ g' q) q:=by
 unfold Pe.unary Qe.unary
 rw [zN h,zN h]
 cases hv:Qe.is ts q false [45] with
 | true =>
   simp only [if_true]
   exact zJT hl hu h hM (Nat.le_trans (N_is hv) hM) [45] 12
 | false =>
   simp only [Bool.false_eq_true,if_false]
   cases hv2:Qe.is ts q false [33] with
   | true =>
     simp only [if_true]
     exact zJT hl hu h hM (Nat.le_trans (N_is hv2) hM) [33] 13
   | false =>
     simp only [Bool.false_eq_true,if_false]
     obtain ⟨e,t,e',t',h1,h2,h3,h4,h5⟩:=zKG hl hg hdd h hM g g' hgM hgM'
     unfold Pe.postfix_
     rw [h1,h2]
     have hn:=zCp h4.to0
     obtain ⟨a,w,a',w',j1,j2,j3,j4,j5⟩:=zC3 hl hg g g' h3 (by omega) (by omega) (by omega) h5
     exact ⟨a,w,a',w',j1,j2,j3,h4.then0 j4,j5⟩
theorem zP9 (ts:List RT)(f n:Nat)(s:St):(Pe.run ts (f + 1)).1 n s = (if 5 < n then (Pe.run ts f).2 s else match (Pe.run ts f).1 (n + 1) s with | none => none | some (l,s1) => Pe.binLoop ts (Pe.run ts f).1 n f l s1):=rfl
theorem zSp (ts:List RT)(f:Nat)(s:St):(Pe.run ts (f + 1)).2 s = Pe.unary ts (Pe.run ts f).1 (Pe.run ts f).2 f s:=rfl
theorem qrun (ts:List RT)(f n:Nat)(q:Q):Qe.run ts (f + 1) n q = (if n = 5 then Qe.unary ts (Qe.run ts f) f q else match Qe.run ts f (n + 1) q with | none => none | some (l,s1) => Qe.binLoop ts (Qe.run ts f) n f l s1):=by rw [Qe.run]; rfl
theorem zGo {ts:List RT}(hl:ts.length ≤ 900000000):∀ (K:Nat)(s:St)(q:Q),Rel s q → N ts q ≤ K →
 (∀ f f',10 * K + 12 ≤ f → 10 * K + 12 ≤ f' → Same ts ((Pe.run ts f).2 s) (Qe.run ts f' 5 q) q) ∧
 (∀ n,n ≤ 5 → ∀ f f',10 * K + 12 + (6 - n) ≤ f → 10 * K + 12 + (6 - n) ≤ f' → Same ts ((Pe.run ts f).1 (n + 1) s) (Qe.run ts f' n q) q):=by
 intro K
 induction K using Nat.strongRecOn with
 | _ K ih =>
 intro s q h hN
 have hrec:∀ f f',10 * K + 11 ≤ f → 10 * K + 11 ≤ f' → RecGood ts K (Pe.run ts f).1 (Qe.run ts f'):=fun f f' hf hf' s2 q2 h2 hN2 n hn =>
  (ih (N ts q2) hN2 s2 q2 h2 (Nat.le_refl _)).2 n hn f f' (by omega) (by omega)
 have hrecU:∀ f f',10 * K + 11 ≤ f → 10 * K + 11 ≤ f' → RecGoodU ts K (Pe.run ts f).2 (Qe.run ts f'):=fun f f' hf hf' s2 q2 h2 hN2 =>
  (ih (N ts q2) hN2 s2 q2 h2 (Nat.le_refl _)).1 f f' (by omega) (by omega)
 have hdd:∀ f,8 ≤ f → ∀ s:St,s.c.E ≠ 0 → (Pe.run ts f).1 1 s = some (Ex.zero,s):=fun f hf s hs => by
  obtain ⟨g,rfl⟩:∃ g,f = g + 8:=⟨f - 8,by omega⟩
  exact Pe.dead_run hs g
 have hU:∀ f f',10 * K + 12 ≤ f → 10 * K + 12 ≤ f' → Same ts ((Pe.run ts f).2 s) (Qe.run ts f' 5 q) q:=fun f f' hf hf' => by
  obtain ⟨g,rfl⟩:∃ g,f = g + 1:=⟨f - 1,by omega⟩
  obtain ⟨g',rfl⟩:∃ g',f' = g' + 1:=⟨f' - 1,by omega⟩
  rw [zSp,qrun,if_pos rfl]
  exact zI0 hl (hrec g g' (by omega) (by omega)) (hrecU g g' (by omega) (by omega)) (hdd g (by omega)) h hN g g' (by omega) (by omega)
 refine ⟨hU,?_⟩
 have hlev:∀ d n,n + d = 5 → ∀ f f',10 * K + 12 + (6 - n) ≤ f → 10 * K + 12 + (6 - n) ≤ f' → Same ts ((Pe.run ts f).1 (n + 1) s) (Qe.run ts f' n q) q:=by
  intro d
  induction d with
  | zero =>
    intro n hn f f' hf hf'
    obtain rfl:n = 5:=by omega
    obtain ⟨g,rfl⟩:∃ g,f = g + 1:=⟨f - 1,by omega⟩
    rw [zP9,if_pos (by decide)]
    exact hU g f' (by omega) (by omega)
  | succ d ihd =>
    intro n hn f f' hf hf'
    obtain ⟨g,rfl⟩:∃ g,f = g + 1:=⟨f - 1,by omega⟩
    obtain ⟨g',rfl⟩:∃ g',f' = g' + 1:=⟨f' - 1,by omega⟩
    rw [zP9,qrun,if_neg (by omega),if_neg (by omega)]
    obtain ⟨e,t,e',t',h1,h2,h3,h4,h5⟩:=ihd (n + 1) (by omega) g g' (by omega) (by omega)
    rw [h1,h2]
    have hn2:=zCp h4.to0
    obtain ⟨a,w,a',w',j1,j2,j3,j4,j5⟩:=zKV hl (hrec g g' (by omega) (by omega)) (show n ≤ 4 by omega) g g' h3 (by omega) (by omega) (by omega) h5
    exact ⟨a,w,a',w',j1,j2,j3,h4.then0 j4,j5⟩
 exact fun n hn f f' hf hf' => hlev (5 - n) n (by omega) f f' hf hf'
def enough (ts:List RT):Nat:=10 * ts.length + 20
theorem N_le (ts:List RT)(q:Q):N ts q ≤ ts.length:=by
 unfold N
 split <;> omega
theorem parse_same {ts:List RT}(hl:ts.length ≤ 900000000)(k o:Int):∃ x,Pe.parse ts (enough ts) k o = some x ∧ Qe.expr ts (enough ts) k o = some x:=by
 have h:Rel ⟨⟨k,0,0⟩,Pe.clamp o⟩ ⟨k,max o 0,0,0⟩:=⟨rfl,rfl,fun _ => ⟨rfl,by show Pe.clamp o = min (max o 0) 50; rfl,by show 0 ≤ max o 0; omega⟩⟩
 obtain ⟨e,t,e',t',h1,h2,h3,-,h5⟩:=(zGo hl ts.length _ _ h (N_le ts _)).2 0 (by decide) (enough ts) (enough ts) (by unfold enough; omega) (by unfold enough; omega)
 refine ⟨Pe.exEnd e t.c,?_,?_⟩
 ·unfold Pe.parse
  rw [h1]
 ·unfold Qe.expr
  rw [h2]
  show some (Qe.exEnd e' t') = some (Pe.exEnd e t.c)
  unfold Qe.exEnd Pe.exEnd
  by_cases h0:t'.E = 0
  ·rw [if_pos h0,if_pos (by rw [h3.E,h0]),h5 h0,(h3.live h0).1]
  ·rw [if_neg h0,if_neg (by rw [h3.E]; exact h0),h3.E,h3.F]
end Sim
end Go.Proofs.YteadgahhchlgeaaDoor
