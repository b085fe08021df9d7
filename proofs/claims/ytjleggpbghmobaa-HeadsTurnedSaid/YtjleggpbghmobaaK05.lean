/-
  Both readers of statements read the same, in plain data: wha
-/
import Derived.Test.YtjleggpbghmobaaK04
namespace Go.Proofs.Ytjleggpbghmobaa
namespace Pe
open Px (RT tokAt)
theorem zEh {ts:List RT}{c:Cs}{e:Int}(he:e ≠ 0):(fail ts c e).E ≠ 0:=by
 unfold fail
 split
 ·exact he
 ·assumption
theorem none_run {ts:List RT}{s:St}(h:(peek ts s.c).kind = 0)(f:Nat):(run ts (f + 8)).1 1 s = some (Ex.zero,⟨fail ts s.c 2,s.o⟩):=by
 have hs:∀ t,sees ts s.c 4 t = false:=fun t => by unfold sees; rw [h]; rfl
 refine zHH (f:=f + 2) ?_ (zA9 (zEh (by decide)))
 rw [run]
 show unary ts _ _ (f + 1) s = _
 rw [unary,hs,hs]
 simp only [Bool.false_eq_true,if_false]
 rw [postfix_,primary]
 simp only [h]
 rw [if_neg (by decide),if_neg (by decide),if_neg (by decide),if_neg (by decide),refuse]
 exact zAO (zA9 (zEh (by decide))) _ _ _
end Pe
namespace Sim
open Go.RowKit
open Px (RT tokAt isT)
open Pe (Ex Cs St inc dec)
open Qe (Q)
open Ps (Sm kindOf nameOf)
theorem zE6 {ts:List RT}(hl:ts.length ≤ 900000000){P:Ps.PX}(hP:IsP ts P){M:Nat}{recP:St → Ps.OutB}{recQ:Q → Qs.OutB}(hr:RecB ts M recP recQ){s:St}{q:Q}(h:Rel s q)(hF:F0 q)(hk : 0 ≤ q.k)(hk2:q.k < (ts.length:Int))(hM:N ts q ≤ M)(hM1 : 1 ≤ N ts q) :
 SameS ts (putS (tokAt ts q.k).at_ (Ps.choice ts P recP s)) (Qs.choice ts (rx ts) recQ q) q:=by
 have a1:Rel (Ps.nxt s) (Qe.next q):=h.next
 have f1:=hF.kp (zV q)
 have v1:=zW hl hk hk2
 obtain ⟨e',t',r1,a3,f3,v3,e3⟩:=zBr hl hP a1 f1
 have v13:=v1.trans v3
 have n1:=zA4 v13 hM1
 obtain ⟨b,t,b',u,j1,j2,a4,f4,v4,e4⟩:=hr _ _ a3 f3 (by omega)
 unfold Ps.choice Qs.choice
 dsimp only
 rw [r1]
 dsimp only
 rw [j1,j2]
 dsimp only
 have hs:Pe.sees ts t.c 3 [101,108,115,101] = Qe.is ts u true [101,108,115,101]:=zAL a4 _
 rw [hs]
 cases hv:Qe.is ts u true [101,108,115,101] with
 | false =>
   rw [if_neg (by decide),if_neg (by decide)]
   refine ⟨_,_,_,_,rfl,rfl,a4,f4,v13.trans v4,fun h0 => ?_⟩
   rw [← e4 h0,← e3 (v4 h0).1]
   rfl
 | true =>
   obtain ⟨-,k1,k2,-,-⟩:=zAo hv
   have a5:Rel (Ps.nxt t) (Qe.next u):=a4.next
   have v5:=zW hl k1 k2
   have n4:=zA4 (v13.trans (v4.trans v5)) hM1
   obtain ⟨c,t2,c',u2,i1,i2,a6,f6,v6,e6⟩:=hr _ _ a5 (f4.kp (zV u)) (by omega)
   rw [if_pos rfl,if_pos rfl,i1,i2]
   refine ⟨_,_,_,_,rfl,rfl,a6,f6,v13.trans (v4.trans (v5.trans v6)),fun h0 => ?_⟩
   have h5:=(v5 (v6 h0).1).1
   rw [← e6 h0,← e4 h5,← e3 (v4 h5).1]
   rfl
theorem zHc {ts:List RT}(hl:ts.length ≤ 900000000){P:Ps.PX}(hP:IsP ts P){M:Nat}{recP:St → Ps.OutB}{recQ:Q → Qs.OutB}(hr:RecB ts M recP recQ){s:St}{q:Q}(h:Rel s q)(hF:F0 q)(hk : 0 ≤ q.k)(hk2:q.k < (ts.length:Int))(hM:N ts q ≤ M)(hM1 : 1 ≤ N ts q) :
 SameS ts (putS (tokAt ts q.k).at_ (Ps.loop P recP s)) (Qs.loop ts (rx ts) recQ q) q:=by
 have a1:Rel (Ps.nxt s) (Qe.next q):=h.next
 have f1:=hF.kp (zV q)
 have v1:=zW hl hk hk2
 obtain ⟨e',t',r1,a3,f3,v3,e3⟩:=zBr hl hP a1 f1
 have v13:=v1.trans v3
 have n1:=zA4 v13 hM1
 obtain ⟨b,t,b',u,j1,j2,a4,f4,v4,e4⟩:=hr _ _ a3 f3 (by omega)
 unfold Ps.loop Qs.loop
 dsimp only
 rw [r1]
 dsimp only
 rw [j1,j2]
 refine ⟨_,_,_,_,rfl,rfl,a4,f4,v13.trans v4,fun h0 => ?_⟩
 rw [← e4 h0,← e3 (v4 h0).1]
 rfl
theorem zG1 {ts:List RT}{P:Ps.PX}{recP:St → Ps.OutB}{s:St}:Ps.statement ts P recP s = putS (Pe.peek ts s.c).at_ (Ps.step ts P recP s):=by
 unfold Ps.statement putS
 cases Ps.step ts P recP s <;> rfl
theorem zGE {ts:List RT}(hl:ts.length ≤ 900000000){P:Ps.PX}(hP:IsP ts P){M:Nat}{recP:St → Ps.OutB}{recQ:Q → Qs.OutB}(hr:RecB ts M recP recQ){s:St}{q:Q}(h:Rel s q)(hF:F0 q)(hM:N ts q ≤ M) :
 SameS ts (Ps.statement ts P recP s) (Qs.stmt ts (rx ts) recQ q) q:=by
 rw [zG1]
 have plain:(∀ t,Qe.is ts q true t = true → t ≠ [118,97,114] ∧ t ≠ [108,101,116] ∧ t ≠ [105,102] ∧ t ≠ [119,104,105,108,101] ∧ t ≠ [114,101,116,117,114,110] ∧ t ≠ [112,114,105,110,116]) → ∀ a:Int,(q.E = 0 → a = (tokAt ts q.k).at_) →
  SameS ts (putS a (some (Ps.fromExpr ts P s))) (Qs.stmt ts (rx ts) recQ q) q:=by
  intro hn a ha
  have no:∀ t,t = [118,97,114] ∨ t = [108,101,116] ∨ t = [105,102] ∨ t = [119,104,105,108,101] ∨ t = [114,101,116,117,114,110] ∨ t = [112,114,105,110,116] → Qe.is ts q true t = false:=fun t ht => by
   cases hv:Qe.is ts q true t with
   | false => rfl
   | true =>
     obtain ⟨a1,a2,a3,a4,a5,a6⟩:=hn t hv
     rcases ht with ht | ht | ht | ht | ht | ht <;> exact absurd ht (by assumption)
  have hs:Qs.stmt ts (rx ts) recQ q = Qs.plain ts (rx ts) (tokAt ts q.k).at_ q:=by
   unfold Qs.stmt
   rw [no _ (.inl rfl),no _ (.inr (.inl rfl)),no _ (.inr (.inr (.inl rfl))),no _ (.inr (.inr (.inr (.inl rfl)))),no _ (.inr (.inr (.inr (.inr (.inl rfl))))),no _ (.inr (.inr (.inr (.inr (.inr rfl)))))]
   rfl
  rw [hs]
  by_cases hq:q.E = 0
  ·rw [ha hq]
   exact zCa hl hP h hF _
  ·obtain ⟨e,t,e',t',h1,h2,h3,h4,h5,h6⟩:=zCa hl hP h hF (tokAt ts q.k).at_
   have hd:t'.E ≠ 0:=fun h0 => hq (h5 h0).1
   have h1:Ps.fromExpr ts P s = ((Ps.fromExpr ts P s).1,t):=by
        have h1:=Prod.mk.inj (Option.some.inj h1)
        exact Prod.ext rfl h1.2
   rw [h1]
   exact ⟨_,_,e',t',rfl,h2,h3,h4,h5,fun h0 => absurd h0 hd⟩
 by_cases hq:q.E = 0
 case neg =>
  have hp:=peek_dead (ts:=ts) h hq
  have hstep:Ps.step ts P recP s = some (Ps.fromExpr ts P s):=by
   unfold Ps.step
   rw [hp,if_neg (by decide)]
  rw [hstep]
  exact plain (fun t ht => by rw [zBk hq] at ht; cases ht) _ (fun h0 => absurd h0 hq)
 case pos =>
 have hp:=zM (ts:=ts) h hq
 unfold Ps.step
 rw [hp]
 by_cases hk:(tokAt ts q.k).kind = 3
 case neg =>
  rw [if_neg hk]
  exact plain (fun t ht => by rw [zAI (wd:=true) hk] at ht; cases ht) _ (fun _ => rfl)
 case pos =>
 rw [if_pos hk]
 have hin:=zAD (ts:=ts) (k:=q.k) (by rw [hk]; decide)
 have hN1 : 1 ≤ N ts q:=zDy hq (by rw [hk]; decide)
 have yes:∀ t,(tokAt ts q.k).text = t → Qe.is ts q true t = true:=fun t ht => zCC hq (wd:=true) hk ht
 have no:∀ t,(tokAt ts q.k).text ≠ t → Qe.is ts q true t = false:=fun t ht => is_text ht
 unfold Qs.stmt at plain ⊢
 by_cases h1:(tokAt ts q.k).text = [118,97,114]
 ·rw [if_pos h1,yes _ h1,Bool.true_or,if_pos rfl]
  exact zHU hl h hF hin.1 hin.2 (by rw [h1]; decide) _
 rw [if_neg h1]
 by_cases h2:(tokAt ts q.k).text = [108,101,116]
 ·rw [if_pos h2,yes _ h2,Bool.or_true,if_pos rfl]
  exact zIq hl hP h hF hin.1 hin.2 h2
 rw [if_neg h2]
 by_cases h3:(tokAt ts q.k).text = [105,102]
 ·rw [if_pos h3,no _ h1,no _ h2,yes _ h3,if_neg (by decide),if_pos rfl]
  exact zE6 hl hP hr h hF hin.1 hin.2 hM hN1
 rw [if_neg h3]
 by_cases h4:(tokAt ts q.k).text = [119,104,105,108,101]
 ·rw [if_pos h4,no _ h1,no _ h2,no _ h3,yes _ h4,if_neg (by decide),if_neg (by decide),if_pos rfl]
  exact zHc hl hP hr h hF hin.1 hin.2 hM hN1
 rw [if_neg h4]
 by_cases h5:(tokAt ts q.k).text = [114,101,116,117,114,110]
 ·rw [if_pos h5,no _ h1,no _ h2,no _ h3,no _ h4,yes _ h5,if_neg (by decide),if_neg (by decide),if_neg (by decide),if_pos rfl]
  exact zH8 hl hP h hF hin.1 hin.2
 rw [if_neg h5]
 by_cases h6:(tokAt ts q.k).text = [112,114,105,110,116]
 ·rw [if_pos h6,no _ h1,no _ h2,no _ h3,no _ h4,no _ h5,yes _ h6,if_neg (by decide),if_neg (by decide),if_neg (by decide),if_neg (by decide),if_pos rfl]
  exact zIm hl hP h hF hin.1 hin.2
 rw [if_neg h6]
 refine plain (fun t ht => ?_) _ (fun _ => rfl)
 have ht:=(zAo ht).2.2.2.2
 subst ht
 exact ⟨h1,h2,h3,h4,h5,h6⟩
theorem zFh {ts:List RT}(hl:ts.length ≤ 900000000){P:Ps.PX}(hP:IsP ts P){recQ:Q → Qs.OutB}{s:St}{q:Q}(h:Rel s q)(hF:F0 q)(hq:q.E = 0)(hk:(tokAt ts q.k).kind = 0) :
 ∃ e' t',Qs.stmt ts (rx ts) recQ q = some (e',t') ∧ t'.E = 2 ∧ t'.F = (tokAt ts q.k).at_:=by
 have hs:Qs.stmt ts (rx ts) recQ q = Qs.plain ts (rx ts) (tokAt ts q.k).at_ q:=by
  have no:∀ t,Qe.is ts q true t = false:=fun t => zAI (wd:=true) (by rw [hk]; decide) t
  unfold Qs.stmt
  simp only [no]
  rfl
 rw [hs]
 obtain ⟨e,t,e',t',h1,h2,h3,h4,h5,h6⟩:=zCa hl hP h hF (tokAt ts q.k).at_
 refine ⟨e',t',h2,?_⟩
 have hsk:=(h.live hq).1
 have hsE:s.c.E = 0:=h.E.trans hq
 have hp:P s.c.k s.o = (Ex.zero,0,2,(tokAt ts q.k).at_):=by
  have hp:=hP s.c.k s.o
  obtain ⟨g,hg⟩:∃ g,enough ts = g + 8:=⟨enough ts - 8,by unfold enough; omega⟩
  unfold Pe.parse at hp
  have hpk:(Pe.peek ts (⟨s.c.k,0,0⟩:Cs)) = tokAt ts q.k:=by rw [Pe.peek,if_pos rfl,hsk]
  rw [hg,Pe.none_run (s:=⟨⟨s.c.k,0,0⟩,Pe.clamp s.o⟩) (by show (Pe.peek ts (⟨s.c.k,0,0⟩:Cs)).kind = 0; rw [hpk,hk]) g] at hp
  have hf:Pe.fail ts (⟨s.c.k,0,0⟩:Cs) 2 = ⟨s.c.k,2,(tokAt ts q.k).at_⟩:=by unfold Pe.fail; rw [if_pos rfl,hsk]
  have hp:=(Option.some.inj hp).symm
  rw [hp]
  show Pe.exEnd Ex.zero (Pe.fail ts (⟨s.c.k,0,0⟩:Cs) 2) = _
  rw [hf]
  exact if_neg (show ¬ (2:Int) = 0 by decide)
 have hrd:Ps.rd P s = (Ex.zero,⟨⟨s.c.k,2,(tokAt ts q.k).at_⟩,s.o⟩):=by
  unfold Ps.rd
  rw [if_pos hsE,hp,if_neg (show ¬ (2:Int) = 0 by decide)]
 have hfe:Ps.fromExpr ts P s = (Sm.zero,⟨⟨s.c.k,2,(tokAt ts q.k).at_⟩,s.o⟩):=by
  unfold Ps.fromExpr
  rw [hrd]
  dsimp only
  rw [Pe.peek_dead (c:=⟨s.c.k,2,(tokAt ts q.k).at_⟩) (show (2:Int) ≠ 0 by decide),if_neg (by decide)]
  unfold Ps.refuse
  rw [Pe.fail_dead (c:=⟨s.c.k,2,(tokAt ts q.k).at_⟩) (show (2:Int) ≠ 0 by decide)]
 rw [hfe] at h1
 have h1:=(Prod.mk.inj (Option.some.inj h1)).2
 dsimp only at h1
 subst h1
 exact ⟨h3.E.symm,h3.F.symm⟩
theorem zEr {ts:List RT}(_hl:ts.length ≤ 900000000){P:Ps.PX}(_hP:IsP ts P){M:Nat}{recP:St → Ps.Out}{recQ:Q → Qs.Out}(hr:RecS ts M recP recQ)
 (hz:∀ (s:St) (q:Q),Rel s q → F0 q → N ts q < M → q.E = 0 → (tokAt ts q.k).kind = 0 → ∃ e' t',recQ q = some (e',t') ∧ t'.E = 2 ∧ t'.F = (tokAt ts q.k).at_) :
 ∀ (g g':Nat) {l l':List Sm} {s:St} {q:Q},Rel s q → F0 q → N ts q < g → N ts q + 1 < g' → N ts q < M → (q.E = 0 → l = l') →
 ∃ a t a' t',Ps.stLoop ts recP g l s = some (a,t) ∧ Qs.stLoop ts recQ g' l' q = some (a',t') ∧
   ((Rel t t' ∧ F0 t' ∧ Adv0 ts q t' ∧ (t'.E = 0 → a = a')) ∨ (t.c.E = 0 ∧ t'.E = 2 ∧ t'.F = (tokAt ts t.c.k).at_ ∧ (tokAt ts t.c.k).kind = 0)):=by
 intro g
 induction g with
 | zero => intro g' l l' s q _ _ h; omega
 | succ g ih =>
   intro g' l l' s q h hF hg hg' hM hll
   obtain ⟨g',rfl⟩:∃ k,g' = k + 1:=⟨g' - 1,by omega⟩
   rw [Ps.stLoop,Qs.stLoop,zL h]
   by_cases hq:q.E = 0
   case neg =>
    rw [zBk hq,if_neg (by decide),peek_dead h hq,if_pos (show RT.none.kind = 0 from rfl),if_neg (fun hh => hq hh.1)]
    exact ⟨_,_,_,_,rfl,rfl,.inl ⟨h,hF,Adv0.refl ts q,fun h0 => absurd h0 hq⟩⟩
   case pos =>
   cases hv:Qe.is ts q false [125] with
   | true =>
     rw [if_pos rfl,if_neg (fun hh => by cases hh.2)]
     exact ⟨_,_,_,_,rfl,rfl,.inl ⟨h,hF,Adv0.refl ts q,hll⟩⟩
   | false =>
     rw [if_neg (by decide),zM h hq,if_pos (c:=q.E = 0 ∧ false = false) ⟨hq,rfl⟩]
     by_cases hk:(tokAt ts q.k).kind = 0
     ·rw [if_pos hk]
      obtain ⟨e',t',h1,h2,h3⟩:=hz s q h hF hM hq hk
      rw [h1]
      dsimp only
      obtain ⟨g',rfl⟩:∃ k,g' = k + 1:=⟨g' - 1,by omega⟩
      rw [Qs.stLoop,if_neg (fun hh => by rw [h2] at hh; exact absurd hh.1 (by decide))]
      have hsk:=(h.live hq).1
      exact ⟨_,_,_,_,rfl,rfl,.inr ⟨h.E.trans hq,h2,by rw [hsk]; exact h3,by rw [hsk]; exact hk⟩⟩
     ·rw [if_neg hk]
      obtain ⟨e,t,e',t',h1,h2,h3,h4,h5,h6⟩:=hr s q h hF hM
      rw [h1,h2]
      dsimp only
      have hN1:=zDy (ts:=ts) hq hk
      have hn:=zA4 h5 hN1
      obtain ⟨a,u,a',u',j1,j2,j3⟩:=ih g' (l:=l ++ [e]) (l':=l' ++ [e']) h3 h4 (by omega) (by omega) (by omega) (fun h0 => by rw [hll hq,h6 h0])
      refine ⟨a,u,a',u',j1,j2,?_⟩
      rcases j3 with ⟨k1,k2,k3,k4⟩ | j3
      ·exact .inl ⟨k1,k2,(h5.to0).trans k3,k4⟩
      ·exact .inr j3
theorem zHe {ts:List RT}{s:St}{t:List UInt8}(hE:s.c.E = 0)(hk:(tokAt ts s.c.k).kind = 0):(Pe.leave ts s t).c.E = 2 ∧ (Pe.leave ts s t).c.F = (tokAt ts s.c.k).at_:=by
 have hs:Pe.sees ts s.c 4 t = false:=by
  unfold Pe.sees
  rw [Pe.peek,if_pos hE,hk]
  rfl
 unfold Pe.leave Pe.sign Pe.failUnless
 rw [hs]
 simp only [Bool.false_eq_true,if_false]
 unfold Pe.next Pe.fail
 rw [if_pos hE]
 exact ⟨rfl,rfl⟩
theorem zGx {ts:List RT}(hl:ts.length ≤ 900000000){P:Ps.PX}(hP:IsP ts P){M:Nat}{recP:St → Ps.Out}{recQ:Q → Qs.Out}(hr:RecS ts M recP recQ)
 (hz:∀ (s:St) (q:Q),Rel s q → F0 q → N ts q < M → q.E = 0 → (tokAt ts q.k).kind = 0 → ∃ e' t',recQ q = some (e',t') ∧ t'.E = 2 ∧ t'.F = (tokAt ts q.k).at_)
 {s:St} {q:Q} (h:Rel s q) (hF:F0 q) (hM:N ts q ≤ M) (hM1 : 1 ≤ M) (g g':Nat) (hg:M < g) (hg':M + 1 < g'):SameB ts (Ps.block ts recP g s) (Qs.block ts recQ g' q) q:=by
 have h1:=h.enter (ts:=ts) [123]
 have hn:=zC4 hl h [123] hM hM1
 have hf1:=hF.kp (zAT ts q [123])
 obtain ⟨a,t,a',t',j1,j2,j3⟩:=zEr hl hP hr hz g g' (l:=[]) (l':=[]) h1 hf1 (by omega) (by omega) hn (fun _ => rfl)
 unfold Ps.block Qs.block
 rw [j1,j2]
 dsimp only
 rcases j3 with ⟨k1,k2,k3,k4⟩ | ⟨k1,k2,k3,k4⟩
 ·have hb:t'.E = 0 → (Qe.opens ts q [123]).E = 0 ∧ t'.o = q.o + 1 ∧ q.o < 50 ∧ 0 ≤ q.o ∧ q.E = 0 ∧ 0 ≤ q.k ∧ q.k + 1 ≤ t'.k ∧ t'.k ≤ (ts.length:Int):=fun h0 => by
   obtain ⟨b1,b2,b3⟩:=k3 h0
   obtain ⟨o1,o2,o3,o4,o5⟩:=zAs hl h b1
   rw [o1] at b2 b3
   refine ⟨b1,b2,o2,(h.live o3).2.2,o3,o4,?_,?_⟩ <;> rcases b3 with b3 | ⟨-,b3,b4⟩ <;> dsimp only at * <;> omega
  have ho:t'.E = 0 → 1 ≤ t'.o ∧ t'.o ≤ 50:=fun h0 => by
   obtain ⟨-,o1,o2,o3,-⟩:=hb h0
   omega
  refine ⟨a,_,a',_,rfl,rfl,k1.leave [125] ho,k2.kp (zAN ts t' [125]),fun h0 => ?_,fun h0 => ?_⟩
  ·obtain ⟨c1,c2,c3,c4⟩:=zAh hl ho h0
   obtain ⟨-,o1,o2,o3,o4,o5,o6,o7⟩:=hb c2
   rw [c1]
   refine ⟨o4,o5,?_,?_,?_⟩ <;> show _ <;> dsimp only <;> omega
  ·exact k4 (zAh hl ho h0).2.1
 ·have hd:t'.E ≠ 0:=by rw [k2]; decide
  have hc:Qe.closes ts t' [125] = ⟨t'.k,dec t'.o,t'.E,t'.F⟩:=by unfold Qe.closes; rw [zQ hd]
  obtain ⟨l1,l2⟩:=zHe (ts:=ts) (t:=[125]) k1 k4
  rw [hc]
  refine ⟨a,_,a',_,rfl,rfl,Rel.dead (l1.trans k2.symm) (l2.trans k3.symm) hd,fun h0 => absurd h0 hd,fun h0 => absurd h0 hd,fun h0 => absurd h0 hd⟩
theorem zCN {ts:List RT}(hl:ts.length ≤ 900000000){P:Ps.PX}(hP:IsP ts P):∀ (K:Nat),
 (∀ (s:St) (q:Q),Rel s q → F0 q → N ts q ≤ K → ∀ f f',4 * K + 4 ≤ f → 4 * K + 4 ≤ f' → SameS ts ((Ps.run ts P f).1 s) ((Qs.run ts (rx ts) f').1 q) q) ∧
 (∀ (s:St) (q:Q),Rel s q → F0 q → N ts q ≤ K → ∀ f f',4 * K + 6 ≤ f → 4 * K + 6 ≤ f' → SameB ts ((Ps.run ts P f).2 s) ((Qs.run ts (rx ts) f').2 q) q):=by
 intro K
 induction K using Nat.strongRecOn with
 | _ K ih =>
 have hS:∀ (s:St) (q:Q),Rel s q → F0 q → N ts q ≤ K → ∀ f f',4 * K + 4 ≤ f → 4 * K + 4 ≤ f' → SameS ts ((Ps.run ts P f).1 s) ((Qs.run ts (rx ts) f').1 q) q:=fun s q h hF hN f f' hf hf' => by
  obtain ⟨g,rfl⟩:∃ g,f = g + 1:=⟨f - 1,by omega⟩
  obtain ⟨g',rfl⟩:∃ g',f' = g' + 1:=⟨f' - 1,by omega⟩
  exact zGE hl hP (M:=K) (fun s2 q2 h2 hF2 hN2 => (ih (N ts q2) hN2).2 s2 q2 h2 hF2 (Nat.le_refl _) g g' (by omega) (by omega)) h hF hN
 refine ⟨hS,fun s q h hF hN f f' hf hf' => ?_⟩
 obtain ⟨g,rfl⟩:∃ g,f = g + 1:=⟨f - 1,by omega⟩
 obtain ⟨g',rfl⟩:∃ g',f' = g' + 1:=⟨f' - 1,by omega⟩
 refine zGx hl hP (M:=max K 1) (fun s2 q2 h2 hF2 hN2 => ?_) (fun s2 q2 h2 hF2 hN2 hq hk => ?_) h hF (by omega) (by omega) g g' (by omega) (by omega)
 ·exact hS s2 q2 h2 hF2 (by omega) g g' (by omega) (by omega)
 ·obtain ⟨g2,rfl⟩:∃ g2,g' = g2 + 1:=⟨g' - 1,by omega⟩
  exact zFh hl hP h2 hF2 hq hk
theorem zC8 (k o:Int):Rel ⟨⟨k,0,0⟩,Pe.clamp o⟩ ⟨k,max o 0,0,0⟩:=⟨rfl,rfl,fun _ => ⟨rfl,by show Pe.clamp o = min (max o 0) 50; rfl,by show 0 ≤ max o 0; omega⟩⟩
theorem block_same {ts:List RT}(hl:ts.length ≤ 900000000){P:Ps.PX}(hP:IsP ts P)(k o:Int):∃ x,Ps.parseB ts P (enough ts) k o = some x ∧ Qs.parseB ts (rx ts) (enough ts) k o = some x:=by
 obtain ⟨e,t,e',t',h1,h2,h3,-,-,h5⟩:=(zCN hl hP ts.length).2 _ _ (zC8 k o) (fun _ => rfl) (N_le ts _) (enough ts) (enough ts) (by unfold enough; omega) (by unfold enough; omega)
 refine ⟨Ps.blEnd e t.c,?_,?_⟩
 ·unfold Ps.parseB
  rw [h1]
 ·unfold Qs.parseB
  rw [h2]
  show some (Qs.blEnd e' t') = some (Ps.blEnd e t.c)
  unfold Qs.blEnd Ps.blEnd
  by_cases h0:t'.E = 0
  ·rw [if_pos h0,if_pos (by rw [h3.E,h0]),h5 h0,(h3.live h0).1]
  ·rw [if_neg h0,if_neg (by rw [h3.E]; exact h0),h3.E,h3.F]
end Sim
end Go.Proofs.Ytjleggpbghmobaa
