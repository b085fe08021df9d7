/-
  What was read of a program is printed with no more open than
-/
import Derived.Test.YteadgahhchlgeaaDoorK31
namespace Go.Proofs.YteadgahhchlgeaaDoor
namespace Rt
open Go.RowKit
open Px (RT tokAt isT levelT signsOf)
open Qe (Q)
open Pe (Ex inc dec)
open Ps (Sm kindOf nameOf)
open Pg (Pm Rc Fc Gm)
section
variable {NmOk:List UInt8 → Prop} {NuOk:Int → Prop} {ts:List RT}
theorem zE8 (H:TokOk NmOk NuOk ts){s:Q}(h:(Qg.param ts s).2.E = 0):s.E = 0 ∧ (tokAt ts s.k).kind = 1 ∧ (Qg.param ts s).2.o = s.o ∧ PmOk (Qg.param ts s).1 ∧ OkL NmOk NuOk (pmT (Qg.param ts s).1):=by
 unfold Qg.param at h ⊢
 dsimp only at h ⊢
 obtain ⟨h1,h2,h3,h4⟩:=zIF H h
 obtain ⟨h5,h6⟩:=zAP h1
 obtain ⟨h7,h8,h9⟩:=zBq h5
 have hn:NmOk (Qe.name ts s).1:=by rw [h9]; exact (H _).1 h8
 refine ⟨h7,h8,?_,⟨?_,?_⟩,((zGH h3 _).cons (zAb _)).cons (zDE hn)⟩
 ·rw [h2,h6,h9]; rfl
 ·dsimp only; omega
 ·dsimp only; omega
theorem zM9:∀ (l:List Pm)(x:Pm),fdT (l ++ [x]) = fdT l ++ (pmT x ++ [sg [59]])
 | [],x => rfl
 | y :: l,x => by rw [List.cons_append,fdT,zM9 l x,fdT,List.append_assoc,List.cons_append]
theorem zOB {l:List Pm}{x:Pm}(h:OkL NmOk NuOk (fdT l))(hx:OkL NmOk NuOk (pmT x)):OkL NmOk NuOk (fdT (l ++ [x])):=by
 rw [zM9]
 exact h.app (hx.app (OkL.nil.cons (zAb _)))
theorem zDb (H:TokOk NmOk NuOk ts):∀ (g:Nat){l:List Pm}{s:Q}{x:List Pm × Q},Qg.fieldLoop ts g l s = some x → x.2.E = 0 → s.E = 0 ∧ x.2.o = s.o ∧ (l.length ≤ 8 → (∀ p ∈ l,PmOk p) → OkL NmOk NuOk (fdT l) → x.1.length ≤ 8 ∧ (∀ p ∈ x.1,PmOk p) ∧ OkL NmOk NuOk (fdT x.1))
 | 0,_,_,_,h,_ => by cases h
 | g + 1,l,s,x,h,hx => by
   rw [Qg.fieldLoop] at h
   by_cases hc:s.E = 0 ∧ Qe.is ts s false [125] = false
   ·rw [if_pos hc] at h
    by_cases hk:(tokAt ts s.k).kind = 1 ∧ l.length = 8
    ·rw [if_pos hk] at h
     obtain rfl:=Option.some.inj h
     exact (zAv (by decide) hx).elim
    ·rw [if_neg hk] at h
     obtain ⟨h1,h2,h3⟩:=zDb H g h hx
     obtain ⟨h4,h5⟩:=zAP h1
     obtain ⟨h6,h7,h8,h9,h10⟩:=zE8 H h4
     refine ⟨h6,by rw [h2,h5,h8],fun hl hp ho => h3 ?_ ?_ ?_⟩
     ·rw [List.length_append,List.length_singleton]
      have:l.length ≠ 8:=fun hh => hk ⟨h7,hh⟩
      omega
     ·intro p hp'
      rcases List.mem_append.1 hp' with hp' | hp'
      ·exact hp p hp'
      ·rw [List.mem_singleton.1 hp']; exact h9
     ·exact zOB ho h10
   ·rw [if_neg hc] at h
    obtain rfl:=Option.some.inj h
    exact ⟨hx,rfl,fun hl hp ho => ⟨hl,hp,ho⟩⟩
theorem zJw (H:TokOk NmOk NuOk ts){g:Nat}{s:Q}{x:Rc × Q}(h:Qg.record ts g s = some x)(hx:x.2.E = 0):s.E = 0 ∧ x.2.o = s.o ∧ RcOk x.1 ∧ OkL NmOk NuOk (rcT x.1):=by
 unfold Qg.record at h
 split at h
 ·cases h
 rename_i l q2 hl
 obtain rfl:=Option.some.inj h
 obtain ⟨h1,h2⟩:=zAP hx
 obtain ⟨h3,h4,h5⟩:=zDb H g hl h1
 obtain ⟨h6,h7⟩:=zAP h3
 obtain ⟨h8,h9,h10⟩:=zBq h6
 have hn:NmOk (Qe.name ts s).1:=by rw [h10]; exact (H _).1 h9
 obtain ⟨h11,h12,h13⟩:=h5 (by show (0:Nat) ≤ 8; omega) (fun _ hp => by cases hp) OkL.nil
 exact ⟨h8,by show (Qe.take ts q2 false [125]).o = _; rw [h2,show q2.o = _ from h4,h7,h10]; rfl,⟨h11,h12⟩,(((h13.app (OkL.nil.cons (zAb _))).cons (zAb _)).cons (zDE hn)).cons (zBz _)⟩
theorem zJY:∀ {l:List Pm}{x:Pm},OkL NmOk NuOk (paT l) → OkL NmOk NuOk (pmT x) → OkL NmOk NuOk (paT (l ++ [x]))
 | [],_,_,hx => hx
 | [_],_,h,hx => h.app (hx.cons (zAb _))
 | y :: z :: l,x,h,hx => by
   have h1:OkL NmOk NuOk (pmT y):=fun p hp => h p (List.mem_append_left _ hp)
   have h2:OkL NmOk NuOk (paT (z :: l)):=fun p hp => h p (List.mem_append_right _ (List.mem_cons_of_mem _ hp))
   exact h1.app ((zJY h2 hx).cons (zAb _))
theorem zMC {s:Q}(h:(Qg.comma ts s).E = 0):s.E = 0 ∧ (Qg.comma ts s).o = s.o:=by
 unfold Qg.comma at h ⊢
 by_cases h1:Qe.is ts s false [41] = true
 ·rw [if_pos h1] at h ⊢; exact ⟨h,rfl⟩
 rw [if_neg h1] at h ⊢
 by_cases h2:Qe.is ts (Qe.take ts s false [44]) false [41] = true
 ·rw [if_pos h2] at h; exact (zAv (by decide) h).elim
 ·rw [if_neg h2] at h ⊢; exact zAP h
theorem zEr (H:TokOk NmOk NuOk ts):∀ (g:Nat){l:List Pm}{s:Q}{x:List Pm × Q},Qg.parLoop ts g l s = some x → x.2.E = 0 → s.E = 0 ∧ x.2.o = s.o ∧ (l.length ≤ 6 → (∀ p ∈ l,PmOk p) → OkL NmOk NuOk (paT l) → x.1.length ≤ 6 ∧ (∀ p ∈ x.1,PmOk p) ∧ OkL NmOk NuOk (paT x.1))
 | 0,_,_,_,h,_ => by cases h
 | g + 1,l,s,x,h,hx => by
   rw [Qg.parLoop] at h
   by_cases hc:s.E = 0 ∧ Qe.is ts s false [41] = false
   ·rw [if_pos hc] at h
    by_cases hk:(tokAt ts s.k).kind = 1 ∧ l.length = 6
    ·rw [if_pos hk] at h
     obtain rfl:=Option.some.inj h
     exact (zAv (by decide) hx).elim
    ·rw [if_neg hk] at h
     obtain ⟨h1,h2,h3⟩:=zEr H g h hx
     obtain ⟨h4,h5⟩:=zMC h1
     obtain ⟨h6,h7,h8,h9,h10⟩:=zE8 H h4
     refine ⟨h6,by rw [h2,h5,h8],fun hl hp ho => h3 ?_ ?_ ?_⟩
     ·rw [List.length_append,List.length_singleton]
      have:l.length ≠ 6:=fun hh => hk ⟨h7,hh⟩
      omega
     ·intro p hp'
      rcases List.mem_append.1 hp' with hp' | hp'
      ·exact hp p hp'
      ·rw [List.mem_singleton.1 hp']; exact h9
     ·exact zJY ho h10
   ·rw [if_neg hc] at h
    obtain rfl:=Option.some.inj h
    exact ⟨hx,rfl,fun hl hp ho => ⟨hl,hp,ho⟩⟩
theorem zGq (H:TokOk NmOk NuOk ts){s:Q}(h:(Qg.resultOf ts s).2.2.2.E = 0):s.E = 0 ∧ (Qg.resultOf ts s).2.2.2.o = s.o ∧ ((Qg.resultOf ts s).1 = false → (Qg.resultOf ts s).2.1 = [] ∧ (Qg.resultOf ts s).2.2.1 = 0) ∧ (Qg.resultOf ts s).2.2.1 ≤ 3 ∧ OkL NmOk NuOk (resT (Qg.resultOf ts s).1 (Qg.resultOf ts s).2.1 (Qg.resultOf ts s).2.2.1):=by
 unfold Qg.resultOf at h ⊢
 by_cases hi:Qe.is ts s false [58] = true
 ·rw [if_pos hi] at h ⊢
  obtain ⟨h1,h2,h3,h4⟩:=zIF H h
  exact ⟨is_E hi,h2,fun hc => (by cases hc),h4,(zGH h3 _).cons (zAb _)⟩
 ·rw [if_neg hi] at h ⊢
  exact ⟨h,rfl,fun _ => ⟨rfl,rfl⟩,Nat.zero_le 3,OkL.nil⟩
theorem zGU (H:TokOk NmOk NuOk ts){rb:Q → Qs.OutB}(hb:RbW NmOk NuOk rb){g:Nat}{s:Q}{x:Fc × Q}(h:Qg.function ts rb g s = some x)(hx:x.2.E = 0):s.E = 0 ∧ (s.o = 0 → x.2.o = 0 ∧ ∃ d l,FP x.1 d l ∧ d ≤ 50 ∧ OkL NmOk NuOk l):=by
 unfold Qg.function at h
 split at h
 ·cases h
 rename_i ps q1 hp
 dsimp only at h
 split at h
 ·cases h
 rename_i b q3 hbl
 obtain rfl:=Option.some.inj h
 obtain ⟨h1,h2⟩:=hb _ _ hbl hx
 obtain ⟨h3,h4,h5,h6,h7⟩:=zGq H h1
 obtain ⟨h8,h9⟩:=zAP h3
 obtain ⟨h10,h11,h12⟩:=zEr H g hp h8
 obtain ⟨h13,h14⟩:=zAP h10
 obtain ⟨h15,h16,h17⟩:=zBq h13
 have hn:NmOk (Qe.name ts s).1:=by rw [h17]; exact (H _).1 h16
 refine ⟨h15,fun h0 => ?_⟩
 have ho:(Qg.resultOf ts (Qe.take ts q1 false [41])).2.2.2.o = 0:=by rw [h4,h9,show q1.o = _ from h11,h14,h17]; exact h0
 rw [ho] at h2
 obtain ⟨h18,d,l,h19,h20,h21⟩:=h2 (by omega)
 obtain ⟨h22,h23,h24⟩:=h12 (by show (0:Nat) ≤ 6; omega) (fun _ hp => by cases hp) OkL.nil
 exact ⟨h18,d,_,.mk _ _ _ _ _ _ _ _ _ h22 h23 h5 h6 h19,by omega,(((h24.app ((h7.app h20).cons (zAb _))).cons (zAb _)).cons (zDE hn)).cons (zBz _)⟩
theorem FsP.snoc {xs:List Fc}{tl:List PT}(h:FsP xs tl){x:Fc}{d:Nat}{l:List PT}(hx:FP x d l)(hd:d ≤ 50):FsP (xs ++ [x]) (tl ++ l):=by
 induction h with
 | nil => have:=FsP.cons x d l [] [] hx hd .nil; rw [List.append_nil] at this; exact this
 | cons y d2 l2 ys l3 hy hd2 _ ih => rw [List.append_assoc]; exact .cons _ _ _ _ _ hy hd2 ih
structure GI (NmOk:List UInt8 → Prop) (NuOk:Int → Prop) (p:Gm):Prop where
 recs:∀ x ∈ p.recs,RcOk x ∧ OkL NmOk NuOk (rcT x)
 globs:∀ x ∈ p.globals,PmOk x ∧ OkL NmOk NuOk (glT x)
 funcs:∃ l,FsP p.funcs l ∧ OkL NmOk NuOk l
 nr:p.recs.length ≤ 12
 ng:p.globals.length ≤ 8
 nf:p.funcs.length ≤ 16
theorem zA1 {rb:Q → Qs.OutB}{g:Nat}{p:Gm}{s:Q}{x:Gm × Q}(h:Qg.loop ts rb g p s = some x)(hx:x.2.E = 0):s.E = 0:=by
 cases g with
 | zero => cases h
 | succ g =>
   by_cases hs:s.E = 0
   ·exact hs
   ·rw [Qg.loop,if_neg (fun hc => hs hc.1)] at h
    obtain rfl:=Option.some.inj h
    exact hx
theorem zBY (H:TokOk NmOk NuOk ts){rb:Q → Qs.OutB}(hb:RbW NmOk NuOk rb):∀ (g:Nat){p:Gm}{s:Q}{x:Gm × Q},Qg.loop ts rb g p s = some x → x.2.E = 0 → s.o = 0 → GI NmOk NuOk p → GI NmOk NuOk x.1
 | 0,_,_,_,h,_,_,_ => by cases h
 | g + 1,p,s,x,h,hx,ho,hp => by
   rw [Qg.loop] at h
   by_cases hc:s.E = 0 ∧ (tokAt ts s.k).kind ≠ 0
   ·rw [if_pos hc] at h
    by_cases hov:Qg.over ts p s
    ·rw [if_pos hov] at h
     exact (zAv (by decide) (zA1 h hx)).elim
    rw [if_neg hov] at h
    by_cases h1:Qe.is ts s true [114,101,99,111,114,100] = true
    ·rw [if_pos h1] at h
     split at h
     ·cases h
     rename_i r q2 hr
     obtain ⟨-,h3,h4,h5⟩:=zJw H hr (zA1 h hx)
     refine zBY H hb g h hx (h3.trans ho) ⟨fun y hy => ?_,hp.globs,hp.funcs,?_,hp.ng,hp.nf⟩
     ·rcases List.mem_append.1 hy with hy | hy
      ·exact hp.recs y hy
      ·rw [List.mem_singleton.1 hy]; exact ⟨h4,h5⟩
     ·have:p.recs.length ≠ 12:=fun hh => hov (.inl ⟨h1,hh⟩)
      have:=hp.nr
      show (p.recs ++ [r]).length ≤ 12
      rw [List.length_append,List.length_singleton]
      omega
    rw [if_neg h1] at h
    by_cases h2:Qe.is ts s true [103,108,111,98,97,108] = true
    ·rw [if_pos h2] at h
     obtain ⟨h3,h4⟩:=zAP (zA1 h hx)
     obtain ⟨-,-,h5,h6,h7⟩:=zE8 H h3
     refine zBY H hb g h hx (h4.trans (h5.trans ho)) ⟨hp.recs,fun y hy => ?_,hp.funcs,hp.nr,?_,hp.nf⟩
     ·rcases List.mem_append.1 hy with hy | hy
      ·exact hp.globs y hy
      ·rw [List.mem_singleton.1 hy]; exact ⟨h6,(h7.app (OkL.nil.cons (zAb _))).cons (zBz _)⟩
     ·have:p.globals.length ≠ 8:=fun hh => hov (.inr (.inl ⟨h2,hh⟩))
      have:=hp.ng
      show (p.globals ++ [_]).length ≤ 8
      rw [List.length_append,List.length_singleton]
      omega
    rw [if_neg h2] at h
    by_cases h3:Qe.is ts s true [102,117,110,99] = true
    ·rw [if_pos h3] at h
     split at h
     ·cases h
     rename_i r q2 hr
     obtain ⟨-,h4⟩:=zGU H hb hr (zA1 h hx)
     obtain ⟨h5,d,l,h6,h7,h8⟩:=h4 ho
     obtain ⟨lf,h9,h10⟩:=hp.funcs
     refine zBY H hb g h hx h5 ⟨hp.recs,hp.globs,⟨_,h9.snoc h6 h7,h10.app h8⟩,hp.nr,hp.ng,?_⟩
     have:p.funcs.length ≠ 16:=fun hh => hov (.inr (.inr ⟨h3,hh⟩))
     have:=hp.nf
     show (p.funcs ++ [r]).length ≤ 16
     rw [List.length_append,List.length_singleton]
     omega
    ·rw [if_neg h3] at h
     exact (zAv (by decide) (zA1 h hx)).elim
   ·rw [if_neg hc] at h
    obtain rfl:=Option.some.inj h
    exact hp
end
end Rt
namespace Rt
open Go.RowKit
open Px (RT tokAt isT levelT signsOf)
open Qe (Q)
open Pe (Ex inc dec)
open Ps (Sm kindOf nameOf)
open Pg (Pm Rc Fc Gm)
abbrev RLe (r r':Nat → Q → Qe.Out):Prop:=∀ n s x,r n s = some x → r' n s = some x
abbrev FLe {α:Type}(r r':Q → Option (α × Q)):Prop:=∀ s x,r s = some x → r' s = some x
section
variable {ts:List RT} {r r':Nat → Q → Qe.Out}
theorem zFg (hr:RLe r r'){s:Q}{x:Ex × Q}(h:Qe.inner ts r s = some x):Qe.inner ts r' s = some x:=by
 unfold Qe.inner at h ⊢
 split at h
 ·cases h
 ·rename_i he; rw [hr _ _ _ he]; exact h
theorem zEO (hr:RLe r r'):∀ (g g':Nat),g ≤ g' → ∀ {l:List Ex}{s:Q}{x:List Ex × Q},Qe.argLoop ts r g l s = some x → Qe.argLoop ts r' g' l s = some x
 | 0,_,_,_,_,_,h => by cases h
 | g + 1,0,hg,_,_,_,_ => by omega
 | g + 1,g' + 1,hg,l,s,x,h => by
   rw [Qe.argLoop] at h ⊢
   by_cases hc:Qe.is ts s false [44] = true
   ·rw [if_pos hc] at h ⊢
    split at h
    ·cases h
    ·rename_i he; rw [hr _ _ _ he]; exact zEO hr g g' (by omega) h
   ·rw [if_neg hc] at h ⊢; exact h
theorem zO1 (hr:RLe r r'){g g':Nat}(hg:g ≤ g'){s:Q}{x:List Ex × Q}(h:Qe.args ts r g s = some x):Qe.args ts r' g' s = some x:=by
 unfold Qe.args at h ⊢
 by_cases hc:Qe.is ts (Qe.opens ts s [40]) false [41] = true
 ·rw [if_pos hc] at h ⊢; exact h
 ·rw [if_neg hc] at h ⊢
  split at h
  ·cases h
  ·rename_i he
   rw [hr _ _ _ he]
   dsimp only
   split at h
   ·cases h
   ·rename_i ha; rw [zEO hr g g' hg ha]; exact h
theorem zMc (hr:RLe r r'){s:Q}{a:Int}{x:Ex × Q}(h:Qe.fresh ts r s a = some x):Qe.fresh ts r' s a = some x:=by
 unfold Qe.fresh at h ⊢
 by_cases hc:Qe.is ts s false [91] = true
 ·rw [if_pos hc] at h ⊢
  dsimp only at h ⊢
  split at h
  ·cases h
  ·rename_i he; rw [zFg hr he]; exact h
 ·rw [if_neg hc] at h ⊢; exact h
theorem zMr (hr:RLe r r'){g g':Nat}(hg:g ≤ g'){s:Q}{x:Ex × Q}(h:Qe.first ts r g s = some x):Qe.first ts r' g' s = some x:=by
 unfold Qe.first at h ⊢
 dsimp only at h ⊢
 by_cases c1:s.E = 0 ∧ (tokAt ts s.k).kind = 2
 ·rw [if_pos c1] at h ⊢; exact h
 rw [if_neg c1] at h ⊢
 by_cases c2:Qe.is ts s true [116,114,117,101] = true
 ·rw [if_pos c2] at h ⊢; exact h
 rw [if_neg c2] at h ⊢
 by_cases c3:Qe.is ts s true [102,97,108,115,101] = true
 ·rw [if_pos c3] at h ⊢; exact h
 rw [if_neg c3] at h ⊢
 by_cases c4:Qe.is ts s true [110,117,108,108] = true
 ·rw [if_pos c4] at h ⊢; exact h
 rw [if_neg c4] at h ⊢
 by_cases c5:Qe.is ts s true [110,101,119] = true
 ·rw [if_pos c5] at h ⊢; exact zMc hr h
 rw [if_neg c5] at h ⊢
 by_cases c6:Qe.is ts s true [108,101,110] = true
 ·rw [if_pos c6] at h ⊢
  split at h
  ·cases h
  ·rename_i he; rw [zFg hr he]; exact h
 rw [if_neg c6] at h ⊢
 by_cases c7:Qe.is ts s true [114,101,97,100] = true
 ·rw [if_pos c7] at h ⊢; exact h
 rw [if_neg c7] at h ⊢
 by_cases c8:Qe.is ts s false [40] = true
 ·rw [if_pos c8] at h ⊢; exact zFg hr h
 rw [if_neg c8] at h ⊢
 by_cases c9:Qe.is ts (Qe.name ts s).2 false [40] = true
 ·rw [if_pos c9] at h ⊢
  split at h
  ·cases h
  ·rename_i he; rw [zO1 hr hg he]; exact h
 ·rw [if_neg c9] at h ⊢; exact h
theorem zD1 (hr:RLe r r'):∀ (g g':Nat),g ≤ g' → ∀ {e:Ex}{s:Q}{x:Ex × Q},Qe.behind ts r g e s = some x → Qe.behind ts r' g' e s = some x
 | 0,_,_,_,_,_,h => by cases h
 | g + 1,0,hg,_,_,_,_ => by omega
 | g + 1,g' + 1,hg,e,s,x,h => by
   rw [Qe.behind] at h ⊢
   by_cases hc:Qe.is ts s false [46] = true
   ·rw [if_pos hc] at h ⊢; exact zD1 hr g g' (by omega) h
   rw [if_neg hc] at h ⊢
   by_cases hd:Qe.is ts s false [91] = true
   ·rw [if_pos hd] at h ⊢
    split at h
    ·cases h
    ·rename_i he; rw [hr _ _ _ he]; exact zD1 hr g g' (by omega) h
   ·rw [if_neg hd] at h ⊢; exact h
theorem zDA (hr:RLe r r'){s:Q}{t:List UInt8}{k:Int}{x:Ex × Q}(h:Qe.prefixed ts r s t k = some x):Qe.prefixed ts r' s t k = some x:=by
 unfold Qe.prefixed at h ⊢
 split at h
 ·cases h
 ·rename_i he; rw [hr _ _ _ he]; exact h
theorem zK7 (hr:RLe r r'){g g':Nat}(hg:g ≤ g'){s:Q}{x:Ex × Q}(h:Qe.unary ts r g s = some x):Qe.unary ts r' g' s = some x:=by
 unfold Qe.unary at h ⊢
 by_cases c1:Qe.is ts s false [45] = true
 ·rw [if_pos c1] at h ⊢; exact zDA hr h
 rw [if_neg c1] at h ⊢
 by_cases c2:Qe.is ts s false [33] = true
 ·rw [if_pos c2] at h ⊢; exact zDA hr h
 rw [if_neg c2] at h ⊢
 split at h
 ·cases h
 ·rename_i he; rw [zMr hr hg he]; exact zD1 hr g g' hg h
theorem zEK (hr:RLe r r'){n:Nat}:∀ (g g':Nat),g ≤ g' → ∀ {e:Ex}{s:Q}{x:Ex × Q},Qe.binLoop ts r n g e s = some x → Qe.binLoop ts r' n g' e s = some x
 | 0,_,_,_,_,_,h => by cases h
 | g + 1,0,hg,_,_,_,_ => by omega
 | g + 1,g' + 1,hg,e,s,x,h => by
   rw [Qe.binLoop] at h ⊢
   by_cases hc:Qe.sign ts s n = 0
   ·rw [if_pos hc] at h ⊢; exact h
   ·rw [if_neg hc] at h ⊢
    split at h
    ·cases h
    ·rename_i he; rw [hr _ _ _ he]; exact zEK hr g g' (by omega) h
theorem zJo:∀ (f f':Nat),f ≤ f' → RLe (Qe.run ts f) (Qe.run ts f')
 | 0,_,_ => fun _ _ _ h => by cases h
 | f + 1,0,hf => by omega
 | f + 1,f' + 1,hf => fun n s x h => by
   have ih:=zJo f f' (by omega)
   rw [Qe.run] at h ⊢
   dsimp only at h ⊢
   by_cases hn:n = 5
   ·rw [if_pos hn] at h ⊢; exact zK7 ih (by omega) h
   ·rw [if_neg hn] at h ⊢
    split at h
    ·cases h
    ·rename_i he; rw [ih _ _ _ he]; exact zEK ih f f' (by omega) h
variable {x x':Qs.RX} {b b':Q → Qs.OutB} {a a':Q → Qs.Out}
theorem zNz (hx:FLe x x')(hb:FLe b b'):FLe (Qs.stmt ts x b) (Qs.stmt ts x' b'):=by
 intro s y h
 unfold Qs.stmt at h ⊢
 by_cases c1:(Qe.is ts s true [118,97,114] || Qe.is ts s true [108,101,116]) = true
 ·rw [if_pos c1] at h ⊢
  unfold Qs.declared at h ⊢
  by_cases hc:(tokAt ts s.k).text = [108,101,116]
  ·replace h:=(if_pos hc).symm.trans h
   refine (if_pos hc).trans ?_
   split at h
   ·cases h
   ·rename_i he; rw [hx _ _ he]; exact h
  ·replace h:=(if_neg hc).symm.trans h
   exact (if_neg hc).trans h
 rw [if_neg c1] at h ⊢
 by_cases c2:Qe.is ts s true [105,102] = true
 ·rw [if_pos c2] at h ⊢
  unfold Qs.choice at h ⊢
  split at h
  ·cases h
  rename_i he
  rw [hx _ _ he]
  dsimp only
  split at h
  ·cases h
  rename_i hbl
  rw [hb _ _ hbl]
  dsimp only
  split at h
  ·rename_i hc
   rw [if_pos hc]
   split at h
   ·cases h
   ·rename_i hb2; rw [hb _ _ hb2]; exact h
  ·rename_i hc; rw [if_neg hc]; exact h
 rw [if_neg c2] at h ⊢
 by_cases c3:Qe.is ts s true [119,104,105,108,101] = true
 ·rw [if_pos c3] at h ⊢
  unfold Qs.loop at h ⊢
  split at h
  ·cases h
  rename_i he
  rw [hx _ _ he]
  dsimp only
  split at h
  ·cases h
  ·rename_i hbl; rw [hb _ _ hbl]; exact h
 rw [if_neg c3] at h ⊢
 by_cases c4:Qe.is ts s true [114,101,116,117,114,110] = true
 ·rw [if_pos c4] at h ⊢
  unfold Qs.result at h ⊢
  by_cases hc:Qe.is ts (Qe.next s) false [59] = true
  ·rw [if_pos hc] at h ⊢; exact h
  ·rw [if_neg hc] at h ⊢
   split at h
   ·cases h
   ·rename_i he; rw [hx _ _ he]; exact h
 rw [if_neg c4] at h ⊢
 by_cases c5:Qe.is ts s true [112,114,105,110,116] = true
 ·rw [if_pos c5] at h ⊢
  unfold Qs.output at h ⊢
  split at h
  ·cases h
  ·rename_i he; rw [hx _ _ he]; exact h
 rw [if_neg c5] at h ⊢
 unfold Qs.plain at h ⊢
 split at h
 ·cases h
 rename_i he
 rw [hx _ _ he]
 dsimp only
 split at h
 ·rename_i hc
  rw [if_pos hc]
  unfold Qs.plainPut at h ⊢
  split at h
  ·cases h
  ·rename_i hp; rw [hx _ _ hp]; exact h
 ·rename_i hc; rw [if_neg hc]; exact h
theorem zFB (ha:FLe a a'):∀ (g g':Nat),g ≤ g' → ∀ {l:List Sm}{s:Q}{y:List Sm × Q},Qs.stLoop ts a g l s = some y → Qs.stLoop ts a' g' l s = some y
 | 0,_,_,_,_,_,h => by cases h
 | g + 1,0,hg,_,_,_,_ => by omega
 | g + 1,g' + 1,hg,l,s,y,h => by
   rw [Qs.stLoop] at h ⊢
   by_cases hc:s.E = 0 ∧ Qe.is ts s false [125] = false
   ·rw [if_pos hc] at h ⊢
    split at h
    ·cases h
    ·rename_i he; rw [ha _ _ he]; exact zFB ha g g' (by omega) h
   ·rw [if_neg hc] at h ⊢; exact h
theorem zMH (ha:FLe a a'){g g':Nat}(hg:g ≤ g'):FLe (Qs.block ts a g) (Qs.block ts a' g'):=by
 intro s y h
 unfold Qs.block at h ⊢
 split at h
 ·cases h
 ·rename_i he; rw [zFB ha g g' hg he]; exact h
theorem zGm (hx:FLe x x'):∀ (f f':Nat),f ≤ f' → FLe (Qs.run ts x f).1 (Qs.run ts x' f').1 ∧ FLe (Qs.run ts x f).2 (Qs.run ts x' f').2
 | 0,_,_ => ⟨(fun _ _ h => by cases h),(fun _ _ h => by cases h)⟩
 | f + 1,0,hf => by omega
 | f + 1,f' + 1,hf => ⟨zNz hx (zGm hx f f' (by omega)).2,zMH (zGm hx f f' (by omega)).1 (by omega)⟩
theorem zDc:∀ (g g':Nat),g ≤ g' → ∀ {l:List Pm}{s:Q}{y:List Pm × Q},Qg.fieldLoop ts g l s = some y → Qg.fieldLoop ts g' l s = some y
 | 0,_,_,_,_,_,h => by cases h
 | g + 1,0,hg,_,_,_,_ => by omega
 | g + 1,g' + 1,hg,l,s,y,h => by
   rw [Qg.fieldLoop] at h ⊢
   by_cases hc:s.E = 0 ∧ Qe.is ts s false [125] = false
   ·rw [if_pos hc] at h ⊢
    by_cases hk:(tokAt ts s.k).kind = 1 ∧ l.length = 8
    ·rw [if_pos hk] at h ⊢; exact h
    ·rw [if_neg hk] at h ⊢; exact zDc g g' (by omega) h
   ·rw [if_neg hc] at h ⊢; exact h
theorem zEs:∀ (g g':Nat),g ≤ g' → ∀ {l:List Pm}{s:Q}{y:List Pm × Q},Qg.parLoop ts g l s = some y → Qg.parLoop ts g' l s = some y
 | 0,_,_,_,_,_,h => by cases h
 | g + 1,0,hg,_,_,_,_ => by omega
 | g + 1,g' + 1,hg,l,s,y,h => by
   rw [Qg.parLoop] at h ⊢
   by_cases hc:s.E = 0 ∧ Qe.is ts s false [41] = false
   ·rw [if_pos hc] at h ⊢
    by_cases hk:(tokAt ts s.k).kind = 1 ∧ l.length = 6
    ·rw [if_pos hk] at h ⊢; exact h
    ·rw [if_neg hk] at h ⊢; exact zEs g g' (by omega) h
   ·rw [if_neg hc] at h ⊢; exact h
theorem zJx {g g':Nat}(hg:g ≤ g'){s:Q}{y:Rc × Q}(h:Qg.record ts g s = some y):Qg.record ts g' s = some y:=by
 unfold Qg.record at h ⊢
 split at h
 ·cases h
 ·rename_i he; rw [zDc g g' hg he]; exact h
theorem zGV (hb:FLe b b'){g g':Nat}(hg:g ≤ g'){s:Q}{y:Fc × Q}(h:Qg.function ts b g s = some y):Qg.function ts b' g' s = some y:=by
 unfold Qg.function at h ⊢
 split at h
 ·cases h
 rename_i he
 rw [zEs g g' hg he]
 dsimp only at h ⊢
 split at h
 ·cases h
 ·rename_i hbl; rw [hb _ _ hbl]; exact h
theorem zBw (hb:FLe b b'):∀ (g g':Nat),g ≤ g' → ∀ {p:Gm}{s:Q}{y:Gm × Q},Qg.loop ts b g p s = some y → Qg.loop ts b' g' p s = some y
 | 0,_,_,_,_,_,h => by cases h
 | g + 1,0,hg,_,_,_,_ => by omega
 | g + 1,g' + 1,hg,p,s,y,h => by
   rw [Qg.loop] at h ⊢
   by_cases hc:s.E = 0 ∧ (tokAt ts s.k).kind ≠ 0
   ·rw [if_pos hc] at h ⊢
    by_cases ho:Qg.over ts p s
    ·rw [if_pos ho] at h ⊢; exact zBw hb g g' (by omega) h
    rw [if_neg ho] at h ⊢
    by_cases c1:Qe.is ts s true [114,101,99,111,114,100] = true
    ·rw [if_pos c1] at h ⊢
     split at h
     ·cases h
     ·rename_i he; rw [zJx (show g ≤ g' by omega) he]; exact zBw hb g g' (by omega) h
    rw [if_neg c1] at h ⊢
    by_cases c2:Qe.is ts s true [103,108,111,98,97,108] = true
    ·rw [if_pos c2] at h ⊢; exact zBw hb g g' (by omega) h
    rw [if_neg c2] at h ⊢
    by_cases c3:Qe.is ts s true [102,117,110,99] = true
    ·rw [if_pos c3] at h ⊢
     split at h
     ·cases h
     ·rename_i he; rw [zGV hb (show g ≤ g' by omega) he]; exact zBw hb g g' (by omega) h
    ·rw [if_neg c3] at h ⊢; exact zBw hb g g' (by omega) h
   ·rw [if_neg hc] at h ⊢; exact h
theorem zHn {F F' f f' g g':Nat}(h1:F ≤ F')(h2:f ≤ f')(h3:g ≤ g'){y:Gm × Int × Int}(h:Qg.run ts (Qs.run ts (Qe.run ts F 0) f).2 g = some y):Qg.run ts (Qs.run ts (Qe.run ts F' 0) f').2 g' = some y:=by
 unfold Qg.run at h ⊢
 split at h
 ·cases h
 ·rename_i he
  rw [zBw (zGm (fun s x hx => zJo F F' h1 0 s x hx) f f' h2).2 g g' h3 he]
  exact h
end
end Rt
end Go.Proofs.YteadgahhchlgeaaDoor
