/-
  What was read of tokens is written with no more open than wa
-/
import Derived.Test.YteadgahhchlgeaaDoorK28
namespace Go.Proofs.YteadgahhchlgeaaDoor
namespace Rt
open Go.RowKit
open Px (RT tokAt isT levelT signsOf)
open Qe (Q)
open Pe (Ex inc dec)
section
variable (NmOk:List UInt8 → Prop) (NuOk:Int → Prop)
def Ok (p:PT):Prop:=(p.1 = 1 → NmOk p.2.1) ∧ (p.1 = 2 → NuOk p.2.2)
def OkL (l:List PT):Prop:=∀ p ∈ l,Ok NmOk NuOk p
def WR (n:Nat)(e:Ex)(o:Int):Prop:=∃ d l,EW n e d l ∧ OkL NmOk NuOk l ∧ (d:Int) + o ≤ 50
def TokOk (ts:List RT):Prop:=∀ k,((tokAt ts k).kind = 1 → NmOk (tokAt ts k).text) ∧ ((tokAt ts k).kind = 2 → NuOk (tokAt ts k).num)
end
section
variable {NmOk:List UInt8 → Prop} {NuOk:Int → Prop}
theorem zAb (t:List UInt8):Ok NmOk NuOk (sg t):=⟨fun h => absurd h (by show ¬ (4:Int) = 1; decide),fun h => absurd h (by show ¬ (4:Int) = 2; decide)⟩
theorem zBz (t:List UInt8):Ok NmOk NuOk (wd t):=⟨fun h => absurd h (by show ¬ (3:Int) = 1; decide),fun h => absurd h (by show ¬ (3:Int) = 2; decide)⟩
theorem zDE {t:List UInt8}(h:NmOk t):Ok NmOk NuOk (nm t):=⟨fun _ => h,fun h => absurd h (by show ¬ (1:Int) = 2; decide)⟩
theorem zSu {n:Int}(h:NuOk n):Ok NmOk NuOk (nu n):=⟨fun h => absurd h (by show ¬ (2:Int) = 1; decide),fun _ => h⟩
theorem OkL.nil:OkL NmOk NuOk []:=fun _ h => by cases h
theorem OkL.cons {p:PT}{l:List PT}(h:Ok NmOk NuOk p)(hl:OkL NmOk NuOk l):OkL NmOk NuOk (p :: l):=fun q hq => by
 rcases List.mem_cons.1 hq with rfl | hq
 ·exact h
 ·exact hl q hq
theorem OkL.app {a b:List PT}(h:OkL NmOk NuOk a)(hl:OkL NmOk NuOk b):OkL NmOk NuOk (a ++ b):=fun q hq => by
 rcases List.mem_append.1 hq with hq | hq
 ·exact h q hq
 ·exact hl q hq
theorem OkL.rep {p:PT}(h:Ok NmOk NuOk p)(n:Nat):OkL NmOk NuOk (List.replicate n p):=fun q hq => by
 rw [(List.mem_replicate.1 hq).2]; exact h
def TyOk (NmOk:List UInt8 → Prop)(t:List UInt8):Prop:=(t = [105,110,116] ∨ t = [98,111,111,108]) ∨ NmOk t
theorem zGH {t:List UInt8}(h:TyOk NmOk t)(d:Nat):OkL NmOk NuOk (tyT t d):=by
 have hw:Ok NmOk NuOk (word t):=by
  unfold word
  split
  ·exact zBz _
  ·rename_i hn; exact zDE (h.resolve_left hn)
 exact ((OkL.rep (zAb _) d).app (OkL.nil.cons hw)).app (OkL.rep (zAb _) d)
theorem WR.weak {n m:Nat}{e:Ex}{o:Int}(h:WR NmOk NuOk m e o)(hn:n ≤ m):WR NmOk NuOk n e o:=by
 obtain ⟨d,l,h,hk,ho⟩:=h
 cases h with
 | bare _ _ _ _ _ h hl => exact ⟨d,l,.bare _ _ _ _ _ h (by omega),hk,ho⟩
 | par _ _ lv d _ h hl =>
   by_cases hc:n ≤ lv
   ·exact ⟨d,_,.bare _ _ _ _ _ h hc,fun p hp => hk p (List.mem_cons_of_mem _ (List.mem_append_left _ hp)),by push_cast at ho; omega⟩
   ·exact ⟨_,_,.par _ _ _ _ _ h (by omega),hk,ho⟩
theorem WR.par {n m:Nat}{e:Ex}{o:Int}(h:WR NmOk NuOk m e (o + 1)):WR NmOk NuOk n e o:=by
 obtain ⟨d,l,h,hk,ho⟩:=h
 have key:∀ {lv d:Nat} {l:List PT},EP e lv d l → OkL NmOk NuOk l → (d:Int) + (o + 1) ≤ 50 → WR NmOk NuOk n e o:=by
  intro lv d l h hk ho
  by_cases hc:n ≤ lv
  ·exact ⟨d,l,.bare _ _ _ _ _ h hc,hk,by omega⟩
  ·exact ⟨d + 1,_,.par _ _ _ _ _ h (by omega),((hk.app (OkL.nil.cons (zAb _)))).cons (zAb _),by push_cast; omega⟩
 cases h with
 | bare _ _ _ _ _ h hl => exact key h hk ho
 | par _ _ lv d _ h hl => exact key h (fun p hp => hk p (List.mem_cons_of_mem _ (List.mem_append_left _ hp))) (by push_cast at ho; omega)
theorem WR.of {n lv d:Nat}{e:Ex}{l:List PT}{o:Int}(h:EP e lv d l)(hn:n ≤ lv)(hk:OkL NmOk NuOk l)(ho:(d:Int) + o ≤ 50):WR NmOk NuOk n e o:=⟨d,l,.bare _ _ _ _ _ h hn,hk,ho⟩
end
section
variable {ts:List RT}
theorem zAv {s:Q}{e:Int}(he:e ≠ 0)(h:(Qe.fail ts s e).E = 0):False:=by
 unfold Qe.fail at h
 split at h
 ·exact he h
 ·rename_i hs; exact hs h
theorem is_E {s:Q}{b:Bool}{t:List UInt8}(h:Qe.is ts s b t = true):s.E = 0:=by
 unfold Qe.is at h
 rw [Bool.and_eq_true] at h
 simpa using h.1
theorem zKq {s:Q}{b:Bool}{t:List UInt8}(h:Qe.is ts s b t = true):(tokAt ts s.k).kind = (if b then 3 else 4) ∧ (tokAt ts s.k).text = t:=by
 unfold Qe.is isT at h
 simp only [Bool.and_eq_true,decide_eq_true_eq,beq_iff_eq] at h
 exact h.2
theorem zCq {s:Q}{b:Bool}{t:List UInt8}(h:(Qe.take ts s b t).E = 0):Qe.is ts s b t = true ∧ Qe.take ts s b t = Qe.next s:=by
 unfold Qe.take at h ⊢
 by_cases hi:Qe.is ts s b t = true
 ·rw [if_pos hi]; exact ⟨hi,rfl⟩
 ·rw [if_neg hi] at h; exact (zAv (by decide) h).elim
theorem zDM {o:Int}(h0 : 0 ≤ o)(h:o < 50):inc o = o + 1:=by unfold inc; simp [wrap64]; omega
theorem zDV {o:Int}(h0 : 0 ≤ o)(h:o < 50):dec (o + 1) = o:=by unfold dec; simp [wrap64]; omega
theorem zBN {s:Q}{t:List UInt8}(h:(Qe.opens ts s t).E = 0):s.E = 0 ∧ s.o < 50 ∧ (Qe.opens ts s t).o = inc s.o:=by
 unfold Qe.opens at h ⊢
 by_cases hc:(Qe.is ts s false t && decide (50 ≤ s.o)) = true
 ·rw [if_pos hc] at h; exact (zAv (by decide) h).elim
 ·rw [if_neg hc] at h ⊢
  have ht:=zCq h
  rw [ht.1,Bool.true_and,decide_eq_true_eq] at hc
  exact ⟨is_E ht.1,by omega,by show inc (Qe.take ts s false t).o = _; rw [ht.2]; rfl⟩
theorem zBD {s:Q}{t:List UInt8}(h:(Qe.closes ts s t).E = 0):s.E = 0 ∧ (Qe.closes ts s t).o = dec s.o:=by
 have ht:=zCq (show (Qe.take ts s false t).E = 0 from h)
 exact ⟨is_E ht.1,by show dec (Qe.take ts s false t).o = _; rw [ht.2]; rfl⟩
theorem zBq {s:Q}(h:(Qe.name ts s).2.E = 0):s.E = 0 ∧ (tokAt ts s.k).kind = 1 ∧ Qe.name ts s = ((tokAt ts s.k).text,Qe.next s):=by
 unfold Qe.name at h ⊢
 by_cases hc:s.E = 0 ∧ (tokAt ts s.k).kind = 1
 ·rw [if_pos hc]; exact ⟨hc.1,hc.2,rfl⟩
 ·rw [if_neg hc] at h; exact (zAv (by decide) h).elim
theorem zFo:∀ (n:Nat){s:Q},(Qe.dims ts n s).2.E = 0 → s.E = 0 ∧ (Qe.dims ts n s).2.o = s.o ∧ ∃ d,(Qe.dims ts n s).1 = some d ∧ d ≤ n
 | 0,s,h => by
   rw [Qe.dims] at h ⊢
   by_cases hi:Qe.is ts s false [91] = true
   ·rw [if_pos hi] at h; exact (zAv (by decide) h).elim
   ·rw [if_neg hi] at h ⊢; exact ⟨h,rfl,0,rfl,Nat.le_refl _⟩
 | n + 1,s,h => by
   rw [Qe.dims] at h ⊢
   by_cases hi:Qe.is ts s false [91] = true
   ·rw [if_pos hi] at h ⊢
    obtain ⟨h1,h2,d,h3,h4⟩:=zFo n h
    exact ⟨is_E hi,h2,d + 1,by dsimp only; rw [h3]; rfl,by omega⟩
   ·rw [if_neg hi] at h ⊢; exact ⟨h,rfl,0,rfl,Nat.zero_le _⟩
theorem zJg:∀ (n:Nat){s:Q},(Qe.shut ts n s).E = 0 → s.E = 0 ∧ (Qe.shut ts n s).o = s.o
 | 0,_,h => ⟨h,rfl⟩
 | n + 1,s,h => by
   obtain ⟨h1,h2⟩:=zJg n (s:=Qe.take ts s false [93]) h
   have ht:=zCq h1
   exact ⟨is_E ht.1,by show (Qe.shut ts n (Qe.take ts s false [93])).o = _; rw [h2,ht.2]; rfl⟩
variable {NmOk:List UInt8 → Prop} {NuOk:Int → Prop}
theorem zOW (H:TokOk NmOk NuOk ts){s:Q}(h:(Qe.base ts s).2.E = 0):s.E = 0 ∧ (Qe.base ts s).2.o = s.o ∧ TyOk NmOk (Qe.base ts s).1:=by
 unfold Qe.base at h ⊢
 by_cases hi:(Qe.is ts s true [105,110,116] || Qe.is ts s true [98,111,111,108]) = true
 ·rw [if_pos hi]
  rw [Bool.or_eq_true] at hi
  rcases hi with hi | hi
  ·exact ⟨is_E hi,rfl,.inl (.inl (zKq hi).2)⟩
  ·exact ⟨is_E hi,rfl,.inl (.inr (zKq hi).2)⟩
 ·rw [if_neg hi] at h ⊢
  obtain ⟨h1,h2,h3⟩:=zBq h
  rw [h3]
  exact ⟨h1,rfl,.inr ((H s.k).1 h2)⟩
theorem zIF (H:TokOk NmOk NuOk ts){s:Q}(h:(Qe.of ts s).2.2.E = 0):s.E = 0 ∧ (Qe.of ts s).2.2.o = s.o ∧ TyOk NmOk (Qe.of ts s).1 ∧ (Qe.of ts s).2.1 ≤ 3:=by
 unfold Qe.of at h ⊢
 cases hd:(Qe.dims ts 3 s).1 with
 | none =>
   rw [hd] at h
   obtain ⟨-,-,d,h1,-⟩:=zFo 3 h
   rw [hd] at h1; cases h1
 | some d =>
   rw [hd] at h
   dsimp only at h ⊢
   obtain ⟨h1,h2⟩:=zJg d h
   obtain ⟨h3,h4,h5⟩:=zOW H h1
   obtain ⟨h6,h7,d',h8,h9⟩:=zFo 3 h3
   rw [hd] at h8
   obtain rfl:=Option.some.inj h8
   exact ⟨h6,by rw [h2,h4,h7],h5,h9⟩
def Wr (NmOk:List UInt8 → Prop)(NuOk:Int → Prop)(n:Nat)(s:Q)(x:Ex × Q):Prop:=x.2.E = 0 → s.E = 0 ∧ (0 ≤ s.o ∧ s.o ≤ 50 → x.2.o = s.o ∧ WR NmOk NuOk n x.1 s.o)
def RecW (NmOk:List UInt8 → Prop)(NuOk:Int → Prop)(rec:Nat → Q → Qe.Out):Prop:=∀ n,n ≤ 5 → ∀ s x,rec n s = some x → Wr NmOk NuOk (n + 1) s x
theorem zFf {rec:Nat → Q → Qe.Out}(hr:RecW NmOk NuOk rec){s:Q}{x:Ex × Q}(h:Qe.inner ts rec s = some x)(hx:x.2.E = 0):s.E = 0 ∧ (0 ≤ s.o ∧ s.o ≤ 50 → x.2.o = s.o ∧ WR NmOk NuOk 1 x.1 (s.o + 1)):=by
 unfold Qe.inner at h
 split at h
 ·cases h
 ·rename_i e s2 he
  obtain rfl:=Option.some.inj h
  obtain ⟨h1,h2⟩:=zBD hx
  obtain ⟨h3,h7⟩:=hr 0 (by omega) _ _ he h1
  obtain ⟨h4,h5,h6⟩:=zBN h3
  refine ⟨h4,fun h0 => ?_⟩
  rw [zDM h0.1 h5] at h6
  obtain ⟨h8,h9⟩:=h7 (by rw [h6]; omega)
  rw [h6] at h8 h9
  refine ⟨?_,h9⟩
  show (Qe.closes ts s2 [41]).o = s.o
  rw [h2,show s2.o = s.o + 1 from h8,zDV h0.1 h5]
theorem zEN {rec:Nat → Q → Qe.Out}(hr:RecW NmOk NuOk rec):∀ (g:Nat){l:List Ex}{s:Q}{x:List Ex × Q},Qe.argLoop ts rec g l s = some x → x.2.E = 0 → s.E = 0 ∧ (0 ≤ s.o ∧ s.o ≤ 50 → x.2.o = s.o ∧ ∃ xs d tl,x.1 = l ++ xs ∧ EM xs d tl ∧ OkL NmOk NuOk tl ∧ (d:Int) + s.o ≤ 50 ∨ x.1 = l ∧ xs = [] ∧ d = 0 ∧ tl = [])
 | 0,_,_,_,h,_ => by cases h
 | g + 1,l,s,x,h,hx => by
   rw [Qe.argLoop] at h
   by_cases hi:Qe.is ts s false [44] = true
   ·rw [if_pos hi] at h
    split at h
    ·cases h
    ·rename_i e s2 he
     obtain ⟨h1,h2⟩:=zEN hr g h hx
     obtain ⟨h3,h4⟩:=hr 0 (by omega) _ _ he h1
     refine ⟨is_E hi,fun h0 => ?_⟩
     obtain ⟨h5,d,l1,h6,h7,h8⟩:=h4 h0
     have h5':s2.o = s.o:=h5
     obtain ⟨h9,xs,d2,tl,h10⟩:=h2 (by rw [h5']; exact h0)
     rw [h5'] at h9 h10
     have h8':(d:Int) + s.o ≤ 50:=h8
     refine ⟨h9,?_⟩
     rcases h10 with ⟨h11,h12,h13,h14⟩ | ⟨h11,-,-,-⟩
     ·exact ⟨e :: xs,max d d2,sg [44] :: (l1 ++ tl),.inl ⟨by rw [h11]; simp,.cons _ _ _ _ _ _ h6 h12,(h7.app h13).cons (zAb _),by omega⟩⟩
     ·exact ⟨[e],max d 0,sg [44] :: (l1 ++ []),.inl ⟨h11,.cons _ _ _ _ _ _ h6 .nil,(h7.app OkL.nil).cons (zAb _),by omega⟩⟩
   ·rw [if_neg hi] at h
    obtain rfl:=Option.some.inj h
    exact ⟨hx,fun _ => ⟨rfl,[],0,[],.inr ⟨rfl,rfl,rfl,rfl⟩⟩⟩
theorem zO0 {rec:Nat → Q → Qe.Out}(hr:RecW NmOk NuOk rec)(g:Nat){s:Q}{x:List Ex × Q}(h:Qe.args ts rec g s = some x)(hx:x.2.E = 0):s.E = 0 ∧ (0 ≤ s.o ∧ s.o ≤ 50 → x.2.o = s.o ∧ ((x.1 = [] ∧ 1 + s.o ≤ 50) ∨ ∃ y d l xs d2 l2,x.1 = y :: xs ∧ EW 1 y d l ∧ EM xs d2 l2 ∧ OkL NmOk NuOk l ∧ OkL NmOk NuOk l2 ∧ ((max d d2 + 1:Nat):Int) + s.o ≤ 50)):=by
 unfold Qe.args at h
 by_cases hi:Qe.is ts (Qe.opens ts s [40]) false [41] = true
 ·rw [if_pos hi] at h
  obtain rfl:=Option.some.inj h
  obtain ⟨h1,h2⟩:=zBD hx
  obtain ⟨h4,h5,h6⟩:=zBN h1
  refine ⟨h4,fun h0 => ⟨?_,.inl ⟨rfl,by omega⟩⟩⟩
  show (Qe.closes ts (Qe.opens ts s [40]) [41]).o = s.o
  rw [h2,h6,zDM h0.1 h5,zDV h0.1 h5]
 ·rw [if_neg hi] at h
  split at h
  ·cases h
  ·rename_i e s2 he
   split at h
   ·cases h
   ·rename_i l s3 hl
    obtain rfl:=Option.some.inj h
    obtain ⟨h1,h2⟩:=zBD hx
    obtain ⟨h3,h7⟩:=zEN hr g hl h1
    obtain ⟨h8,h9⟩:=hr 0 (by omega) _ _ he h3
    obtain ⟨h4,h5,h6⟩:=zBN h8
    refine ⟨h4,fun h0 => ?_⟩
    rw [zDM h0.1 h5] at h6
    obtain ⟨h10,d,l1,h11,h12,h13⟩:=h9 (by rw [h6]; omega)
    rw [h6] at h10 h13
    have h10':s2.o = s.o + 1:=h10
    obtain ⟨h14,xs,d2,tl,h15⟩:=h7 (by rw [h10']; omega)
    rw [h10'] at h14 h15
    refine ⟨?_,.inr ?_⟩
    ·show (Qe.closes ts s3 [41]).o = s.o
     rw [h2,show s3.o = s.o + 1 from h14,zDV h0.1 h5]
    ·rcases h15 with ⟨h16,h17,h18,h19⟩ | ⟨h16,-,-,-⟩
     ·exact ⟨e,d,l1,xs,d2,tl,h16,h11,h17,h12,h18,by push_cast; omega⟩
     ·exact ⟨e,d,l1,[],0,[],h16,h11,.nil,h12,OkL.nil,by push_cast; omega⟩
theorem zMb (H:TokOk NmOk NuOk ts){rec:Nat → Q → Qe.Out}(hr:RecW NmOk NuOk rec){s:Q}{a:Int}{x:Ex × Q}(h:Qe.fresh ts rec s a = some x):Wr NmOk NuOk 7 s x:=by
 intro hx
 unfold Qe.fresh at h
 by_cases hi:Qe.is ts s false [91] = true
 ·rw [if_pos hi] at h
  dsimp only at h
  split at h
  ·cases h
  ·rename_i e s2 he
   obtain rfl:=Option.some.inj h
   obtain ⟨h1,h2⟩:=zFf hr he hx
   have ht:=zCq h1
   have hE:(Qe.of ts (Qe.next s)).2.2.E = 0:=is_E ht.1
   obtain ⟨-,h4,h5,h6⟩:=zIF H hE
   refine ⟨is_E hi,fun h0 => ?_⟩
   have ho:(Qe.take ts (Qe.of ts (Qe.next s)).2.2 false [93]).o = s.o:=by rw [ht.2]; exact h4
   rw [ho] at h2
   obtain ⟨h7,d,l,h8,h9,h10⟩:=h2 h0
   exact ⟨h7,.of (.make _ _ _ _ _ a h6 h8) (Nat.le_refl _) (((((h9.app (OkL.nil.cons (zAb _))).cons (zAb _)).cons (zAb _) |> (zGH h5 _).app).cons (zAb _)).cons (zBz _)) (by push_cast; omega)⟩
 ·rw [if_neg hi] at h
  obtain rfl:=Option.some.inj h
  obtain ⟨h1,h2,h3⟩:=zBq hx
  refine ⟨h1,fun h0 => ?_⟩
  rw [h3]
  exact ⟨rfl,.of (.new _ a) (Nat.le_refl _) ((OkL.nil.cons (zDE ((H s.k).1 h2))).cons (zBz _)) (by have:=h0.2; push_cast; omega)⟩
theorem zMq (H:TokOk NmOk NuOk ts){rec:Nat → Q → Qe.Out}(hr:RecW NmOk NuOk rec)(g:Nat){s:Q}{x:Ex × Q}(h:Qe.first ts rec g s = some x):Wr NmOk NuOk 7 s x:=by
 intro hx
 unfold Qe.first at h
 dsimp only at h
 by_cases c0:s.E = 0 ∧ (tokAt ts s.k).kind = 2
 ·rw [if_pos c0] at h
  obtain rfl:=Option.some.inj h
  exact ⟨c0.1,fun h0 => ⟨rfl,.of (.num _ _) (Nat.le_refl _) (OkL.nil.cons (zSu ((H s.k).2 c0.2))) (by have:=h0.2; push_cast; omega)⟩⟩
 rw [if_neg c0] at h
 by_cases c1:Qe.is ts s true [116,114,117,101] = true
 ·rw [if_pos c1] at h
  obtain rfl:=Option.some.inj h
  exact ⟨is_E c1,fun h0 => ⟨rfl,.of (.tru _) (Nat.le_refl _) (OkL.nil.cons (zBz _)) (by have:=h0.2; push_cast; omega)⟩⟩
 rw [if_neg c1] at h
 by_cases c2:Qe.is ts s true [102,97,108,115,101] = true
 ·rw [if_pos c2] at h
  obtain rfl:=Option.some.inj h
  exact ⟨is_E c2,fun h0 => ⟨rfl,.of (.fls _) (Nat.le_refl _) (OkL.nil.cons (zBz _)) (by have:=h0.2; push_cast; omega)⟩⟩
 rw [if_neg c2] at h
 by_cases c3:Qe.is ts s true [110,117,108,108] = true
 ·rw [if_pos c3] at h
  obtain rfl:=Option.some.inj h
  obtain ⟨-,h4,h5,h6⟩:=zIF H hx
  exact ⟨is_E c3,fun h0 => ⟨h4,.of (.null _ _ _ h6) (Nat.le_refl _) ((zGH h5 _).cons (zBz _)) (by have:=h0.2; push_cast; omega)⟩⟩
 rw [if_neg c3] at h
 by_cases c4:Qe.is ts s true [110,101,119] = true
 ·rw [if_pos c4] at h
  exact ⟨is_E c4,(zMb H hr h hx).2⟩
 rw [if_neg c4] at h
 by_cases c5:Qe.is ts s true [108,101,110] = true
 ·rw [if_pos c5] at h
  split at h
  ·cases h
  ·rename_i e s2 he
   obtain rfl:=Option.some.inj h
   obtain ⟨h1,h2⟩:=zFf hr he hx
   refine ⟨is_E c5,fun h0 => ?_⟩
   obtain ⟨h7,d,l,h8,h9,h10⟩:=h2 h0
   have h10':(d:Int) + (s.o + 1) ≤ 50:=h10
   exact ⟨h7,.of (.len _ _ _ _ h8) (Nat.le_refl _) (((h9.app (OkL.nil.cons (zAb _))).cons (zAb _)).cons (zBz _)) (by push_cast; omega)⟩
 rw [if_neg c5] at h
 by_cases c6:Qe.is ts s true [114,101,97,100] = true
 ·rw [if_pos c6] at h
  obtain rfl:=Option.some.inj h
  obtain ⟨h1,h2⟩:=zBD hx
  obtain ⟨h4,h5,h6⟩:=zBN h1
  refine ⟨is_E c6,fun h0 => ⟨?_,.of (.read _) (Nat.le_refl _) (((OkL.nil.cons (zAb _)).cons (zAb _)).cons (zBz _)) (by have:s.o < 50:=h5; push_cast; omega)⟩⟩
  show (Qe.closes ts (Qe.opens ts (Qe.next s) [40]) [41]).o = s.o
  rw [h2,h6]
  show dec (inc s.o) = s.o
  rw [zDM h0.1 h5,zDV h0.1 h5]
 rw [if_neg c6] at h
 by_cases c7:Qe.is ts s false [40] = true
 ·rw [if_pos c7] at h
  obtain ⟨h1,h2⟩:=zFf hr h hx
  exact ⟨h1,fun h0 => ⟨(h2 h0).1,(h2 h0).2.par⟩⟩
 rw [if_neg c7] at h
 by_cases c8:Qe.is ts (Qe.name ts s).2 false [40] = true
 ·rw [if_pos c8] at h
  split at h
  ·cases h
  ·rename_i l s2 hl
   obtain rfl:=Option.some.inj h
   obtain ⟨h1,h2⟩:=zO0 hr g hl hx
   obtain ⟨h3,h4,h5⟩:=zBq h1
   refine ⟨h3,fun h0 => ?_⟩
   rw [h5] at h2 ⊢
   obtain ⟨h6,h7⟩:=h2 h0
   have hn:=zDE (NuOk:=NuOk) ((H s.k).1 h4)
   refine ⟨h6,?_⟩
   rcases h7 with ⟨h7,h8⟩ | ⟨y,d,l1,xs,d2,l2,h8,h9,h10,h11,h12,h13⟩
   ·dsimp only at h7
    subst h7
    exact .of (.call0 _ _) (Nat.le_refl _) (((OkL.nil.cons (zAb _)).cons (zAb _)).cons hn) (by have : 1 + s.o ≤ 50:=h8; push_cast; omega)
   ·dsimp only at h8
    subst h8
    exact .of (.call _ _ _ _ _ _ _ _ h9 h10) (Nat.le_refl _) (((h11.app (h12.app (OkL.nil.cons (zAb _)))).cons (zAb _)).cons hn) h13
 ·rw [if_neg c8] at h
  obtain rfl:=Option.some.inj h
  obtain ⟨h1,h2,h3⟩:=zBq hx
  rw [h3]
  exact ⟨h1,fun h0 => ⟨rfl,.of (.var _ _) (Nat.le_refl _) (OkL.nil.cons (zDE ((H s.k).1 h2))) (by have:=h0.2; push_cast; omega)⟩⟩
theorem zD0 (H:TokOk NmOk NuOk ts){rec:Nat → Q → Qe.Out}(hr:RecW NmOk NuOk rec):∀ (g:Nat){e:Ex}{s:Q}{x:Ex × Q},Qe.behind ts rec g e s = some x → x.2.E = 0 → s.E = 0 ∧ (0 ≤ s.o ∧ s.o ≤ 50 → WR NmOk NuOk 7 e s.o → x.2.o = s.o ∧ WR NmOk NuOk 7 x.1 s.o)
 | 0,_,_,_,h,_ => by cases h
 | g + 1,e,s,x,h,hx => by
   rw [Qe.behind] at h
   by_cases c1:Qe.is ts s false [46] = true
   ·rw [if_pos c1] at h
    obtain ⟨h1,h2⟩:=zD0 H hr g h hx
    obtain ⟨-,h4,h5⟩:=zBq h1
    refine ⟨is_E c1,fun h0 hw => ?_⟩
    obtain ⟨d,l,h6,h7,h8⟩:=hw
    rw [h5] at h2
    exact h2 h0 (.of (.field _ _ _ _ _ h6) (Nat.le_refl _) (h7.app ((OkL.nil.cons (zDE ((H _).1 h4))).cons (zAb _))) h8)
   rw [if_neg c1] at h
   by_cases c2:Qe.is ts s false [91] = true
   ·rw [if_pos c2] at h
    split at h
    ·cases h
    ·rename_i i s2 hi
     obtain ⟨h1,h2⟩:=zD0 H hr g h hx
     obtain ⟨h3,h4⟩:=zBD h1
     obtain ⟨h8,h9⟩:=hr 0 (by omega) _ _ hi h3
     obtain ⟨h10,h5,h6⟩:=zBN h8
     refine ⟨h10,fun h0 hw => ?_⟩
     rw [zDM h0.1 h5] at h6
     obtain ⟨h11,d2,l2,h12,h13,h14⟩:=h9 (by rw [h6]; omega)
     rw [h6] at h11 h14
     have h11':s2.o = s.o + 1:=h11
     rw [h4,h11',zDV h0.1 h5] at h2
     obtain ⟨d,l,h15,h16,h17⟩:=hw
     exact h2 h0 (.of (.item _ _ _ _ _ _ _ h15 h12) (Nat.le_refl _) (h16.app ((h13.app (OkL.nil.cons (zAb _))).cons (zAb _))) (by push_cast; omega))
   ·rw [if_neg c2] at h
    obtain rfl:=Option.some.inj h
    exact ⟨hx,fun _ hw => ⟨rfl,hw⟩⟩
theorem zDz {rec:Nat → Q → Qe.Out}(hr:RecW NmOk NuOk rec){s:Q}{t:List UInt8}{kd:Int}(hk:kd = 12 ∧ t = [45] ∨ kd = 13 ∧ t = [33]){x:Ex × Q}(h:Qe.prefixed ts rec s t kd = some x):Wr NmOk NuOk 6 s x:=by
 intro hx
 unfold Qe.prefixed at h
 split at h
 ·cases h
 ·rename_i e s2 he
  obtain rfl:=Option.some.inj h
  obtain ⟨h8,h9⟩:=hr 5 (by omega) _ _ he hx
  obtain ⟨h10,h5,h6⟩:=zBN h8
  refine ⟨h10,fun h0 => ?_⟩
  rw [zDM h0.1 h5] at h6
  obtain ⟨h11,d,l,h12,h13,h14⟩:=h9 (by rw [h6]; omega)
  rw [h6] at h11 h14
  refine ⟨?_,?_⟩
  ·show dec s2.o = s.o
   rw [show s2.o = s.o + 1 from h11,zDV h0.1 h5]
  ·rcases hk with ⟨rfl,rfl⟩ | ⟨rfl,rfl⟩
   ·exact .of (.neg _ _ _ _ h12) (Nat.le_refl _) (h13.cons (zAb _)) (by push_cast; omega)
   ·exact .of (.not _ _ _ _ h12) (Nat.le_refl _) (h13.cons (zAb _)) (by push_cast; omega)
theorem zK6 (H:TokOk NmOk NuOk ts){rec:Nat → Q → Qe.Out}(hr:RecW NmOk NuOk rec)(g:Nat){s:Q}{x:Ex × Q}(h:Qe.unary ts rec g s = some x):Wr NmOk NuOk 6 s x:=by
 unfold Qe.unary at h
 by_cases c1:Qe.is ts s false [45] = true
 ·rw [if_pos c1] at h; exact zDz hr (.inl ⟨rfl,rfl⟩) h
 rw [if_neg c1] at h
 by_cases c2:Qe.is ts s false [33] = true
 ·rw [if_pos c2] at h; exact zDz hr (.inr ⟨rfl,rfl⟩) h
 rw [if_neg c2] at h
 split at h
 ·cases h
 ·rename_i e s2 he
  intro hx
  obtain ⟨h1,h2⟩:=zD0 H hr g h hx
  obtain ⟨h3,h4⟩:=zMq H hr g he h1
  refine ⟨h3,fun h0 => ?_⟩
  obtain ⟨h5,h6⟩:=h4 h0
  have h5':s2.o = s.o:=h5
  rw [h5'] at h2
  obtain ⟨h7,h8⟩:=h2 h0 h6
  exact ⟨h7,h8.weak (by omega)⟩
theorem zND {s:Q}{n:Nat}(h:¬ Qe.sign ts s n = 0):s.E = 0 ∧ ∃ t,(t,Qe.sign ts s n) ∈ signsOf n:=by
 unfold Qe.sign at h ⊢
 by_cases hE:s.E = 0
 ·rw [if_pos hE] at h ⊢
  unfold levelT at h ⊢
  by_cases hk:(tokAt ts s.k).kind = 4
  ·rw [if_pos hk] at h ⊢
   cases hf:(signsOf n).find? fun p => p.1 == (tokAt ts s.k).text with
   | none => rw [hf] at h; exact absurd rfl h
   | some p => exact ⟨hE,p.1,List.mem_of_find?_eq_some hf⟩
  ·rw [if_neg hk] at h; exact absurd rfl h
 ·rw [if_neg hE] at h; exact absurd rfl h
theorem zEJ {rec:Nat → Q → Qe.Out}(hr:RecW NmOk NuOk rec){n:Nat}(hn:n < 5):∀ (g:Nat){e:Ex}{s:Q}{x:Ex × Q},Qe.binLoop ts rec n g e s = some x → x.2.E = 0 → s.E = 0 ∧ (0 ≤ s.o ∧ s.o ≤ 50 → WR NmOk NuOk (n + 1) e s.o → x.2.o = s.o ∧ WR NmOk NuOk (n + 1) x.1 s.o)
 | 0,_,_,_,h,_ => by cases h
 | g + 1,e,s,x,h,hx => by
   rw [Qe.binLoop] at h
   by_cases c1:Qe.sign ts s n = 0
   ·rw [if_pos c1] at h
    obtain rfl:=Option.some.inj h
    exact ⟨hx,fun _ hw => ⟨rfl,hw⟩⟩
   ·rw [if_neg c1] at h
    split at h
    ·cases h
    ·rename_i r s2 he
     obtain ⟨h1,h2⟩:=zEJ hr hn g h hx
     obtain ⟨h3,h4⟩:=hr (n + 1) (by omega) _ _ he h1
     obtain ⟨h5,t,h6⟩:=zND c1
     refine ⟨h5,fun h0 hw => ?_⟩
     obtain ⟨h7,d2,l2,h8,h9,h10⟩:=h4 h0
     have h7':s2.o = s.o:=h7
     have h10':(d2:Int) + s.o ≤ 50:=h10
     obtain ⟨d,l,h11,h12,h13⟩:=hw
     rw [h7'] at h2
     exact h2 h0 (.of (.bin n t _ _ _ _ _ _ _ _ h6 h11 h8) (Nat.le_refl _) (h12.app (h9.cons (zAb _))) (by push_cast; omega))
theorem zHh (H:TokOk NmOk NuOk ts):∀ (f:Nat),RecW NmOk NuOk (Qe.run ts f)
 | 0 => fun _ _ _ _ h => by cases h
 | f + 1 => fun n hn s x h => by
   have ih:=zHh H f
   rw [Qe.run] at h
   dsimp only at h
   by_cases c:n = 5
   ·rw [if_pos c] at h
    subst c
    exact zK6 H ih f h
   ·rw [if_neg c] at h
    split at h
    ·cases h
    ·rename_i l s1 hl
     intro hx
     obtain ⟨h1,h2⟩:=zEJ ih (show n < 5 by omega) f h hx
     obtain ⟨h3,h4⟩:=ih (n + 1) (by omega) _ _ hl h1
     refine ⟨h3,fun h0 => ?_⟩
     obtain ⟨h5,h6⟩:=h4 h0
     have h5':s1.o = s.o:=h5
     rw [h5'] at h2
     exact h2 h0 (h6.weak (by omega))
end
end Rt
end Go.Proofs.YteadgahhchlgeaaDoor
