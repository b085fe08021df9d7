/-
  Statements that were read are written with no more open than
-/
import Derived.Test.YteadgahhchlgeaaDoorK27
import Derived.Test.YteadgahhchlgeaaDoorK30
namespace Go.Proofs.YteadgahhchlgeaaDoor
namespace Rt
open Go.RowKit
open Px (RT tokAt isT levelT signsOf)
open Qe (Q)
open Pe (Ex inc dec)
open Ps (Sm kindOf nameOf)
theorem zQS {e:Ex}{lv d:Nat}{l:List PT}(h:EP e lv d l) : 1 ≤ lv:=by
 cases h <;> omega
theorem zQR {e:Ex}{lv d:Nat}{l:List PT}(h:EP e lv d l)(hk:kindOf e = 4):∃ t,nameOf e = t ∧ nm t ∈ l:=by
 cases h with
 | var t a => exact ⟨t,rfl,List.mem_singleton.2 rfl⟩
 | bin n t kind x d l y d2 l2 a hs =>
   have key:∀ n,n < 5 → ∀ p ∈ signsOf n,p.2 ≠ 4:=by decide
   exact absurd hk (key n (zBK hs).1 _ hs)
 | num => exact absurd hk (by show ¬ (1:Int) = 4; decide)
 | tru => exact absurd hk (by show ¬ (2:Int) = 4; decide)
 | fls => exact absurd hk (by show ¬ (2:Int) = 4; decide)
 | null => exact absurd hk (by show ¬ (3:Int) = 4; decide)
 | field => exact absurd hk (by show ¬ (5:Int) = 4; decide)
 | item => exact absurd hk (by show ¬ (6:Int) = 4; decide)
 | call0 => exact absurd hk (by show ¬ (7:Int) = 4; decide)
 | call => exact absurd hk (by show ¬ (7:Int) = 4; decide)
 | new => exact absurd hk (by show ¬ (8:Int) = 4; decide)
 | make => exact absurd hk (by show ¬ (9:Int) = 4; decide)
 | len => exact absurd hk (by show ¬ (10:Int) = 4; decide)
 | read => exact absurd hk (by show ¬ (11:Int) = 4; decide)
 | neg => exact absurd hk (by show ¬ (12:Int) = 4; decide)
 | not => exact absurd hk (by show ¬ (13:Int) = 4; decide)
section
variable (NmOk:List UInt8 → Prop) (NuOk:Int → Prop)
def WS (x:Sm)(o:Int):Prop:=∃ d l,SP x d l ∧ OkL NmOk NuOk l ∧ (d:Int) + o ≤ 50
def WB (b:List Sm)(o:Int):Prop:=∃ d l,BP b d l ∧ OkL NmOk NuOk l ∧ (d:Int) + o ≤ 50
def RxW (rx:Qs.RX):Prop:=∀ s x,rx s = some x → Wr NmOk NuOk 1 s x
def RbW (rb:Q → Qs.OutB):Prop:=∀ s x,rb s = some x → x.2.E = 0 → s.E = 0 ∧ (0 ≤ s.o ∧ s.o ≤ 50 → x.2.o = s.o ∧ WB NmOk NuOk x.1 s.o)
def RsW (rs:Q → Qs.Out):Prop:=∀ s x,rs s = some x → x.2.E = 0 → s.E = 0 ∧ (0 ≤ s.o ∧ s.o ≤ 50 → x.2.o = s.o ∧ WS NmOk NuOk x.1 s.o)
end
section
variable {NmOk:List UInt8 → Prop} {NuOk:Int → Prop} {ts:List RT}
theorem zK2 {e:Ex}{o:Int}(h:WR NmOk NuOk 1 e o)(hk:kindOf e = 4):NmOk (nameOf e):=by
 obtain ⟨d,l,h,hl,-⟩:=h
 cases h with
 | bare _ _ _ _ _ h _ =>
   obtain ⟨t,h1,h2⟩:=zQR h hk
   rw [h1]
   exact (hl _ h2).1 rfl
 | par _ _ lv _ _ h hn => have:=zQS h; omega
theorem zAP {s:Q}{b:Bool}{t:List UInt8}(h:(Qe.take ts s b t).E = 0):s.E = 0 ∧ (Qe.take ts s b t).o = s.o:=by
 have ht:=zCq h
 exact ⟨is_E ht.1,by rw [ht.2]; rfl⟩
theorem zKO (H:TokOk NmOk NuOk ts){s:Q}(h:(Qs.decl ts s).2.2.2.E = 0):(Qs.decl ts s).2.2.2.o = s.o ∧ NmOk (Qs.decl ts s).1 ∧ TyOk NmOk (Qs.decl ts s).2.1 ∧ (Qs.decl ts s).2.2.1 ≤ 3:=by
 unfold Qs.decl at h ⊢
 obtain ⟨h1,h2,h3,h4⟩:=zIF H h
 obtain ⟨h5,h6⟩:=zAP h1
 obtain ⟨h7,h8,h9⟩:=zBq h5
 refine ⟨?_,?_,h3,h4⟩
 ·show (Qe.of ts (Qe.take ts (Qe.name ts (Qe.next s)).2 false [58])).2.2.o = s.o
  rw [h2,h6,h9]
  rfl
 ·show NmOk (Qe.name ts (Qe.next s)).1
  rw [h9]
  exact (H _).1 h8
theorem zG2 (H:TokOk NmOk NuOk ts){rx:Qs.RX}(hx:RxW NmOk NuOk rx){s:Q}{x:Sm × Q}(h:Qs.declared ts rx s = some x)(h0:x.2.E = 0)(ho : 0 ≤ s.o ∧ s.o ≤ 50):x.2.o = s.o ∧ WS NmOk NuOk x.1 s.o:=by
 unfold Qs.declared at h
 by_cases hc:(tokAt ts s.k).text = [108,101,116]
 ·replace h:=(if_pos hc).symm.trans h
  split at h
  ·cases h
  ·rename_i e s2 he
   obtain rfl:=Option.some.inj h
   obtain ⟨h1,h2⟩:=zAP h0
   obtain ⟨h3,h4⟩:=hx _ _ he h1
   obtain ⟨h5,h6⟩:=zAP h3
   obtain ⟨h7,h8,h9,h10⟩:=zKO H h5
   rw [h6,h7] at h4
   obtain ⟨h11,d,l,h12,h13,h14⟩:=h4 ho
   exact ⟨h2.trans h11,d,_,.let_ _ _ _ _ _ _ _ h10 h12,((((zGH h9 _).app ((h13.app (OkL.nil.cons (zAb _))).cons (zAb _))).cons (zAb _)).cons (zDE h8)).cons (zBz _),h14⟩
 ·replace h:=(if_neg hc).symm.trans h
  obtain rfl:=Option.some.inj h
  obtain ⟨h1,h2⟩:=zAP h0
  obtain ⟨h7,h8,h9,h10⟩:=zKO H h1
  exact ⟨h2.trans h7,0,_,.var _ _ _ _ h10,((((zGH h9 _).app (OkL.nil.cons (zAb _))).cons (zAb _)).cons (zDE h8)).cons (zBz _),by push_cast; omega⟩
theorem zKQ {rx:Qs.RX}(hx:RxW NmOk NuOk rx){rb:Q → Qs.OutB}(hb:RbW NmOk NuOk rb){s:Q}{x:Sm × Q}(h:Qs.choice ts rx rb s = some x)(h0:x.2.E = 0)(ho : 0 ≤ s.o ∧ s.o ≤ 50):x.2.o = s.o ∧ WS NmOk NuOk x.1 s.o:=by
 unfold Qs.choice at h
 split at h
 ·cases h
 rename_i e s1 he
 split at h
 ·cases h
 rename_i b s2 hbl
 by_cases hc:Qe.is ts s2 true [101,108,115,101] = true
 ·replace h:=(if_pos hc).symm.trans h
  split at h
  ·cases h
  rename_i b2 s3 hb2
  obtain rfl:=Option.some.inj h
  have e2:s2.E = 0:=is_E hc
  obtain ⟨-,h2⟩:=hb _ _ hb2 h0
  obtain ⟨h3,h4⟩:=hb _ _ hbl e2
  obtain ⟨-,h6⟩:=hx _ _ he h3
  obtain ⟨h7,d,l,h8,h9,h10⟩:=h6 ho
  have h7':s1.o = s.o:=h7
  rw [h7'] at h4
  obtain ⟨h11,d2,l2,h12,h13,h14⟩:=h4 ho
  have h11':s2.o = s.o:=h11
  rw [show (Qe.next s2).o = s.o from h11'] at h2
  obtain ⟨h15,d3,l3,h16,h17,h18⟩:=h2 ho
  have h10':(d:Int) + s.o ≤ 50:=h10
  exact ⟨h15,_,_,.ife _ _ _ _ _ _ _ _ _ _ h8 h12 h16,(h9.app (h13.app (h17.cons (zBz _)))).cons (zBz _),by omega⟩
 ·replace h:=(if_neg hc).symm.trans h
  obtain rfl:=Option.some.inj h
  obtain ⟨h3,h4⟩:=hb _ _ hbl h0
  obtain ⟨-,h6⟩:=hx _ _ he h3
  obtain ⟨h7,d,l,h8,h9,h10⟩:=h6 ho
  have h7':s1.o = s.o:=h7
  rw [h7'] at h4
  obtain ⟨h11,d2,l2,h12,h13,h14⟩:=h4 ho
  have h10':(d:Int) + s.o ≤ 50:=h10
  exact ⟨h11,_,_,.ifs _ _ _ _ _ _ _ h8 h12,(h9.app h13).cons (zBz _),by omega⟩
theorem zOa {rx:Qs.RX}(hx:RxW NmOk NuOk rx){rb:Q → Qs.OutB}(hb:RbW NmOk NuOk rb){s:Q}{x:Sm × Q}(h:Qs.loop ts rx rb s = some x)(h0:x.2.E = 0)(ho : 0 ≤ s.o ∧ s.o ≤ 50):x.2.o = s.o ∧ WS NmOk NuOk x.1 s.o:=by
 unfold Qs.loop at h
 split at h
 ·cases h
 rename_i e s1 he
 split at h
 ·cases h
 rename_i b s2 hbl
 obtain rfl:=Option.some.inj h
 obtain ⟨h3,h4⟩:=hb _ _ hbl h0
 obtain ⟨-,h6⟩:=hx _ _ he h3
 obtain ⟨h7,d,l,h8,h9,h10⟩:=h6 ho
 have h7':s1.o = s.o:=h7
 rw [h7'] at h4
 obtain ⟨h11,d2,l2,h12,h13,h14⟩:=h4 ho
 have h10':(d:Int) + s.o ≤ 50:=h10
 exact ⟨h11,_,_,.loop _ _ _ _ _ _ _ h8 h12,(h9.app h13).cons (zBz _),by omega⟩
theorem zM2 {rx:Qs.RX}(hx:RxW NmOk NuOk rx){s s2:Q}{e:Ex}(he:rx (Qe.next s) = some (e,s2))(h0:(Qe.take ts s2 false [59]).E = 0)(ho : 0 ≤ s.o ∧ s.o ≤ 50):(Qe.take ts s2 false [59]).o = s.o ∧ ∃ d l,EW 1 e d l ∧ OkL NmOk NuOk l ∧ (d:Int) + s.o ≤ 50:=by
 obtain ⟨h1,h2⟩:=zAP h0
 obtain ⟨-,h6⟩:=hx _ _ he h1
 obtain ⟨h7,h8⟩:=h6 ho
 exact ⟨h2.trans h7,h8⟩
theorem zJr {rx:Qs.RX}(hx:RxW NmOk NuOk rx){s:Q}{x:Sm × Q}(h:Qs.result ts rx s = some x)(h0:x.2.E = 0)(ho : 0 ≤ s.o ∧ s.o ≤ 50):x.2.o = s.o ∧ WS NmOk NuOk x.1 s.o:=by
 unfold Qs.result at h
 by_cases hc:Qe.is ts (Qe.next s) false [59] = true
 ·rw [if_pos hc] at h
  obtain rfl:=Option.some.inj h
  exact ⟨(zAP h0).2,0,_,.ret0 _,(OkL.nil.cons (zAb _)).cons (zBz _),by push_cast; omega⟩
 ·rw [if_neg hc] at h
  split at h
  ·cases h
  rename_i e s2 he
  obtain rfl:=Option.some.inj h
  obtain ⟨h1,d,l,h2,h3,h4⟩:=zM2 hx he h0 ho
  exact ⟨h1,d,_,.ret _ _ _ _ h2,(h3.app (OkL.nil.cons (zAb _))).cons (zBz _),h4⟩
theorem zJ5 {rx:Qs.RX}(hx:RxW NmOk NuOk rx){s:Q}{x:Sm × Q}(h:Qs.output ts rx s = some x)(h0:x.2.E = 0)(ho : 0 ≤ s.o ∧ s.o ≤ 50):x.2.o = s.o ∧ WS NmOk NuOk x.1 s.o:=by
 unfold Qs.output at h
 split at h
 ·cases h
 rename_i e s2 he
 obtain rfl:=Option.some.inj h
 obtain ⟨h1,d,l,h2,h3,h4⟩:=zM2 hx he h0 ho
 exact ⟨h1,d,_,.print _ _ _ _ h2,(h3.app (OkL.nil.cons (zAb _))).cons (zBz _),h4⟩
theorem zLG {rx:Qs.RX}(hx:RxW NmOk NuOk rx){a:Int}{s:Q}{x:Sm × Q}(h:Qs.plain ts rx a s = some x)(h0:x.2.E = 0):s.E = 0 ∧ (0 ≤ s.o ∧ s.o ≤ 50 → x.2.o = s.o ∧ WS NmOk NuOk x.1 s.o):=by
 unfold Qs.plain at h
 split at h
 ·cases h
 rename_i e s1 he
 by_cases hc:Qe.is ts s1 false [61] = true
 ·rw [if_pos hc] at h
  obtain ⟨h1,h2⟩:=hx _ _ he (is_E hc)
  refine ⟨h1,fun ho => ?_⟩
  unfold Qs.plainPut at h
  split at h
  ·cases h
  rename_i b s2 hb
  obtain rfl:=Option.some.inj h
  obtain ⟨h3,h4⟩:=zAP h0
  obtain ⟨h5,h6⟩:=hx _ _ hb h3
  by_cases hk:kindOf e ≠ 4 ∧ kindOf e ≠ 5 ∧ kindOf e ≠ 6
  ·rw [if_pos hk] at h5
   exact (zAv (by decide) (zAP h5).1).elim
  rw [if_neg hk] at h5 h6
  obtain ⟨h7,h8⟩:=h2 ho
  rw [(zAP h5).2,show s1.o = s.o from h7] at h6
  obtain ⟨h9,d2,l2,h10,h11,h12⟩:=h6 ho
  refine ⟨h4.trans h9,?_⟩
  show WS NmOk NuOk (if kindOf e = 4 then _ else _) s.o
  by_cases hk4:kindOf e = 4
  ·rw [if_pos hk4]
   exact ⟨d2,_,.set _ _ _ _ _ h10,(((h11.app (OkL.nil.cons (zAb _))).cons (zAb _)).cons (zDE (zK2 h8 hk4))),h12⟩
  ·rw [if_neg hk4]
   obtain ⟨d,l,h13,h14,h15⟩:=h8
   have h15':(d:Int) + s.o ≤ 50:=h15
   refine ⟨_,_,.put _ _ _ _ _ _ _ ?_ h13 h10,h14.app ((h11.app (OkL.nil.cons (zAb _))).cons (zAb _)),by omega⟩
   by_cases h5:kindOf e = 5
   ·exact .inl h5
   ·by_cases h6:kindOf e = 6
    ·exact .inr h6
    ·exact absurd ⟨hk4,h5,h6⟩ hk
 ·rw [if_neg hc] at h
  obtain rfl:=Option.some.inj h
  have h3:(Qe.take ts (if Qe.is ts s1 false [59] = true ∧ kindOf e ≠ 7 then Qe.fail ts s1 2 else s1) false [59]).E = 0:=h0
  by_cases hk:Qe.is ts s1 false [59] = true ∧ kindOf e ≠ 7
  ·rw [if_pos hk] at h3
   exact (zAv (by decide) (zAP h3).1).elim
  ·rw [if_neg hk] at h3
   have ht:=zCq h3
   obtain ⟨h1,h2⟩:=hx _ _ he (is_E ht.1)
   refine ⟨h1,fun ho => ?_⟩
   obtain ⟨h7,d,l,h8,h9,h10⟩:=h2 ho
   have hk7:kindOf e = 7:=by
      by_cases hh:kindOf e = 7
      ·exact hh
      ·exact absurd ⟨ht.1,hh⟩ hk
   refine ⟨?_,d,_,.do_ _ _ _ _ hk7 h8,h9.app (OkL.nil.cons (zAb _)),h10⟩
   show (Qe.take ts (if _ then _ else s1) false [59]).o = s.o
   rw [if_neg hk,(zAP h3).2]
   exact h7
theorem zNy (H:TokOk NmOk NuOk ts){rx:Qs.RX}(hx:RxW NmOk NuOk rx){rb:Q → Qs.OutB}(hb:RbW NmOk NuOk rb):RsW NmOk NuOk (Qs.stmt ts rx rb):=by
 intro s x h h0
 unfold Qs.stmt at h
 by_cases c1:(Qe.is ts s true [118,97,114] || Qe.is ts s true [108,101,116]) = true
 ·rw [if_pos c1] at h
  rw [Bool.or_eq_true] at c1
  exact ⟨c1.elim is_E is_E,zG2 H hx h h0⟩
 rw [if_neg c1] at h
 by_cases c2:Qe.is ts s true [105,102] = true
 ·rw [if_pos c2] at h; exact ⟨is_E c2,zKQ hx hb h h0⟩
 rw [if_neg c2] at h
 by_cases c3:Qe.is ts s true [119,104,105,108,101] = true
 ·rw [if_pos c3] at h; exact ⟨is_E c3,zOa hx hb h h0⟩
 rw [if_neg c3] at h
 by_cases c4:Qe.is ts s true [114,101,116,117,114,110] = true
 ·rw [if_pos c4] at h; exact ⟨is_E c4,zJr hx h h0⟩
 rw [if_neg c4] at h
 by_cases c5:Qe.is ts s true [112,114,105,110,116] = true
 ·rw [if_pos c5] at h; exact ⟨is_E c5,zJ5 hx h h0⟩
 rw [if_neg c5] at h
 exact zLG hx h h0
theorem zFA {rs:Q → Qs.Out}(hs:RsW NmOk NuOk rs):∀ (g:Nat){l:List Sm}{s:Q}{x:List Sm × Q},Qs.stLoop ts rs g l s = some x → x.2.E = 0 → s.E = 0 ∧ (0 ≤ s.o ∧ s.o ≤ 50 → x.2.o = s.o ∧ ∃ xs d tl,x.1 = l ++ xs ∧ LP xs d tl ∧ OkL NmOk NuOk tl ∧ (d:Int) + s.o ≤ 50)
 | 0,_,_,_,h,_ => by cases h
 | g + 1,l,s,x,h,hx => by
   rw [Qs.stLoop] at h
   by_cases hc:s.E = 0 ∧ Qe.is ts s false [125] = false
   ·rw [if_pos hc] at h
    split at h
    ·cases h
    rename_i y s2 hy
    obtain ⟨h1,h2⟩:=zFA hs g h hx
    obtain ⟨-,h4⟩:=hs _ _ hy h1
    refine ⟨hc.1,fun h0 => ?_⟩
    obtain ⟨h5,d,l1,h6,h7,h8⟩:=h4 h0
    have h5':s2.o = s.o:=h5
    rw [h5'] at h2
    obtain ⟨h9,xs,d2,tl,h10,h11,h12,h13⟩:=h2 h0
    have h8':(d:Int) + s.o ≤ 50:=h8
    exact ⟨h9,y :: xs,_,_,by rw [h10]; simp,.cons _ _ _ _ _ _ h6 h11,h7.app h12,by omega⟩
   ·rw [if_neg hc] at h
    obtain rfl:=Option.some.inj h
    exact ⟨hx,fun h0 => ⟨rfl,[],0,[],by simp,.nil,OkL.nil,by push_cast; omega⟩⟩
theorem zMG {rs:Q → Qs.Out}(hs:RsW NmOk NuOk rs)(g:Nat):RbW NmOk NuOk (Qs.block ts rs g):=by
 intro s x h hx
 unfold Qs.block at h
 split at h
 ·cases h
 rename_i l s2 hl
 obtain rfl:=Option.some.inj h
 obtain ⟨h1,h2⟩:=zBD hx
 obtain ⟨h3,h4⟩:=zFA hs g hl h1
 obtain ⟨h5,h6,h7⟩:=zBN h3
 refine ⟨h5,fun h0 => ?_⟩
 rw [zDM h0.1 h6] at h7
 rw [h7] at h4
 obtain ⟨h8,xs,d,tl,h9,h10,h11,h12⟩:=h4 (by omega)
 have h9':l = xs:=h9
 subst h9'
 refine ⟨?_,_,_,.mk _ _ _ h10,(h11.app (OkL.nil.cons (zAb _))).cons (zAb _),by push_cast; omega⟩
 show (Qe.closes ts s2 [125]).o = s.o
 rw [h2,show s2.o = s.o + 1 from h8,zDV h0.1 h6]
theorem zE0 (H:TokOk NmOk NuOk ts){rx:Qs.RX}(hx:RxW NmOk NuOk rx):∀ (f:Nat),RsW NmOk NuOk (Qs.run ts rx f).1 ∧ RbW NmOk NuOk (Qs.run ts rx f).2
 | 0 => ⟨(fun _ _ h => by cases h),(fun _ _ h => by cases h)⟩
 | f + 1 => ⟨zNy H hx (zE0 H hx f).2,zMG (zE0 H hx f).1 f⟩
end
end Rt
namespace Rt
open Go.RowKit
open Px (RT tokAt isT levelT signsOf)
open Qe (Q)
open Pe (Ex inc dec)
open Ps (Sm kindOf nameOf)
open Pg (Pm Rc Fc Gm)
open Al (E2 L2 B2 S2 G2)
def pmT (x:Pm):List PT:=nm x.name :: sg [58] :: tyT x.ofn x.dims.toNat
def PmOk (x:Pm):Prop:=0 ≤ x.dims ∧ x.dims ≤ 3
def fdT:List Pm → List PT
 | [] => []
 | x :: l => pmT x ++ (sg [59] :: fdT l)
def paT:List Pm → List PT
 | [] => []
 | [x] => pmT x
 | x :: y :: l => pmT x ++ (sg [44] :: paT (y :: l))
def rcT (x:Rc):List PT:=wd [114,101,99,111,114,100] :: nm x.name :: sg [123] :: (fdT x.fields ++ [sg [125]])
def RcOk (x:Rc):Prop:=x.fields.length ≤ 8 ∧ ∀ p ∈ x.fields,PmOk p
def glT (x:Pm):List PT:=wd [103,108,111,98,97,108] :: (pmT x ++ [sg [59]])
def resT (has:Bool)(t:List UInt8)(d:Nat):List PT:=if has = true then sg [58] :: tyT t d else []
inductive FP:Fc → Nat → List PT → Prop
 | mk (name:List UInt8) (ps:List Pm) (has:Bool) (rn:List UInt8) (rd:Nat) (body:List Sm) (a:Int) (d:Nat) (lb:List PT) (hl:ps.length ≤ 6) (hp:∀ p ∈ ps,PmOk p) (h0:has = false → rn = [] ∧ rd = 0) (hd:rd ≤ 3) (hb:BP body d lb) :
  FP ⟨name,ps,has,rn,rd,body,a⟩ d (wd [102,117,110,99] :: nm name :: sg [40] :: (paT ps ++ (sg [41] :: (resT has rn rd ++ lb))))
inductive FsP:List Fc → List PT → Prop
 | nil:FsP [] []
 | cons (x:Fc) (d:Nat) (l:List PT) (xs:List Fc) (l2:List PT) (h:FP x d l) (hd:d ≤ 50) (h2:FsP xs l2):FsP (x :: xs) (l ++ l2)
section
variable {ts:List RT}
theorem zCF (hts:ts.length ≤ 900000000){k o:Nat}{x:Pm}(hx:PmOk x)(h:Has ts k (pmT x)):∃ y,sameP x y = true ∧ Qg.param ts (st k o) = (y,st (k + (pmT x).length) o):=by
 refine ⟨⟨x.name,x.ofn,(x.dims.toNat:Nat),(tokAt ts k).at_⟩,?_,?_⟩
 ·unfold sameP
  have:=hx.1
  rw [beq_self_eq_true,beq_self_eq_true,show x.dims = ((x.dims.toNat:Nat):Int) by omega]
  simp
 ·unfold Qg.param
  rw [zBO hts h.1]
  dsimp only
  rw [zAa hts h.2.1,zEu hts (by have:=hx.2; omega) h.2.2,show k + 1 + 1 + (tyT x.ofn x.dims.toNat).length = k + (pmT x).length by unfold pmT; rw [List.length_cons,List.length_cons]; omega]
  rfl
theorem zEE (hts:ts.length ≤ 900000000){o:Nat}:∀ (l acc acc':List Pm)(k:Nat),S2 sameP acc acc' → acc.length + l.length ≤ 8 → (∀ x ∈ l,PmOk x) → Has ts k (fdT l ++ [sg [125]]) → ∃ ys f0,S2 sameP (acc ++ l) ys ∧ ∀ g,f0 ≤ g → Qg.fieldLoop ts g acc' (st k o) = some (ys,st (k + (fdT l).length) o)
 | [],acc,acc',k,hs,_,_,hk => by
   refine ⟨acc',1,by rw [List.append_nil]; exact hs,fun g hg => ?_⟩
   rw [show g = (g - 1) + 1 by omega,Qg.fieldLoop,zA5 hk.1,if_neg (fun hc => absurd hc.2 (by decide))]
   rfl
 | x :: l,acc,acc',k,hs,hl,hp,hk => by
   rw [fdT,List.append_assoc] at hk
   have ha:=hk.app
   obtain ⟨y,hy,he⟩:=zCF hts (o:=o) (hp x (List.mem_cons_self ..)) ha.1
   obtain ⟨ys,f0,h1,h2⟩:=zEE hts (o:=o) l (acc ++ [x]) (acc' ++ [y]) (k + (pmT x).length + 1) (hs.snoc hy) (by simp only [List.length_append,List.length_cons,List.length_nil] at hl ⊢; omega) (fun z hz => hp z (List.mem_cons_of_mem _ hz)) ha.2.2
   refine ⟨ys,f0 + 1,by rw [show acc ++ x :: l = acc ++ [x] ++ l by simp]; exact h1,fun g hg => ?_⟩
   have hlen:=hs.len
   rw [show g = (g - 1) + 1 by omega,Qg.fieldLoop,if_pos ⟨rfl,zA8 ha.1.1 false n14 _⟩,if_neg (fun hc => by have:=hc.2; simp only [List.length_cons] at hl; omega),he]
   dsimp only
   rw [zAa hts ha.2.1,h2 (g - 1) (by omega),fdT,List.length_append,List.length_cons,show k + (pmT x).length + 1 + (fdT l).length = k + ((pmT x).length + ((fdT l).length + 1)) by omega]
theorem zIg (hts:ts.length ≤ 900000000){k o:Nat}{x:Rc}(hx:RcOk x)(hk:Has ts k (rcT x)):∃ y f0,sameR x y = true ∧ ∀ g,f0 ≤ g → Qg.record ts g (Qe.next (st k o)) = some (y,st (k + (rcT x).length) o):=by
 have ha:=hk.2.2.2.app
 obtain ⟨ys,f0,h1,h2⟩:=zEE hts (o:=o) x.fields [] [] (k + 1 + 1 + 1) .nil (by simpa using hx.1) hx.2 hk.2.2.2
 refine ⟨⟨x.name,ys,(tokAt ts (k + 1:Nat)).at_⟩,f0,?_,fun g hg => ?_⟩
 ·unfold sameR
  rw [beq_self_eq_true]
  exact h1
 ·unfold Qg.record
  rw [zW hts hk.1 n3,zBO hts hk.2.1]
  dsimp only
  rw [zAa hts hk.2.2.1,h2 g hg]
  dsimp only
  rw [zAa hts ha.2.1,show k + 1 + 1 + 1 + (fdT x.fields).length + 1 = k + (rcT x).length by unfold rcT; simp only [List.length_cons,List.length_append,List.length_nil]; omega]
  rfl
theorem zHo (hts:ts.length ≤ 900000000){o:Nat}:∀ (l acc acc':List Pm)(k:Nat),S2 sameP acc acc' → acc.length + l.length ≤ 6 → (∀ x ∈ l,PmOk x) → Has ts k (paT l ++ [sg [41]]) → ∃ ys f0,S2 sameP (acc ++ l) ys ∧ ∀ g,f0 ≤ g → Qg.parLoop ts g acc' (st k o) = some (ys,st (k + (paT l).length) o)
 | [],acc,acc',k,hs,_,_,hk => by
   refine ⟨acc',1,by rw [List.append_nil]; exact hs,fun g hg => ?_⟩
   rw [show g = (g - 1) + 1 by omega,Qg.parLoop,zA5 hk.1,if_neg (fun hc => absurd hc.2 (by decide))]
   rfl
 | [x],acc,acc',k,hs,hl,hp,hk => by
   have ha:=hk.app
   obtain ⟨y,hy,he⟩:=zCF hts (o:=o) (hp x (List.mem_cons_self ..)) ha.1
   refine ⟨acc' ++ [y],2,hs.snoc hy,fun g hg => ?_⟩
   have hlen:=hs.len
   rw [show g = (g - 2) + 1 + 1 by omega,Qg.parLoop,if_pos ⟨rfl,zA8 (show Is ts k (nm x.name) from ha.1.1) false n14 _⟩,if_neg (fun hc => by have:=hc.2; simp only [List.length_cons] at hl; omega),he]
   unfold Qg.comma
   dsimp only
   have hb:Is ts (k + (pmT x).length) (sg [41]):=ha.2.1
   rw [zA5 hb,if_pos (by decide),Qg.parLoop,zA5 hb,if_neg (fun hc => absurd hc.2 (by decide))]
   rfl
 | x :: y :: l,acc,acc',k,hs,hl,hp,hk => by
   rw [paT,List.append_assoc] at hk
   have ha:=hk.app
   obtain ⟨z,hz,he⟩:=zCF hts (o:=o) (hp x (List.mem_cons_self ..)) ha.1
   obtain ⟨ys,f0,h1,h2⟩:=zHo hts (o:=o) (y :: l) (acc ++ [x]) (acc' ++ [z]) (k + (pmT x).length + 1) (hs.snoc hz) (by simp only [List.length_append,List.length_cons,List.length_nil] at hl ⊢; omega) (fun z hz => hp z (List.mem_cons_of_mem _ hz)) ha.2.2
   refine ⟨ys,f0 + 1,by rw [show acc ++ x :: y :: l = acc ++ [x] ++ (y :: l) by simp]; exact h1,fun g hg => ?_⟩
   have hlen:=hs.len
   have hn:Is ts (k + (pmT x).length + 1) (nm y.name):=by
     have:=ha.2.2
     cases l with
     | nil => exact this.1
     | cons _ _ => exact this.1
   rw [show g = (g - 1) + 1 by omega,Qg.parLoop,if_pos ⟨rfl,zA8 (show Is ts k (nm x.name) from ha.1.1) false n14 _⟩,if_neg (fun hc => by have:=hc.2; simp only [List.length_cons] at hl; omega),he]
   unfold Qg.comma
   dsimp only
   rw [zA5 ha.2.1,if_neg (by decide),zAa hts ha.2.1,zA8 hn false n14,if_neg (by decide),h2 (g - 1) (by omega),paT,List.length_append,List.length_cons,show k + (pmT x).length + 1 + (paT (y :: l)).length = k + ((pmT x).length + ((paT (y :: l)).length + 1)) by omega]
theorem zIa (hts:ts.length ≤ 900000000){k o:Nat}{has:Bool}{rn:List UInt8}{rd:Nat}{body:List Sm}{d:Nat}{lb:List PT}(h0:has = false → rn = [] ∧ rd = 0)(hd:rd ≤ 3)(hb:BP body d lb)(hk:Has ts k (resT has rn rd ++ lb)):Qg.resultOf ts (st k o) = (has,rn,rd,st (k + (resT has rn rd).length) o):=by
 unfold Qg.resultOf
 cases has with
 | true =>
   have ha:=hk.app
   have h1:Is ts k (sg [58]):=ha.1.1
   have h2:Has ts (k + 1) (tyT rn rd):=ha.1.2
   rw [zA5 h1,if_pos (by decide),zW hts h1 n4,zEu hts hd h2]
   show _ = (true,rn,rd,st (k + (sg [58] :: tyT rn rd).length) o)
   rw [List.length_cons,show k + 1 + (tyT rn rd).length = k + ((tyT rn rd).length + 1) by omega]
 | false =>
   obtain ⟨rfl,rfl⟩:=h0 rfl
   cases hb with
   | mk _ _ _ _ =>
     have h1:Is ts k (sg [123]):=hk.1
     rw [zA5 h1,if_neg (by decide)]
     rfl
theorem zF2 (hts:ts.length ≤ 900000000){k:Nat}{x:Fc}{d:Nat}{l:List PT}(hx:FP x d l)(hd:d ≤ 50)(hk:Has ts k l):∃ y f0,sameF x y = true ∧ ∀ F,f0 ≤ F → ∀ f,f0 ≤ f → ∀ g,f0 ≤ g → Qg.function ts (Qs.run ts (Qe.run ts F 0) f).2 g (Qe.next (st k 0)) = some (y,st (k + l.length) 0):=by
 cases hx with
 | mk name ps has rn rd body a d lb hl hp h0 hrd hb =>
   have ha:=hk.2.2.2.app
   have hc:=ha.2.2.app
   have hpa:Has ts (k + 1 + 1 + 1) (paT ps ++ [sg [41]]):=by
    have h:=hk.2.2.2
    rw [show paT ps ++ (sg [41] :: (resT has rn rd ++ lb)) = paT ps ++ [sg [41]] ++ (resT has rn rd ++ lb) by simp] at h
    exact h.app.1
   obtain ⟨ys,f0,h1,h2⟩:=zHo hts (o:=0) ps [] [] (k + 1 + 1 + 1) .nil (by simpa using hl) hp hpa
   obtain ⟨b',f1,h3,h4⟩:=zLb hts hb (k + 1 + 1 + 1 + (paT ps).length + 1 + (resT has rn rd).length) 0 hc.2 (by omega)
   refine ⟨⟨name,ys,has,rn,rd,b',(tokAt ts (k + 1:Nat)).at_⟩,f0 + f1,?_,fun F hF f hf g hg => ?_⟩
   ·unfold sameF
    have h1':sameLs sameP ps ys = true:=h1
    have h3':sameML body b' = true:=h3
    dsimp only
    rw [h1',h3']
    simp
   ·unfold Qg.function
    rw [zW hts hk.1 n3,zBO hts hk.2.1]
    dsimp only
    rw [zAa hts hk.2.2.1,h2 g (by omega)]
    dsimp only
    rw [zAa hts ha.2.1,zIa hts h0 hrd hb ha.2.2]
    dsimp only
    rw [h4 F (by omega) f (by omega),show k + 1 + 1 + 1 + (paT ps).length + 1 + (resT has rn rd).length + lb.length = k + (wd [102,117,110,99] :: nm name :: sg [40] :: (paT ps ++ (sg [41] :: (resT has rn rd ++ lb)))).length by simp only [List.length_cons,List.length_append]; omega]
    rfl
end
def Done (ts:List RT)(ke:Nat)(P p:Gm)(k:Nat):Prop:=∀ p',G2 p p' → ∃ y f0,G2 P y ∧ ∀ F,f0 ≤ F → ∀ f,f0 ≤ f → ∀ g,f0 ≤ g → Qg.loop ts (Qs.run ts (Qe.run ts F 0) f).2 g p' (st k 0) = some (y,st ke 0)
section
variable {ts:List RT}
theorem zHK {p:Gm}{k:Nat}(h:(tokAt ts k).kind = 0):Done ts k p p k:=by
 refine fun p' hp => ⟨p',1,hp,fun F _ f _ g hg => ?_⟩
 rw [show g = (g - 1) + 1 by omega,Qg.loop,if_neg (fun hc => hc.2 h)]
theorem zGN {k:Nat}{p:PT}(h:Is ts k p)(hp:p.1 ≠ 0):(tokAt ts (st k 0).k).kind ≠ 0:=fun hc => hp (h.1.symm.trans hc)
theorem zLN {k:Nat}{p:Gm}(h:Is ts k (wd [114,101,99,111,114,100]))(hp:p.recs.length < 12):¬ Qg.over ts p (st k 0):=by
 unfold Qg.over
 rw [zP h,zP h,zP h]
 rintro (hc | hc | hc)
 ·omega
 ·exact absurd hc.1 (by decide)
 ·exact absurd hc.1 (by decide)
theorem zJ3 {k:Nat}{p:Gm}(h:Is ts k (wd [103,108,111,98,97,108]))(hp:p.globals.length < 8):¬ Qg.over ts p (st k 0):=by
 unfold Qg.over
 rw [zP h,zP h,zP h]
 rintro (hc | hc | hc)
 ·exact absurd hc.1 (by decide)
 ·omega
 ·exact absurd hc.1 (by decide)
theorem zJ4 {k:Nat}{p:Gm}(h:Is ts k (wd [102,117,110,99]))(hp:p.funcs.length < 16):¬ Qg.over ts p (st k 0):=by
 unfold Qg.over
 rw [zP h,zP h,zP h]
 rintro (hc | hc | hc)
 ·exact absurd hc.1 (by decide)
 ·exact absurd hc.1 (by decide)
 ·omega
theorem zHJ (hts:ts.length ≤ 900000000){ke k:Nat}{P p:Gm}{x:Rc}(hx:RcOk x)(hk:Has ts k (rcT x))(hp:p.recs.length < 12)(h:Done ts ke P (p.addR x) (k + (rcT x).length)):Done ts ke P p k:=by
 intro p' hp'
 obtain ⟨y,f0,h1,h2⟩:=zIg hts (o:=0) hx hk
 obtain ⟨z,f1,h3,h4⟩:=h (p'.addR y) ⟨hp'.1.snoc h1,hp'.2.1,hp'.2.2⟩
 have hlen:=hp'.1.len
 refine ⟨z,f0 + f1 + 1,h3,fun F hF f hf g hg => ?_⟩
 have hi:=hk.1
 rw [show g = (g - 1) + 1 by omega,Qg.loop,if_pos ⟨rfl,zGN hi n3⟩,if_neg (zLN hi (by omega)),zP hi,if_pos (by decide),h2 (g - 1) (by omega)]
 exact h4 F (by omega) f (by omega) (g - 1) (by omega)
theorem zF9 (hts:ts.length ≤ 900000000){ke k:Nat}{P p:Gm}{x:Pm}(hx:PmOk x)(hk:Has ts k (glT x))(hp:p.globals.length < 8)(h:Done ts ke P (p.addG x) (k + (glT x).length)):Done ts ke P p k:=by
 intro p' hp'
 have ha:=hk.2.app
 obtain ⟨y,h1,h2⟩:=zCF hts (o:=0) hx ha.1
 obtain ⟨z,f1,h3,h4⟩:=h (p'.addG y) ⟨hp'.1,hp'.2.1.snoc h1,hp'.2.2⟩
 have hlen:=hp'.2.1.len
 refine ⟨z,f1 + 1,h3,fun F hF f hf g hg => ?_⟩
 have hi:=hk.1
 rw [show g = (g - 1) + 1 by omega,Qg.loop,if_pos ⟨rfl,zGN hi n3⟩,if_neg (zJ3 hi (by omega)),zP hi,zP hi,if_neg (by decide),if_pos (by decide),zW hts hi n3,h2]
 dsimp only
 rw [zAa hts ha.2.1,show k + 1 + (pmT x).length + 1 = k + (glT x).length by unfold glT; simp only [List.length_cons,List.length_append,List.length_nil]; omega]
 exact h4 F (by omega) f (by omega) (g - 1) (by omega)
theorem zOv {x:Fc}{d:Nat}{l:List PT}(hx:FP x d l){k:Nat}(hk:Has ts k l):Is ts k (wd [102,117,110,99]):=by
 cases hx
 exact hk.1
theorem zGa (hts:ts.length ≤ 900000000){ke k:Nat}{P p:Gm}{x:Fc}{d:Nat}{l:List PT}(hx:FP x d l)(hd:d ≤ 50)(hk:Has ts k l)(hp:p.funcs.length < 16)(h:Done ts ke P (p.addF x) (k + l.length)):Done ts ke P p k:=by
 intro p' hp'
 obtain ⟨y,f0,h1,h2⟩:=zF2 hts hx hd hk
 obtain ⟨z,f1,h3,h4⟩:=h (p'.addF y) ⟨hp'.1,hp'.2.1,hp'.2.2.snoc h1⟩
 have hlen:=hp'.2.2.len
 refine ⟨z,f0 + f1 + 1,h3,fun F hF f hf g hg => ?_⟩
 have hi:=zOv hx hk
 rw [show g = (g - 1) + 1 by omega,Qg.loop,if_pos ⟨rfl,zGN hi n3⟩,if_neg (zJ4 hi (by omega)),zP hi,zP hi,zP hi,if_neg (by decide),if_neg (by decide),if_pos (by decide),h2 F (by omega) f (by omega) (g - 1) (by omega)]
 exact h4 F (by omega) f (by omega) (g - 1) (by omega)
end
end Rt
end Go.Proofs.YteadgahhchlgeaaDoor
