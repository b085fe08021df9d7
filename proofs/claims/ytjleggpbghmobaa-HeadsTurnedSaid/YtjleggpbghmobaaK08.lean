/-
  A statement in memory; what a step that reads statements kee
-/
import Derived.Test.YtjleggpbghmobaaK02
import Derived.Test.YtjleggpbghmobaaK07
import Derived.Test.YtjleggpbghmobaaK06
import Derived.Deep.RegionHeld3
import Derived.Lib.LaidTab
import Derived.LaidMore
import Derived.OpenShut
import Derived.Deep.LoopGhost
import Derived.Deep.MidRow
import Derived.Laws.StructEq
import Derived.Shelf.Abstract
import Derived.Deep.RegionWith
namespace Go.Proofs.Ytjleggpbghmobaa
open Go.RowKit
open Px (RT tokAt)
open Pe
open Ps (Sm)
structure Ag (B:Nat) (w w':World):Prop where
 size:w.heap.size ≤ w'.heap.size
 block:∀ bl,B ≤ bl → bl < w.heap.size → w'.heap[bl]? = w.heap[bl]?
theorem Ag.refl (B:Nat)(w:World):Ag B w w:=⟨Nat.le_refl _,fun _ _ _ => rfl⟩
theorem Ag.trans {B:Nat}{w w1 w2:World}(h:Ag B w w1)(g:Ag B w1 w2):Ag B w w2:=
 ⟨Nat.le_trans h.size g.size,fun bl h1 h2 => (g.block bl h1 (Nat.lt_of_lt_of_le h2 h.size)).trans (h.block bl h1 h2)⟩
theorem Ag.gr {B R:Nat}{w w':World}(hg:Gr R w w')(hR:R < B):Ag B w w':=⟨hg.size,fun bl h1 h2 => hg.block bl h2 (by omega)⟩
theorem Ag.below {B:Nat}{w w':World}(hb:Below w.heap.size w w'):Ag B w w':=⟨hb.size,fun bl _ h2 => hb.block bl h2⟩
theorem Ag.set {B:Nat}{w w1:World}(h:Ag B w w1){p:Addr}(hp:p.block < B ∨ w.heap.size ≤ p.block)(u:Value):Ag B w (w1.setCell p u):=
 ⟨by rw [zR]; exact h.size,fun bl h1 h2 => (Below.heap_setCell w1 p u bl (by omega)).trans (h.block bl h1 h2)⟩
theorem Is.ag {w w':World}{B:Nat}{e:Ex}{vs:List Value}(h:Is w B e vs)(g:Ag B w w'):Is w' B e vs:=Is.keep g.size g.block e h
theorem KidsAt.ag {w w':World}{B:Nat}{p:Option Addr}{l:List Ex}(h:KidsAt w B p l)(g:Ag B w w'):KidsAt w' B p l:=by
 rcases h with h0 | ⟨bl,off,hp,hb,hne,ha⟩
 ·exact .inl h0
 ·exact .inr ⟨bl,off,hp,Nat.lt_of_lt_of_le hb g.size,hne,At.keep g.size g.block l off hb hne ha⟩
def smCells (kind:Int)(name ofn:List UInt8)(dims:Int)(ev bv lv:Value)(at_ ref:Int):List Value:=
 [.int .i64 kind,.string (cbs name),.string (cbs ofn),.int .i64 dims,ev,bv,lv,.int .i64 at_,.int .i64 ref]
mutual
def SIs (w:World)(B:Nat):Sm → List Value → Prop
 | .mk kind name ofn dims es body els at_ ref,vs => ∃ p c q d r f,vs = smCells kind name ofn dims (.slice p es.length c) (.slice q body.length d) (.slice r els.length f) at_ ref ∧ KidsAt w B p es ∧
  (body = [] ∨ ∃ bl off,q = some ⟨bl,off,none⟩ ∧ bl < w.heap.size ∧ B ≤ bl ∧ SAt w B bl off body) ∧
  (els = [] ∨ ∃ bl off,r = some ⟨bl,off,none⟩ ∧ bl < w.heap.size ∧ B ≤ bl ∧ SAt w B bl off els)
def SAt (w:World)(B bl:Nat):Nat → List Sm → Prop
 | _,[] => True
 | off,x :: xs => (∃ vs,SIs w B x vs ∧ ∀ (i:Nat) (v:Value),vs[i]? = some v → w.cell? ⟨bl,off + i,none⟩ = some v) ∧ SAt w B bl (off + 9) xs
end
def SsAt (w:World)(B:Nat)(q:Option Addr)(l:List Sm):Prop:=l = [] ∨ ∃ bl off,q = some ⟨bl,off,none⟩ ∧ bl < w.heap.size ∧ B ≤ bl ∧ SAt w B bl off l
mutual
theorem SIs.ag {w w':World}{B:Nat}(g:Ag B w w'):∀ (x:Sm){vs:List Value},SIs w B x vs → SIs w' B x vs
 | .mk kind name ofn dims es body els at_ ref,vs,h => by
   rw [SIs] at h ⊢
   obtain ⟨p,c,q,d,r,f,hv,hk,hb,he⟩:=h
   refine ⟨p,c,q,d,r,f,hv,hk.ag g,?_,?_⟩
   ·rcases hb with h0 | ⟨bl,off,hp,hl,hne,ha⟩
    ·exact .inl h0
    ·exact .inr ⟨bl,off,hp,Nat.lt_of_lt_of_le hl g.size,hne,SAt.ag g body off hl hne ha⟩
   ·rcases he with h0 | ⟨bl,off,hp,hl,hne,ha⟩
    ·exact .inl h0
    ·exact .inr ⟨bl,off,hp,Nat.lt_of_lt_of_le hl g.size,hne,SAt.ag g els off hl hne ha⟩
theorem SAt.ag {w w':World}{B:Nat}(g:Ag B w w'):∀ (xs:List Sm){bl:Nat}(off:Nat),bl < w.heap.size → B ≤ bl → SAt w B bl off xs → SAt w' B bl off xs
 | [],_,_,_,_,_ => by rw [SAt]; trivial
 | x :: xs,bl,off,hb,hne,h => by
   rw [SAt] at h ⊢
   obtain ⟨⟨vs,hi,hc⟩,hr⟩:=h
   refine ⟨⟨vs,SIs.ag g x hi,fun i v hv => ?_⟩,SAt.ag g xs (off + 9) hb hne hr⟩
   rw [zAP (g.block bl hne hb)]
   exact hc i v hv
end
mutual
theorem SIs.lower {w:World}{B B2:Nat}(hB:B2 ≤ B):∀ (x:Sm){vs:List Value},SIs w B x vs → SIs w B2 x vs
 | .mk kind name ofn dims es body els at_ ref,vs,h => by
   rw [SIs] at h ⊢
   obtain ⟨p,c,q,d,r,f,hv,hk,hb,he⟩:=h
   refine ⟨p,c,q,d,r,f,hv,hk.lower hB,?_,?_⟩
   ·rcases hb with h0 | ⟨bl,off,hp,hl,hne,ha⟩
    ·exact .inl h0
    ·exact .inr ⟨bl,off,hp,hl,Nat.le_trans hB hne,SAt.lower hB body off ha⟩
   ·rcases he with h0 | ⟨bl,off,hp,hl,hne,ha⟩
    ·exact .inl h0
    ·exact .inr ⟨bl,off,hp,hl,Nat.le_trans hB hne,SAt.lower hB els off ha⟩
theorem SAt.lower {w:World}{B B2:Nat}(hB:B2 ≤ B):∀ (xs:List Sm){bl:Nat}(off:Nat),SAt w B bl off xs → SAt w B2 bl off xs
 | [],_,_,_ => by rw [SAt]; trivial
 | x :: xs,bl,off,h => by
   rw [SAt] at h ⊢
   obtain ⟨⟨vs,hi,hc⟩,hr⟩:=h
   exact ⟨⟨vs,SIs.lower hB x hi,hc⟩,SAt.lower hB xs (off + 9) hr⟩
end
theorem SsAt.ag {w w':World}{B:Nat}{p:Option Addr}{l:List Sm}(h:SsAt w B p l)(g:Ag B w w'):SsAt w' B p l:=by
 rcases h with h0 | ⟨bl,off,hp,hb,hne,ha⟩
 ·exact .inl h0
 ·exact .inr ⟨bl,off,hp,Nat.lt_of_lt_of_le hb g.size,hne,SAt.ag g l off hb hne ha⟩
theorem SsAt.lower {w:World}{B B2:Nat}{q:Option Addr}{l:List Sm}(h:SsAt w B q l)(hB:B2 ≤ B):SsAt w B2 q l:=by
 rcases h with h0 | ⟨bl,off,hp,hb,hne,ha⟩
 ·exact .inl h0
 ·exact .inr ⟨bl,off,hp,hb,Nat.le_trans hB hne,SAt.lower hB l off ha⟩
theorem SIs.mk {w:World}{B:Nat}{p q r:Option Addr}{c d f:Nat}{es:List Ex}{body els:List Sm}(he:KidsAt w B p es)(hb:SsAt w B q body)(hl:SsAt w B r els)(kind:Int)(name ofn:List UInt8)(dims at_ ref:Int) :
 SIs w B (.mk kind name ofn dims es body els at_ ref) (smCells kind name ofn dims (.slice p es.length c) (.slice q body.length d) (.slice r els.length f) at_ ref):=by
 rw [SIs]
 exact ⟨p,c,q,d,r,f,rfl,he,hb,hl⟩
theorem SIs.out {w:World}{B:Nat}{x:Sm}{vs:List Value}(h:SIs w B x vs):∃ kind name ofn dims ep el ec bp bl bc lp ll lc at_ ref,vs = smCells kind name ofn dims (.slice ep el ec) (.slice bp bl bc) (.slice lp ll lc) at_ ref:=by
 cases x
 rw [SIs] at h
 obtain ⟨p,c,q,d,r,f,hv,-⟩:=h
 exact ⟨_,_,_,_,_,_,_,_,_,_,_,_,_,_,_,hv⟩
theorem SIs.len {w:World}{B:Nat}{x:Sm}{vs:List Value}(h:SIs w B x vs):vs.length = 9:=by
 obtain ⟨_,_,_,_,_,_,_,_,_,_,_,_,_,_,_,rfl⟩:=h.out
 rfl
theorem SIs.put {w:World}{B:Nat}{x:Sm}{kind:Int}{name ofn:List UInt8}{dims:Int}{ev bv lv:Value}{at_ ref:Int}(h:SIs w B x (smCells kind name ofn dims ev bv lv at_ ref))(a:Int) :
 SIs w B (x.put a) (smCells kind name ofn dims ev bv lv a ref):=by
 cases x
 rw [SIs] at h
 rw [Sm.put,SIs]
 obtain ⟨p,c,q,d,r,f,hv,h⟩:=h
 simp only [smCells,List.cons.injEq,Value.int.injEq,Value.string.injEq,true_and,and_true] at hv
 obtain ⟨rfl,hn,ho,rfl,rfl,rfl,rfl,rfl,rfl⟩:=hv
 exact ⟨p,c,q,d,r,f,by simp only [smCells,hn,ho],h⟩
theorem KidsAt.nil {w:World}{B:Nat}{p:Option Addr}:KidsAt w B p []:=.inl rfl
theorem SsAt.nil {w:World}{B:Nat}{p:Option Addr}:SsAt w B p []:=.inl rfl
theorem KidsAt.one {w:World}{B bl:Nat}{T:TypeId}{e:Ex}{vs:List Value}{A:Array Value}(hb:w.heap[bl]? = some (.cells A T (0,0)))(hne:B ≤ bl)(hi:Is w B e vs)(hA:A = ⟨vs⟩):KidsAt w B (some ⟨bl,0,none⟩) [e]:=
 .inr ⟨bl,0,rfl,zA hb,hne,At.one hb hi hA⟩
theorem nen {w1:World}{B:Nat}{T:TypeId}{c0 c1 c2 c3 c4 c5 c6 c7 c8:Value}(h:w1.heap[B]? = some (.cells #[c0,c1,c2,c3,c4,c5,c6,c7,c8] T (0,0))) :
 (w1.cell? ⟨B,0,none⟩ = some c0 ∧ w1.cell? ⟨B,1,none⟩ = some c1 ∧ w1.cell? ⟨B,2,none⟩ = some c2 ∧ w1.cell? ⟨B,3,none⟩ = some c3 ∧ w1.cell? ⟨B,4,none⟩ = some c4 ∧ w1.cell? ⟨B,5,none⟩ = some c5 ∧ w1.cell? ⟨B,6,none⟩ = some c6 ∧ w1.cell? ⟨B,7,none⟩ = some c7 ∧ w1.cell? ⟨B,8,none⟩ = some c8) ∧
 w1.frozen? ⟨B,0,none⟩ = false ∧ w1.frozen? ⟨B,1,none⟩ = false ∧ w1.frozen? ⟨B,2,none⟩ = false ∧ w1.frozen? ⟨B,3,none⟩ = false ∧ w1.frozen? ⟨B,4,none⟩ = false ∧ w1.frozen? ⟨B,5,none⟩ = false ∧ w1.frozen? ⟨B,6,none⟩ = false ∧ w1.frozen? ⟨B,7,none⟩ = false ∧ w1.frozen? ⟨B,8,none⟩ = false:=by
 refine ⟨⟨?_,?_,?_,?_,?_,?_,?_,?_,?_⟩,?_,?_,?_,?_,?_,?_,?_,?_,?_⟩ <;> first | exact frozen_of_row _ _ _ _ _ h | (rw [cell_of_row _ _ _ _ _ _ h]; rfl)
structure Fr {σ:Type} (w:World) (R:Nat) (K : σ → World → Prop) (s : σ) (L:List (Nat × Obj)) (T:List (Nat × World)) (wr:World):Prop where
 rd:K s wr
 gr:Gr R w wr
 lt:R < w.heap.size
 held:∀ s wA wB,Nw R w wA wB → K s wA → K s wB
 keep:∀ p ∈ L,wr.heap[p.1]? = some p.2 ∧ w.heap.size ≤ p.1
 nd:L.Pairwise fun p q => q.1 < p.1
 ag:∀ q ∈ T,Ag q.1 q.2 wr ∧ w.heap.size ≤ q.1
 sep:∀ p ∈ L,∀ q ∈ T,p.1 < q.1 ∨ q.2.heap.size ≤ p.1
section
variable {σ:Type} {w wr:World} {R:Nat} {K : σ → World → Prop} {s s2 : σ} {L:List (Nat × Obj)} {T:List (Nat × World)}
theorem Fr.start (K : σ → World → Prop)(h:K s w)(lt:R < w.heap.size)(held:∀ s wA wB,Nw R w wA wB → K s wA → K s wB):Fr w R K s [] [] w:=
 ⟨h,Gr.refl _ _,lt,held,fun _ h => absurd h (by simp),.nil,fun _ h => absurd h (by simp),fun _ h => absurd h (by simp)⟩
theorem Fr.go {w':World}(h:Fr w R K s L T wr)(hb:Below wr.heap.size wr w'):Fr w R K s L T w':=
 ⟨h.held s wr w' ⟨hb.mono h.gr.size,h.gr.below hb⟩ h.rd,h.gr.below hb,h.lt,h.held,fun p hp => ⟨(hb.block _ (zA (h.keep p hp).1)).trans (h.keep p hp).1,(h.keep p hp).2⟩,h.nd,
  fun q hq => ⟨(h.ag q hq).1.trans (Ag.below hb),(h.ag q hq).2⟩,h.sep⟩
theorem Fr.step {w':World}(h:Fr w R K s L T wr)(hr:K s2 w')(hg:Gr R wr w'):Fr w R K s2 L T w':=
 ⟨hr,h.gr.trans hg,h.lt,h.held,fun p hp => ⟨hg.box (h.keep p hp).1 (by have:=(h.keep p hp).2; have:=h.lt; omega),(h.keep p hp).2⟩,h.nd,
  fun q hq => ⟨(h.ag q hq).1.trans (Ag.gr hg (by have:=(h.ag q hq).2; have:=h.lt; omega)),(h.ag q hq).2⟩,h.sep⟩
theorem Fr.tree {w':World}{B:Nat}(h:Fr w R K s L T w')(hB:w.heap.size ≤ B)(hL:∀ p ∈ L,p.1 < B):Fr w R K s L ((B,w') :: T) w':=
 ⟨h.rd,h.gr,h.lt,h.held,h.keep,h.nd,fun q hq => (List.mem_cons.1 hq).elim (fun e => by subst e; exact ⟨Ag.refl _ _,hB⟩) (h.ag q),
  fun p hp q hq => (List.mem_cons.1 hq).elim (fun e => by subst e; exact .inl (hL p hp)) (h.sep p hp q)⟩
theorem Fr.call {w':World}(h:Fr w R K s L T wr)(hr:K s2 w')(hg:Gr R wr w'):Fr w R K s2 L ((wr.heap.size,w') :: T) w':=
 (h.step hr hg).tree h.gr.size fun p hp => zA (h.keep p hp).1
theorem Fr.alloc (h:Fr w R K s L T wr)(o:Obj):Fr w R K s ((wr.heap.size,o) :: L) T (wr.alloc o):=by
 have hb:Below wr.heap.size wr (wr.alloc o):=(Below.refl _ _).alloc (Nat.le_refl _) _
 have g:=h.go hb
 refine ⟨g.rd,g.gr,g.lt,g.held,fun p hp => ?_,List.pairwise_cons.2 ⟨fun p hp => zA (h.keep p hp).1,h.nd⟩,g.ag,fun p hp q hq => ?_⟩
 ·rcases List.mem_cons.1 hp with rfl | hp
  ·exact ⟨heap_alloc_new wr o,h.gr.size⟩
  ·exact g.keep p hp
 ·rcases List.mem_cons.1 hp with rfl | hp
  ·exact .inr (h.ag q hq).1.size
  ·exact h.sep p hp q hq
theorem Fr.set {b:Nat}{o:Obj}(h:Fr w R K s L T wr)(i:Nat)(hi:L[i]? = some (b,o)){p:Addr}(hp:p.block = b)(u:Value)(o2:Obj)(ho:(wr.setCell p u).heap[b]? = some o2):Fr w R K s (L.set i (b,o2)) T (wr.setCell p u):=by
 have hm:=List.mem_of_getElem? hi
 have hb:=(h.keep _ hm).2
 have hn:=(Nw.start h.gr).set (p:=p) (by rw [hp]; exact hb) u
 have hil:i < L.length:=(List.getElem?_eq_some_iff.1 hi).1
 have hne:∀ (j:Nat) (q:Nat × Obj),L[j]? = some q → j ≠ i → q.1 ≠ b:=by
  intro j q hq hji
  have hj:=(List.getElem?_eq_some_iff.1 hq)
  obtain ⟨hj1,hj2⟩:=hj
  obtain ⟨hi1,hi2⟩:=List.getElem?_eq_some_iff.1 hi
  have hpw:=List.pairwise_iff_getElem.1 h.nd
  rcases Nat.lt_or_gt_of_ne hji with hlt | hgt
  ·have:=hpw j i hj1 hi1 hlt
   rw [hj2,hi2] at this
   exact Nat.ne_of_gt this
  ·have:=hpw i j hi1 hj1 hgt
   rw [hj2,hi2] at this
   exact Nat.ne_of_lt this
 have hset:∀ q,q ∈ L.set i (b,o2) → q = (b,o2) ∨ (q ∈ L ∧ q.1 ≠ b):=by
  intro q hq
  obtain ⟨j,hj⟩:=List.mem_iff_getElem?.1 hq
  by_cases hji:j = i
  ·subst hji
   rw [List.getElem?_set_self hil] at hj
   exact .inl (Option.some.inj hj).symm
  ·rw [List.getElem?_set_ne (Ne.symm hji)] at hj
   exact .inr ⟨List.mem_of_getElem? hj,hne j q hj hji⟩
 refine ⟨h.held s wr _ hn h.rd,hn.gr,h.lt,h.held,fun q hq => ?_,?_,fun q hq => ⟨(h.ag q hq).1.set (by rw [hp]; exact h.sep _ hm q hq) u,(h.ag q hq).2⟩,fun q hq t ht => ?_⟩
 ·rcases hset q hq with rfl | ⟨hq,hqb⟩
  ·exact ⟨ho,hb⟩
  ·exact ⟨(Below.heap_setCell wr p u q.1 (by rw [hp]; exact hqb)).trans (h.keep q hq).1,(h.keep q hq).2⟩
 ·have hfst:(L.set i (b,o2)).map (·.1) = L.map (·.1):=by
   apply List.ext_getElem?
   intro j
   rw [List.getElem?_map,List.getElem?_map]
   by_cases hji:j = i
   ·subst hji
    rw [List.getElem?_set_self hil,hi]
    rfl
   ·rw [List.getElem?_set_ne (Ne.symm hji)]
  have h2:(L.map (·.1)).Pairwise fun p q => q < p:=List.pairwise_map.2 h.nd
  rw [← hfst] at h2
  exact List.pairwise_map.1 h2
 ·rcases hset q hq with rfl | ⟨hq,-⟩
  ·exact h.sep _ hm t ht
  ·exact h.sep q hq t ht
theorem Fr.done (h:Fr w R K s L T wr):K s wr ∧ Gr R w wr:=⟨h.rd,h.gr⟩
end
end Go.Proofs.Ytjleggpbghmobaa
namespace Go.Proofs.Ytjleggpbghmobaa
open Go.RowKit
open Px (RT tokAt)
open Pe
theorem IsBut.gr {g:Option Nat}{w w1:World}{R B:Nat}{e:Ex}{vs:List Value}(h:IsBut g w B e vs)(hR:R < B)(hg:Gr R w w1):IsBut g w1 B e vs:=h.go hg.size fun bl h1 h2 _ => hg.block bl h2 (by omega)
theorem IsBut.node1 {g:Option Nat}{w:World}{B bl:Nat}{T:TypeId}{e:Ex}{vs:List Value}{A:Array Value}(hb:w.heap[bl]? = some (.cells A T (0,0)))(hne:B ≤ bl)(hg:∀ k,g = some k → k < bl)(hi:IsBut g w B e vs)(hA:A = ⟨vs⟩)(kind num:Int)(name ofn:List UInt8)(dims at_:Int)(c:Nat) :
 IsBut g w B (Ex.of kind num name ofn dims [e] at_) (exCells kind num name ofn dims (.slice (some ⟨bl,0,none⟩) 1 c) at_ 0 0 0 0):=
 fun w' hs hk => Is.node1 ((hk bl hne (zA hb) (fun e => by have:=hg _ e.symm; omega)).trans hb) hne (hi w' hs hk) hA kind num name ofn dims at_ c
theorem IsBut.node2 {g:Option Nat}{w:World}{B bl:Nat}{T:TypeId}{e e2:Ex}{vs vs2:List Value}{A:Array Value}(hb:w.heap[bl]? = some (.cells A T (0,0)))(hne:B ≤ bl)(hg:∀ k,g = some k → k < bl)(hi:IsBut g w B e vs)(hi2:IsBut g w B e2 vs2)(hA:A = ⟨vs ++ vs2⟩)(kind num:Int)(name ofn:List UInt8)(dims at_:Int)(c:Nat) :
 IsBut g w B (Ex.of kind num name ofn dims [e,e2] at_) (exCells kind num name ofn dims (.slice (some ⟨bl,0,none⟩) 2 c) at_ 0 0 0 0):=
 fun w' hs hk => Is.node2 ((hk bl hne (zA hb) (fun e => by have:=hg _ e.symm; omega)).trans hb) hne (hi w' hs hk) (hi2 w' hs hk) hA kind num name ofn dims at_ c
theorem zKN {w:World}{N:Nat}{T:TypeId}{o0 o1 o2 o3 o4 o5 o6 o7 o8 o9 o10:Value}(h:w.heap[N]? = some (.cells #[o0,o1,o2,o3,o4,o5,o6,o7,o8,o9,o10] T (0,0))){c0 c1 c2 c3 c4 c5 c6 c7 c8 c9 c10:Value}:(((((((((((w.setCell ⟨N,0,none⟩ c0).setCell ⟨N,1,none⟩ c1).setCell ⟨N,2,none⟩ c2).setCell ⟨N,3,none⟩ c3).setCell ⟨N,4,none⟩ c4).setCell ⟨N,5,none⟩ c5).setCell ⟨N,6,none⟩ c6).setCell ⟨N,7,none⟩ c7).setCell ⟨N,8,none⟩ c8).setCell ⟨N,9,none⟩ c9).setCell ⟨N,10,none⟩ c10).heap[N]? = some (.cells #[c0,c1,c2,c3,c4,c5,c6,c7,c8,c9,c10] T (0,0)):=by
 have h0:=zAn h 0 c0 (A2:=#[c0,o1,o2,o3,o4,o5,o6,o7,o8,o9,o10]) rfl
 have h1:=zAn h0 1 c1 (A2:=#[c0,c1,o2,o3,o4,o5,o6,o7,o8,o9,o10]) rfl
 have h2:=zAn h1 2 c2 (A2:=#[c0,c1,c2,o3,o4,o5,o6,o7,o8,o9,o10]) rfl
 have h3:=zAn h2 3 c3 (A2:=#[c0,c1,c2,c3,o4,o5,o6,o7,o8,o9,o10]) rfl
 have h4:=zAn h3 4 c4 (A2:=#[c0,c1,c2,c3,c4,o5,o6,o7,o8,o9,o10]) rfl
 have h5:=zAn h4 5 c5 (A2:=#[c0,c1,c2,c3,c4,c5,o6,o7,o8,o9,o10]) rfl
 have h6:=zAn h5 6 c6 (A2:=#[c0,c1,c2,c3,c4,c5,c6,o7,o8,o9,o10]) rfl
 have h7:=zAn h6 7 c7 (A2:=#[c0,c1,c2,c3,c4,c5,c6,c7,o8,o9,o10]) rfl
 have h8:=zAn h7 8 c8 (A2:=#[c0,c1,c2,c3,c4,c5,c6,c7,c8,o9,o10]) rfl
 have h9:=zAn h8 9 c9 (A2:=#[c0,c1,c2,c3,c4,c5,c6,c7,c8,c9,o10]) rfl
 have h10:=zAn h9 10 c10 (A2:=#[c0,c1,c2,c3,c4,c5,c6,c7,c8,c9,c10]) rfl
 exact h10
theorem IsBut.put11 {w:World}{N B:Nat}{e:Ex}{vs:List Value}(h:IsBut (some N) w B e vs){c0 c1 c2 c3 c4 c5 c6 c7 c8 c9 c10:Value}:IsBut (some N) (((((((((((w.setCell ⟨N,0,none⟩ c0).setCell ⟨N,1,none⟩ c1).setCell ⟨N,2,none⟩ c2).setCell ⟨N,3,none⟩ c3).setCell ⟨N,4,none⟩ c4).setCell ⟨N,5,none⟩ c5).setCell ⟨N,6,none⟩ c6).setCell ⟨N,7,none⟩ c7).setCell ⟨N,8,none⟩ c8).setCell ⟨N,9,none⟩ c9).setCell ⟨N,10,none⟩ c10) B e vs:=
 h.go (by simp only [zR]; exact Nat.le_refl _) fun bl _ hb hne => by
  obtain ⟨o,ho⟩:∃ o,w.heap[bl]? = some o:=⟨_,Array.getElem?_eq_getElem hb⟩
  rw [ho]
  exact zO ho (fun he => hne (by rw [he]))
theorem IsBut.top {w:World}{B B2:Nat}{e:Ex}{vs:List Value}(h:Is w B2 e vs)(hB:B ≤ B2):IsBut (some w.heap.size) w B e vs:=
 fun w' hs hk => Is.lower hB _ (Is.keep hs (fun bl h1 h2 => hk bl (Nat.le_trans hB h1) h2 (fun e => by injection e with e; omega)) _ h)
theorem IsBut.alloc {g:Option Nat}{w:World}{B:Nat}{e:Ex}{vs:List Value}(h:IsBut g w B e vs)(o:Obj):IsBut g (w.alloc o) B e vs:=
 h.go (by rw [zB]; omega) fun bl _ hb _ => heap_alloc_old _ _ hb
open Ps (Sm PX)
section
variable {w w':World} {R M1 M2:Nat} {S:Value} {ts:List RT} {s s':St}
end
theorem zJC {wb w3:World}{o:Obj}(h:Below (wb.alloc o).drew.heap.size (wb.alloc o).drew w3):w3.heap[wb.heap.size]? = some o:=(h.block _ (zA (heap_alloc_new wb o))).trans (heap_alloc_new wb o)
def Sk (R:Nat)(x y:Value)(w:World):Prop:=(w.cell? ⟨R,0,none⟩ = some x ∧ w.cell? ⟨R,1,none⟩ = some y) ∧ R < w.heap.size
theorem Sk.a {R:Nat}{x y:Value}{w:World}(h:Sk R x y w):w.cell? ⟨R,0,none⟩ = some x:=h.1.1
theorem Sk.b {R:Nat}{x y:Value}{w:World}(h:Sk R x y w):w.cell? ⟨R,1,none⟩ = some y:=h.1.2
theorem Sk.c {R:Nat}{x y:Value}{w:World}(h:Sk R x y w):R < w.heap.size:=h.2
theorem Sk.all {R:Nat}{x y:Value}{w:World}(h:Sk R x y w):w.cell? ⟨R,0,none⟩ = some x ∧ w.cell? ⟨R,1,none⟩ = some y ∧ R < w.heap.size:=⟨h.1.1,h.1.2,h.2⟩
theorem Sk.below {R:Nat}{x y:Value}{w w':World}(h:Sk R x y w)(hb:Below w.heap.size w w'):Sk R x y w':=
 ⟨⟨by rw [hb.cell (p:=⟨R,0,none⟩) h.2]; exact h.1.1,by rw [hb.cell (p:=⟨R,1,none⟩) h.2]; exact h.1.2⟩,Nat.lt_of_lt_of_le h.2 hb.size⟩
theorem Sk.alloc {R:Nat}{x y:Value}{w:World}{o:Obj}(h:Sk R x y w):Sk R x y (w.alloc o):=h.below ((Below.refl _ _).alloc (Nat.le_refl _) _)
theorem Sk.drew {R:Nat}{x y:Value}{w:World}(h:Sk R x y w):Sk R x y w.drew:=h.below (Below.refl _ _).drew
theorem Sk.put {R:Nat}{x y:Value}{w:World}{b i:Nat}{u:Value}(h:Sk R x y w)(hb:b ≠ R):Sk R x y (w.setCell ⟨b,i,none⟩ u):=by
 have hc:=zAP (Below.heap_setCell w ⟨b,i,none⟩ u R (Ne.symm hb))
 exact ⟨⟨(hc 0).trans h.1.1,(hc 1).trans h.1.2⟩,by rw [zR]; exact h.2⟩
section
variable {w w3 W:World} {R M1 M2 B:Nat} {S:Value} {ts:List RT} {s:St}
end
open Pg (BX)
structure Mc (w:World) (R:Nat) (T:TypeId) (X:List Value) (S:Value) (ts:List RT) (B:Nat) (w3:World) (s:Cs) (W:World):Prop where
 rd:Cu W R T S X ts s
 gr:Gr R w W
 ag:Ag B w3 W
 lt:R < w.heap.size
 hB:w.heap.size ≤ B
 h0:∃ s0,Cu w R T S X ts s0
section
variable {w w3 W:World} {R B:Nat} {T:TypeId} {X:List Value} {S:Value} {ts:List RT} {s:Cs}
theorem Mc.nw (h:Mc w R T X S ts B w3 s W){W2:World}(n:Nw R w W W2)(g:Ag B W W2):Mc w R T X S ts B w3 s W2:=by
 obtain ⟨s0,h0⟩:=h.h0
 exact ⟨h0.fin h.rd n,n.gr,h.ag.trans g,h.lt,h.hB,s0,h0⟩
theorem Mc.go (h:Mc w R T X S ts B w3 s W){W2:World}(hb:Below W.heap.size W W2):Mc w R T X S ts B w3 s W2:=h.nw ⟨hb.mono h.gr.size,h.gr.below hb⟩ (Ag.below hb)
theorem Mc.alloc (h:Mc w R T X S ts B w3 s W){o:Obj}:Mc w R T X S ts B w3 s (W.alloc o):=h.go ((Below.refl _ _).alloc (Nat.le_refl _) _)
theorem Mc.drew (h:Mc w R T X S ts B w3 s W):Mc w R T X S ts B w3 s W.drew:=h.go (Below.refl _ _).drew
theorem Mc.put (h:Mc w R T X S ts B w3 s W){b i:Nat}{u:Value}(hp:w.heap.size ≤ b)(hq:b < B ∨ w3.heap.size ≤ b):Mc w R T X S ts B w3 s (W.setCell ⟨b,i,none⟩ u):=by
 obtain ⟨s0,h0⟩:=h.h0
 have n:=(Nw.start h.gr).set (p:=⟨b,i,none⟩) hp u
 exact ⟨h0.fin h.rd n,n.gr,h.ag.set hq u,h.lt,h.hB,s0,h0⟩
theorem Mc.set_k (h:Mc w R T X S ts B w3 s W){q:Int}:Mc w R T X S ts B w3 ⟨q,s.E,s.F⟩ (W.setCell ⟨R,1,none⟩ (.int .i64 q)):=
 ⟨h.rd.set_k q,h.gr.set 1 _,h.ag.set (.inl (Nat.lt_of_lt_of_le h.lt h.hB)) _,h.lt,h.hB,h.h0⟩
theorem Mc.set_f (h:Mc w R T X S ts B w3 s W){e a:Int}:Mc w R T X S ts B w3 ⟨s.k,e,a⟩ ((W.setCell ⟨R,2,none⟩ (.int .i64 e)).setCell ⟨R,3,none⟩ (.int .i64 a)):=
 ⟨h.rd.set_f e a,(h.gr.set 2 _).set 3 _,(h.ag.set (.inl (Nat.lt_of_lt_of_le h.lt h.hB)) _).set (.inl (Nat.lt_of_lt_of_le h.lt h.hB)) _,h.lt,h.hB,h.h0⟩
end
def OfPostC (w:World)(R:Nat)(T:TypeId)(X:List Value)(S:Value)(ts:List RT)(x:List UInt8 × Nat × Cs)(e:Ending)(w':World):Prop:=
 e = .returned (.agg #[.string (cbs x.1),.int .i64 x.2.1]) ∧ Cu w' R T S X ts x.2.2 ∧ Gr R w w'
theorem Mc.of {w w3 W:World}{R B:Nat}{T:TypeId}{X:List Value}{S:Value}{ts:List RT}{s0 s:Cs}{x:List UInt8 × Nat × Cs}{nm:List UInt8}{d:Nat}{sm:Cs}(_h0:Mc w R T X S ts B w3 sm w3)(h:Mc w R T X S ts B w3 s W)(hx:Pg.rdOf ts s0 = x)(he:x = (nm,d,s)):OfPostC w R T X S ts (Pg.rdOf ts s0) (.returned (.agg #[.string (cbs nm),.int .i64 d])) W:=by
 rw [hx,he]
 exact ⟨rfl,h.rd,h.gr⟩
def BlPostC (w:World)(R:Nat)(T:TypeId)(X:List Value)(S:Value)(ts:List RT)(x:List Sm × Cs)(e:Ending)(w':World):Prop:=
 ∃ (p:Option Addr) (c:Nat),e = .returned (.slice p x.1.length c) ∧ SsAt w' w.heap.size p x.1 ∧ Cu w' R T S X ts x.2 ∧ Gr R w w'
theorem Mc.bl {w w3 W:World}{R B0:Nat}{T:TypeId}{X:List Value}{S:Value}{ts:List RT}{s:Cs}{p:Option Addr}{c:Nat}{l:List Sm}(h:Mc w R T X S ts B0 w3 s W)(ha:SsAt w3 B0 p l):BlPostC w R T X S ts (l,s) (.returned (.slice p l.length c)) W:=
 ⟨p,c,rfl,(ha.ag h.ag).lower h.hB,h.rd,h.gr⟩
end Go.Proofs.Ytjleggpbghmobaa
namespace Go.Proofs.Ytjleggpbghmobaa
open Go.RowKit
open Px (RT tokAt)
open Pe
open Ps (Sm PX)
end Go.Proofs.Ytjleggpbghmobaa
