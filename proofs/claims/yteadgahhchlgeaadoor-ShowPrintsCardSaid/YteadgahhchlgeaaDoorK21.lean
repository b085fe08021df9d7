/-
  What the project's own reader of programs does, step by step
-/
import Derived.Test.YteadgahhchlgeaaDoorK04
import Derived.Test.YteadgahhchlgeaaDoorK18
import Derived.Test.YteadgahhchlgeaaDoorK20
import Derived.Test.YteadgahhchlgeaaDoorK02
import Derived.Deep.RegionHeld3
import Derived.Deep.LoopGhost
import Derived.Maps.AppendAt
import Derived.Deep.RegionWith
import Derived.RegionTactic
set_option maxRecDepth 8000
set_option maxHeartbeats 8000000
namespace Go.Proofs.YteadgahhchlgeaaDoor
namespace Pg
open Go.RowKit
open Px (RT tokAt)
open Pe
open Ps (Sm)
structure Pm where
 name:List UInt8
 ofn:List UInt8
 dims:Int
 at_:Int
structure Rc where
 name:List UInt8
 fields:List Pm
 at_:Int
structure Fc where
 name:List UInt8
 params:List Pm
 has:Bool
 rn:List UInt8
 rd:Int
 body:List Sm
 at_:Int
structure Gm where
 recs:List Rc
 globals:List Pm
 funcs:List Fc
def Gm.zero:Gm:=⟨[],[],[]⟩
def Gm.addR (p:Gm)(x:Rc):Gm:=⟨p.recs ++ [x],p.globals,p.funcs⟩
def Gm.addG (p:Gm)(x:Pm):Gm:=⟨p.recs,p.globals ++ [x],p.funcs⟩
def Gm.addF (p:Gm)(x:Fc):Gm:=⟨p.recs,p.globals,p.funcs ++ [x]⟩
abbrev BX:=Int → List Sm × Int × Int × Int
def rdOf (ts:List RT)(s:Cs):List UInt8 × Nat × Cs:=
 if s.E = 0 then
    if (ofAns ts s.k).2.2.2.1 = 0 then ((ofAns ts s.k).1,(ofAns ts s.k).2.1,⟨(ofAns ts s.k).2.2.1,s.E,s.F⟩)
    else ([],0,⟨s.k,(ofAns ts s.k).2.2.2.1,(ofAns ts s.k).2.2.2.2⟩)
 else ([],0,s)
def rdB (B:BX)(s:Cs):List Sm × Cs:=
 if s.E = 0 then
    if (B s.k).2.2.1 = 0 then ((B s.k).1,⟨(B s.k).2.1,s.E,s.F⟩)
    else ([],⟨s.k,(B s.k).2.2.1,(B s.k).2.2.2⟩)
 else ([],s)
def limit (ts:List RT)(s:Cs)(n most:Int):Cs:=if n = most then fail ts s 4 else s
def sg (ts:List RT)(s:Cs)(t:List UInt8):Cs:=(sign ts s t).2
def declared (ts:List RT)(s:Cs):Pm × Cs:=
 let n:=name ts s
 let t:=rdOf ts (sg ts n.2 [58])
 (⟨n.1,t.1,t.2.1,(peek ts s).at_⟩,t.2.2)
def oneMore (ts:List RT)(l:List Pm)(most:Int)(s:Cs):List Pm × Cs:=
 let d:=declared ts (if (peek ts s).kind = 1 then limit ts s l.length most else s)
 (l ++ [d.1],d.2)
def parLoop (ts:List RT):Nat → List Pm → Cs → Option (List Pm × Cs)
 | 0,_,_ => none
 | g + 1,l,s =>
   if sees ts s 4 [44] then parLoop ts g (oneMore ts l 6 (next s)).1 (oneMore ts l 6 (next s)).2
   else some (l,s)
def parFirst (ts:List RT)(s:Cs):List Pm × Cs:=if sees ts s 4 [41] then ([],s) else oneMore ts [] 6 s
def params (ts:List RT)(g:Nat)(s:Cs):Option (List Pm × Cs):=
 match parLoop ts g (parFirst ts (sg ts s [40])).1 (parFirst ts (sg ts s [40])).2 with
 | none => none
 | some (l,s2) => some (l,sg ts s2 [41])
def resultOf (ts:List RT)(s:Cs):Bool × List UInt8 × Nat × Cs:=
 if sees ts s 4 [58] then (true,rdOf ts (next s)) else (false,[],0,s)
def function (ts:List RT)(B:BX)(g:Nat)(s:Cs):Option (Fc × Cs):=
 match params ts g (name ts (next s)).2 with
 | none => none
 | some (ps,s1) =>
   let t:=resultOf ts s1
   some (⟨(name ts (next s)).1,ps,t.1,t.2.1,t.2.2.1,(rdB B t.2.2.2).1,(peek ts (next s)).at_⟩,(rdB B t.2.2.2).2)
def fieldLoop (ts:List RT):Nat → List Pm → Cs → Option (List Pm × Cs)
 | 0,_,_ => none
 | g + 1,l,s =>
   if (peek ts s).kind = 1 then fieldLoop ts g (oneMore ts l 8 s).1 (sg ts (oneMore ts l 8 s).2 [59])
   else some (l,s)
def record (ts:List RT)(g:Nat)(s:Cs):Option (Rc × Cs):=
 match fieldLoop ts g [] (sg ts (name ts (next s)).2 [123]) with
 | none => none
 | some (l,s2) => some (⟨(name ts (next s)).1,l,(peek ts (next s)).at_⟩,sg ts s2 [125])
def global (ts:List RT)(s:Cs):Pm × Cs:=((declared ts (next s)).1,sg ts (declared ts (next s)).2 [59])
def loop (ts:List RT)(B:BX):Nat → Gm → Cs → Option (Gm × Cs)
 | 0,_,_ => none
 | g + 1,p,s =>
   if (peek ts s).kind = 0 then some (p,s)
   else if sees ts s 3 [114,101,99,111,114,100] then
     match record ts g (limit ts s p.recs.length 12) with
     | none => none
     | some (x,s2) => loop ts B g (p.addR x) s2
   else if sees ts s 3 [103,108,111,98,97,108] then
     loop ts B g (p.addG (global ts (limit ts s p.globals.length 8)).1) (global ts (limit ts s p.globals.length 8)).2
   else if sees ts s 3 [102,117,110,99] then
     match function ts B g (limit ts s p.funcs.length 16) with
     | none => none
     | some (x,s2) => loop ts B g (p.addF x) s2
   else loop ts B g p (fail ts s 2)
def pgEnd (p:Gm)(s:Cs):Gm × Int × Int:=if s.E = 0 then (p,0,0) else (Gm.zero,s.E,s.F)
def run (ts:List RT)(B:BX)(g:Nat):Option (Gm × Int × Int):=
 match loop ts B g Gm.zero ⟨0,0,0⟩ with
 | none => none
 | some (p,s) => some (pgEnd p s)
end Pg
namespace Qg
open Go.RowKit
open Px (RT tokAt)
open Qe (Q)
open Ps (Sm)
open Pg (Pm Rc Fc Gm)
def param (ts:List RT)(q:Q):Pm × Q:=
 let n:=Qe.name ts q
 let t:=Qe.of ts (Qe.take ts n.2 false [58])
 (⟨n.1,t.1,t.2.1,(tokAt ts q.k).at_⟩,t.2.2)
def fieldLoop (ts:List RT):Nat → List Pm → Q → Option (List Pm × Q)
 | 0,_,_ => none
 | g + 1,l,q =>
   if q.E = 0 ∧ Qe.is ts q false [125] = false then
     if (tokAt ts q.k).kind = 1 ∧ l.length = 8 then some (l,Qe.fail ts q 4)
     else fieldLoop ts g (l ++ [(param ts q).1]) (Qe.take ts (param ts q).2 false [59])
   else some (l,q)
def record (ts:List RT)(g:Nat)(q:Q):Option (Rc × Q):=
 match fieldLoop ts g [] (Qe.take ts (Qe.name ts q).2 false [123]) with
 | none => none
 | some (l,q2) => some (⟨(Qe.name ts q).1,l,(tokAt ts q.k).at_⟩,Qe.take ts q2 false [125])
def comma (ts:List RT)(q:Q):Q:=
 if Qe.is ts q false [41] then q
 else if Qe.is ts (Qe.take ts q false [44]) false [41] then Qe.fail ts (Qe.take ts q false [44]) 2
 else Qe.take ts q false [44]
def parLoop (ts:List RT):Nat → List Pm → Q → Option (List Pm × Q)
 | 0,_,_ => none
 | g + 1,l,q =>
   if q.E = 0 ∧ Qe.is ts q false [41] = false then
     if (tokAt ts q.k).kind = 1 ∧ l.length = 6 then some (l,Qe.fail ts q 4)
     else parLoop ts g (l ++ [(param ts q).1]) (comma ts (param ts q).2)
   else some (l,q)
def resultOf (ts:List RT)(q:Q):Bool × List UInt8 × Nat × Q:=
 if Qe.is ts q false [58] then (true,Qe.of ts (Qe.next q)) else (false,[],0,q)
def function (ts:List RT)(recB:Q → Qs.OutB)(g:Nat)(q:Q):Option (Fc × Q):=
 match parLoop ts g [] (Qe.take ts (Qe.name ts q).2 false [40]) with
 | none => none
 | some (ps,q1) =>
   let t:=resultOf ts (Qe.take ts q1 false [41])
   match recB t.2.2.2 with
   | none => none
   | some (b,q3) => some (⟨(Qe.name ts q).1,ps,t.1,t.2.1,t.2.2.1,b,(tokAt ts q.k).at_⟩,q3)
def over (ts:List RT)(p:Gm)(q:Q):Prop:=
 (Qe.is ts q true [114,101,99,111,114,100] = true ∧ p.recs.length = 12) ∨ (Qe.is ts q true [103,108,111,98,97,108] = true ∧ p.globals.length = 8) ∨ (Qe.is ts q true [102,117,110,99] = true ∧ p.funcs.length = 16)
instance (ts:List RT) (p:Gm) (q:Q):Decidable (over ts p q):=by unfold over; infer_instance
def loop (ts:List RT)(recB:Q → Qs.OutB):Nat → Gm → Q → Option (Gm × Q)
 | 0,_,_ => none
 | g + 1,p,q =>
   if q.E = 0 ∧ (tokAt ts q.k).kind ≠ 0 then
     if over ts p q then loop ts recB g p (Qe.fail ts q 4)
     else if Qe.is ts q true [114,101,99,111,114,100] then
       match record ts g (Qe.next q) with
       | none => none
       | some (x,q2) => loop ts recB g (p.addR x) q2
     else if Qe.is ts q true [103,108,111,98,97,108] then
       loop ts recB g (p.addG (param ts (Qe.next q)).1) (Qe.take ts (param ts (Qe.next q)).2 false [59])
     else if Qe.is ts q true [102,117,110,99] then
       match function ts recB g (Qe.next q) with
       | none => none
       | some (x,q2) => loop ts recB g (p.addF x) q2
     else loop ts recB g p (Qe.fail ts q 2)
   else some (p,q)
def pgEnd (p:Gm)(q:Q):Gm × Int × Int:=if q.E = 0 then (p,0,0) else (Gm.zero,q.E,q.F)
def run (ts:List RT)(recB:Q → Qs.OutB)(g:Nat):Option (Gm × Int × Int):=
 match loop ts recB g Gm.zero ⟨0,0,0,0⟩ with
 | none => none
 | some (p,q) => some (pgEnd p q)
end Qg
open Go.RowKit
open Px (RT tokAt)
open Pe
open Ps (Sm PX)
open Pg (BX)
structure Mc (w:World) (R:Nat) (T:TypeId) (X:List Value) (S:Value) (ts:List RT) (B:Nat) (w3:World) (s:Cs) (W:World):Prop where
 rd:Cu W R T S X ts s
 gr:Gr R w W
 ag:Ag B w3 W
 lt:R < w.heap.size
 hB:w.heap.size ≤ B
 h0:∃ s0,Cu w R T S X ts s0
section
variable {w w3 W:World} {R B:Nat} {T:TypeId} {X:List Value} {S:Value} {ts:List RT} {s:Cs}
theorem Mc.nw (h:Mc w R T X S ts B w3 s W){W2:World}(n:Nw R w W W2)(g:Ag B W W2):Mc w R T X S ts B w3 s W2:=by
 obtain ⟨s0,h0⟩:=h.h0
 exact ⟨h0.fin h.rd n,n.gr,h.ag.trans g,h.lt,h.hB,s0,h0⟩
theorem Mc.go (h:Mc w R T X S ts B w3 s W){W2:World}(hb:Below W.heap.size W W2):Mc w R T X S ts B w3 s W2:=h.nw ⟨hb.mono h.gr.size,h.gr.below hb⟩ (Ag.below hb)
theorem Mc.alloc (h:Mc w R T X S ts B w3 s W){o:Obj}:Mc w R T X S ts B w3 s (W.alloc o):=h.go ((Below.refl _ _).alloc (Nat.le_refl _) _)
theorem Mc.drew (h:Mc w R T X S ts B w3 s W):Mc w R T X S ts B w3 s W.drew:=h.go (Below.refl _ _).drew
theorem Mc.put (h:Mc w R T X S ts B w3 s W){b i:Nat}{u:Value}(hp:w.heap.size ≤ b)(hq:b < B ∨ w3.heap.size ≤ b):Mc w R T X S ts B w3 s (W.setCell ⟨b,i,none⟩ u):=by
 obtain ⟨s0,h0⟩:=h.h0
 have n:=(Nw.start h.gr).set (p:=⟨b,i,none⟩) hp u
 exact ⟨h0.fin h.rd n,n.gr,h.ag.set hq u,h.lt,h.hB,s0,h0⟩
theorem Mc.set_k (h:Mc w R T X S ts B w3 s W){q:Int}:Mc w R T X S ts B w3 ⟨q,s.E,s.F⟩ (W.setCell ⟨R,1,none⟩ (.int .i64 q)):=
 ⟨h.rd.set_k q,h.gr.set 1 _,h.ag.set (.inl (Nat.lt_of_lt_of_le h.lt h.hB)) _,h.lt,h.hB,h.h0⟩
theorem Mc.set_f (h:Mc w R T X S ts B w3 s W){e a:Int}:Mc w R T X S ts B w3 ⟨s.k,e,a⟩ ((W.setCell ⟨R,2,none⟩ (.int .i64 e)).setCell ⟨R,3,none⟩ (.int .i64 a)):=
 ⟨h.rd.set_f e a,(h.gr.set 2 _).set 3 _,(h.ag.set (.inl (Nat.lt_of_lt_of_le h.lt h.hB)) _).set (.inl (Nat.lt_of_lt_of_le h.lt h.hB)) _,h.lt,h.hB,h.h0⟩
end
def OfPostC (w:World)(R:Nat)(T:TypeId)(X:List Value)(S:Value)(ts:List RT)(x:List UInt8 × Nat × Cs)(e:Ending)(w':World):Prop:=
 e = .returned (.agg #[.string (cbs x.1),.int .i64 x.2.1]) ∧ Cu w' R T S X ts x.2.2 ∧ Gr R w w'
theorem Mc.of {w w3 W:World}{R B:Nat}{T:TypeId}{X:List Value}{S:Value}{ts:List RT}{s0 s:Cs}{x:List UInt8 × Nat × Cs}{nm:List UInt8}{d:Nat}{sm:Cs}(_h0:Mc w R T X S ts B w3 sm w3)(h:Mc w R T X S ts B w3 s W)(hx:Pg.rdOf ts s0 = x)(he:x = (nm,d,s)):OfPostC w R T X S ts (Pg.rdOf ts s0) (.returned (.agg #[.string (cbs nm),.int .i64 d])) W:=by
 rw [hx,he]
 exact ⟨rfl,h.rd,h.gr⟩
def BlPostC (w:World)(R:Nat)(T:TypeId)(X:List Value)(S:Value)(ts:List RT)(x:List Sm × Cs)(e:Ending)(w':World):Prop:=
 ∃ (p:Option Addr) (c:Nat),e = .returned (.slice p x.1.length c) ∧ SsAt w' w.heap.size p x.1 ∧ Cu w' R T S X ts x.2 ∧ Gr R w w'
theorem Mc.bl {w w3 W:World}{R B0:Nat}{T:TypeId}{X:List Value}{S:Value}{ts:List RT}{s:Cs}{p:Option Addr}{c:Nat}{l:List Sm}(h:Mc w R T X S ts B0 w3 s W)(ha:SsAt w3 B0 p l):BlPostC w R T X S ts (l,s) (.returned (.slice p l.length c)) W:=
 ⟨p,c,rfl,(ha.ag h.ag).lower h.hB,h.rd,h.gr⟩
end Go.Proofs.YteadgahhchlgeaaDoor
namespace Go.Proofs.YteadgahhchlgeaaDoor
open Go.RowKit
open Px (RT tokAt)
open Pe
open Ps (Sm PX)
def SBut (g:Option Nat)(w:World)(B:Nat)(x:Sm)(vs:List Value):Prop:=
 ∀ w':World,w.heap.size ≤ w'.heap.size → (∀ bl,B ≤ bl → bl < w.heap.size → some bl ≠ g → w'.heap[bl]? = w.heap[bl]?) → SIs w' B x vs
section
variable {g g':Option Nat} {w w1:World} {B B2:Nat} {x:Sm} {vs:List Value}
theorem SBut.now (h:SBut g w B x vs):SIs w B x vs:=h w (Nat.le_refl _) fun _ _ _ _ => rfl
theorem SBut.of (h:SIs w B2 x vs)(hB:B ≤ B2)(hg:∀ k,g = some k → k < B2):SBut g w B x vs:=
 fun w' hs hk => SIs.lower hB _ (SIs.ag ⟨hs,fun bl h1 h2 => hk bl (Nat.le_trans hB h1) h2 (fun e => by have:=hg _ e.symm; omega)⟩ _ h)
theorem SBut.go (h:SBut g w B x vs)(hs:w.heap.size ≤ w1.heap.size)(hk:∀ bl,B ≤ bl → bl < w.heap.size → some bl ≠ g → w1.heap[bl]? = w.heap[bl]?):SBut g w1 B x vs:=
 fun w' hs' hk' => h w' (Nat.le_trans hs hs') fun bl h1 h2 h3 => (hk' bl h1 (Nat.lt_of_lt_of_le h2 hs) h3).trans (hk bl h1 h2 h3)
theorem SBut.move (h:SBut g w B x vs)(hs:w.heap.size ≤ w1.heap.size)(hk:∀ bl,B ≤ bl → bl < w.heap.size → some bl ≠ g → w1.heap[bl]? = w.heap[bl]?)(hg:g' = g ∨ ∃ k,g' = some k ∧ w.heap.size ≤ k):SBut g' w1 B x vs:=by
 rcases hg with rfl | ⟨k,rfl,hge⟩
 ·exact h.go hs hk
 ·exact fun w' hs' hk' => h w' (Nat.le_trans hs hs') fun bl h1 h2 h3 => (hk' bl h1 (Nat.lt_of_lt_of_le h2 hs) (fun e => by injection e with e; omega)).trans (hk bl h1 h2 h3)
end
theorem SAt.of_row {w:World}{B bl:Nat}{T:TypeId}{A:Array Value}(hb:w.heap[bl]? = some (.cells A T (0,0))):∀ (xs:List Sm)(off:Nat)(vss:List (List Value)),vss.length = xs.length → (∀ (i:Nat) x vs,xs[i]? = some x → vss[i]? = some vs → SIs w B x vs) →
 (∀ (i:Nat),i < vss.flatten.length → A[off + i]? = vss.flatten[i]?) → SAt w B bl off xs
 | [],_,_,_,_,_ => by rw [SAt]; trivial
 | x :: xs,off,[],hl,_,_ => by simp at hl
 | x :: xs,off,vs :: vss,hl,hi,hc => by
   rw [SAt]
   have h0:=hi 0 x vs rfl rfl
   have hlen:=h0.len
   refine ⟨⟨vs,h0,fun i v hv => ?_⟩,SAt.of_row hb xs (off + 9) vss (by simpa using hl) (fun i e vs he hvs => hi (i + 1) e vs he hvs) fun i hlt => ?_⟩
   ·have hlt:i < vs.length:=(List.getElem?_eq_some_iff.1 hv).1
    rw [cell_of_row _ _ _ _ _ _ hb,hc i (by simp; omega),List.flatten_cons,List.getElem?_append_left hlt,hv]
   ·have:=hc (9 + i) (by simp at hlt ⊢; omega)
    rw [List.flatten_cons,List.getElem?_append_right (by omega),hlen,show 9 + i - 9 = i by omega] at this
    rw [← this]
    congr 1
    omega
structure SmSt (w wr:World) (R:Nat) (v:Value) (l:List Sm):Prop where
 gr:Gr R w wr
 own:∃ vss:List (List Value),vss.length = l.length ∧ wr.ownsRow w.heap.size 65 9 v l.length vss.flatten ∧ ∀ (i:Nat) e vs,l[i]? = some e → vss[i]? = some vs → SBut v.ownBlock wr w.heap.size e vs
section
variable {w wr w' w1 w3:World} {R:Nat} {v v':Value} {l:List Sm}
theorem SmSt.start (hg:Gr R w wr):SmSt w wr R (.slice none 0 0) []:=⟨hg,[],rfl,World.ownsRow_nil _ _ _ _,fun i e vs h _ => by simp at h⟩
theorem SmSt.go (h:SmSt w wr R v l)(hlt:R < w.heap.size)(hg:Gr R wr w'):SmSt w w' R v l:=by
 obtain ⟨vss,h1,h2,h3⟩:=h.own
 exact ⟨h.gr.trans hg,vss,h1,zJ1 h2 hg hlt,fun i e vs he hv => (h3 i e vs he hv).go hg.size fun bl hb hl _ => hg.block bl hl (by omega)⟩
theorem SmSt.own_lt (h:SmSt w wr R v l):∀ k,v.ownBlock = some k → w.heap.size ≤ k ∧ k < wr.heap.size:=by
 obtain ⟨vss,h1,h2,h3⟩:=h.own
 exact fun k hk => h2.lt k hk
theorem SmSt.push {x:Sm}{vs:List Value}{T:TypeId}{A:Array Value}(_hlt:R < w.heap.size)(h:SmSt w w1 R v l)(hwr:∀ k,v.ownBlock = some k → k < wr.heap.size)(hB:w.heap.size ≤ wr.heap.size)
 (hi:SIs w1 wr.heap.size x vs) {vss:List (List Value)} (hl:vss.length = l.length) (hk:∀ (i:Nat) e vs,l[i]? = some e → vss[i]? = some vs → SBut v.ownBlock w1 w.heap.size e vs)
 (hown:w3.ownsRow w.heap.size 65 9 v' (l.length + 1) (vss.flatten ++ vs)) (hgrow:(w1.alloc (.cells A T)).grownBy w3 v.ownBlock) (hat:v'.ownBlock = v.ownBlock ∨ v'.ownBlock = some (w1.heap.size + 1)) :
 SmSt w w3 R v' (l ++ [x]) ∧ Nw R w w1 w3:=by
 have hsz:w.heap.size ≤ w1.heap.size:=h.gr.size
 have ha:∀ bl,bl < w1.heap.size → (w1.alloc (.cells A T)).heap[bl]? = w1.heap[bl]?:=fun bl hb => heap_alloc_old _ _ hb
 have hgb:∀ bl,bl < w1.heap.size → some bl ≠ v.ownBlock → w3.heap[bl]? = w1.heap[bl]?:=fun bl hb hne => (hgrow.block bl (by rw [zC]; omega) hne).trans (ha bl hb)
 have hs3:w1.heap.size ≤ w3.heap.size:=by have:=hgrow.size; rw [zC] at this; omega
 have hlow:∀ bl,bl < w.heap.size → w3.heap[bl]? = w1.heap[bl]?:=fun bl hb => hgb bl (by omega) (fun e => by have:=(h.own_lt bl e.symm).1; omega)
 have hn:Nw R w w1 w3:=⟨⟨hgrow.os,hgrow.tape,hgrow.output,hs3,hlow⟩,⟨hgrow.os.trans h.gr.os,hgrow.tape.trans h.gr.tape,hgrow.output.trans h.gr.output,Nat.le_trans hsz hs3,fun i hi hne => (hlow i hi).trans (h.gr.block i hi hne)⟩⟩
 refine ⟨⟨hn.gr,vss ++ [vs],by simp [hl],by simpa using hown,fun i e' vs' he hv => ?_⟩,hn⟩
 have hnew:v'.ownBlock = v.ownBlock ∨ ∃ k,v'.ownBlock = some k ∧ w1.heap.size ≤ k:=by
  rcases hat with h1 | h1
  ·exact .inl h1
  ·exact .inr ⟨_,h1,by omega⟩
 have hlen:vss.length = l.length:=hl
 by_cases hi':i < l.length
 ·rw [List.getElem?_append_left hi'] at he
  rw [List.getElem?_append_left (by omega)] at hv
  exact (hk i e' vs' he hv).move hs3 (fun bl _ hb hne => hgb bl hb hne) hnew
 ·have hieq:i = l.length:=by
   have:=(List.getElem?_eq_some_iff.1 he).1
   simp at this
   omega
  subst hieq
  simp at he
  rw [← hlen] at hv
  simp at hv
  subst he hv
  exact (SBut.of (g:=v.ownBlock) hi hB hwr).move hs3 (fun bl _ hb hne => hgb bl hb hne) hnew
theorem SmSt.done (h:SmSt w wr R v l):∃ p c,v = .slice p l.length c ∧ SsAt wr w.heap.size p l:=by
 obtain ⟨vss,h1,h2,h3⟩:=h.own
 rcases h2.2 with ⟨hv,h0⟩ | ⟨g,cap,cur,hv,hb,hc,hn,hcap,hsize,htake⟩
 ·have:l = []:=List.eq_nil_of_length_eq_zero h0
  subst this
  exact ⟨none,0,by rw [hv]; rfl,.inl rfl⟩
 ·refine ⟨_,cap,by rw [hv],.inr ⟨g,0,rfl,zA hc,hb,SAt.of_row hc l 0 vss h1 (fun i e vs he hvs => (h3 i e vs he hvs).now) fun i hlt => ?_⟩⟩
  rw [← htake] at hlt ⊢
  have hlt2:i < l.length * 9:=by simp at hlt; omega
  simp [hlt2]
end
theorem zPK (kind:Int)(name ofn:List UInt8)(dims:Int)(p:Option Addr)(n c:Nat)(p2:Option Addr)(n2 c2:Nat)(p3:Option Addr)(n3 c3:Nat)(at_ ref:Int):∀ u ∈ smCells kind name ofn dims (.slice p n c) (.slice p2 n2 c2) (.slice p3 n3 c3) at_ ref,u.oneCell' = true:=by
 intro u hu
 simp [smCells] at hu
 rcases hu with rfl | rfl | rfl | rfl | rfl | rfl | rfl | rfl | rfl <;> rfl
theorem zQC:(Tryd.prog.info? 65).map (fun i => (i.zero,i.size,i.bytes)) = some (some (.agg #[.int .i64 0,.string ⟨#[]⟩,.string ⟨#[]⟩,.int .i64 0,.slice none 0 0,.slice none 0 0,.slice none 0 0,.int .i64 0,.int .i64 0]),9,136):=by kernel_rfl
end Go.Proofs.YteadgahhchlgeaaDoor
namespace Go.Proofs.YteadgahhchlgeaaDoor
open Go.RowKit
open Px (RT tokAt)
open Pe
open Ps (Sm PX)
open Pg (BX Pm)
section
variable {w w':World} {R:Nat} {S:Value} {ts:List RT} {s s':Cs}
end
section
variable {w wr w':World} {R:Nat} {S:Value} {ts:List RT} {s s':Cs} {L:List (Nat × Obj)} {T:List (Nat × World)}
end
theorem Fr.drew {σ:Type}{w wr:World}{R:Nat}{K : σ → World → Prop}{s : σ}{L:List (Nat × Obj)}{T:List (Nat × World)}(h:Fr w R K s L T wr):Fr w R K s L T wr.drew:=h.go (Below.refl _ _).drew
theorem Fr.put4 {σ:Type}{w wr:World}{R:Nat}{K : σ → World → Prop}{s : σ}{L:List (Nat × Obj)}{T:List (Nat × World)}{b:Nat}{Ty:TypeId}{c0 c1 c2 c3 x0 x1 x2 x3:Value}(h:Fr w R K s L T wr)(i:Nat)(hi:L[i]? = some (b,.cells #[x0,x1,x2,x3] Ty (0,0))) :
 Fr w R K s (L.set i (b,.cells #[c0,c1,c2,c3] Ty (0,0))) T ((((wr.setCell ⟨b,0,none⟩ c0).setCell ⟨b,1,none⟩ c1).setCell ⟨b,2,none⟩ c2).setCell ⟨b,3,none⟩ c3):=by
 have h0:=h.put1 i hi 0 c0 (A2:=#[c0,x1,x2,x3]) rfl
 have h1:=h0.put1 i (zAl hi _) 1 c1 (A2:=#[c0,c1,x2,x3]) rfl
 rw [List.set_set] at h1
 have h2:=h1.put1 i (zAl hi _) 2 c2 (A2:=#[c0,c1,c2,x3]) rfl
 rw [List.set_set] at h2
 have h3:=h2.put1 i (zAl hi _) 3 c3 (A2:=#[c0,c1,c2,c3]) rfl
 rw [List.set_set] at h3
 exact h3
theorem Fr.below1 {σ:Type}{w wr:World}{R:Nat}{K : σ → World → Prop}{s : σ}{p q:Nat × Obj}{L:List (Nat × Obj)}{T:List (Nat × World)}(h:Fr w R K s (p :: q :: L) T wr):q.1 ≠ p.1:=Nat.ne_of_lt ((List.pairwise_cons.1 h.nd).1 _ vA)
def pmCells (x:Pm):List Value:=[.string (cbs x.name),.string (cbs x.ofn),.int .i64 x.dims,.int .i64 x.at_]
def pmW (x:Pm):Value:=.agg #[.string (cbs x.name),.string (cbs x.ofn),.int .i64 x.dims,.int .i64 x.at_]
theorem zKt:(Tryd.prog.info? 78).map (fun i => (i.zero,i.size,i.bytes)) = some (some (.agg #[.string ⟨#[]⟩,.string ⟨#[]⟩,.int .i64 0,.int .i64 0]),4,48):=by kernel_rfl
structure Gb (B R:Nat) (w w':World):Prop where
 os:w'.os = w.os
 tape:w'.tape = w.tape
 output:w'.output = w.output
 size:w.heap.size ≤ w'.heap.size
 block:∀ i,i < B → i ≠ R → w'.heap[i]? = w.heap[i]?
theorem Gb.of {B R:Nat}{w w':World}(h:Gr R w w')(hB:B ≤ w.heap.size):Gb B R w w':=⟨h.os,h.tape,h.output,h.size,fun i hi hn => h.block i (Nat.lt_of_lt_of_le hi hB) hn⟩
theorem Gb.trans {B R:Nat}{w w1 w2:World}(h:Gb B R w w1)(g:Gb B R w1 w2):Gb B R w w2:=
 ⟨g.os.trans h.os,g.tape.trans h.tape,g.output.trans h.output,Nat.le_trans h.size g.size,fun i hi hn => (g.block i hi hn).trans (h.block i hi hn)⟩
theorem Gb.after {R:Nat}{w w1 w2:World}(h:Gr R w w1)(g:Gb w.heap.size R w1 w2):Gr R w w2:=
 ⟨g.os.trans h.os,g.tape.trans h.tape,g.output.trans h.output,Nat.le_trans h.size g.size,fun i hi hn => (g.block i hi hn).trans (h.block i hi hn)⟩
theorem Gb.grown {B R:Nat}{w w':World}{v:Value}(h:w.grownBy w' v.ownBlock)(hv:∀ k,v.ownBlock = some k → B ≤ k)(hB:B ≤ w.heap.size):Gb B R w w':=
 ⟨h.os,h.tape,h.output,h.size,fun i hi _ => h.block i (Nat.lt_of_lt_of_le hi hB) (fun e => by have:=hv i e.symm; omega)⟩
theorem zBy {w:World}{base n sz:Nat}{T:TypeId}{v:Value}{xs:List Value}(h:w.ownsRow base T sz v n xs):∃ p c,v = .slice p n c:=by
 rcases h.2 with ⟨rfl,rfl⟩ | ⟨g,cap,cur,rfl,-⟩
 ·exact ⟨none,0,rfl⟩
 ·exact ⟨_,cap,rfl⟩
theorem zJV (x:Pm):∀ u ∈ pmCells x,u.oneCell' = true:=by
 intro u hu
 simp [pmCells] at hu
 rcases hu with rfl | rfl | rfl | rfl <;> rfl
theorem zFR (l:List Pm)(x:Pm):(l ++ [x]).flatMap pmCells = l.flatMap pmCells ++ pmCells x:=by simp
section
variable {wz w w' w3:World} {R B:Nat} {S v v':Value} {ts:List RT} {l:List Pm} {s s':Cs}
end
end Go.Proofs.YteadgahhchlgeaaDoor
namespace Go.Proofs.YteadgahhchlgeaaDoor
open Go.RowKit
open Px (RT tokAt)
open Pe
open Ps (Sm PX)
open Pg (BX Pm Rc Fc Gm)
def PsAt (w:World)(B:Nat)(q:Option Addr)(l:List Pm):Prop:=
 l = [] ∨ ∃ bl off,q = some ⟨bl,off,none⟩ ∧ bl < w.heap.size ∧ B ≤ bl ∧ ∀ (i:Nat) v,(l.flatMap pmCells)[i]? = some v → w.cell? ⟨bl,off + i,none⟩ = some v
theorem PsAt.nil {w:World}{B:Nat}{q:Option Addr}:PsAt w B q []:=.inl rfl
theorem PsAt.ag {w w':World}{B:Nat}{p:Option Addr}{l:List Pm}(h:PsAt w B p l)(g:Ag B w w'):PsAt w' B p l:=by
 rcases h with h0 | ⟨bl,off,hp,hb,hne,ha⟩
 ·exact .inl h0
 ·exact .inr ⟨bl,off,hp,Nat.lt_of_lt_of_le hb g.size,hne,fun i v hv => by rw [zB6 (g.block bl hne hb)]; exact ha i v hv⟩
theorem PsAt.lower {w:World}{B B2:Nat}{q:Option Addr}{l:List Pm}(h:PsAt w B q l)(hB:B2 ≤ B):PsAt w B2 q l:=by
 rcases h with h0 | ⟨bl,off,hp,hb,hne,ha⟩
 ·exact .inl h0
 ·exact .inr ⟨bl,off,hp,hb,Nat.le_trans hB hne,ha⟩
theorem PsAt.own {w:World}{B:Nat}{p:Option Addr}{n c:Nat}{l:List Pm}{T:TypeId}(h:w.ownsRow B T 4 (.slice p n c) l.length (l.flatMap pmCells)):n = l.length ∧ PsAt w B p l:=by
 rcases h.2 with ⟨hv,h0⟩ | ⟨g,cap,cur,hv,hb,hc,hn,hcap,hsize,htake⟩
 ·obtain rfl:=List.eq_nil_of_length_eq_zero h0
  injection hv with _ hn
  exact ⟨hn,.inl rfl⟩
 ·injection hv with hp hn' _
  refine ⟨hn',.inr ⟨g,0,hp,zA hc,hb,fun i v hv => ?_⟩⟩
  have:=World.ownsRow.cells ⟨h.1,.inr ⟨g,cap,cur,rfl,hb,hc,hn,hcap,hsize,htake⟩⟩ (g:=g) rfl i v hv
  have hadd:(⟨g,0,none⟩:Addr).add i = ⟨g,i,none⟩:=by unfold Addr.add; split <;> simp_all
  rw [hadd] at this
  rw [Nat.zero_add]
  exact this
theorem tri {w1:World}{B:Nat}{T:TypeId}{c0 c1 c2:Value}(h:w1.heap[B]? = some (.cells #[c0,c1,c2] T (0,0))) :
 (w1.cell? ⟨B,0,none⟩ = some c0 ∧ w1.cell? ⟨B,1,none⟩ = some c1 ∧ w1.cell? ⟨B,2,none⟩ = some c2) ∧
 w1.frozen? ⟨B,0,none⟩ = false ∧ w1.frozen? ⟨B,1,none⟩ = false ∧ w1.frozen? ⟨B,2,none⟩ = false:=by
 refine ⟨⟨?_,?_,?_⟩,?_,?_,?_⟩ <;> first | exact frozen_of_row _ _ _ _ _ h | (rw [cell_of_row _ _ _ _ _ _ h]; rfl)
theorem sept {w1:World}{B:Nat}{T:TypeId}{c0 c1 c2 c3 c4 c5 c6:Value}(h:w1.heap[B]? = some (.cells #[c0,c1,c2,c3,c4,c5,c6] T (0,0))) :
 (w1.cell? ⟨B,0,none⟩ = some c0 ∧ w1.cell? ⟨B,1,none⟩ = some c1 ∧ w1.cell? ⟨B,2,none⟩ = some c2 ∧ w1.cell? ⟨B,3,none⟩ = some c3 ∧ w1.cell? ⟨B,4,none⟩ = some c4 ∧ w1.cell? ⟨B,5,none⟩ = some c5 ∧ w1.cell? ⟨B,6,none⟩ = some c6) ∧
 w1.frozen? ⟨B,0,none⟩ = false ∧ w1.frozen? ⟨B,1,none⟩ = false ∧ w1.frozen? ⟨B,2,none⟩ = false ∧ w1.frozen? ⟨B,3,none⟩ = false ∧ w1.frozen? ⟨B,4,none⟩ = false ∧ w1.frozen? ⟨B,5,none⟩ = false ∧ w1.frozen? ⟨B,6,none⟩ = false:=by
 refine ⟨⟨?_,?_,?_,?_,?_,?_,?_⟩,?_,?_,?_,?_,?_,?_,?_⟩ <;> first | exact frozen_of_row _ _ _ _ _ h | (rw [cell_of_row _ _ _ _ _ _ h]; rfl)
def RIs (w:World)(B:Nat)(x:Rc)(vs:List Value):Prop:=∃ p c,vs = [.string (cbs x.name),.slice p x.fields.length c,.int .i64 x.at_] ∧ PsAt w B p x.fields
def FIs (w:World)(B:Nat)(x:Fc)(vs:List Value):Prop:=
 ∃ p c q d,vs = [.string (cbs x.name),.slice p x.params.length c,.bool x.has,.string (cbs x.rn),.int .i64 x.rd,.slice q x.body.length d,.int .i64 x.at_] ∧ PsAt w B p x.params ∧ SsAt w B q x.body
section
variable {w wr w':World} {R B b:Nat} {S v v':Value} {ts:List RT} {nm:List UInt8} {a:Int} {l l':List Pm} {s s':Cs}
end
end Go.Proofs.YteadgahhchlgeaaDoor
namespace Go.Proofs.YteadgahhchlgeaaDoor
open Go.RowKit
open Px (RT tokAt isT)
open Pe (inc dec Ex)
open Qe (Q)
open Ps (Sm kindOf nameOf)
theorem zGx {ts:List RT}{recS:Q → Qs.Out}{g:Nat}{s:Q}{x:List Sm × Q}(h:Qs.block ts recS g s = some x):∃ l s2,Qs.stLoop ts recS g [] (Qe.opens ts s [123]) = some (l,s2) ∧ x = (l,Qe.closes ts s2 [125]):=by
 unfold Qs.block at h
 split at h
 ·cases h
 ·rename_i l s2 hl
  exact ⟨l,s2,hl,(Option.some.inj h).symm⟩
theorem zLm {ts:List RT}{recS:Q → Qs.Out}{l:List Sm}{s:Q}{x:List Sm × Q}(h:Qs.stLoop ts recS 0 l s = some x):False:=by
 rw [Qs.stLoop] at h; cases h
theorem zJD {ts:List RT}{recS:Q → Qs.Out}{g:Nat}{l:List Sm}{s:Q}{x:List Sm × Q}(h:Qs.stLoop ts recS (g + 1) l s = some x)(hv:¬ (s.E = 0 ∧ Qe.is ts s false [125] = false)):x = (l,s):=by
 rw [Qs.stLoop,if_neg hv] at h
 exact (Option.some.inj h).symm
theorem zLn {ts:List RT}{recS:Q → Qs.Out}{g:Nat}{l:List Sm}{s:Q}{x:List Sm × Q}(h:Qs.stLoop ts recS (g + 1) l s = some x)(hE:s.E = 0)(hv:Qe.is ts s false [125] = false):∃ y s2,recS s = some (y,s2) ∧ Qs.stLoop ts recS g (l ++ [y]) s2 = some x:=by
 rw [Qs.stLoop,if_pos ⟨hE,hv⟩] at h
 split at h
 ·cases h
 ·rename_i y s2 hy
  exact ⟨y,s2,hy,h⟩
structure LqSt (w wr:World) (R:Nat) (S:Value) (ts:List RT) (v:Value) (l:List Sm) (s:Q):Prop where
 rq:Qr wr R S ts s
 sm:SmSt w wr R v l
theorem SmSt.done2 {w wr:World}{R:Nat}{v:Value}{l:List Sm}(h:SmSt w wr R v l):∃ p c,v = .slice p l.length c ∧ SsAt wr w.heap.size p l ∧ l.length ≤ c:=by
 obtain ⟨p,c,hv,hs⟩:=h.done
 refine ⟨p,c,hv,hs,?_⟩
 obtain ⟨vss,h1,h2,h3⟩:=h.own
 rcases h2.2 with ⟨hv2,h0⟩ | ⟨g,cap,cur,hv2,hb,hc,hn,hcap,hsize,htake⟩
 ·omega
 ·rw [hv] at hv2
  injection hv2 with e1 e2 e3
  omega
theorem LqSt.go {w wr w':World}{R:Nat}{S:Value}{ts:List RT}{v:Value}{l:List Sm}{s s2:Q}(h:LqSt w wr R S ts v l s)(hlt:R < w.heap.size)(hr:Qr w' R S ts s2)(hg:Gr R wr w'):LqSt w w' R S ts v l s2:=⟨hr,h.sm.go hlt hg⟩
theorem zIo (w:World)(R:Nat)(S:Value)(ts:List RT)(s:Q)(h:Qr w R S ts s)(recS:Q → Qs.Out)(hS:QStOk ts recS)(g:Nat)(hg:g ≤ 1000000000)(x:List Sm × Q)(hx:Qs.block ts recS g s = some x) :
 Calls Tryd.prog 40 #[.pointer (some ⟨R,0,none⟩)] w (QBlPost w R S ts x):=by
 obtain ⟨l3,s3,h3,rfl⟩:=zGx hx
 have hlt:=h.lt
 have HH:=vH h
 have HS:=vH hS
 have H3:=vH h3
 have HG9:=vH hg
 obtain ⟨i0,hi0,hz0,hz1,hz2⟩:=info_parts zQC
 clear h hS hx h3 hg
 go_in
 go_wp2_with fail
 refine (zAM _ R S ts s HH.out ⟨#[123]⟩ (zAu _ (by decide))).mono ?_
 rintro e w1 ⟨rfl,hr,hg1⟩
 have HA:Hid (LqSt w w1 R S ts (.slice none 0 0) [] (Qe.opens ts s [123])):=vH ⟨hr,SmSt.start hg1⟩
 clear hr hg1
 go_wp2_with fail
 go_loopg [3] g (fun n v wr => ∃ l s4,LqSt w wr R S ts v l s4 ∧ Qs.stLoop ts recS n l s4 = some (l3,s3) ∧ l.length + n ≤ 1000000001)
 case atStart => exact ⟨_,_,HA.out,H3.out,by have:=HG9.out; simp; omega⟩
 case round =>
  obtain ⟨l,s4,ha,h3,hbd⟩:=hrel
  have HA4:=vH ha
  have H34:=vH h3
  clear ha h3 HA
  cases gk with
  | zero => exact (zLm H34.out).elim
  | succ m =>
    have HBD:=vH (show l.length + 1 ≤ 1000000001 by omega)
    have HBM:=vH hbd
    clear hbd
    go_wp2_with fail
    refine (zAS _ R S ts s4 HA4.out.rq).mono ?_
    rintro e w5 ⟨rfl,hw5⟩
    subst hw5
    cases hE:(s4.E == 0) with
    | false =>
      have hx:=zJD H34.out (fun hh => by simp [hh.1] at hE)
      injection hx with hx1 hx2
      subst hx1 hx2
      try rw [hE]
      clear hE
      go_wp2_with fail
      refine (zAK _ R S ts s3 HA4.out.rq ⟨#[125]⟩ (zAu _ (by decide))).mono ?_
      rintro e w7 ⟨rfl,hr,hg⟩
      have HA7:=vH (HA4.out.go hlt hr hg)
      clear hr hg HA4
      go_wp2_with fail
      obtain ⟨p,c,hpv,hat,hcap⟩:=HA7.out.sm.done2
      exact bodyPost_ret (v:=u3) (by simp [results,Tryd.results40,go_sem]) rfl ⟨p,c - l3.length,by rw [hpv,Nat.add_sub_of_le hcap],hat,HA7.out.rq,HA7.out.sm.gr⟩
    | true =>
      have hE0:s4.E = 0:=by simpa using hE
      have HE0:=vH hE0
      try rw [hE]
      clear hE hE0
      go_wp2_with fail
      refine (zI _ R S ts s4 HA4.out.rq ⟨#[125]⟩ (by decide) false (by decide)).mono ?_
      rintro e w6 ⟨rfl,hb⟩
      have HA6:=vH (HA4.out.go hlt (HA4.out.rq.go hb) (Gr.of hb))
      clear hb HA4
      cases hv:Qe.is ts s4 false [125] with
      | true =>
        have hx:=zJD H34.out (fun hh => by rw [hv] at hh; cases hh.2)
        injection hx with hx1 hx2
        subst hx1 hx2
        try rw [hv]
        clear hv
        go_wp2_with fail
        refine (zAK _ R S ts s3 HA6.out.rq ⟨#[125]⟩ (zAu _ (by decide))).mono ?_
        rintro e w7 ⟨rfl,hr,hg⟩
        have HA7:=vH (HA6.out.go hlt hr hg)
        clear hr hg HA6
        go_wp2_with fail
        obtain ⟨p,c,hpv,hat,hcap⟩:=HA7.out.sm.done2
        exact bodyPost_ret (v:=u3) (by simp [results,Tryd.results40,go_sem]) rfl ⟨p,c - l3.length,by rw [hpv,Nat.add_sub_of_le hcap],hat,HA7.out.rq,HA7.out.sm.gr⟩
      | false =>
        obtain ⟨y,s5,he,h5⟩:=zLn H34.out HE0.out hv
        have HREC:=vH he
        have H5:=vH h5
        try rw [hv]
        clear hv he h5 H34
        go_wp2_with fail
        have hwr:∀ k,Value.ownBlock (u3) = some k → k < w6.heap.size:=fun k hk => (HA6.out.sm.own_lt k hk).2
        have HWR:=vH hwr
        clear hwr
        have hsB:w.heap.size ≤ w6.heap.size:=HA6.out.sm.gr.size
        refine (HS.out _ _ HREC.out _ R S HA6.out.rq).mono ?_
        rintro e w7 ⟨sk,sn,so,sd,sep,sel,sec,sbp,sbl,sbc,slp,sll,slc,sa,sr,rfl,hi,hr,hg⟩
        have HIQ:=vH hi
        have HX:=vH (HA6.out.go hlt hr hg)
        clear hi hr hg
        obtain ⟨vss,hv1,hown,hkid⟩:=HX.out.sm.own
        have HO:=vH hown
        have HK:=vH hkid
        have HV1:=vH hv1
        have hsX:w.heap.size ≤ w7.heap.size:=HX.out.sm.gr.size
        clear hown hkid hv1
        go_wp2_with (at_builtin; refine wpList_append_own_at _ rfl _ _ 61 rfl w.heap.size 65 i0 _ 9 136 Tryd.underlying61 hi0 hz0 hz1 hz2 rfl (by decide) _ l.length _ rfl (HO.out.alloc _) ⟨w7.heap.size,0,none⟩ 1 1 (smCells sk sn so sd (.slice sep sel sec) (.slice sbp sbl sbc) (.slice slp sll slc) sa sr) rfl rfl ?c1 ?c2 ?c3 ?c4 ?c5 ?_)
        case c1 => exact zC9 rfl rfl
        case c2 => exact zPK _ _ _ _ _ _ _ _ _ _ _ _ _ _ _
        case c3 => have:=HBD.out; unfold maxLen; omega
        case c4 => have:=HBD.out; omega
        case c5 => rw [zC]; omega
        intro v' w8 hown' hgrow _ hat
        have hpush:=SmSt.push hlt HX.out.sm HWR.out hsB HIQ.out HV1.out HK.out hown' hgrow hat
        have HA8:Hid (LqSt w w8 R S ts v' (l ++ [y]) s5):=vH ⟨Qr.fin HH.out HX.out.rq hpush.2,hpush.1⟩
        clear hown' hgrow hat HO HK HV1 HX HIQ HWR hsX hsB hpush
        go_wp2_with fail
        go_roundg m
        case measure => omega
        case rel => exact ⟨_,_,HA8.out,H5.out,by have:=HBM.out; simp; omega⟩
theorem zJE {ts:List RT}{rx:Qs.RX}(hX:QXOk ts rx):∀ f:Nat,f ≤ 1000000000 → QStOk ts (Qs.run ts rx f).1 ∧ QBlOk ts (Qs.run ts rx f).2
 | 0,_ => ⟨fun s x hx => by simp [Qs.run] at hx,fun s x hx => by simp [Qs.run] at hx⟩
 | f + 1,hf => by
   obtain ⟨h1,h2⟩:=zJE hX f (by omega)
   exact ⟨zJC hX h2,fun s x hx w R S h => zIo w R S ts s h _ h1 f (by omega) x hx⟩
end Go.Proofs.YteadgahhchlgeaaDoor
