/-
  What the project's own reader of statements does, step by st
-/
import Derived.Test.YtipmjjfknhblnaaGreatDoorK13
import Derived.Test.YtipmjjfknhblnaaGreatDoorK01
import Derived.Test.YtipmjjfknhblnaaGreatDoorK10
import Derived.Test.YtipmjjfknhblnaaGreatDoorK02
import Derived.Deep.RegionHeld3
set_option maxRecDepth 8000
set_option maxHeartbeats 8000000
namespace Go.Proofs.YtipmjjfknhblnaaGreatDoor
namespace Ps
open Go.RowKit
open Px (RT tokAt)
open Pe
inductive Sm where
 | mk (kind:Int) (name ofn:List UInt8) (dims:Int) (es:List Ex) (body els:List Sm) (at_ ref:Int)
def Sm.zero:Sm:=.mk 0 [] [] 0 [] [] [] 0 0
def Sm.put (a:Int):Sm → Sm
 | .mk kind name ofn dims es body els _ ref => .mk kind name ofn dims es body els a ref
def kindOf:Ex → Int
 | .mk kind _ _ _ _ _ _ _ _ _ _ => kind
def nameOf:Ex → List UInt8
 | .mk _ _ name _ _ _ _ _ _ _ _ => name
abbrev PX:=Int → Int → Ex × Int × Int × Int
abbrev Out:=Option (Sm × St)
abbrev OutB:=Option (List Sm × St)
def rd (P:PX)(s:St):Ex × St:=
 if s.c.E = 0 then
    if (P s.c.k s.o).2.2.1 = 0 then ((P s.c.k s.o).1,⟨⟨(P s.c.k s.o).2.1,s.c.E,s.c.F⟩,s.o⟩)
    else (Ex.zero,⟨⟨s.c.k,(P s.c.k s.o).2.2.1,(P s.c.k s.o).2.2.2⟩,s.o⟩)
 else (Ex.zero,s)
def rdOf (ts:List RT)(s:St):List UInt8 × Nat × St:=
 if s.c.E = 0 then
    if (ofAns ts s.c.k).2.2.2.1 = 0 then ((ofAns ts s.c.k).1,(ofAns ts s.c.k).2.1,⟨⟨(ofAns ts s.c.k).2.2.1,s.c.E,s.c.F⟩,s.o⟩)
    else ([],0,⟨⟨s.c.k,(ofAns ts s.c.k).2.2.2.1,(ofAns ts s.c.k).2.2.2.2⟩,s.o⟩)
 else ([],0,s)
def sgn (ts:List RT)(s:St)(t:List UInt8):St:=⟨(sign ts s.c t).2,s.o⟩
def nxt (s:St):St:=⟨next s.c,s.o⟩
def decl (ts:List RT)(s:St):List UInt8 × List UInt8 × Nat × St:=
 ((name ts (next s.c)).1,rdOf ts (sgn ts ⟨(name ts (next s.c)).2,s.o⟩ [58]))
def variable_ (ts:List RT)(s:St):Sm × St:=
 let d:=decl ts s
 (.mk 1 d.1 d.2.1 d.2.2.1 [] [] [] 0 0,sgn ts d.2.2.2 [59])
def definition (ts:List RT)(P:PX)(s:St):Sm × St:=
 let d:=decl ts s
 let e:=rd P (sgn ts d.2.2.2 [61])
 (.mk 2 d.1 d.2.1 d.2.2.1 [e.1] [] [] 0 0,sgn ts e.2 [59])
def choice (ts:List RT)(P:PX)(recB:St → OutB)(s:St):Out:=
 let e:=rd P (nxt s)
 match recB e.2 with
 | none => none
 | some (b,s2) =>
   if sees ts s2.c 3 [101,108,115,101] then
    match recB (nxt s2) with
    | none => none
    | some (b2,s3) => some (.mk 5 [] [] 0 [e.1] b b2 0 0,s3)
   else some (.mk 5 [] [] 0 [e.1] b [] 0 0,s2)
def loop (P:PX)(recB:St → OutB)(s:St):Out:=
 let e:=rd P (nxt s)
 match recB e.2 with
 | none => none
 | some (b,s2) => some (.mk 6 [] [] 0 [e.1] b [] 0 0,s2)
def result (ts:List RT)(P:PX)(s:St):Sm × St:=
 if sees ts (next s.c) 4 [59] then (.mk 7 [] [] 0 [] [] [] 0 0,sgn ts (nxt s) [59])
 else (.mk 7 [] [] 0 [(rd P (nxt s)).1] [] [] 0 0,sgn ts (rd P (nxt s)).2 [59])
def output (ts:List RT)(P:PX)(s:St):Sm × St:=
 (.mk 8 [] [] 0 [(rd P (nxt s)).1] [] [] 0 0,sgn ts (rd P (nxt s)).2 [59])
def refuse (ts:List RT)(s:St):Sm × St:=(Sm.zero,⟨fail ts s.c 2,s.o⟩)
def call (ts:List RT)(e:Ex)(s:St):Sm × St:=
 if kindOf e = 7 then (.mk 9 [] [] 0 [e] [] [] 0 0,nxt s) else refuse ts s
def assigned (ts:List RT)(P:PX)(s:St):Ex × St:=((rd P (nxt s)).1,sgn ts (rd P (nxt s)).2 [59])
def assignment (ts:List RT)(P:PX)(e:Ex)(s:St):Sm × St:=
 if kindOf e = 4 then (.mk 3 (nameOf e) [] 0 [(assigned ts P s).1] [] [] 0 0,(assigned ts P s).2)
 else if kindOf e = 5 ∨ kindOf e = 6 then (.mk 4 [] [] 0 [e,(assigned ts P s).1] [] [] 0 0,(assigned ts P s).2)
 else refuse ts s
def fromExpr (ts:List RT)(P:PX)(s:St):Sm × St:=
 let e:=rd P s
 if (peek ts e.2.c).kind = 4 then
    if (peek ts e.2.c).text = [59] then call ts e.1 e.2
    else if (peek ts e.2.c).text = [61] then assignment ts P e.1 e.2
    else refuse ts e.2
 else refuse ts e.2
def step (ts:List RT)(P:PX)(recB:St → OutB)(s:St):Out:=
 if (peek ts s.c).kind = 3 then
    if (peek ts s.c).text = [118,97,114] then some (variable_ ts s)
    else if (peek ts s.c).text = [108,101,116] then some (definition ts P s)
    else if (peek ts s.c).text = [105,102] then choice ts P recB s
    else if (peek ts s.c).text = [119,104,105,108,101] then loop P recB s
    else if (peek ts s.c).text = [114,101,116,117,114,110] then some (result ts P s)
    else if (peek ts s.c).text = [112,114,105,110,116] then some (output ts P s)
    else some (fromExpr ts P s)
 else some (fromExpr ts P s)
def statement (ts:List RT)(P:PX)(recB:St → OutB)(s:St):Out:=
 match step ts P recB s with
 | none => none
 | some (x,s2) => some (x.put (peek ts s.c).at_,s2)
def stLoop (ts:List RT)(recS:St → Out):Nat → List Sm → St → OutB
 | 0,_,_ => none
 | g + 1,l,s =>
   if sees ts s.c 4 [125] then some (l,s)
   else if (peek ts s.c).kind = 0 then some (l,s)
   else match recS s with
     | none => none
     | some (x,s2) => stLoop ts recS g (l ++ [x]) s2
def block (ts:List RT)(recS:St → Out)(g:Nat)(s:St):OutB:=
 match stLoop ts recS g [] (enter ts s [123]).2 with
 | none => none
 | some (l,s2) => some (l,leave ts s2 [125])
def run (ts:List RT)(P:PX):Nat → (St → Out) × (St → OutB)
 | 0 => (fun _ => none,fun _ => none)
 | f + 1 => (statement ts P (run ts P f).2,block ts (run ts P f).1 f)
def stEnd (x:Sm)(c:Cs):Sm × Int × Int × Int:=if c.E = 0 then (x,c.k,0,0) else (Sm.zero,0,c.E,c.F)
def blEnd (l:List Sm)(c:Cs):List Sm × Int × Int × Int:=if c.E = 0 then (l,c.k,0,0) else ([],0,c.E,c.F)
def parse (ts:List RT)(P:PX)(f:Nat)(k o:Int):Option (Sm × Int × Int × Int):=
 match (run ts P f).1 ⟨⟨k,0,0⟩,clamp o⟩ with
 | none => none
 | some (x,s) => some (stEnd x s.c)
def parseB (ts:List RT)(P:PX)(f:Nat)(k o:Int):Option (List Sm × Int × Int × Int):=
 match (run ts P f).2 ⟨⟨k,0,0⟩,clamp o⟩ with
 | none => none
 | some (l,s) => some (blEnd l s.c)
end Ps
open Go.RowKit
open Px (RT tokAt)
open Pe
open Ps (Sm)
structure Ag (B:Nat) (w w':World):Prop where
 size:w.heap.size ≤ w'.heap.size
 block:∀ bl,B ≤ bl → bl < w.heap.size → w'.heap[bl]? = w.heap[bl]?
theorem Ag.refl (B:Nat)(w:World):Ag B w w:=⟨Nat.le_refl _,fun _ _ _ => rfl⟩
theorem Ag.trans {B:Nat}{w w1 w2:World}(h:Ag B w w1)(g:Ag B w1 w2):Ag B w w2:=
 ⟨Nat.le_trans h.size g.size,fun bl h1 h2 => (g.block bl h1 (Nat.lt_of_lt_of_le h2 h.size)).trans (h.block bl h1 h2)⟩
theorem Ag.gr {B R:Nat}{w w':World}(hg:Gr R w w')(hR:R < B):Ag B w w':=⟨hg.size,fun bl h1 h2 => hg.block bl h2 (by omega)⟩
theorem Ag.below {B:Nat}{w w':World}(hb:Below w.heap.size w w'):Ag B w w':=⟨hb.size,fun bl _ h2 => hb.block bl h2⟩
theorem Ag.set {B:Nat}{w w1:World}(h:Ag B w w1){p:Addr}(hp:p.block < B ∨ w.heap.size ≤ p.block)(u:Value):Ag B w (w1.setCell p u):=
 ⟨by rw [zI]; exact h.size,fun bl h1 h2 => (Below.heap_setCell w1 p u bl (by omega)).trans (h.block bl h1 h2)⟩
theorem Is.ag {w w':World}{B:Nat}{e:Ex}{vs:List Value}(h:Is w B e vs)(g:Ag B w w'):Is w' B e vs:=Is.keep g.size g.block e h
theorem KidsAt.ag {w w':World}{B:Nat}{p:Option Addr}{l:List Ex}(h:KidsAt w B p l)(g:Ag B w w'):KidsAt w' B p l:=by
 rcases h with h0 | ⟨bl,off,hp,hb,hne,ha⟩
 ·exact .inl h0
 ·exact .inr ⟨bl,off,hp,Nat.lt_of_lt_of_le hb g.size,hne,At.keep g.size g.block l off hb hne ha⟩
def smCells (kind:Int)(name ofn:List UInt8)(dims:Int)(ev bv lv:Value)(at_ ref:Int):List Value:=
 [.int .i64 kind,.string (cbs name),.string (cbs ofn),.int .i64 dims,ev,bv,lv,.int .i64 at_,.int .i64 ref]
mutual
def SIs (w:World)(B:Nat):Sm → List Value → Prop
 | .mk kind name ofn dims es body els at_ ref,vs => ∃ p c q d r f,vs = smCells kind name ofn dims (.slice p es.length c) (.slice q body.length d) (.slice r els.length f) at_ ref ∧ KidsAt w B p es ∧
  (body = [] ∨ ∃ bl off,q = some ⟨bl,off,none⟩ ∧ bl < w.heap.size ∧ B ≤ bl ∧ SAt w B bl off body) ∧
  (els = [] ∨ ∃ bl off,r = some ⟨bl,off,none⟩ ∧ bl < w.heap.size ∧ B ≤ bl ∧ SAt w B bl off els)
def SAt (w:World)(B bl:Nat):Nat → List Sm → Prop
 | _,[] => True
 | off,x :: xs => (∃ vs,SIs w B x vs ∧ ∀ (i:Nat) (v:Value),vs[i]? = some v → w.cell? ⟨bl,off + i,none⟩ = some v) ∧ SAt w B bl (off + 9) xs
end
def SsAt (w:World)(B:Nat)(q:Option Addr)(l:List Sm):Prop:=l = [] ∨ ∃ bl off,q = some ⟨bl,off,none⟩ ∧ bl < w.heap.size ∧ B ≤ bl ∧ SAt w B bl off l
mutual
theorem SIs.ag {w w':World}{B:Nat}(g:Ag B w w'):∀ (x:Sm){vs:List Value},SIs w B x vs → SIs w' B x vs
 | .mk kind name ofn dims es body els at_ ref,vs,h => by
   rw [SIs] at h ⊢
   obtain ⟨p,c,q,d,r,f,hv,hk,hb,he⟩:=h
   refine ⟨p,c,q,d,r,f,hv,hk.ag g,?_,?_⟩
   ·rcases hb with h0 | ⟨bl,off,hp,hl,hne,ha⟩
    ·exact .inl h0
    ·exact .inr ⟨bl,off,hp,Nat.lt_of_lt_of_le hl g.size,hne,SAt.ag g body off hl hne ha⟩
   ·rcases he with h0 | ⟨bl,off,hp,hl,hne,ha⟩
    ·exact .inl h0
    ·exact .inr ⟨bl,off,hp,Nat.lt_of_lt_of_le hl g.size,hne,SAt.ag g els off hl hne ha⟩
theorem SAt.ag {w w':World}{B:Nat}(g:Ag B w w'):∀ (xs:List Sm){bl:Nat}(off:Nat),bl < w.heap.size → B ≤ bl → SAt w B bl off xs → SAt w' B bl off xs
 | [],_,_,_,_,_ => by rw [SAt]; trivial
 | x :: xs,bl,off,hb,hne,h => by
   rw [SAt] at h ⊢
   obtain ⟨⟨vs,hi,hc⟩,hr⟩:=h
   refine ⟨⟨vs,SIs.ag g x hi,fun i v hv => ?_⟩,SAt.ag g xs (off + 9) hb hne hr⟩
   rw [zBB (g.block bl hne hb)]
   exact hc i v hv
end
mutual
theorem SIs.lower {w:World}{B B2:Nat}(hB:B2 ≤ B):∀ (x:Sm){vs:List Value},SIs w B x vs → SIs w B2 x vs
 | .mk kind name ofn dims es body els at_ ref,vs,h => by
   rw [SIs] at h ⊢
   obtain ⟨p,c,q,d,r,f,hv,hk,hb,he⟩:=h
   refine ⟨p,c,q,d,r,f,hv,hk.lower hB,?_,?_⟩
   ·rcases hb with h0 | ⟨bl,off,hp,hl,hne,ha⟩
    ·exact .inl h0
    ·exact .inr ⟨bl,off,hp,hl,Nat.le_trans hB hne,SAt.lower hB body off ha⟩
   ·rcases he with h0 | ⟨bl,off,hp,hl,hne,ha⟩
    ·exact .inl h0
    ·exact .inr ⟨bl,off,hp,hl,Nat.le_trans hB hne,SAt.lower hB els off ha⟩
theorem SAt.lower {w:World}{B B2:Nat}(hB:B2 ≤ B):∀ (xs:List Sm){bl:Nat}(off:Nat),SAt w B bl off xs → SAt w B2 bl off xs
 | [],_,_,_ => by rw [SAt]; trivial
 | x :: xs,bl,off,h => by
   rw [SAt] at h ⊢
   obtain ⟨⟨vs,hi,hc⟩,hr⟩:=h
   exact ⟨⟨vs,SIs.lower hB x hi,hc⟩,SAt.lower hB xs (off + 9) hr⟩
end
theorem SsAt.ag {w w':World}{B:Nat}{p:Option Addr}{l:List Sm}(h:SsAt w B p l)(g:Ag B w w'):SsAt w' B p l:=by
 rcases h with h0 | ⟨bl,off,hp,hb,hne,ha⟩
 ·exact .inl h0
 ·exact .inr ⟨bl,off,hp,Nat.lt_of_lt_of_le hb g.size,hne,SAt.ag g l off hb hne ha⟩
theorem SsAt.lower {w:World}{B B2:Nat}{q:Option Addr}{l:List Sm}(h:SsAt w B q l)(hB:B2 ≤ B):SsAt w B2 q l:=by
 rcases h with h0 | ⟨bl,off,hp,hb,hne,ha⟩
 ·exact .inl h0
 ·exact .inr ⟨bl,off,hp,hb,Nat.le_trans hB hne,SAt.lower hB l off ha⟩
theorem SIs.mk {w:World}{B:Nat}{p q r:Option Addr}{c d f:Nat}{es:List Ex}{body els:List Sm}(he:KidsAt w B p es)(hb:SsAt w B q body)(hl:SsAt w B r els)(kind:Int)(name ofn:List UInt8)(dims at_ ref:Int) :
 SIs w B (.mk kind name ofn dims es body els at_ ref) (smCells kind name ofn dims (.slice p es.length c) (.slice q body.length d) (.slice r els.length f) at_ ref):=by
 rw [SIs]
 exact ⟨p,c,q,d,r,f,rfl,he,hb,hl⟩
theorem SIs.out {w:World}{B:Nat}{x:Sm}{vs:List Value}(h:SIs w B x vs):∃ kind name ofn dims ep el ec bp bl bc lp ll lc at_ ref,vs = smCells kind name ofn dims (.slice ep el ec) (.slice bp bl bc) (.slice lp ll lc) at_ ref:=by
 cases x
 rw [SIs] at h
 obtain ⟨p,c,q,d,r,f,hv,-⟩:=h
 exact ⟨_,_,_,_,_,_,_,_,_,_,_,_,_,_,_,hv⟩
theorem SIs.len {w:World}{B:Nat}{x:Sm}{vs:List Value}(h:SIs w B x vs):vs.length = 9:=by
 obtain ⟨_,_,_,_,_,_,_,_,_,_,_,_,_,_,_,rfl⟩:=h.out
 rfl
theorem SIs.put {w:World}{B:Nat}{x:Sm}{kind:Int}{name ofn:List UInt8}{dims:Int}{ev bv lv:Value}{at_ ref:Int}(h:SIs w B x (smCells kind name ofn dims ev bv lv at_ ref))(a:Int) :
 SIs w B (x.put a) (smCells kind name ofn dims ev bv lv a ref):=by
 cases x
 rw [SIs] at h
 rw [Sm.put,SIs]
 obtain ⟨p,c,q,d,r,f,hv,h⟩:=h
 simp only [smCells,List.cons.injEq,Value.int.injEq,Value.string.injEq,true_and,and_true] at hv
 obtain ⟨rfl,hn,ho,rfl,rfl,rfl,rfl,rfl,rfl⟩:=hv
 exact ⟨p,c,q,d,r,f,by simp only [smCells,hn,ho],h⟩
theorem KidsAt.nil {w:World}{B:Nat}{p:Option Addr}:KidsAt w B p []:=.inl rfl
theorem SsAt.nil {w:World}{B:Nat}{p:Option Addr}:SsAt w B p []:=.inl rfl
theorem KidsAt.one {w:World}{B bl:Nat}{T:TypeId}{e:Ex}{vs:List Value}{A:Array Value}(hb:w.heap[bl]? = some (.cells A T (0,0)))(hne:B ≤ bl)(hi:Is w B e vs)(hA:A = ⟨vs⟩):KidsAt w B (some ⟨bl,0,none⟩) [e]:=
 .inr ⟨bl,0,rfl,zA hb,hne,At.one hb hi hA⟩
theorem nen {w1:World}{B:Nat}{T:TypeId}{c0 c1 c2 c3 c4 c5 c6 c7 c8:Value}(h:w1.heap[B]? = some (.cells #[c0,c1,c2,c3,c4,c5,c6,c7,c8] T (0,0))) :
 (w1.cell? ⟨B,0,none⟩ = some c0 ∧ w1.cell? ⟨B,1,none⟩ = some c1 ∧ w1.cell? ⟨B,2,none⟩ = some c2 ∧ w1.cell? ⟨B,3,none⟩ = some c3 ∧ w1.cell? ⟨B,4,none⟩ = some c4 ∧ w1.cell? ⟨B,5,none⟩ = some c5 ∧ w1.cell? ⟨B,6,none⟩ = some c6 ∧ w1.cell? ⟨B,7,none⟩ = some c7 ∧ w1.cell? ⟨B,8,none⟩ = some c8) ∧
 w1.frozen? ⟨B,0,none⟩ = false ∧ w1.frozen? ⟨B,1,none⟩ = false ∧ w1.frozen? ⟨B,2,none⟩ = false ∧ w1.frozen? ⟨B,3,none⟩ = false ∧ w1.frozen? ⟨B,4,none⟩ = false ∧ w1.frozen? ⟨B,5,none⟩ = false ∧ w1.frozen? ⟨B,6,none⟩ = false ∧ w1.frozen? ⟨B,7,none⟩ = false ∧ w1.frozen? ⟨B,8,none⟩ = false:=by
 refine ⟨⟨?_,?_,?_,?_,?_,?_,?_,?_,?_⟩,?_,?_,?_,?_,?_,?_,?_,?_,?_⟩ <;> first | exact frozen_of_row _ _ _ _ _ h | (rw [cell_of_row _ _ _ _ _ _ h]; rfl)
structure Fr {σ:Type} (w:World) (R:Nat) (K : σ → World → Prop) (s : σ) (L:List (Nat × Obj)) (T:List (Nat × World)) (wr:World):Prop where
 rd:K s wr
 gr:Gr R w wr
 lt:R < w.heap.size
 held:∀ s wA wB,Nw R w wA wB → K s wA → K s wB
 keep:∀ p ∈ L,wr.heap[p.1]? = some p.2 ∧ w.heap.size ≤ p.1
 nd:L.Pairwise fun p q => q.1 < p.1
 ag:∀ q ∈ T,Ag q.1 q.2 wr ∧ w.heap.size ≤ q.1
 sep:∀ p ∈ L,∀ q ∈ T,p.1 < q.1 ∨ q.2.heap.size ≤ p.1
section
variable {σ:Type} {w wr:World} {R:Nat} {K : σ → World → Prop} {s s2 : σ} {L:List (Nat × Obj)} {T:List (Nat × World)}
theorem Fr.start (K : σ → World → Prop)(h:K s w)(lt:R < w.heap.size)(held:∀ s wA wB,Nw R w wA wB → K s wA → K s wB):Fr w R K s [] [] w:=
 ⟨h,Gr.refl _ _,lt,held,fun _ h => absurd h (by simp),.nil,fun _ h => absurd h (by simp),fun _ h => absurd h (by simp)⟩
theorem Fr.go {w':World}(h:Fr w R K s L T wr)(hb:Below wr.heap.size wr w'):Fr w R K s L T w':=
 ⟨h.held s wr w' ⟨hb.mono h.gr.size,h.gr.below hb⟩ h.rd,h.gr.below hb,h.lt,h.held,fun p hp => ⟨(hb.block _ (zA (h.keep p hp).1)).trans (h.keep p hp).1,(h.keep p hp).2⟩,h.nd,
  fun q hq => ⟨(h.ag q hq).1.trans (Ag.below hb),(h.ag q hq).2⟩,h.sep⟩
theorem Fr.step {w':World}(h:Fr w R K s L T wr)(hr:K s2 w')(hg:Gr R wr w'):Fr w R K s2 L T w':=
 ⟨hr,h.gr.trans hg,h.lt,h.held,fun p hp => ⟨hg.box (h.keep p hp).1 (by have:=(h.keep p hp).2; have:=h.lt; omega),(h.keep p hp).2⟩,h.nd,
  fun q hq => ⟨(h.ag q hq).1.trans (Ag.gr hg (by have:=(h.ag q hq).2; have:=h.lt; omega)),(h.ag q hq).2⟩,h.sep⟩
theorem Fr.tree {w':World}{B:Nat}(h:Fr w R K s L T w')(hB:w.heap.size ≤ B)(hL:∀ p ∈ L,p.1 < B):Fr w R K s L ((B,w') :: T) w':=
 ⟨h.rd,h.gr,h.lt,h.held,h.keep,h.nd,fun q hq => (List.mem_cons.1 hq).elim (fun e => by subst e; exact ⟨Ag.refl _ _,hB⟩) (h.ag q),
  fun p hp q hq => (List.mem_cons.1 hq).elim (fun e => by subst e; exact .inl (hL p hp)) (h.sep p hp q)⟩
theorem Fr.call {w':World}(h:Fr w R K s L T wr)(hr:K s2 w')(hg:Gr R wr w'):Fr w R K s2 L ((wr.heap.size,w') :: T) w':=
 (h.step hr hg).tree h.gr.size fun p hp => zA (h.keep p hp).1
theorem Fr.alloc (h:Fr w R K s L T wr)(o:Obj):Fr w R K s ((wr.heap.size,o) :: L) T (wr.alloc o):=by
 have hb:Below wr.heap.size wr (wr.alloc o):=(Below.refl _ _).alloc (Nat.le_refl _) _
 have g:=h.go hb
 refine ⟨g.rd,g.gr,g.lt,g.held,fun p hp => ?_,List.pairwise_cons.2 ⟨fun p hp => zA (h.keep p hp).1,h.nd⟩,g.ag,fun p hp q hq => ?_⟩
 ·rcases List.mem_cons.1 hp with rfl | hp
  ·exact ⟨heap_alloc_new wr o,h.gr.size⟩
  ·exact g.keep p hp
 ·rcases List.mem_cons.1 hp with rfl | hp
  ·exact .inr (h.ag q hq).1.size
  ·exact h.sep p hp q hq
theorem Fr.set {b:Nat}{o:Obj}(h:Fr w R K s L T wr)(i:Nat)(hi:L[i]? = some (b,o)){p:Addr}(hp:p.block = b)(u:Value)(o2:Obj)(ho:(wr.setCell p u).heap[b]? = some o2):Fr w R K s (L.set i (b,o2)) T (wr.setCell p u):=by
 have hm:=List.mem_of_getElem? hi
 have hb:=(h.keep _ hm).2
 have hn:=(Nw.start h.gr).set (p:=p) (by rw [hp]; exact hb) u
 have hil:i < L.length:=(List.getElem?_eq_some_iff.1 hi).1
 have hne:∀ (j:Nat) (q:Nat × Obj),L[j]? = some q → j ≠ i → q.1 ≠ b:=by
  intro j q hq hji
  have hj:=(List.getElem?_eq_some_iff.1 hq)
  obtain ⟨hj1,hj2⟩:=hj
  obtain ⟨hi1,hi2⟩:=List.getElem?_eq_some_iff.1 hi
  have hpw:=List.pairwise_iff_getElem.1 h.nd
  rcases Nat.lt_or_gt_of_ne hji with hlt | hgt
  ·have:=hpw j i hj1 hi1 hlt
   rw [hj2,hi2] at this
   exact Nat.ne_of_gt this
  ·have:=hpw i j hi1 hj1 hgt
   rw [hj2,hi2] at this
   exact Nat.ne_of_lt this
 have hset:∀ q,q ∈ L.set i (b,o2) → q = (b,o2) ∨ (q ∈ L ∧ q.1 ≠ b):=by
  intro q hq
  obtain ⟨j,hj⟩:=List.mem_iff_getElem?.1 hq
  by_cases hji:j = i
  ·subst hji
   rw [List.getElem?_set_self hil] at hj
   exact .inl (Option.some.inj hj).symm
  ·rw [List.getElem?_set_ne (Ne.symm hji)] at hj
   exact .inr ⟨List.mem_of_getElem? hj,hne j q hj hji⟩
 refine ⟨h.held s wr _ hn h.rd,hn.gr,h.lt,h.held,fun q hq => ?_,?_,fun q hq => ⟨(h.ag q hq).1.set (by rw [hp]; exact h.sep _ hm q hq) u,(h.ag q hq).2⟩,fun q hq t ht => ?_⟩
 ·rcases hset q hq with rfl | ⟨hq,hqb⟩
  ·exact ⟨ho,hb⟩
  ·exact ⟨(Below.heap_setCell wr p u q.1 (by rw [hp]; exact hqb)).trans (h.keep q hq).1,(h.keep q hq).2⟩
 ·have hfst:(L.set i (b,o2)).map (·.1) = L.map (·.1):=by
   apply List.ext_getElem?
   intro j
   rw [List.getElem?_map,List.getElem?_map]
   by_cases hji:j = i
   ·subst hji
    rw [List.getElem?_set_self hil,hi]
    rfl
   ·rw [List.getElem?_set_ne (Ne.symm hji)]
  have h2:(L.map (·.1)).Pairwise fun p q => q < p:=List.pairwise_map.2 h.nd
  rw [← hfst] at h2
  exact List.pairwise_map.1 h2
 ·rcases hset q hq with rfl | ⟨hq,-⟩
  ·exact h.sep _ hm t ht
  ·exact h.sep q hq t ht
theorem Fr.done (h:Fr w R K s L T wr):K s wr ∧ Gr R w wr:=⟨h.rd,h.gr⟩
end
end Go.Proofs.YtipmjjfknhblnaaGreatDoor
namespace Go.Proofs.YtipmjjfknhblnaaGreatDoor
open Go.RowKit
open Px (RT tokAt)
open Pe
open Ps (Sm PX)
def smapWord:Array MapEntry:=#[⟨.string ⟨#[118,97,114]⟩,.func (.func 122) #[] #[],0⟩,⟨.string ⟨#[108,101,116]⟩,.func (.func 123) #[] #[],1⟩,⟨.string ⟨#[105,102]⟩,.func (.func 124) #[] #[],2⟩,⟨.string ⟨#[119,104,105,108,101]⟩,.func (.func 125) #[] #[],3⟩,⟨.string ⟨#[114,101,116,117,114,110]⟩,.func (.func 126) #[] #[],4⟩,⟨.string ⟨#[112,114,105,110,116]⟩,.func (.func 127) #[] #[],5⟩]
def smapSign (R:Nat):Array MapEntry:=#[⟨.string ⟨#[59]⟩,.func (.func 128) #[.pointer (some ⟨R,0,none⟩)] #[],0⟩,⟨.string ⟨#[61]⟩,.func (.func 129) #[.pointer (some ⟨R,0,none⟩)] #[],1⟩]
structure Rq (w:World) (R M1 M2:Nat) (S:Value) (ts:List RT) (s:St):Prop where
 cu:Cu w R 137 S [.int .i64 s.o,.map (some M1),.map (some M2)] ts s.c
 m1:w.heap[M1]? = some (.map smapWord 6)
 m2:w.heap[M2]? = some (.map (smapSign R) 2)
 n1:M1 ≠ R
 n2:M2 ≠ R
 ops:OpsIn w
 n0 : 6 ≠ R
section
variable {w w':World} {R M1 M2:Nat} {S:Value} {ts:List RT} {s s':St}
theorem Rq.gr (h:Rq w R M1 M2 S ts s)(hg:Gr R w w')(hc:Cu w' R 137 S [.int .i64 s'.o,.map (some M1),.map (some M2)] ts s'.c):Rq w' R M1 M2 S ts s':=
 ⟨hc,hg.box h.m1 h.n1,hg.box h.m2 h.n2,h.n1,h.n2,by obtain ⟨t,fr,ho⟩:=h.ops; exact ⟨t,fr,hg.box ho h.n0⟩,h.n0⟩
theorem Rq.go (h:Rq w R M1 M2 S ts s)(hb:Below w.heap.size w w'):Rq w' R M1 M2 S ts s:=h.gr (Gr.of hb) (h.cu.go hb)
theorem Rq.lt (h:Rq w R M1 M2 S ts s):R < w.heap.size:=h.cu.lt
theorem Rq.held (h0:Rq w R M1 M2 S ts s'):∀ (s:St)(wA wB:World),Nw R w wA wB → Rq wA R M1 M2 S ts s → Rq wB R M1 M2 S ts s:=fun _ _ _ n hA =>
 h0.gr n.gr (h0.cu.fin hA.cu n)
theorem Rq.cur (h:Rq w R M1 M2 S ts s){c':Cs}{o':Int}(hg:Gr R w w')(hc:Cu w' R 137 S [.int .i64 o',.map (some M1),.map (some M2)] ts c'):Rq w' R M1 M2 S ts ⟨c',o'⟩:=
 h.gr (s':=⟨c',o'⟩) hg hc
theorem Rq.nested (h:Rq w R M1 M2 S ts s):Cu w R 137 S (.int .i64 s.o :: [.map (some M1),.map (some M2)]) ts s.c:=h.cu
end
def PPost (w:World)(x:Ex × Int × Int × Int)(e:Ending)(w':World):Prop:=
 ∃ (kind num:Int) (name ofn:List UInt8) (dims:Int) (p:Option Addr) (n c:Nat) (at_ b r d ref:Int),
   e = .returned (.tuple #[.agg #[.int .i64 kind,.int .i64 num,.string (cbs name),.string (cbs ofn),.int .i64 dims,.slice p n c,.int .i64 at_,.int .i64 b,.int .i64 r,.int .i64 d,.int .i64 ref],.int .i64 x.2.1,.agg #[.int .i64 x.2.2.1,.int .i64 x.2.2.2]]) ∧
   Is w' w.heap.size x.1 (exCells kind num name ofn dims (.slice p n c) at_ b r d ref) ∧ Below w.heap.size w w'
def POk (ts:List RT)(P:PX):Prop:=∀ (w:World)(R0:Nat)(S:Value)(k o:Int),Toks w R0 S ts → OpsIn w →
 Calls Tryz.prog 144 #[S,.int .i64 k,.int .i64 o] w (PPost w (P k o))
theorem zAY (w:World)(R M1 M2 N:Nat)(S:Value)(ts:List RT)(s:St)(h:Rq w R M1 M2 S ts s)(hN:w.heap[N]? = some (.cells #[.pointer (some ⟨R,0,none⟩)] 129 (0,0)))(P:PX)(hP:POk ts P)(k:Int) :
 Calls Tryz.prog 143 #[S,.int .i64 k,.pointer (some ⟨N,0,none⟩)] w (PPost w (P k s.o)):=by
 obtain ⟨p,n,c,rfl⟩:=h.cu.toks.slice
 obtain ⟨w0,hw0⟩:∃ w0,w0 = (w.alloc (.cells vE 111)).alloc (.cells vF 29):=⟨_,rfl⟩
 have hb0:Below w.heap.size w w0:=by rw [hw0]; exact ((Below.refl _ _).alloc (Nat.le_refl _) _).alloc (by rw [zB]; omega) _
 have hk1:w0.heap[w.heap.size]? = some (.cells vE 111 (0,0)):=by rw [hw0]; exact zE _ (heap_alloc_new w _)
 have hk2:w0.heap[w.heap.size + 1]? = some (.cells vF 29 (0,0)):=by rw [hw0]; have:=heap_alloc_new (w.alloc (.cells vE 111)) (.cells vF 29); rw [zB] at this; exact this
 have hs0:w0.heap.size = w.heap.size + 2:=by rw [hw0]; simp only [zB]
 have hc:w0.cell? ⟨N,0,none⟩ = some (.pointer (some ⟨R,0,none⟩)):=by rw [cell_of_row _ _ _ _ _ _ ((hb0.block _ (zA hN)).trans hN)]; rfl
 rw [hw0] at hc
 have HR:=vH (h.go hb0)
 have HB0:=vH hb0
 have HK1:=vH hk1
 have HK2:=vH hk2
 have HS0:=vH hs0
 have HP:=vH hP
 clear h hb0 hk1 hk2 hs0 hN hP
 go_in
 go_wp2_with fail
 rw [← hw0]
 clear hc hw0
 refine (zIP _ R _ _ s.o _ ts s.c HR.out.nested).mono ?_
 rintro e w1 ⟨rfl,rfl⟩
 go_wp2_with fail
 refine (HP.out w0 R (.slice p n c) k s.o HR.out.cu.toks HR.out.ops).mono ?_
 rintro e w3 ⟨qk,qn,qs,qo,qd,qp,ql,qc,qa,qb,qr,qe,qf,rfl,hi,hb⟩
 have HB3:=vH hb
 have HI3:=vH hi
 have hkd:=(hb.block _ (zA HK1.out)).trans HK1.out
 obtain ⟨⟨d0,d1,d2,d3,d4,d5,d6,d7,d8,d9,dX⟩,g0,g1,g2,g3,g4,g5,g6,g7,g8,g9,gX⟩:=hen hkd
 have hld:=zA hkd
 obtain ⟨⟨b0,b1⟩,⟨h0,h1⟩,hlb⟩:=duo ((hb.block _ (zA HK2.out)).trans HK2.out)
 clear hkd hb hi
 go_wp2_with fail
 have hbw:Below w.heap.size w w3:=zC HB0.out HB3.out (by have:=HS0.out; omega)
 have hN1:w.heap.size < w0.heap.size:=by have:=HS0.out; omega
 have hN2:w.heap.size + 1 < w0.heap.size:=by have:=HS0.out; omega
 exact bodyPost_ret (v:=.tuple #[.agg #[.int .i64 qk,.int .i64 qn,.string (cbs qs),.string (cbs qo),.int .i64 qd,.slice qp ql qc,.int .i64 qa,.int .i64 qb,.int .i64 qr,.int .i64 qe,.int .i64 qf],.int .i64 (P k s.o).2.1,.agg #[.int .i64 (P k s.o).2.2.1,.int .i64 (P k s.o).2.2.2]]) (by simp [results,Tryz.results143,go_sem,d0,d1,d2,d3,d4,d5,d6,d7,d8,d9,dX,b0,b1]) rfl ⟨_,_,_,_,_,_,_,_,_,_,_,_,_,rfl,Is.lower (Nat.le_of_lt hN1) _ (((HI3.out.put11 (N:=w.heap.size) hN1).set (p:=⟨w.heap.size + 1,0,none⟩) hN2 _).set (p:=⟨w.heap.size + 1,1,none⟩) hN2 _),zO (zO (zD9 hbw (Nat.le_refl _)) (Nat.le_succ _)) (Nat.le_succ _)⟩
def ZPost (w:World)(R M1 M2:Nat)(S:Value)(ts:List RT)(x:Ex × St)(e:Ending)(w':World):Prop:=
 ∃ (kind num:Int) (name ofn:List UInt8) (dims:Int) (p:Option Addr) (n c:Nat) (at_ b r d ref:Int),
   e = .returned (.agg #[.int .i64 kind,.int .i64 num,.string (cbs name),.string (cbs ofn),.int .i64 dims,.slice p n c,.int .i64 at_,.int .i64 b,.int .i64 r,.int .i64 d,.int .i64 ref]) ∧
   Is w' w.heap.size x.1 (exCells kind num name ofn dims (.slice p n c) at_ b r d ref) ∧ Rq w' R M1 M2 S ts x.2 ∧ Gr R w w'
theorem zLD {P:PX}{s:St}(h:¬ s.c.E = 0):Ps.rd P s = (Ex.zero,s):=if_neg h
theorem zNo {P:PX}{k F o:Int}(h:(P k o).2.2.1 = 0):Ps.rd P ⟨⟨k,0,F⟩,o⟩ = ((P k o).1,⟨⟨(P k o).2.1,0,F⟩,o⟩):=by simp only [Ps.rd,h,if_true]
theorem zMR {P:PX}{k F o:Int}(h:¬ (P k o).2.2.1 = 0):Ps.rd P ⟨⟨k,0,F⟩,o⟩ = (Ex.zero,⟨⟨k,(P k o).2.2.1,(P k o).2.2.2⟩,o⟩):=by simp only [Ps.rd,h,if_true,if_false]
theorem zEP {wb w3:World}{o:Obj}(h:Below (wb.alloc o).drew.heap.size (wb.alloc o).drew w3):w3.heap[wb.heap.size]? = some o:=(h.block _ (zA (heap_alloc_new wb o))).trans (heap_alloc_new wb o)
theorem zC2 {wb w3:World}{o o2:Obj}(h:Below ((wb.alloc o).alloc o2).drew.heap.size ((wb.alloc o).alloc o2).drew w3):w3.heap[wb.heap.size]? = some o:=(h.block _ (zA (zE o2 (heap_alloc_new wb o)))).trans (zE o2 (heap_alloc_new wb o))
theorem zC1 {wb w3:World}{o o2:Obj}(h:Below ((wb.alloc o).alloc o2).drew.heap.size ((wb.alloc o).alloc o2).drew w3):w3.heap[wb.heap.size + 1]? = some o2:=by
 have:=heap_alloc_new (wb.alloc o) o2
 rw [zB] at this
 exact (h.block _ (zA this)).trans this
theorem szA (wb:World):wb.drew.heap.size = wb.heap.size:=rfl
theorem szB (wb:World)(o:Obj):(wb.alloc o).drew.heap.size = wb.heap.size + 1:=zB _ _
theorem szC (wb:World)(o o2:Obj):((wb.alloc o).alloc o2).drew.heap.size = wb.heap.size + 1 + 1:=(zB _ _).trans (by rw [zB])
theorem bwA (wb:World):Below wb.heap.size wb wb.drew:=(Below.refl _ _).drew
theorem bwB (wb:World)(o:Obj):Below wb.heap.size wb (wb.alloc o).drew:=((Below.refl _ _).alloc (Nat.le_refl _) _).drew
theorem bwC (wb:World)(o o2:Obj):Below wb.heap.size wb ((wb.alloc o).alloc o2).drew:=(((Below.refl _ _).alloc (Nat.le_refl _) _).alloc (by rw [zB]; omega) _).drew
def Sk (R:Nat)(x y:Value)(w:World):Prop:=(w.cell? ⟨R,0,none⟩ = some x ∧ w.cell? ⟨R,1,none⟩ = some y) ∧ R < w.heap.size
theorem Sk.a {R:Nat}{x y:Value}{w:World}(h:Sk R x y w):w.cell? ⟨R,0,none⟩ = some x:=h.1.1
theorem Sk.b {R:Nat}{x y:Value}{w:World}(h:Sk R x y w):w.cell? ⟨R,1,none⟩ = some y:=h.1.2
theorem Sk.c {R:Nat}{x y:Value}{w:World}(h:Sk R x y w):R < w.heap.size:=h.2
theorem Sk.all {R:Nat}{x y:Value}{w:World}(h:Sk R x y w):w.cell? ⟨R,0,none⟩ = some x ∧ w.cell? ⟨R,1,none⟩ = some y ∧ R < w.heap.size:=⟨h.1.1,h.1.2,h.2⟩
theorem Sk.below {R:Nat}{x y:Value}{w w':World}(h:Sk R x y w)(hb:Below w.heap.size w w'):Sk R x y w':=
 ⟨⟨by rw [hb.cell (p:=⟨R,0,none⟩) h.2]; exact h.1.1,by rw [hb.cell (p:=⟨R,1,none⟩) h.2]; exact h.1.2⟩,Nat.lt_of_lt_of_le h.2 hb.size⟩
theorem Sk.alloc {R:Nat}{x y:Value}{w:World}{o:Obj}(h:Sk R x y w):Sk R x y (w.alloc o):=h.below ((Below.refl _ _).alloc (Nat.le_refl _) _)
theorem Sk.drew {R:Nat}{x y:Value}{w:World}(h:Sk R x y w):Sk R x y w.drew:=h.below (Below.refl _ _).drew
theorem Sk.put {R:Nat}{x y:Value}{w:World}{b i:Nat}{u:Value}(h:Sk R x y w)(hb:b ≠ R):Sk R x y (w.setCell ⟨b,i,none⟩ u):=by
 have hc:=zBB (Below.heap_setCell w ⟨b,i,none⟩ u R (Ne.symm hb))
 exact ⟨⟨(hc 0).trans h.1.1,(hc 1).trans h.1.2⟩,by rw [zI]; exact h.2⟩
structure Mr (w:World) (R M1 M2:Nat) (S:Value) (ts:List RT) (B:Nat) (w3:World) (s:St) (W:World):Prop where
 rd:Rq W R M1 M2 S ts s
 gr:Gr R w W
 ag:Ag B w3 W
 lt:R < w.heap.size
 hB:w.heap.size ≤ B
 h0:∃ s0,Rq w R M1 M2 S ts s0
section
variable {w w3 W:World} {R M1 M2 B:Nat} {S:Value} {ts:List RT} {s:St}
theorem Mr.nw (h:Mr w R M1 M2 S ts B w3 s W){W2:World}(n:Nw R w W W2)(g:Ag B W W2):Mr w R M1 M2 S ts B w3 s W2:=by
 obtain ⟨s0,h0⟩:=h.h0
 exact ⟨h0.held s W W2 n h.rd,n.gr,h.ag.trans g,h.lt,h.hB,s0,h0⟩
theorem Mr.go (h:Mr w R M1 M2 S ts B w3 s W){W2:World}(hb:Below W.heap.size W W2):Mr w R M1 M2 S ts B w3 s W2:=h.nw ⟨hb.mono h.gr.size,h.gr.below hb⟩ (Ag.below hb)
theorem Mr.alloc (h:Mr w R M1 M2 S ts B w3 s W){o:Obj}:Mr w R M1 M2 S ts B w3 s (W.alloc o):=h.go ((Below.refl _ _).alloc (Nat.le_refl _) _)
theorem Mr.drew (h:Mr w R M1 M2 S ts B w3 s W):Mr w R M1 M2 S ts B w3 s W.drew:=h.go (Below.refl _ _).drew
theorem Mr.put (h:Mr w R M1 M2 S ts B w3 s W){b i:Nat}{u:Value}(hp:w.heap.size ≤ b)(hq:b < B ∨ w3.heap.size ≤ b):Mr w R M1 M2 S ts B w3 s (W.setCell ⟨b,i,none⟩ u):=by
 obtain ⟨s0,h0⟩:=h.h0
 have n:=(Nw.start h.gr).set (p:=⟨b,i,none⟩) hp u
 exact ⟨h0.held s W _ n h.rd,n.gr,h.ag.set hq u,h.lt,h.hB,s0,h0⟩
theorem Mr.set_k (h:Mr w R M1 M2 S ts B w3 s W){q:Int}:Mr w R M1 M2 S ts B w3 ⟨⟨q,s.c.E,s.c.F⟩,s.o⟩ (W.setCell ⟨R,1,none⟩ (.int .i64 q)):=
 ⟨h.rd.cur ((Gr.refl R W).set 1 _) (h.rd.cu.set_k q),h.gr.set 1 _,h.ag.set (.inl (Nat.lt_of_lt_of_le h.lt h.hB)) _,h.lt,h.hB,h.h0⟩
theorem Mr.set_f (h:Mr w R M1 M2 S ts B w3 s W){e a:Int}:Mr w R M1 M2 S ts B w3 ⟨⟨s.c.k,e,a⟩,s.o⟩ ((W.setCell ⟨R,2,none⟩ (.int .i64 e)).setCell ⟨R,3,none⟩ (.int .i64 a)):=
 ⟨h.rd.cur (((Gr.refl R W).set 2 _).set 3 _) (h.rd.cu.set_f e a),(h.gr.set 2 _).set 3 _,(h.ag.set (.inl (Nat.lt_of_lt_of_le h.lt h.hB)) _).set (.inl (Nat.lt_of_lt_of_le h.lt h.hB)) _,h.lt,h.hB,h.h0⟩
theorem Mr.ends {P:PX}{s0:St}{x:Ex × St}{vs:List Value}(h:Mr w R M1 M2 S ts B w3 x.2 W)(hx:Ps.rd P s0 = x)(hi:Is w3 B x.1 vs):Is W w.heap.size (Ps.rd P s0).1 vs ∧ Rq W R M1 M2 S ts (Ps.rd P s0).2 ∧ Gr R w W:=by
 rw [hx]
 exact ⟨Is.lower h.hB _ (hi.ag h.ag),h.rd,h.gr⟩
theorem Mr.endz {P:PX}{s0:St}{x:St}{e:Ex}{us:List Value}(h:Mr w R M1 M2 S ts B w3 x W)(hx:Ps.rd P s0 = (Ex.zero,x))(_hi:Is w3 B e us):Is W w.heap.size (Ps.rd P s0).1 (exCells 0 0 [] [] 0 (.slice none 0 0) 0 0 0 0 0) ∧ Rq W R M1 M2 S ts (Ps.rd P s0).2 ∧ Gr R w W:=by
 rw [hx]
 exact ⟨Is.zero,h.rd,h.gr⟩
end
theorem zG1 (w:World)(R M1 M2 N:Nat)(S:Value)(ts:List RT)(s:St)(h:Rq w R M1 M2 S ts s)(hN:w.heap[N]? = some (.cells #[.pointer (some ⟨R,0,none⟩)] 129 (0,0)))(P:PX)(hP:POk ts P) :
 Calls Tryz.prog 142 #[.pointer (some ⟨R,0,none⟩),.func (.func 143) #[] #[.pointer (some ⟨N,0,none⟩)]] w (ZPost w R M1 M2 S ts (Ps.rd P s)):=by
 obtain ⟨p,n,c,rfl⟩:=h.cu.toks.slice
 obtain ⟨⟨k,E,F⟩,o⟩:=s
 obtain ⟨⟨c0,c1,c2,c3⟩,fr,hR⟩:=h.cu.cells
 dsimp only at c1 c2 c3
 obtain ⟨wb,hwb⟩:∃ wb,wb = (w.alloc (.cells vE 111)).alloc (.cells vE 111):=⟨_,rfl⟩
 have hb:Below w.heap.size w wb:=by rw [hwb]; exact ((Below.refl _ _).alloc (Nat.le_refl _) _).alloc (by rw [zB]; omega) _
 have e2:=zW c2 hR hb
 rw [hwb] at e2
 by_cases hE:E = 0
 ·subst hE
  have e0:=zW c0 hR hb
  have e1:=zW c1 hR hb
  have HR:=vH (h.go hb)
  have HN:=vH ((hb.block _ (zA hN)).trans hN)
  have hsb:wb.heap.size = w.heap.size + 2:=by rw [hwb]; simp only [zB]
  have HK1:Hid (wb.heap[w.heap.size]? = some (.cells vE 111 (0,0))):=vH (by rw [hwb]; exact zE _ (heap_alloc_new w _))
  have HK2:Hid (wb.heap[w.heap.size + 1]? = some (.cells vE 111 (0,0))):=vH (by rw [hwb]; have:=heap_alloc_new (w.alloc (.cells vE 111)) (.cells vE 111); rw [zB] at this; exact this)
  have hq1:w.heap.size ≠ wb.heap.size:=by omega
  have hq2:w.heap.size + 1 ≠ wb.heap.size:=by omega
  have hq3:w.heap.size ≠ wb.heap.size + 1:=by omega
  have hq4:w.heap.size + 1 ≠ wb.heap.size + 1:=by omega
  have hq5:=Ne.symm hq1
  have hq6:=Ne.symm hq2
  have hq7:=Ne.symm hq3
  have hq8:=Ne.symm hq4
  have ha1:R ≠ w.heap.size:=by omega
  have ha2:R ≠ w.heap.size + 1:=by omega
  have ha3:R ≠ wb.heap.size:=by omega
  have ha4:R ≠ wb.heap.size + 1:=by omega
  have ha5:=Ne.symm ha1
  have ha6:=Ne.symm ha2
  have ha7:=Ne.symm ha3
  have ha8:=Ne.symm ha4
  have HSB:=vH hsb
  clear hsb
  have HP:=vH hP
  have hwb2:w.heap.size ≤ wb.heap.size:=hb.size
  have hRb:R < wb.heap.size:=Nat.lt_of_lt_of_le hR hwb2
  have mstart:∀ {wc w3:World},Below wb.heap.size wb wc → Below wc.heap.size wc w3 → Mr w R M1 M2 (.slice p n c) ts wc.heap.size w3 ⟨⟨k,0,F⟩,o⟩ w3:=by
   intro wc w3 hX h3
   have h3':=zC hb (zC hX h3 hX.size) hb.size
   exact ⟨h.go h3',Gr.of h3',Ag.refl _ _,h.lt,Nat.le_trans hwb2 hX.size,_,h⟩
  clear c0 c1 c2 c3 fr h hN hP
  go_in
  go_wp2_with fail
  rw [← hwb]
  clear hwb e2
  have HS:=vH (show Sk R (.slice p n c) (.int .i64 k) wb from ⟨⟨e0,e1⟩,hRb⟩)
  clear e0 e1
  go_region_held3 (fun w' => w'.cell? ⟨R,0,none⟩ = some (.slice p n c) ∧ w'.cell? ⟨R,1,none⟩ = some (.int .i64 k) ∧ R < w'.heap.size) (((with_reducible first | refine Sk.all ?_ | refine Sk.a (y:=.int .i64 k) ?_ | refine Sk.b (x:=.slice p n c) ?_ | refine Sk.c (x:=.slice p n c) (y:=.int .i64 k) ?_); (with_reducible repeat (first | exact HS.out | exact HS3.out | refine Sk.put ?_ (by omega) | refine Sk.alloc ?_ | refine Sk.drew ?_)))) (first
   | (go_at_call 143; (with_reducible refine Calls.mono (zAY (wb.drew) R M1 M2 N _ ts _ (HR.out.go (bwA wb)) (((bwA wb).block _ (zA HN.out)).trans HN.out) P HP.out k) ?_); rintro e w3 ⟨qk,qn,qs,qo,qd,qp,ql,qc,qa,qb,qr,qe,qf,rfl,hi,hb3⟩; have HS3:=vH (HS.out.below (zC (bwA wb) hb3 (bwA wb).size)); have hm3:=mstart (bwA wb) hb3; have hz:=hb3.size; rw [szA wb] at hi hm3 hz; have HM:=vH hm3; have HI:=vH hi; have hb03:=zC (bwA wb) hb3 (bwA wb).size; have hkd:=(hb03.block _ (zA HK1.out)).trans HK1.out; obtain ⟨⟨d0,d1,d2,d3,d4,d5,d6,d7,d8,d9,dX⟩,p0,p1,p2,p3,p4,p5,p6,p7,p8,p9,pX⟩:=hen hkd; have hld:=zA hkd; have hku:=(hb03.block _ (zA HK2.out)).trans HK2.out; obtain ⟨⟨u0,u1,u2,u3,u4,u5,u6,u7,u8,u9,uX⟩,v0,v1,v2,v3,v4,v5,v6,v7,v8,v9,vX⟩:=hen hku; have hlu:=zA hku; obtain ⟨⟨r0,r1,r2,r3⟩,fr,hR3⟩:=hm3.rd.cu.cells; have fr1:=fr 1; have fr2:=fr 2; have fr3:=fr 3; clear fr hm3 hkd hku hb03; clear hi hb3)
   | (go_at_call 143; (with_reducible refine Calls.mono (zAY ((wb.alloc (.cells vE 111)).drew) R M1 M2 N _ ts _ (HR.out.go (bwB wb (.cells vE 111))) (((bwB wb (.cells vE 111)).block _ (zA HN.out)).trans HN.out) P HP.out k) ?_); rintro e w3 ⟨qk,qn,qs,qo,qd,qp,ql,qc,qa,qb,qr,qe,qf,rfl,hi,hb3⟩; have HS3:=vH (HS.out.below (zC (bwB wb (.cells vE 111)) hb3 (bwB wb (.cells vE 111)).size)); have hm3:=mstart (bwB wb (.cells vE 111)) hb3; have hz:=hb3.size; rw [szB wb (.cells vE 111)] at hi hm3 hz; have HM:=vH hm3; have HI:=vH hi; have hb03:=zC (bwB wb (.cells vE 111)) hb3 (bwB wb (.cells vE 111)).size; have hkd:=(hb03.block _ (zA HK1.out)).trans HK1.out; obtain ⟨⟨d0,d1,d2,d3,d4,d5,d6,d7,d8,d9,dX⟩,p0,p1,p2,p3,p4,p5,p6,p7,p8,p9,pX⟩:=hen hkd; have hld:=zA hkd; have hku:=(hb03.block _ (zA HK2.out)).trans HK2.out; obtain ⟨⟨u0,u1,u2,u3,u4,u5,u6,u7,u8,u9,uX⟩,v0,v1,v2,v3,v4,v5,v6,v7,v8,v9,vX⟩:=hen hku; have hlu:=zA hku; obtain ⟨⟨r0,r1,r2,r3⟩,fr,hR3⟩:=hm3.rd.cu.cells; have fr1:=fr 1; have fr2:=fr 2; have fr3:=fr 3; clear fr hm3 hkd hku hb03; obtain ⟨⟨x0,x1,x2,x3,x4,x5,x6,x7,x8,x9,xX⟩,y0,y1,y2,y3,y4,y5,y6,y7,y8,y9,yX⟩:=hen (zEP hb3); have hlx:=zA (zEP hb3); clear hi hb3)
   | (go_at_call 143; (with_reducible refine Calls.mono (zAY ((wb.alloc (.cells vF 29)).drew) R M1 M2 N _ ts _ (HR.out.go (bwB wb (.cells vF 29))) (((bwB wb (.cells vF 29)).block _ (zA HN.out)).trans HN.out) P HP.out k) ?_); rintro e w3 ⟨qk,qn,qs,qo,qd,qp,ql,qc,qa,qb,qr,qe,qf,rfl,hi,hb3⟩; have HS3:=vH (HS.out.below (zC (bwB wb (.cells vF 29)) hb3 (bwB wb (.cells vF 29)).size)); have hm3:=mstart (bwB wb (.cells vF 29)) hb3; have hz:=hb3.size; rw [szB wb (.cells vF 29)] at hi hm3 hz; have HM:=vH hm3; have HI:=vH hi; have hb03:=zC (bwB wb (.cells vF 29)) hb3 (bwB wb (.cells vF 29)).size; have hkd:=(hb03.block _ (zA HK1.out)).trans HK1.out; obtain ⟨⟨d0,d1,d2,d3,d4,d5,d6,d7,d8,d9,dX⟩,p0,p1,p2,p3,p4,p5,p6,p7,p8,p9,pX⟩:=hen hkd; have hld:=zA hkd; have hku:=(hb03.block _ (zA HK2.out)).trans HK2.out; obtain ⟨⟨u0,u1,u2,u3,u4,u5,u6,u7,u8,u9,uX⟩,v0,v1,v2,v3,v4,v5,v6,v7,v8,v9,vX⟩:=hen hku; have hlu:=zA hku; obtain ⟨⟨r0,r1,r2,r3⟩,fr,hR3⟩:=hm3.rd.cu.cells; have fr1:=fr 1; have fr2:=fr 2; have fr3:=fr 3; clear fr hm3 hkd hku hb03; obtain ⟨⟨f0,f1⟩,⟨g0,g1⟩,hlf⟩:=duo (zEP hb3); clear hi hb3)
   | (go_at_call 143; (with_reducible refine Calls.mono (zAY (((wb.alloc (.cells vE 111)).alloc (.cells vF 29)).drew) R M1 M2 N _ ts _ (HR.out.go (bwC wb (.cells vE 111) (.cells vF 29))) (((bwC wb (.cells vE 111) (.cells vF 29)).block _ (zA HN.out)).trans HN.out) P HP.out k) ?_); rintro e w3 ⟨qk,qn,qs,qo,qd,qp,ql,qc,qa,qb,qr,qe,qf,rfl,hi,hb3⟩; have HS3:=vH (HS.out.below (zC (bwC wb (.cells vE 111) (.cells vF 29)) hb3 (bwC wb (.cells vE 111) (.cells vF 29)).size)); have hm3:=mstart (bwC wb (.cells vE 111) (.cells vF 29)) hb3; have hz:=hb3.size; rw [szC wb (.cells vE 111) (.cells vF 29)] at hi hm3 hz; have HM:=vH hm3; have HI:=vH hi; have hb03:=zC (bwC wb (.cells vE 111) (.cells vF 29)) hb3 (bwC wb (.cells vE 111) (.cells vF 29)).size; have hkd:=(hb03.block _ (zA HK1.out)).trans HK1.out; obtain ⟨⟨d0,d1,d2,d3,d4,d5,d6,d7,d8,d9,dX⟩,p0,p1,p2,p3,p4,p5,p6,p7,p8,p9,pX⟩:=hen hkd; have hld:=zA hkd; have hku:=(hb03.block _ (zA HK2.out)).trans HK2.out; obtain ⟨⟨u0,u1,u2,u3,u4,u5,u6,u7,u8,u9,uX⟩,v0,v1,v2,v3,v4,v5,v6,v7,v8,v9,vX⟩:=hen hku; have hlu:=zA hku; obtain ⟨⟨r0,r1,r2,r3⟩,fr,hR3⟩:=hm3.rd.cu.cells; have fr1:=fr 1; have fr2:=fr 2; have fr3:=fr 3; clear fr hm3 hkd hku hb03; obtain ⟨⟨x0,x1,x2,x3,x4,x5,x6,x7,x8,x9,xX⟩,y0,y1,y2,y3,y4,y5,y6,y7,y8,y9,yX⟩:=hen (zC2 hb3); have hlx:=zA (zC2 hb3); obtain ⟨⟨f0,f1⟩,⟨g0,g1⟩,hlf⟩:=duo (zC1 hb3); have hne1:wb.heap.size ≠ wb.heap.size + 1:=(by omega); have hne2:=Ne.symm hne1; clear hi hb3)
   | (go_at_call 143; (with_reducible refine Calls.mono (zAY (((wb.alloc (.cells vF 29)).alloc (.cells vE 111)).drew) R M1 M2 N _ ts _ (HR.out.go (bwC wb (.cells vF 29) (.cells vE 111))) (((bwC wb (.cells vF 29) (.cells vE 111)).block _ (zA HN.out)).trans HN.out) P HP.out k) ?_); rintro e w3 ⟨qk,qn,qs,qo,qd,qp,ql,qc,qa,qb,qr,qe,qf,rfl,hi,hb3⟩; have HS3:=vH (HS.out.below (zC (bwC wb (.cells vF 29) (.cells vE 111)) hb3 (bwC wb (.cells vF 29) (.cells vE 111)).size)); have hm3:=mstart (bwC wb (.cells vF 29) (.cells vE 111)) hb3; have hz:=hb3.size; rw [szC wb (.cells vF 29) (.cells vE 111)] at hi hm3 hz; have HM:=vH hm3; have HI:=vH hi; have hb03:=zC (bwC wb (.cells vF 29) (.cells vE 111)) hb3 (bwC wb (.cells vF 29) (.cells vE 111)).size; have hkd:=(hb03.block _ (zA HK1.out)).trans HK1.out; obtain ⟨⟨d0,d1,d2,d3,d4,d5,d6,d7,d8,d9,dX⟩,p0,p1,p2,p3,p4,p5,p6,p7,p8,p9,pX⟩:=hen hkd; have hld:=zA hkd; have hku:=(hb03.block _ (zA HK2.out)).trans HK2.out; obtain ⟨⟨u0,u1,u2,u3,u4,u5,u6,u7,u8,u9,uX⟩,v0,v1,v2,v3,v4,v5,v6,v7,v8,v9,vX⟩:=hen hku; have hlu:=zA hku; obtain ⟨⟨r0,r1,r2,r3⟩,fr,hR3⟩:=hm3.rd.cu.cells; have fr1:=fr 1; have fr2:=fr 2; have fr3:=fr 3; clear fr hm3 hkd hku hb03; obtain ⟨⟨f0,f1⟩,⟨g0,g1⟩,hlf⟩:=duo (zC2 hb3); obtain ⟨⟨x0,x1,x2,x3,x4,x5,x6,x7,x8,x9,xX⟩,y0,y1,y2,y3,y4,y5,y6,y7,y8,y9,yX⟩:=hen (zC1 hb3); have hlx:=zA (zC1 hb3); have hne1:wb.heap.size ≠ wb.heap.size + 1:=(by omega); have hne2:=Ne.symm hne1; clear hi hb3))
  all_goals
   by_cases hB:(P k o).2.2.1 = 0
   ·have hBd:((P k o).2.2.1 != 0) = false:=by simpa using hB
    go_wp2_with fail
    refine bodyPost_ret (v:=.agg #[.int .i64 qk,.int .i64 qn,.string (cbs qs),.string (cbs qo),.int .i64 qd,.slice qp ql qc,.int .i64 qa,.int .i64 qb,.int .i64 qr,.int .i64 qe,.int .i64 qf]) (by simp [results,Tryz.results142,go_sem,hld,d0,d1,d2,d3,d4,d5,d6,d7,d8,d9,dX]) rfl ⟨_,_,_,_,_,_,_,_,_,_,_,_,_,rfl,Mr.ends (w:=w) (w3:=w3) ?_ (zNo hB) HI.out⟩
    have hsb:=HSB.out
    with_reducible repeat (first | exact HM.out | refine Mr.set_k (s:=⟨⟨k,0,F⟩,o⟩) ?_ | refine Mr.put ?_ (by omega) (by omega) | refine Mr.alloc ?_ | refine Mr.drew ?_)
   ·have hBd:((P k o).2.2.1 != 0) = true:=by simpa using hB
    go_wp2_with fail
    refine bodyPost_ret (v:=.agg #[.int .i64 0,.int .i64 0,.string ⟨#[]⟩,.string ⟨#[]⟩,.int .i64 0,.slice none 0 0,.int .i64 0,.int .i64 0,.int .i64 0,.int .i64 0,.int .i64 0]) (by simp [results,Tryz.results142,go_sem,hld,d0,d1,d2,d3,d4,d5,d6,d7,d8,d9,dX]) rfl ⟨0,0,[],[],0,none,0,0,0,0,0,0,0,rfl,Mr.endz (w:=w) (w3:=w3) ?_ (zMR hB) HI.out⟩
    have hsb:=HSB.out
    with_reducible repeat (first | exact HM.out | refine Mr.set_f (s:=⟨⟨k,0,F⟩,o⟩) ?_ | refine Mr.put ?_ (by omega) (by omega) | refine Mr.alloc ?_ | refine Mr.drew ?_)
 ·have hx:=zLD (P:=P) (s:=⟨⟨k,E,F⟩,o⟩) hE
  have hd:(E != 0) = true:=by simpa using hE
  rw [hwb] at hb
  have HH:=vH h
  have HX:=vH hx
  have HB:=vH hb
  clear h hx hb hN hP hE hwb c0 c1 c2 c3 fr
  go_in
  go_wp2_with fail
  refine bodyPost_ret (v:=.agg #[.int .i64 0,.int .i64 0,.string ⟨#[]⟩,.string ⟨#[]⟩,.int .i64 0,.slice none 0 0,.int .i64 0,.int .i64 0,.int .i64 0,.int .i64 0,.int .i64 0]) (by simp [results,Tryz.results142,go_sem]) rfl ⟨0,0,[],[],0,none,0,0,0,0,0,0,0,rfl,?_⟩
  rw [HX.out]
  exact ⟨Is.zero,HH.out.go HB.out,Gr.of HB.out⟩
end Go.Proofs.YtipmjjfknhblnaaGreatDoor
