/-
  What the answer's reader (runrigref3) does, step by step, in
-/
import Derived.Test.YteadgahhchlgeaaDoorK03
import Derived.Test.YteadgahhchlgeaaDoorK01
namespace Go.Proofs.YteadgahhchlgeaaDoor
namespace Qe
open Go.RowKit
open Px (RT tokAt isT levelT)
open Pe (Ex inc dec)
structure Q where
 k:Int
 o:Int
 E:Int
 F:Int
def next (s:Q):Q:=⟨inc s.k,s.o,s.E,s.F⟩
def is (ts:List RT)(s:Q)(wd:Bool)(t:List UInt8):Bool:=s.E == 0 && isT ts s.k wd t
def fail (ts:List RT)(s:Q)(e:Int):Q:=if s.E = 0 then ⟨s.k,s.o,e,(tokAt ts s.k).at_⟩ else s
def take (ts:List RT)(s:Q)(wd:Bool)(t:List UInt8):Q:=if is ts s wd t then next s else fail ts s 2
def opens (ts:List RT)(s:Q)(t:List UInt8):Q:=
 if is ts s false t && decide (50 ≤ s.o) then fail ts s 4 else ⟨(take ts s false t).k,inc (take ts s false t).o,(take ts s false t).E,(take ts s false t).F⟩
def closes (ts:List RT)(s:Q)(t:List UInt8):Q:=⟨(take ts s false t).k,dec (take ts s false t).o,(take ts s false t).E,(take ts s false t).F⟩
def name (ts:List RT)(s:Q):List UInt8 × Q:=if s.E = 0 ∧ (tokAt ts s.k).kind = 1 then ((tokAt ts s.k).text,next s) else ([],fail ts s 2)
def dims (ts:List RT):Nat → Q → Option Nat × Q
 | 0,s => if is ts s false [91] then (none,fail ts s 4) else (some 0,s)
 | n + 1,s => if is ts s false [91] then ((dims ts n (next s)).1.map (· + 1),(dims ts n (next s)).2) else (some 0,s)
def base (ts:List RT)(s:Q):List UInt8 × Q:=
 if is ts s true [105,110,116] || is ts s true [98,111,111,108] then ((tokAt ts s.k).text,next s) else name ts s
def shut (ts:List RT):Nat → Q → Q
 | 0,s => s
 | n + 1,s => shut ts n (take ts s false [93])
def of (ts:List RT)(s:Q):List UInt8 × Nat × Q:=
 match (dims ts 3 s).1 with
 | none => ([],0,(dims ts 3 s).2)
 | some d => ((base ts (dims ts 3 s).2).1,d,shut ts d (base ts (dims ts 3 s).2).2)
abbrev Out:=Option (Ex × Q)
def sign (ts:List RT)(s:Q)(n:Nat):Int:=if s.E = 0 then levelT n (tokAt ts s.k) else 0
def inner (ts:List RT)(rec:Nat → Q → Out)(s:Q):Out:=
 match rec 0 (opens ts s [40]) with
 | none => none
 | some (e,s2) => some (e,closes ts s2 [41])
def argLoop (ts:List RT)(rec:Nat → Q → Out):Nat → List Ex → Q → Option (List Ex × Q)
 | 0,_,_ => none
 | g + 1,l,s => if is ts s false [44] then
     match rec 0 (next s) with
     | none => none
     | some (e,s2) => argLoop ts rec g (l ++ [e]) s2
   else some (l,s)
def args (ts:List RT)(rec:Nat → Q → Out)(g:Nat)(s:Q):Option (List Ex × Q):=
 if is ts (opens ts s [40]) false [41] then some ([],closes ts (opens ts s [40]) [41]) else
 match rec 0 (opens ts s [40]) with
 | none => none
 | some (e,s2) => match argLoop ts rec g [e] s2 with
   | none => none
   | some (l,s3) => some (l,closes ts s3 [41])
def fresh (ts:List RT)(rec:Nat → Q → Out)(s:Q)(at_:Int):Out:=
 if is ts s false [91] then
    let t:=of ts (next s)
    match inner ts rec (take ts t.2.2 false [93]) with
    | none => none
    | some (e,s2) => some (Ex.of 9 0 [] t.1 t.2.1 [e] at_,s2)
 else some (Ex.of 8 0 [] (name ts s).1 0 [] at_,(name ts s).2)
def first (ts:List RT)(rec:Nat → Q → Out)(g:Nat)(s:Q):Out:=
 let t:=tokAt ts s.k
 if s.E = 0 ∧ t.kind = 2 then some (Ex.of 1 t.num [] [] 0 [] t.at_,next s)
 else if is ts s true [116,114,117,101] then some (Ex.of 2 1 [] [] 0 [] t.at_,next s)
 else if is ts s true [102,97,108,115,101] then some (Ex.of 2 0 [] [] 0 [] t.at_,next s)
 else if is ts s true [110,117,108,108] then some (Ex.of 3 0 [] (of ts (next s)).1 (of ts (next s)).2.1 [] t.at_,(of ts (next s)).2.2)
 else if is ts s true [110,101,119] then fresh ts rec (next s) t.at_
 else if is ts s true [108,101,110] then
    match inner ts rec (next s) with
    | none => none
    | some (e,s2) => some (Ex.of 10 0 [] [] 0 [e] t.at_,s2)
 else if is ts s true [114,101,97,100] then some (Ex.of 11 0 [] [] 0 [] t.at_,closes ts (opens ts (next s) [40]) [41])
 else if is ts s false [40] then inner ts rec s
 else
    let n:=name ts s
    if is ts n.2 false [40] then
     match args ts rec g n.2 with
     | none => none
     | some (l,s2) => some (Ex.of 7 0 n.1 [] 0 l t.at_,s2)
    else some (Ex.of 4 0 n.1 [] 0 [] t.at_,n.2)
def behind (ts:List RT)(rec:Nat → Q → Out):Nat → Ex → Q → Out
 | 0,_,_ => none
 | g + 1,e,s =>
   if is ts s false [46] then
     behind ts rec g (Ex.of 5 0 (name ts (next s)).1 [] 0 [e] (tokAt ts s.k).at_) (name ts (next s)).2
   else if is ts s false [91] then
     match rec 0 (opens ts s [91]) with
     | none => none
     | some (i,s2) => behind ts rec g (Ex.of 6 0 [] [] 0 [e,i] (tokAt ts s.k).at_) (closes ts s2 [93])
   else some (e,s)
def prefixed (ts:List RT)(rec:Nat → Q → Out)(s:Q)(t:List UInt8)(kind:Int):Out:=
 match rec 5 (opens ts s t) with
 | none => none
 | some (e,s2) => some (Ex.of kind 0 [] [] 0 [e] (tokAt ts s.k).at_,⟨s2.k,dec s2.o,s2.E,s2.F⟩)
def unary (ts:List RT)(rec:Nat → Q → Out)(g:Nat)(s:Q):Out:=
 if is ts s false [45] then prefixed ts rec s [45] 12
 else if is ts s false [33] then prefixed ts rec s [33] 13
 else match first ts rec g s with
    | none => none
    | some (e,s2) => behind ts rec g e s2
def binLoop (ts:List RT)(rec:Nat → Q → Out)(n:Nat):Nat → Ex → Q → Out
 | 0,_,_ => none
 | g + 1,l,s =>
   if sign ts s n = 0 then some (l,s) else
   match rec (n + 1) (next s) with
   | none => none
   | some (r,s2) => binLoop ts rec n g (Ex.of (sign ts s n) 0 [] [] 0 [l,r] (tokAt ts s.k).at_) s2
def run (ts:List RT):Nat → Nat → Q → Out
 | 0 => fun _ _ => none
 | f + 1 => fun n s => if n = 5 then unary ts (run ts f) f s else
     match run ts f (n + 1) s with
     | none => none
     | some (l,s1) => binLoop ts (run ts f) n f l s1
def exEnd (e:Ex)(s:Q):Ex × Int × Int × Int:=if s.E = 0 then (e,s.k,0,0) else (Ex.zero,0,s.E,s.F)
def expr (ts:List RT)(f:Nat)(k o:Int):Option (Ex × Int × Int × Int):=
 match run ts f 0 ⟨k,max o 0,0,0⟩ with
 | none => none
 | some (e,s) => some (exEnd e s)
def ofEnd (n:List UInt8)(d:Nat)(s:Q):List UInt8 × Nat × Int × Int × Int:=if s.E = 0 then (n,d,s.k,0,0) else ([],0,0,s.E,s.F)
def ofAns (ts:List RT)(k:Int):List UInt8 × Nat × Int × Int × Int:=ofEnd (of ts ⟨k,0,0,0⟩).1 (of ts ⟨k,0,0,0⟩).2.1 (of ts ⟨k,0,0,0⟩).2.2
end Qe
namespace Ps
open Go.RowKit
open Px (RT tokAt)
open Pe
inductive Sm where
 | mk (kind:Int) (name ofn:List UInt8) (dims:Int) (es:List Ex) (body els:List Sm) (at_ ref:Int)
def Sm.zero:Sm:=.mk 0 [] [] 0 [] [] [] 0 0
def Sm.put (a:Int):Sm → Sm
 | .mk kind name ofn dims es body els _ ref => .mk kind name ofn dims es body els a ref
def kindOf:Ex → Int
 | .mk kind _ _ _ _ _ _ _ _ _ _ => kind
def nameOf:Ex → List UInt8
 | .mk _ _ name _ _ _ _ _ _ _ _ => name
abbrev PX:=Int → Int → Ex × Int × Int × Int
abbrev Out:=Option (Sm × St)
abbrev OutB:=Option (List Sm × St)
def rd (P:PX)(s:St):Ex × St:=
 if s.c.E = 0 then
    if (P s.c.k s.o).2.2.1 = 0 then ((P s.c.k s.o).1,⟨⟨(P s.c.k s.o).2.1,s.c.E,s.c.F⟩,s.o⟩)
    else (Ex.zero,⟨⟨s.c.k,(P s.c.k s.o).2.2.1,(P s.c.k s.o).2.2.2⟩,s.o⟩)
 else (Ex.zero,s)
def rdOf (ts:List RT)(s:St):List UInt8 × Nat × St:=
 if s.c.E = 0 then
    if (ofAns ts s.c.k).2.2.2.1 = 0 then ((ofAns ts s.c.k).1,(ofAns ts s.c.k).2.1,⟨⟨(ofAns ts s.c.k).2.2.1,s.c.E,s.c.F⟩,s.o⟩)
    else ([],0,⟨⟨s.c.k,(ofAns ts s.c.k).2.2.2.1,(ofAns ts s.c.k).2.2.2.2⟩,s.o⟩)
 else ([],0,s)
def sgn (ts:List RT)(s:St)(t:List UInt8):St:=⟨(sign ts s.c t).2,s.o⟩
def nxt (s:St):St:=⟨next s.c,s.o⟩
def decl (ts:List RT)(s:St):List UInt8 × List UInt8 × Nat × St:=
 ((name ts (next s.c)).1,rdOf ts (sgn ts ⟨(name ts (next s.c)).2,s.o⟩ [58]))
def variable_ (ts:List RT)(s:St):Sm × St:=
 let d:=decl ts s
 (.mk 1 d.1 d.2.1 d.2.2.1 [] [] [] 0 0,sgn ts d.2.2.2 [59])
def definition (ts:List RT)(P:PX)(s:St):Sm × St:=
 let d:=decl ts s
 let e:=rd P (sgn ts d.2.2.2 [61])
 (.mk 2 d.1 d.2.1 d.2.2.1 [e.1] [] [] 0 0,sgn ts e.2 [59])
def choice (ts:List RT)(P:PX)(recB:St → OutB)(s:St):Out:=
 let e:=rd P (nxt s)
 match recB e.2 with
 | none => none
 | some (b,s2) =>
   if sees ts s2.c 3 [101,108,115,101] then
    match recB (nxt s2) with
    | none => none
    | some (b2,s3) => some (.mk 5 [] [] 0 [e.1] b b2 0 0,s3)
   else some (.mk 5 [] [] 0 [e.1] b [] 0 0,s2)
def loop (P:PX)(recB:St → OutB)(s:St):Out:=
 let e:=rd P (nxt s)
 match recB e.2 with
 | none => none
 | some (b,s2) => some (.mk 6 [] [] 0 [e.1] b [] 0 0,s2)
def result (ts:List RT)(P:PX)(s:St):Sm × St:=
 if sees ts (next s.c) 4 [59] then (.mk 7 [] [] 0 [] [] [] 0 0,sgn ts (nxt s) [59])
 else (.mk 7 [] [] 0 [(rd P (nxt s)).1] [] [] 0 0,sgn ts (rd P (nxt s)).2 [59])
def output (ts:List RT)(P:PX)(s:St):Sm × St:=
 (.mk 8 [] [] 0 [(rd P (nxt s)).1] [] [] 0 0,sgn ts (rd P (nxt s)).2 [59])
def refuse (ts:List RT)(s:St):Sm × St:=(Sm.zero,⟨fail ts s.c 2,s.o⟩)
def call (ts:List RT)(e:Ex)(s:St):Sm × St:=
 if kindOf e = 7 then (.mk 9 [] [] 0 [e] [] [] 0 0,nxt s) else refuse ts s
def assigned (ts:List RT)(P:PX)(s:St):Ex × St:=((rd P (nxt s)).1,sgn ts (rd P (nxt s)).2 [59])
def assignment (ts:List RT)(P:PX)(e:Ex)(s:St):Sm × St:=
 if kindOf e = 4 then (.mk 3 (nameOf e) [] 0 [(assigned ts P s).1] [] [] 0 0,(assigned ts P s).2)
 else if kindOf e = 5 ∨ kindOf e = 6 then (.mk 4 [] [] 0 [e,(assigned ts P s).1] [] [] 0 0,(assigned ts P s).2)
 else refuse ts s
def fromExpr (ts:List RT)(P:PX)(s:St):Sm × St:=
 let e:=rd P s
 if (peek ts e.2.c).kind = 4 then
    if (peek ts e.2.c).text = [59] then call ts e.1 e.2
    else if (peek ts e.2.c).text = [61] then assignment ts P e.1 e.2
    else refuse ts e.2
 else refuse ts e.2
def step (ts:List RT)(P:PX)(recB:St → OutB)(s:St):Out:=
 if (peek ts s.c).kind = 3 then
    if (peek ts s.c).text = [118,97,114] then some (variable_ ts s)
    else if (peek ts s.c).text = [108,101,116] then some (definition ts P s)
    else if (peek ts s.c).text = [105,102] then choice ts P recB s
    else if (peek ts s.c).text = [119,104,105,108,101] then loop P recB s
    else if (peek ts s.c).text = [114,101,116,117,114,110] then some (result ts P s)
    else if (peek ts s.c).text = [112,114,105,110,116] then some (output ts P s)
    else some (fromExpr ts P s)
 else some (fromExpr ts P s)
def statement (ts:List RT)(P:PX)(recB:St → OutB)(s:St):Out:=
 match step ts P recB s with
 | none => none
 | some (x,s2) => some (x.put (peek ts s.c).at_,s2)
def stLoop (ts:List RT)(recS:St → Out):Nat → List Sm → St → OutB
 | 0,_,_ => none
 | g + 1,l,s =>
   if sees ts s.c 4 [125] then some (l,s)
   else if (peek ts s.c).kind = 0 then some (l,s)
   else match recS s with
     | none => none
     | some (x,s2) => stLoop ts recS g (l ++ [x]) s2
def block (ts:List RT)(recS:St → Out)(g:Nat)(s:St):OutB:=
 match stLoop ts recS g [] (enter ts s [123]).2 with
 | none => none
 | some (l,s2) => some (l,leave ts s2 [125])
def run (ts:List RT)(P:PX):Nat → (St → Out) × (St → OutB)
 | 0 => (fun _ => none,fun _ => none)
 | f + 1 => (statement ts P (run ts P f).2,block ts (run ts P f).1 f)
def stEnd (x:Sm)(c:Cs):Sm × Int × Int × Int:=if c.E = 0 then (x,c.k,0,0) else (Sm.zero,0,c.E,c.F)
def blEnd (l:List Sm)(c:Cs):List Sm × Int × Int × Int:=if c.E = 0 then (l,c.k,0,0) else ([],0,c.E,c.F)
def parse (ts:List RT)(P:PX)(f:Nat)(k o:Int):Option (Sm × Int × Int × Int):=
 match (run ts P f).1 ⟨⟨k,0,0⟩,clamp o⟩ with
 | none => none
 | some (x,s) => some (stEnd x s.c)
def parseB (ts:List RT)(P:PX)(f:Nat)(k o:Int):Option (List Sm × Int × Int × Int):=
 match (run ts P f).2 ⟨⟨k,0,0⟩,clamp o⟩ with
 | none => none
 | some (l,s) => some (blEnd l s.c)
end Ps
namespace Qs
open Go.RowKit
open Px (RT tokAt isT levelT)
open Pe (Ex inc dec)
open Qe (Q)
open Ps (Sm kindOf nameOf)
abbrev Out:=Option (Sm × Q)
abbrev OutB:=Option (List Sm × Q)
abbrev RX:=Q → Option (Ex × Q)
def decl (ts:List RT)(s:Q):List UInt8 × List UInt8 × Nat × Q:=
 ((Qe.name ts (Qe.next s)).1,Qe.of ts (Qe.take ts (Qe.name ts (Qe.next s)).2 false [58]))
def declared (ts:List RT)(rx:RX)(s:Q):Out:=
 let d:=decl ts s
 if (tokAt ts s.k).text = [108,101,116] then
    match rx (Qe.take ts d.2.2.2 false [61]) with
    | none => none
    | some (e,s2) => some (.mk 2 d.1 d.2.1 d.2.2.1 [e] [] [] (tokAt ts s.k).at_ 0,Qe.take ts s2 false [59])
 else some (.mk 1 d.1 d.2.1 d.2.2.1 [] [] [] (tokAt ts s.k).at_ 0,Qe.take ts d.2.2.2 false [59])
def choice (ts:List RT)(rx:RX)(recB:Q → OutB)(s:Q):Out:=
 match rx (Qe.next s) with
 | none => none
 | some (e,s1) =>
   match recB s1 with
   | none => none
   | some (b,s2) =>
     if Qe.is ts s2 true [101,108,115,101] then
      match recB (Qe.next s2) with
      | none => none
      | some (b2,s3) => some (.mk 5 [] [] 0 [e] b b2 (tokAt ts s.k).at_ 0,s3)
     else some (.mk 5 [] [] 0 [e] b [] (tokAt ts s.k).at_ 0,s2)
def loop (ts:List RT)(rx:RX)(recB:Q → OutB)(s:Q):Out:=
 match rx (Qe.next s) with
 | none => none
 | some (e,s1) =>
   match recB s1 with
   | none => none
   | some (b,s2) => some (.mk 6 [] [] 0 [e] b [] (tokAt ts s.k).at_ 0,s2)
def result (ts:List RT)(rx:RX)(s:Q):Out:=
 if Qe.is ts (Qe.next s) false [59] then some (.mk 7 [] [] 0 [] [] [] (tokAt ts s.k).at_ 0,Qe.take ts (Qe.next s) false [59])
 else match rx (Qe.next s) with
    | none => none
    | some (e,s2) => some (.mk 7 [] [] 0 [e] [] [] (tokAt ts s.k).at_ 0,Qe.take ts s2 false [59])
def output (ts:List RT)(rx:RX)(s:Q):Out:=
 match rx (Qe.next s) with
 | none => none
 | some (e,s2) => some (.mk 8 [] [] 0 [e] [] [] (tokAt ts s.k).at_ 0,Qe.take ts s2 false [59])
def plainDo (ts:List RT)(at_:Int)(e:Ex)(s:Q):Sm × Q:=
 (.mk 9 [] [] 0 [e] [] [] at_ 0,Qe.take ts (if Qe.is ts s false [59] = true ∧ kindOf e ≠ 7 then Qe.fail ts s 2 else s) false [59])
def plainPut (ts:List RT)(rx:RX)(at_:Int)(e:Ex)(s:Q):Out:=
 match rx (Qe.take ts (if kindOf e ≠ 4 ∧ kindOf e ≠ 5 ∧ kindOf e ≠ 6 then Qe.fail ts s 2 else s) false [61]) with
 | none => none
 | some (b,s2) => some (if kindOf e = 4 then .mk 3 (nameOf e) [] 0 [b] [] [] at_ 0 else .mk 4 [] [] 0 [e,b] [] [] at_ 0,Qe.take ts s2 false [59])
def plain (ts:List RT)(rx:RX)(at_:Int)(s:Q):Out:=
 match rx s with
 | none => none
 | some (e,s1) => if Qe.is ts s1 false [61] then plainPut ts rx at_ e s1 else some (plainDo ts at_ e s1)
def stmt (ts:List RT)(rx:RX)(recB:Q → OutB)(s:Q):Out:=
 if Qe.is ts s true [118,97,114] || Qe.is ts s true [108,101,116] then declared ts rx s
 else if Qe.is ts s true [105,102] then choice ts rx recB s
 else if Qe.is ts s true [119,104,105,108,101] then loop ts rx recB s
 else if Qe.is ts s true [114,101,116,117,114,110] then result ts rx s
 else if Qe.is ts s true [112,114,105,110,116] then output ts rx s
 else plain ts rx (tokAt ts s.k).at_ s
def stLoop (ts:List RT)(recS:Q → Out):Nat → List Sm → Q → OutB
 | 0,_,_ => none
 | g + 1,l,s =>
   if s.E = 0 ∧ Qe.is ts s false [125] = false then
     match recS s with
     | none => none
     | some (x,s2) => stLoop ts recS g (l ++ [x]) s2
   else some (l,s)
def block (ts:List RT)(recS:Q → Out)(g:Nat)(s:Q):OutB:=
 match stLoop ts recS g [] (Qe.opens ts s [123]) with
 | none => none
 | some (l,s2) => some (l,Qe.closes ts s2 [125])
def run (ts:List RT)(rx:RX):Nat → (Q → Out) × (Q → OutB)
 | 0 => (fun _ => none,fun _ => none)
 | f + 1 => (stmt ts rx (run ts rx f).2,block ts (run ts rx f).1 f)
def stEnd (x:Sm)(s:Q):Sm × Int × Int × Int:=if s.E = 0 then (x,s.k,0,0) else (Sm.zero,0,s.E,s.F)
def blEnd (l:List Sm)(s:Q):List Sm × Int × Int × Int:=if s.E = 0 then (l,s.k,0,0) else ([],0,s.E,s.F)
def parse (ts:List RT)(rx:RX)(f:Nat)(k o:Int):Option (Sm × Int × Int × Int):=
 match (run ts rx f).1 ⟨k,max o 0,0,0⟩ with
 | none => none
 | some (x,s) => some (stEnd x s)
def parseB (ts:List RT)(rx:RX)(f:Nat)(k o:Int):Option (List Sm × Int × Int × Int):=
 match (run ts rx f).2 ⟨k,max o 0,0,0⟩ with
 | none => none
 | some (l,s) => some (blEnd l s)
end Qs
open Go.RowKit
open Px (RT tokAt)
open Pe
open Ps (Sm)
structure Ag (B:Nat) (w w':World):Prop where
 size:w.heap.size ≤ w'.heap.size
 block:∀ bl,B ≤ bl → bl < w.heap.size → w'.heap[bl]? = w.heap[bl]?
theorem Ag.refl (B:Nat)(w:World):Ag B w w:=⟨Nat.le_refl _,fun _ _ _ => rfl⟩
theorem Ag.trans {B:Nat}{w w1 w2:World}(h:Ag B w w1)(g:Ag B w1 w2):Ag B w w2:=
 ⟨Nat.le_trans h.size g.size,fun bl h1 h2 => (g.block bl h1 (Nat.lt_of_lt_of_le h2 h.size)).trans (h.block bl h1 h2)⟩
theorem Ag.gr {B R:Nat}{w w':World}(hg:Gr R w w')(hR:R < B):Ag B w w':=⟨hg.size,fun bl h1 h2 => hg.block bl h2 (by omega)⟩
theorem Ag.below {B:Nat}{w w':World}(hb:Below w.heap.size w w'):Ag B w w':=⟨hb.size,fun bl _ h2 => hb.block bl h2⟩
theorem Ag.set {B:Nat}{w w1:World}(h:Ag B w w1){p:Addr}(hp:p.block < B ∨ w.heap.size ≤ p.block)(u:Value):Ag B w (w1.setCell p u):=
 ⟨by rw [zY]; exact h.size,fun bl h1 h2 => (Below.heap_setCell w1 p u bl (by omega)).trans (h.block bl h1 h2)⟩
theorem Is.ag {w w':World}{B:Nat}{e:Ex}{vs:List Value}(h:Is w B e vs)(g:Ag B w w'):Is w' B e vs:=Is.keep g.size g.block e h
theorem KidsAt.ag {w w':World}{B:Nat}{p:Option Addr}{l:List Ex}(h:KidsAt w B p l)(g:Ag B w w'):KidsAt w' B p l:=by
 rcases h with h0 | ⟨bl,off,hp,hb,hne,ha⟩
 ·exact .inl h0
 ·exact .inr ⟨bl,off,hp,Nat.lt_of_lt_of_le hb g.size,hne,At.keep g.size g.block l off hb hne ha⟩
def smCells (kind:Int)(name ofn:List UInt8)(dims:Int)(ev bv lv:Value)(at_ ref:Int):List Value:=
 [.int .i64 kind,.string (cbs name),.string (cbs ofn),.int .i64 dims,ev,bv,lv,.int .i64 at_,.int .i64 ref]
mutual
def SIs (w:World)(B:Nat):Sm → List Value → Prop
 | .mk kind name ofn dims es body els at_ ref,vs => ∃ p c q d r f,vs = smCells kind name ofn dims (.slice p es.length c) (.slice q body.length d) (.slice r els.length f) at_ ref ∧ KidsAt w B p es ∧
  (body = [] ∨ ∃ bl off,q = some ⟨bl,off,none⟩ ∧ bl < w.heap.size ∧ B ≤ bl ∧ SAt w B bl off body) ∧
  (els = [] ∨ ∃ bl off,r = some ⟨bl,off,none⟩ ∧ bl < w.heap.size ∧ B ≤ bl ∧ SAt w B bl off els)
def SAt (w:World)(B bl:Nat):Nat → List Sm → Prop
 | _,[] => True
 | off,x :: xs => (∃ vs,SIs w B x vs ∧ ∀ (i:Nat) (v:Value),vs[i]? = some v → w.cell? ⟨bl,off + i,none⟩ = some v) ∧ SAt w B bl (off + 9) xs
end
def SsAt (w:World)(B:Nat)(q:Option Addr)(l:List Sm):Prop:=l = [] ∨ ∃ bl off,q = some ⟨bl,off,none⟩ ∧ bl < w.heap.size ∧ B ≤ bl ∧ SAt w B bl off l
mutual
theorem SIs.ag {w w':World}{B:Nat}(g:Ag B w w'):∀ (x:Sm){vs:List Value},SIs w B x vs → SIs w' B x vs
 | .mk kind name ofn dims es body els at_ ref,vs,h => by
   rw [SIs] at h ⊢
   obtain ⟨p,c,q,d,r,f,hv,hk,hb,he⟩:=h
   refine ⟨p,c,q,d,r,f,hv,hk.ag g,?_,?_⟩
   ·rcases hb with h0 | ⟨bl,off,hp,hl,hne,ha⟩
    ·exact .inl h0
    ·exact .inr ⟨bl,off,hp,Nat.lt_of_lt_of_le hl g.size,hne,SAt.ag g body off hl hne ha⟩
   ·rcases he with h0 | ⟨bl,off,hp,hl,hne,ha⟩
    ·exact .inl h0
    ·exact .inr ⟨bl,off,hp,Nat.lt_of_lt_of_le hl g.size,hne,SAt.ag g els off hl hne ha⟩
theorem SAt.ag {w w':World}{B:Nat}(g:Ag B w w'):∀ (xs:List Sm){bl:Nat}(off:Nat),bl < w.heap.size → B ≤ bl → SAt w B bl off xs → SAt w' B bl off xs
 | [],_,_,_,_,_ => by rw [SAt]; trivial
 | x :: xs,bl,off,hb,hne,h => by
   rw [SAt] at h ⊢
   obtain ⟨⟨vs,hi,hc⟩,hr⟩:=h
   refine ⟨⟨vs,SIs.ag g x hi,fun i v hv => ?_⟩,SAt.ag g xs (off + 9) hb hne hr⟩
   rw [zB6 (g.block bl hne hb)]
   exact hc i v hv
end
mutual
theorem SIs.lower {w:World}{B B2:Nat}(hB:B2 ≤ B):∀ (x:Sm){vs:List Value},SIs w B x vs → SIs w B2 x vs
 | .mk kind name ofn dims es body els at_ ref,vs,h => by
   rw [SIs] at h ⊢
   obtain ⟨p,c,q,d,r,f,hv,hk,hb,he⟩:=h
   refine ⟨p,c,q,d,r,f,hv,hk.lower hB,?_,?_⟩
   ·rcases hb with h0 | ⟨bl,off,hp,hl,hne,ha⟩
    ·exact .inl h0
    ·exact .inr ⟨bl,off,hp,hl,Nat.le_trans hB hne,SAt.lower hB body off ha⟩
   ·rcases he with h0 | ⟨bl,off,hp,hl,hne,ha⟩
    ·exact .inl h0
    ·exact .inr ⟨bl,off,hp,hl,Nat.le_trans hB hne,SAt.lower hB els off ha⟩
theorem SAt.lower {w:World}{B B2:Nat}(hB:B2 ≤ B):∀ (xs:List Sm){bl:Nat}(off:Nat),SAt w B bl off xs → SAt w B2 bl off xs
 | [],_,_,_ => by rw [SAt]; trivial
 | x :: xs,bl,off,h => by
   rw [SAt] at h ⊢
   obtain ⟨⟨vs,hi,hc⟩,hr⟩:=h
   exact ⟨⟨vs,SIs.lower hB x hi,hc⟩,SAt.lower hB xs (off + 9) hr⟩
end
theorem SsAt.ag {w w':World}{B:Nat}{p:Option Addr}{l:List Sm}(h:SsAt w B p l)(g:Ag B w w'):SsAt w' B p l:=by
 rcases h with h0 | ⟨bl,off,hp,hb,hne,ha⟩
 ·exact .inl h0
 ·exact .inr ⟨bl,off,hp,Nat.lt_of_lt_of_le hb g.size,hne,SAt.ag g l off hb hne ha⟩
theorem SsAt.lower {w:World}{B B2:Nat}{q:Option Addr}{l:List Sm}(h:SsAt w B q l)(hB:B2 ≤ B):SsAt w B2 q l:=by
 rcases h with h0 | ⟨bl,off,hp,hb,hne,ha⟩
 ·exact .inl h0
 ·exact .inr ⟨bl,off,hp,hb,Nat.le_trans hB hne,SAt.lower hB l off ha⟩
theorem SIs.mk {w:World}{B:Nat}{p q r:Option Addr}{c d f:Nat}{es:List Ex}{body els:List Sm}(he:KidsAt w B p es)(hb:SsAt w B q body)(hl:SsAt w B r els)(kind:Int)(name ofn:List UInt8)(dims at_ ref:Int) :
 SIs w B (.mk kind name ofn dims es body els at_ ref) (smCells kind name ofn dims (.slice p es.length c) (.slice q body.length d) (.slice r els.length f) at_ ref):=by
 rw [SIs]
 exact ⟨p,c,q,d,r,f,rfl,he,hb,hl⟩
theorem SIs.out {w:World}{B:Nat}{x:Sm}{vs:List Value}(h:SIs w B x vs):∃ kind name ofn dims ep el ec bp bl bc lp ll lc at_ ref,vs = smCells kind name ofn dims (.slice ep el ec) (.slice bp bl bc) (.slice lp ll lc) at_ ref:=by
 cases x
 rw [SIs] at h
 obtain ⟨p,c,q,d,r,f,hv,-⟩:=h
 exact ⟨_,_,_,_,_,_,_,_,_,_,_,_,_,_,_,hv⟩
theorem SIs.len {w:World}{B:Nat}{x:Sm}{vs:List Value}(h:SIs w B x vs):vs.length = 9:=by
 obtain ⟨_,_,_,_,_,_,_,_,_,_,_,_,_,_,_,rfl⟩:=h.out
 rfl
theorem SIs.put {w:World}{B:Nat}{x:Sm}{kind:Int}{name ofn:List UInt8}{dims:Int}{ev bv lv:Value}{at_ ref:Int}(h:SIs w B x (smCells kind name ofn dims ev bv lv at_ ref))(a:Int) :
 SIs w B (x.put a) (smCells kind name ofn dims ev bv lv a ref):=by
 cases x
 rw [SIs] at h
 rw [Sm.put,SIs]
 obtain ⟨p,c,q,d,r,f,hv,h⟩:=h
 simp only [smCells,List.cons.injEq,Value.int.injEq,Value.string.injEq,true_and,and_true] at hv
 obtain ⟨rfl,hn,ho,rfl,rfl,rfl,rfl,rfl,rfl⟩:=hv
 exact ⟨p,c,q,d,r,f,by simp only [smCells,hn,ho],h⟩
theorem KidsAt.nil {w:World}{B:Nat}{p:Option Addr}:KidsAt w B p []:=.inl rfl
theorem SsAt.nil {w:World}{B:Nat}{p:Option Addr}:SsAt w B p []:=.inl rfl
theorem KidsAt.one {w:World}{B bl:Nat}{T:TypeId}{e:Ex}{vs:List Value}{A:Array Value}(hb:w.heap[bl]? = some (.cells A T (0,0)))(hne:B ≤ bl)(hi:Is w B e vs)(hA:A = ⟨vs⟩):KidsAt w B (some ⟨bl,0,none⟩) [e]:=
 .inr ⟨bl,0,rfl,zA hb,hne,At.one hb hi hA⟩
theorem nen {w1:World}{B:Nat}{T:TypeId}{c0 c1 c2 c3 c4 c5 c6 c7 c8:Value}(h:w1.heap[B]? = some (.cells #[c0,c1,c2,c3,c4,c5,c6,c7,c8] T (0,0))) :
 (w1.cell? ⟨B,0,none⟩ = some c0 ∧ w1.cell? ⟨B,1,none⟩ = some c1 ∧ w1.cell? ⟨B,2,none⟩ = some c2 ∧ w1.cell? ⟨B,3,none⟩ = some c3 ∧ w1.cell? ⟨B,4,none⟩ = some c4 ∧ w1.cell? ⟨B,5,none⟩ = some c5 ∧ w1.cell? ⟨B,6,none⟩ = some c6 ∧ w1.cell? ⟨B,7,none⟩ = some c7 ∧ w1.cell? ⟨B,8,none⟩ = some c8) ∧
 w1.frozen? ⟨B,0,none⟩ = false ∧ w1.frozen? ⟨B,1,none⟩ = false ∧ w1.frozen? ⟨B,2,none⟩ = false ∧ w1.frozen? ⟨B,3,none⟩ = false ∧ w1.frozen? ⟨B,4,none⟩ = false ∧ w1.frozen? ⟨B,5,none⟩ = false ∧ w1.frozen? ⟨B,6,none⟩ = false ∧ w1.frozen? ⟨B,7,none⟩ = false ∧ w1.frozen? ⟨B,8,none⟩ = false:=by
 refine ⟨⟨?_,?_,?_,?_,?_,?_,?_,?_,?_⟩,?_,?_,?_,?_,?_,?_,?_,?_,?_⟩ <;> first | exact frozen_of_row _ _ _ _ _ h | (rw [cell_of_row _ _ _ _ _ _ h]; rfl)
structure Fr {σ:Type} (w:World) (R:Nat) (K : σ → World → Prop) (s : σ) (L:List (Nat × Obj)) (T:List (Nat × World)) (wr:World):Prop where
 rd:K s wr
 gr:Gr R w wr
 lt:R < w.heap.size
 held:∀ s wA wB,Nw R w wA wB → K s wA → K s wB
 keep:∀ p ∈ L,wr.heap[p.1]? = some p.2 ∧ w.heap.size ≤ p.1
 nd:L.Pairwise fun p q => q.1 < p.1
 ag:∀ q ∈ T,Ag q.1 q.2 wr ∧ w.heap.size ≤ q.1
 sep:∀ p ∈ L,∀ q ∈ T,p.1 < q.1 ∨ q.2.heap.size ≤ p.1
section
variable {σ:Type} {w wr:World} {R:Nat} {K : σ → World → Prop} {s s2 : σ} {L:List (Nat × Obj)} {T:List (Nat × World)}
theorem Fr.start (K : σ → World → Prop)(h:K s w)(lt:R < w.heap.size)(held:∀ s wA wB,Nw R w wA wB → K s wA → K s wB):Fr w R K s [] [] w:=
 ⟨h,Gr.refl _ _,lt,held,fun _ h => absurd h (by simp),.nil,fun _ h => absurd h (by simp),fun _ h => absurd h (by simp)⟩
theorem Fr.go {w':World}(h:Fr w R K s L T wr)(hb:Below wr.heap.size wr w'):Fr w R K s L T w':=
 ⟨h.held s wr w' ⟨hb.mono h.gr.size,h.gr.below hb⟩ h.rd,h.gr.below hb,h.lt,h.held,fun p hp => ⟨(hb.block _ (zA (h.keep p hp).1)).trans (h.keep p hp).1,(h.keep p hp).2⟩,h.nd,
  fun q hq => ⟨(h.ag q hq).1.trans (Ag.below hb),(h.ag q hq).2⟩,h.sep⟩
theorem Fr.step {w':World}(h:Fr w R K s L T wr)(hr:K s2 w')(hg:Gr R wr w'):Fr w R K s2 L T w':=
 ⟨hr,h.gr.trans hg,h.lt,h.held,fun p hp => ⟨hg.box (h.keep p hp).1 (by have:=(h.keep p hp).2; have:=h.lt; omega),(h.keep p hp).2⟩,h.nd,
  fun q hq => ⟨(h.ag q hq).1.trans (Ag.gr hg (by have:=(h.ag q hq).2; have:=h.lt; omega)),(h.ag q hq).2⟩,h.sep⟩
theorem Fr.tree {w':World}{B:Nat}(h:Fr w R K s L T w')(hB:w.heap.size ≤ B)(hL:∀ p ∈ L,p.1 < B):Fr w R K s L ((B,w') :: T) w':=
 ⟨h.rd,h.gr,h.lt,h.held,h.keep,h.nd,fun q hq => (List.mem_cons.1 hq).elim (fun e => by subst e; exact ⟨Ag.refl _ _,hB⟩) (h.ag q),
  fun p hp q hq => (List.mem_cons.1 hq).elim (fun e => by subst e; exact .inl (hL p hp)) (h.sep p hp q)⟩
theorem Fr.call {w':World}(h:Fr w R K s L T wr)(hr:K s2 w')(hg:Gr R wr w'):Fr w R K s2 L ((wr.heap.size,w') :: T) w':=
 (h.step hr hg).tree h.gr.size fun p hp => zA (h.keep p hp).1
theorem Fr.alloc (h:Fr w R K s L T wr)(o:Obj):Fr w R K s ((wr.heap.size,o) :: L) T (wr.alloc o):=by
 have hb:Below wr.heap.size wr (wr.alloc o):=(Below.refl _ _).alloc (Nat.le_refl _) _
 have g:=h.go hb
 refine ⟨g.rd,g.gr,g.lt,g.held,fun p hp => ?_,List.pairwise_cons.2 ⟨fun p hp => zA (h.keep p hp).1,h.nd⟩,g.ag,fun p hp q hq => ?_⟩
 ·rcases List.mem_cons.1 hp with rfl | hp
  ·exact ⟨heap_alloc_new wr o,h.gr.size⟩
  ·exact g.keep p hp
 ·rcases List.mem_cons.1 hp with rfl | hp
  ·exact .inr (h.ag q hq).1.size
  ·exact h.sep p hp q hq
theorem Fr.set {b:Nat}{o:Obj}(h:Fr w R K s L T wr)(i:Nat)(hi:L[i]? = some (b,o)){p:Addr}(hp:p.block = b)(u:Value)(o2:Obj)(ho:(wr.setCell p u).heap[b]? = some o2):Fr w R K s (L.set i (b,o2)) T (wr.setCell p u):=by
 have hm:=List.mem_of_getElem? hi
 have hb:=(h.keep _ hm).2
 have hn:=(Nw.start h.gr).set (p:=p) (by rw [hp]; exact hb) u
 have hil:i < L.length:=(List.getElem?_eq_some_iff.1 hi).1
 have hne:∀ (j:Nat) (q:Nat × Obj),L[j]? = some q → j ≠ i → q.1 ≠ b:=by
  intro j q hq hji
  have hj:=(List.getElem?_eq_some_iff.1 hq)
  obtain ⟨hj1,hj2⟩:=hj
  obtain ⟨hi1,hi2⟩:=List.getElem?_eq_some_iff.1 hi
  have hpw:=List.pairwise_iff_getElem.1 h.nd
  rcases Nat.lt_or_gt_of_ne hji with hlt | hgt
  ·have:=hpw j i hj1 hi1 hlt
   rw [hj2,hi2] at this
   exact Nat.ne_of_gt this
  ·have:=hpw i j hi1 hj1 hgt
   rw [hj2,hi2] at this
   exact Nat.ne_of_lt this
 have hset:∀ q,q ∈ L.set i (b,o2) → q = (b,o2) ∨ (q ∈ L ∧ q.1 ≠ b):=by
  intro q hq
  obtain ⟨j,hj⟩:=List.mem_iff_getElem?.1 hq
  by_cases hji:j = i
  ·subst hji
   rw [List.getElem?_set_self hil] at hj
   exact .inl (Option.some.inj hj).symm
  ·rw [List.getElem?_set_ne (Ne.symm hji)] at hj
   exact .inr ⟨List.mem_of_getElem? hj,hne j q hj hji⟩
 refine ⟨h.held s wr _ hn h.rd,hn.gr,h.lt,h.held,fun q hq => ?_,?_,fun q hq => ⟨(h.ag q hq).1.set (by rw [hp]; exact h.sep _ hm q hq) u,(h.ag q hq).2⟩,fun q hq t ht => ?_⟩
 ·rcases hset q hq with rfl | ⟨hq,hqb⟩
  ·exact ⟨ho,hb⟩
  ·exact ⟨(Below.heap_setCell wr p u q.1 (by rw [hp]; exact hqb)).trans (h.keep q hq).1,(h.keep q hq).2⟩
 ·have hfst:(L.set i (b,o2)).map (·.1) = L.map (·.1):=by
   apply List.ext_getElem?
   intro j
   rw [List.getElem?_map,List.getElem?_map]
   by_cases hji:j = i
   ·subst hji
    rw [List.getElem?_set_self hil,hi]
    rfl
   ·rw [List.getElem?_set_ne (Ne.symm hji)]
  have h2:(L.map (·.1)).Pairwise fun p q => q < p:=List.pairwise_map.2 h.nd
  rw [← hfst] at h2
  exact List.pairwise_map.1 h2
 ·rcases hset q hq with rfl | ⟨hq,-⟩
  ·exact h.sep _ hm t ht
  ·exact h.sep q hq t ht
theorem Fr.done (h:Fr w R K s L T wr):K s wr ∧ Gr R w wr:=⟨h.rd,h.gr⟩
end
end Go.Proofs.YteadgahhchlgeaaDoor
