/-
  What a list of tokens is as an expression, in plain data (no
-/
import Derived.Below
import Derived.RowKit
namespace Go.Proofs.YtmiiplefgkcklaaDoor
namespace Px
structure RT where
 kind:Int
 text:List UInt8
 num:Int
 at_:Int
def RT.none:RT:=⟨0,[],0,0⟩
def tokAt (l:List RT)(k:Int):RT:=if 0 ≤ k ∧ k < (l.length:Int) then l.getD k.toNat RT.none else RT.none
def isT (l:List RT)(k:Int)(word:Bool)(text:List UInt8):Bool:=
 decide ((tokAt l k).kind = (if word then 3 else 4)) && (tokAt l k).text == text
def signsOf:Nat → List (List UInt8 × Int)
 | 0 => [([124,124],24)]
 | 1 => [([38,38],23)]
 | 2 => [([60],19),([60,61],20),([61,61],21),([33,61],22)]
 | 3 => [([43],14),([45],15)]
 | 4 => [([42],16),([47],17),([37],18)]
 | _ => []
def levelT (n:Nat)(t:RT):Int:=if t.kind = 4 then ((signsOf n).find? fun p => p.1 == t.text).elim 0 (·.2) else 0
theorem tokAt_out {l:List RT}{k:Int}(h:¬ (0 ≤ k ∧ k < (l.length:Int))):tokAt l k = RT.none:=if_neg h
end Px
end Go.Proofs.YtmiiplefgkcklaaDoor
namespace Go.Proofs.YtmiiplefgkcklaaDoor
namespace Pe
open Go.RowKit
open Px (RT tokAt)
structure Cs where
 k:Int
 E:Int
 F:Int
structure St where
 c:Cs
 o:Int
inductive Ex where
 | mk (kind num:Int) (name ofn:List UInt8) (dims:Int) (kids:List Ex) (at_ b r d ref:Int)
def Ex.zero:Ex:=.mk 0 0 [] [] 0 [] 0 0 0 0 0
def Ex.of (kind num:Int)(name ofn:List UInt8)(dims:Int)(kids:List Ex)(at_:Int):Ex:=.mk kind num name ofn dims kids at_ 0 0 0 0
def inc (x:Int):Int:=wrap64 (x + 1)
def dec (x:Int):Int:=wrap64 (x - 1)
def peek (ts:List RT)(s:Cs):RT:=if s.E = 0 then tokAt ts s.k else RT.none
def next (s:Cs):Cs:=⟨inc s.k,s.E,s.F⟩
def sees (ts:List RT)(s:Cs)(kind:Int)(text:List UInt8):Bool:=decide ((peek ts s).kind = kind) && (peek ts s).text == text
def fail (ts:List RT)(s:Cs)(e:Int):Cs:=if s.E = 0 then ⟨s.k,e,(tokAt ts s.k).at_⟩ else s
def failUnless (ts:List RT)(s:Cs)(e:Int)(b:Bool):Cs:=if b then s else fail ts s e
def sign (ts:List RT)(s:Cs)(text:List UInt8):RT × Cs:=
 let s1:=failUnless ts s 2 (sees ts s 4 text)
 (peek ts s1,next s1)
def name (ts:List RT)(s:Cs):List UInt8 × Cs:=
 let s1:=failUnless ts s 2 (decide ((peek ts s).kind = 1))
 ((peek ts s1).text,next s1)
def dims (ts:List RT):Nat → Cs → Nat × Cs
 | 0,s => (0,if sees ts s 4 [91] then fail ts s 4 else s)
 | n + 1,s => if sees ts s 4 [91] then ((dims ts n (next s)).1 + 1,(dims ts n (next s)).2) else (0,s)
def base (ts:List RT)(s:Cs):List UInt8 × Cs:=
 if sees ts s 3 [105,110,116] || sees ts s 3 [98,111,111,108] then ((peek ts s).text,next s) else name ts s
def shut (ts:List RT):Nat → Cs → Cs
 | 0,s => s
 | n + 1,s => shut ts n (sign ts s [93]).2
def readType (ts:List RT)(s:Cs):List UInt8 × Nat × Cs:=
 ((base ts (dims ts 3 s).2).1,(dims ts 3 s).1,shut ts (dims ts 3 s).1 (base ts (dims ts 3 s).2).2)
def ofEnd (n:List UInt8)(d:Nat)(s:Cs):List UInt8 × Nat × Int × Int × Int:=if s.E = 0 then (n,d,s.k,0,0) else ([],0,0,s.E,s.F)
def ofAns (ts:List RT)(k:Int):List UInt8 × Nat × Int × Int × Int:=ofEnd (readType ts ⟨k,0,0⟩).1 (readType ts ⟨k,0,0⟩).2.1 (readType ts ⟨k,0,0⟩).2.2
end Pe
namespace Pe
open Go.RowKit
open Px (RT tokAt)
def enter (ts:List RT)(s:St)(text:List UInt8):RT × St:=
 let c1:=if sees ts s.c 4 text && decide (s.o = 50) then fail ts s.c 4 else s.c
 ((sign ts c1 text).1,⟨(sign ts c1 text).2,inc s.o⟩)
def leave (ts:List RT)(s:St)(text:List UInt8):St:=⟨(sign ts s.c text).2,dec s.o⟩
def refuse (ts:List RT)(s:St):Ex × St:=(Ex.zero,⟨fail ts s.c 2,s.o⟩)
def opList:List (List UInt8 × Int × Int):=[([124,124],1,24),([38,38],2,23),([60],3,19),([60,61],3,20),([61,61],3,21),([33,61],3,22),([43],4,14),([45],4,15),([42],5,16),([47],5,17),([37],5,18)]
def seesOp (ts:List RT)(c:Cs)(level:Int):Option Int:=(opList.find? fun o => decide (o.2.1 = level) && sees ts c 4 o.1).map (·.2.2)
abbrev Out:=Option (Ex × St)
def enclosed (ts:List RT)(rec:Nat → St → Out)(s:St)(a b:List UInt8):Out:=
 match rec 1 (enter ts s a).2 with
 | none => none
 | some (e,s2) => some (e,leave ts s2 b)
def field (ts:List RT)(of:Ex)(s:St):Ex × St:=
 (Ex.of 5 0 (name ts (sign ts s.c [46]).2).1 [] 0 [of] (sign ts s.c [46]).1.at_,⟨(name ts (sign ts s.c [46]).2).2,s.o⟩)
def item (ts:List RT)(rec:Nat → St → Out)(of:Ex)(s:St):Out:=
 match enclosed ts rec s [91] [93] with
 | none => none
 | some (i,s2) => some (Ex.of 6 0 [] [] 0 [of,i] (peek ts s.c).at_,s2)
def number (ts:List RT)(s:St):Ex × St:=(Ex.of 1 (peek ts s.c).num [] [] 0 [] (peek ts s.c).at_,⟨next s.c,s.o⟩)
def argLoop (ts:List RT)(rec:Nat → St → Out):Nat → List Ex → St → Option (List Ex × St)
 | 0,_,_ => none
 | g + 1,l,s => if sees ts s.c 4 [44] then
     match rec 1 ⟨next s.c,s.o⟩ with
     | none => none
     | some (e,s2) => argLoop ts rec g (l ++ [e]) s2
   else some (l,s)
def args (ts:List RT)(rec:Nat → St → Out)(g:Nat)(s:St):Option (List Ex × St):=
 match (if sees ts (enter ts s [40]).2.c 4 [41] then some ([],(enter ts s [40]).2) else match rec 1 (enter ts s [40]).2 with | none => none | some (e,s2) => some ([e],s2)) with
 | none => none
 | some (l,s2) => match argLoop ts rec g l s2 with
   | none => none
   | some (l3,s3) => some (l3,leave ts s3 [41])
def varOrCall (ts:List RT)(rec:Nat → St → Out)(g:Nat)(s:St):Out:=
 let n:=name ts s.c
 if sees ts n.2 4 [40] then
    match args ts rec g ⟨n.2,s.o⟩ with
    | none => none
    | some (l,s2) => some (Ex.of 7 0 n.1 [] 0 l (peek ts s.c).at_,s2)
 else some (Ex.of 4 0 n.1 [] 0 [] (peek ts s.c).at_,⟨n.2,s.o⟩)
def truth (ts:List RT)(s:St):Ex × St:=(Ex.of 2 (if (peek ts s.c).text = [116,114,117,101] then 1 else 0) [] [] 0 [] (peek ts s.c).at_,⟨next s.c,s.o⟩)
def null (ts:List RT)(s:St):Ex × St:=
 let t:=readType ts (next s.c)
 (Ex.of 3 0 [] t.1 t.2.1 [] (peek ts s.c).at_,⟨t.2.2,s.o⟩)
def creation (ts:List RT)(rec:Nat → St → Out)(s:St):Out:=
 let c:=next s.c
 if sees ts c 4 [91] then
    let t:=readType ts (next c)
    match enclosed ts rec ⟨(sign ts t.2.2 [93]).2,s.o⟩ [40] [41] with
    | none => none
    | some (e,s2) => some (Ex.of 9 0 [] t.1 t.2.1 [e] (peek ts s.c).at_,s2)
 else some (Ex.of 8 0 [] (name ts c).1 0 [] (peek ts s.c).at_,⟨(name ts c).2,s.o⟩)
def length (ts:List RT)(rec:Nat → St → Out)(s:St):Out:=
 match enclosed ts rec ⟨next s.c,s.o⟩ [40] [41] with
 | none => none
 | some (e,s2) => some (Ex.of 10 0 [] [] 0 [e] (peek ts s.c).at_,s2)
def input (ts:List RT)(s:St):Ex × St:=
 (Ex.of 11 0 [] [] 0 [] (peek ts s.c).at_,leave ts (enter ts ⟨next s.c,s.o⟩ [40]).2 [41])
def keyword (ts:List RT)(rec:Nat → St → Out)(s:St):Out:=
 let x:=(peek ts s.c).text
 if x = [116,114,117,101] then some (truth ts s)
 else if x = [102,97,108,115,101] then some (truth ts s)
 else if x = [110,117,108,108] then some (null ts s)
 else if x = [110,101,119] then creation ts rec s
 else if x = [108,101,110] then length ts rec s
 else if x = [114,101,97,100] then some (input ts s)
 else some (refuse ts s)
def primary (ts:List RT)(rec:Nat → St → Out)(g:Nat)(s:St):Out:=
 let k:=(peek ts s.c).kind
 if k = 1 then varOrCall ts rec g s
 else if k = 2 then some (number ts s)
 else if k = 3 then keyword ts rec s
 else if k = 4 then enclosed ts rec s [40] [41]
 else some (refuse ts s)
def sufLoop (ts:List RT)(rec:Nat → St → Out):Nat → Ex → St → Out
 | 0,_,_ => none
 | g + 1,e,s =>
   if (peek ts s.c).kind = 4 then
     if (peek ts s.c).text = [46] then sufLoop ts rec g (field ts e s).1 (field ts e s).2
     else if (peek ts s.c).text = [91] then
       match item ts rec e s with
       | none => none
       | some (e2,s2) => sufLoop ts rec g e2 s2
     else some (e,s)
   else some (e,s)
def postfix_ (ts:List RT)(rec:Nat → St → Out)(g:Nat)(s:St):Out:=
 match primary ts rec g s with
 | none => none
 | some (e,s2) => sufLoop ts rec g e s2
def prefixed (ts:List RT)(recU:St → Out)(s:St)(text:List UInt8)(kind:Int):Out:=
 match recU (enter ts s text).2 with
 | none => none
 | some (e,s2) => some (Ex.of kind 0 [] [] 0 [e] (enter ts s text).1.at_,⟨s2.c,dec s2.o⟩)
def unary (ts:List RT)(rec:Nat → St → Out)(recU:St → Out)(g:Nat)(s:St):Out:=
 if sees ts s.c 4 [45] then prefixed ts recU s [45] 12
 else if sees ts s.c 4 [33] then prefixed ts recU s [33] 13
 else postfix_ ts rec g s
def binLoop (ts:List RT)(rec:Nat → St → Out)(n:Nat):Nat → Ex → St → Out
 | 0,_,_ => none
 | g + 1,l,s =>
   match seesOp ts s.c n with
   | none => some (l,s)
   | some kind => match rec (n + 1) ⟨next s.c,s.o⟩ with
     | none => none
     | some (r,s2) => binLoop ts rec n g (Ex.of kind 0 [] [] 0 [l,r] (peek ts s.c).at_) s2
def run (ts:List RT):Nat → (Nat → St → Out) × (St → Out)
 | 0 => (fun _ _ => none,fun _ => none)
 | f + 1 => (fun n s => if 5 < n then (run ts f).2 s else
     match (run ts f).1 (n + 1) s with
     | none => none
     | some (l,s1) => binLoop ts (run ts f).1 n f l s1,
   fun s => unary ts (run ts f).1 (run ts f).2 f s)
def clamp (o:Int):Int:=min (max o 0) 50
def exEnd (e:Ex)(s:Cs):Ex × Int × Int × Int:=if s.E = 0 then (e,s.k,0,0) else (Ex.zero,0,s.E,s.F)
def parse (ts:List RT)(f:Nat)(k o:Int):Option (Ex × Int × Int × Int):=
 match (run ts f).1 1 ⟨⟨k,0,0⟩,clamp o⟩ with
 | none => none
 | some (e,s) => some (exEnd e s.c)
end Pe
namespace Qe
open Go.RowKit
open Px (RT tokAt isT levelT)
open Pe (Ex inc dec)
structure Q where
 k:Int
 o:Int
 E:Int
 F:Int
def next (s:Q):Q:=⟨inc s.k,s.o,s.E,s.F⟩
def is (ts:List RT)(s:Q)(wd:Bool)(t:List UInt8):Bool:=s.E == 0 && isT ts s.k wd t
def fail (ts:List RT)(s:Q)(e:Int):Q:=if s.E = 0 then ⟨s.k,s.o,e,(tokAt ts s.k).at_⟩ else s
def take (ts:List RT)(s:Q)(wd:Bool)(t:List UInt8):Q:=if is ts s wd t then next s else fail ts s 2
def opens (ts:List RT)(s:Q)(t:List UInt8):Q:=
 if is ts s false t && decide (50 ≤ s.o) then fail ts s 4 else ⟨(take ts s false t).k,inc (take ts s false t).o,(take ts s false t).E,(take ts s false t).F⟩
def closes (ts:List RT)(s:Q)(t:List UInt8):Q:=⟨(take ts s false t).k,dec (take ts s false t).o,(take ts s false t).E,(take ts s false t).F⟩
def name (ts:List RT)(s:Q):List UInt8 × Q:=if s.E = 0 ∧ (tokAt ts s.k).kind = 1 then ((tokAt ts s.k).text,next s) else ([],fail ts s 2)
def dims (ts:List RT):Nat → Q → Option Nat × Q
 | 0,s => if is ts s false [91] then (none,fail ts s 4) else (some 0,s)
 | n + 1,s => if is ts s false [91] then ((dims ts n (next s)).1.map (· + 1),(dims ts n (next s)).2) else (some 0,s)
def base (ts:List RT)(s:Q):List UInt8 × Q:=
 if is ts s true [105,110,116] || is ts s true [98,111,111,108] then ((tokAt ts s.k).text,next s) else name ts s
def shut (ts:List RT):Nat → Q → Q
 | 0,s => s
 | n + 1,s => shut ts n (take ts s false [93])
def of (ts:List RT)(s:Q):List UInt8 × Nat × Q:=
 match (dims ts 3 s).1 with
 | none => ([],0,(dims ts 3 s).2)
 | some d => ((base ts (dims ts 3 s).2).1,d,shut ts d (base ts (dims ts 3 s).2).2)
abbrev Out:=Option (Ex × Q)
def sign (ts:List RT)(s:Q)(n:Nat):Int:=if s.E = 0 then levelT n (tokAt ts s.k) else 0
def inner (ts:List RT)(rec:Nat → Q → Out)(s:Q):Out:=
 match rec 0 (opens ts s [40]) with
 | none => none
 | some (e,s2) => some (e,closes ts s2 [41])
def argLoop (ts:List RT)(rec:Nat → Q → Out):Nat → List Ex → Q → Option (List Ex × Q)
 | 0,_,_ => none
 | g + 1,l,s => if is ts s false [44] then
     match rec 0 (next s) with
     | none => none
     | some (e,s2) => argLoop ts rec g (l ++ [e]) s2
   else some (l,s)
def args (ts:List RT)(rec:Nat → Q → Out)(g:Nat)(s:Q):Option (List Ex × Q):=
 if is ts (opens ts s [40]) false [41] then some ([],closes ts (opens ts s [40]) [41]) else
 match rec 0 (opens ts s [40]) with
 | none => none
 | some (e,s2) => match argLoop ts rec g [e] s2 with
   | none => none
   | some (l,s3) => some (l,closes ts s3 [41])
def fresh (ts:List RT)(rec:Nat → Q → Out)(s:Q)(at_:Int):Out:=
 if is ts s false [91] then
    let t:=of ts (next s)
    match inner ts rec (take ts t.2.2 false [93]) with
    | none => none
    | some (e,s2) => some (Ex.of 9 0 [] t.1 t.2.1 [e] at_,s2)
 else some (Ex.of 8 0 [] (name ts s).1 0 [] at_,(name ts s).2)
def first (ts:List RT)(rec:Nat → Q → Out)(g:Nat)(s:Q):Out:=
 let t:=tokAt ts s.k
 if s.E = 0 ∧ t.kind = 2 then some (Ex.of 1 t.num [] [] 0 [] t.at_,next s)
 else if is ts s true [116,114,117,101] then some (Ex.of 2 1 [] [] 0 [] t.at_,next s)
 else if is ts s true [102,97,108,115,101] then some (Ex.of 2 0 [] [] 0 [] t.at_,next s)
 else if is ts s true [110,117,108,108] then some (Ex.of 3 0 [] (of ts (next s)).1 (of ts (next s)).2.1 [] t.at_,(of ts (next s)).2.2)
 else if is ts s true [110,101,119] then fresh ts rec (next s) t.at_
 else if is ts s true [108,101,110] then
    match inner ts rec (next s) with
    | none => none
    | some (e,s2) => some (Ex.of 10 0 [] [] 0 [e] t.at_,s2)
 else if is ts s true [114,101,97,100] then some (Ex.of 11 0 [] [] 0 [] t.at_,closes ts (opens ts (next s) [40]) [41])
 else if is ts s false [40] then inner ts rec s
 else
    let n:=name ts s
    if is ts n.2 false [40] then
     match args ts rec g n.2 with
     | none => none
     | some (l,s2) => some (Ex.of 7 0 n.1 [] 0 l t.at_,s2)
    else some (Ex.of 4 0 n.1 [] 0 [] t.at_,n.2)
def behind (ts:List RT)(rec:Nat → Q → Out):Nat → Ex → Q → Out
 | 0,_,_ => none
 | g + 1,e,s =>
   if is ts s false [46] then
     behind ts rec g (Ex.of 5 0 (name ts (next s)).1 [] 0 [e] (tokAt ts s.k).at_) (name ts (next s)).2
   else if is ts s false [91] then
     match rec 0 (opens ts s [91]) with
     | none => none
     | some (i,s2) => behind ts rec g (Ex.of 6 0 [] [] 0 [e,i] (tokAt ts s.k).at_) (closes ts s2 [93])
   else some (e,s)
def prefixed (ts:List RT)(rec:Nat → Q → Out)(s:Q)(t:List UInt8)(kind:Int):Out:=
 match rec 5 (opens ts s t) with
 | none => none
 | some (e,s2) => some (Ex.of kind 0 [] [] 0 [e] (tokAt ts s.k).at_,⟨s2.k,dec s2.o,s2.E,s2.F⟩)
def unary (ts:List RT)(rec:Nat → Q → Out)(g:Nat)(s:Q):Out:=
 if is ts s false [45] then prefixed ts rec s [45] 12
 else if is ts s false [33] then prefixed ts rec s [33] 13
 else match first ts rec g s with
    | none => none
    | some (e,s2) => behind ts rec g e s2
def binLoop (ts:List RT)(rec:Nat → Q → Out)(n:Nat):Nat → Ex → Q → Out
 | 0,_,_ => none
 | g + 1,l,s =>
   if sign ts s n = 0 then some (l,s) else
   match rec (n + 1) (next s) with
   | none => none
   | some (r,s2) => binLoop ts rec n g (Ex.of (sign ts s n) 0 [] [] 0 [l,r] (tokAt ts s.k).at_) s2
def run (ts:List RT):Nat → Nat → Q → Out
 | 0 => fun _ _ => none
 | f + 1 => fun n s => if n = 5 then unary ts (run ts f) f s else
     match run ts f (n + 1) s with
     | none => none
     | some (l,s1) => binLoop ts (run ts f) n f l s1
def exEnd (e:Ex)(s:Q):Ex × Int × Int × Int:=if s.E = 0 then (e,s.k,0,0) else (Ex.zero,0,s.E,s.F)
def expr (ts:List RT)(f:Nat)(k o:Int):Option (Ex × Int × Int × Int):=
 match run ts f 0 ⟨k,max o 0,0,0⟩ with
 | none => none
 | some (e,s) => some (exEnd e s)
def ofEnd (n:List UInt8)(d:Nat)(s:Q):List UInt8 × Nat × Int × Int × Int:=if s.E = 0 then (n,d,s.k,0,0) else ([],0,0,s.E,s.F)
def ofAns (ts:List RT)(k:Int):List UInt8 × Nat × Int × Int × Int:=ofEnd (of ts ⟨k,0,0,0⟩).1 (of ts ⟨k,0,0,0⟩).2.1 (of ts ⟨k,0,0,0⟩).2.2
end Qe
namespace Ps
open Go.RowKit
open Px (RT tokAt)
open Pe
inductive Sm where
 | mk (kind:Int) (name ofn:List UInt8) (dims:Int) (es:List Ex) (body els:List Sm) (at_ ref:Int)
def Sm.zero:Sm:=.mk 0 [] [] 0 [] [] [] 0 0
def Sm.put (a:Int):Sm → Sm
 | .mk kind name ofn dims es body els _ ref => .mk kind name ofn dims es body els a ref
def kindOf:Ex → Int
 | .mk kind _ _ _ _ _ _ _ _ _ _ => kind
def nameOf:Ex → List UInt8
 | .mk _ _ name _ _ _ _ _ _ _ _ => name
abbrev PX:=Int → Int → Ex × Int × Int × Int
abbrev Out:=Option (Sm × St)
abbrev OutB:=Option (List Sm × St)
def rd (P:PX)(s:St):Ex × St:=
 if s.c.E = 0 then
    if (P s.c.k s.o).2.2.1 = 0 then ((P s.c.k s.o).1,⟨⟨(P s.c.k s.o).2.1,s.c.E,s.c.F⟩,s.o⟩)
    else (Ex.zero,⟨⟨s.c.k,(P s.c.k s.o).2.2.1,(P s.c.k s.o).2.2.2⟩,s.o⟩)
 else (Ex.zero,s)
def rdOf (ts:List RT)(s:St):List UInt8 × Nat × St:=
 if s.c.E = 0 then
    if (ofAns ts s.c.k).2.2.2.1 = 0 then ((ofAns ts s.c.k).1,(ofAns ts s.c.k).2.1,⟨⟨(ofAns ts s.c.k).2.2.1,s.c.E,s.c.F⟩,s.o⟩)
    else ([],0,⟨⟨s.c.k,(ofAns ts s.c.k).2.2.2.1,(ofAns ts s.c.k).2.2.2.2⟩,s.o⟩)
 else ([],0,s)
def sgn (ts:List RT)(s:St)(t:List UInt8):St:=⟨(sign ts s.c t).2,s.o⟩
def nxt (s:St):St:=⟨next s.c,s.o⟩
def decl (ts:List RT)(s:St):List UInt8 × List UInt8 × Nat × St:=
 ((name ts (next s.c)).1,rdOf ts (sgn ts ⟨(name ts (next s.c)).2,s.o⟩ [58]))
def variable_ (ts:List RT)(s:St):Sm × St:=
 let d:=decl ts s
 (.mk 1 d.1 d.2.1 d.2.2.1 [] [] [] 0 0,sgn ts d.2.2.2 [59])
def definition (ts:List RT)(P:PX)(s:St):Sm × St:=
 let d:=decl ts s
 let e:=rd P (sgn ts d.2.2.2 [61])
 (.mk 2 d.1 d.2.1 d.2.2.1 [e.1] [] [] 0 0,sgn ts e.2 [59])
def choice (ts:List RT)(P:PX)(recB:St → OutB)(s:St):Out:=
 let e:=rd P (nxt s)
 match recB e.2 with
 | none => none
 | some (b,s2) =>
   if sees ts s2.c 3 [101,108,115,101] then
    match recB (nxt s2) with
    | none => none
    | some (b2,s3) => some (.mk 5 [] [] 0 [e.1] b b2 0 0,s3)
   else some (.mk 5 [] [] 0 [e.1] b [] 0 0,s2)
def loop (P:PX)(recB:St → OutB)(s:St):Out:=
 let e:=rd P (nxt s)
 match recB e.2 with
 | none => none
 | some (b,s2) => some (.mk 6 [] [] 0 [e.1] b [] 0 0,s2)
def result (ts:List RT)(P:PX)(s:St):Sm × St:=
 if sees ts (next s.c) 4 [59] then (.mk 7 [] [] 0 [] [] [] 0 0,sgn ts (nxt s) [59])
 else (.mk 7 [] [] 0 [(rd P (nxt s)).1] [] [] 0 0,sgn ts (rd P (nxt s)).2 [59])
def output (ts:List RT)(P:PX)(s:St):Sm × St:=
 (.mk 8 [] [] 0 [(rd P (nxt s)).1] [] [] 0 0,sgn ts (rd P (nxt s)).2 [59])
def refuse (ts:List RT)(s:St):Sm × St:=(Sm.zero,⟨fail ts s.c 2,s.o⟩)
def call (ts:List RT)(e:Ex)(s:St):Sm × St:=
 if kindOf e = 7 then (.mk 9 [] [] 0 [e] [] [] 0 0,nxt s) else refuse ts s
def assigned (ts:List RT)(P:PX)(s:St):Ex × St:=((rd P (nxt s)).1,sgn ts (rd P (nxt s)).2 [59])
def assignment (ts:List RT)(P:PX)(e:Ex)(s:St):Sm × St:=
 if kindOf e = 4 then (.mk 3 (nameOf e) [] 0 [(assigned ts P s).1] [] [] 0 0,(assigned ts P s).2)
 else if kindOf e = 5 ∨ kindOf e = 6 then (.mk 4 [] [] 0 [e,(assigned ts P s).1] [] [] 0 0,(assigned ts P s).2)
 else refuse ts s
def fromExpr (ts:List RT)(P:PX)(s:St):Sm × St:=
 let e:=rd P s
 if (peek ts e.2.c).kind = 4 then
    if (peek ts e.2.c).text = [59] then call ts e.1 e.2
    else if (peek ts e.2.c).text = [61] then assignment ts P e.1 e.2
    else refuse ts e.2
 else refuse ts e.2
def step (ts:List RT)(P:PX)(recB:St → OutB)(s:St):Out:=
 if (peek ts s.c).kind = 3 then
    if (peek ts s.c).text = [118,97,114] then some (variable_ ts s)
    else if (peek ts s.c).text = [108,101,116] then some (definition ts P s)
    else if (peek ts s.c).text = [105,102] then choice ts P recB s
    else if (peek ts s.c).text = [119,104,105,108,101] then loop P recB s
    else if (peek ts s.c).text = [114,101,116,117,114,110] then some (result ts P s)
    else if (peek ts s.c).text = [112,114,105,110,116] then some (output ts P s)
    else some (fromExpr ts P s)
 else some (fromExpr ts P s)
def statement (ts:List RT)(P:PX)(recB:St → OutB)(s:St):Out:=
 match step ts P recB s with
 | none => none
 | some (x,s2) => some (x.put (peek ts s.c).at_,s2)
def stLoop (ts:List RT)(recS:St → Out):Nat → List Sm → St → OutB
 | 0,_,_ => none
 | g + 1,l,s =>
   if sees ts s.c 4 [125] then some (l,s)
   else if (peek ts s.c).kind = 0 then some (l,s)
   else match recS s with
     | none => none
     | some (x,s2) => stLoop ts recS g (l ++ [x]) s2
def block (ts:List RT)(recS:St → Out)(g:Nat)(s:St):OutB:=
 match stLoop ts recS g [] (enter ts s [123]).2 with
 | none => none
 | some (l,s2) => some (l,leave ts s2 [125])
def run (ts:List RT)(P:PX):Nat → (St → Out) × (St → OutB)
 | 0 => (fun _ => none,fun _ => none)
 | f + 1 => (statement ts P (run ts P f).2,block ts (run ts P f).1 f)
def stEnd (x:Sm)(c:Cs):Sm × Int × Int × Int:=if c.E = 0 then (x,c.k,0,0) else (Sm.zero,0,c.E,c.F)
def blEnd (l:List Sm)(c:Cs):List Sm × Int × Int × Int:=if c.E = 0 then (l,c.k,0,0) else ([],0,c.E,c.F)
def parse (ts:List RT)(P:PX)(f:Nat)(k o:Int):Option (Sm × Int × Int × Int):=
 match (run ts P f).1 ⟨⟨k,0,0⟩,clamp o⟩ with
 | none => none
 | some (x,s) => some (stEnd x s.c)
def parseB (ts:List RT)(P:PX)(f:Nat)(k o:Int):Option (List Sm × Int × Int × Int):=
 match (run ts P f).2 ⟨⟨k,0,0⟩,clamp o⟩ with
 | none => none
 | some (l,s) => some (blEnd l s.c)
end Ps
namespace Qs
open Go.RowKit
open Px (RT tokAt isT levelT)
open Pe (Ex inc dec)
open Qe (Q)
open Ps (Sm kindOf nameOf)
abbrev Out:=Option (Sm × Q)
abbrev OutB:=Option (List Sm × Q)
abbrev RX:=Q → Option (Ex × Q)
def decl (ts:List RT)(s:Q):List UInt8 × List UInt8 × Nat × Q:=
 ((Qe.name ts (Qe.next s)).1,Qe.of ts (Qe.take ts (Qe.name ts (Qe.next s)).2 false [58]))
def declared (ts:List RT)(rx:RX)(s:Q):Out:=
 let d:=decl ts s
 if (tokAt ts s.k).text = [108,101,116] then
    match rx (Qe.take ts d.2.2.2 false [61]) with
    | none => none
    | some (e,s2) => some (.mk 2 d.1 d.2.1 d.2.2.1 [e] [] [] (tokAt ts s.k).at_ 0,Qe.take ts s2 false [59])
 else some (.mk 1 d.1 d.2.1 d.2.2.1 [] [] [] (tokAt ts s.k).at_ 0,Qe.take ts d.2.2.2 false [59])
def choice (ts:List RT)(rx:RX)(recB:Q → OutB)(s:Q):Out:=
 match rx (Qe.next s) with
 | none => none
 | some (e,s1) =>
   match recB s1 with
   | none => none
   | some (b,s2) =>
     if Qe.is ts s2 true [101,108,115,101] then
      match recB (Qe.next s2) with
      | none => none
      | some (b2,s3) => some (.mk 5 [] [] 0 [e] b b2 (tokAt ts s.k).at_ 0,s3)
     else some (.mk 5 [] [] 0 [e] b [] (tokAt ts s.k).at_ 0,s2)
def loop (ts:List RT)(rx:RX)(recB:Q → OutB)(s:Q):Out:=
 match rx (Qe.next s) with
 | none => none
 | some (e,s1) =>
   match recB s1 with
   | none => none
   | some (b,s2) => some (.mk 6 [] [] 0 [e] b [] (tokAt ts s.k).at_ 0,s2)
def result (ts:List RT)(rx:RX)(s:Q):Out:=
 if Qe.is ts (Qe.next s) false [59] then some (.mk 7 [] [] 0 [] [] [] (tokAt ts s.k).at_ 0,Qe.take ts (Qe.next s) false [59])
 else match rx (Qe.next s) with
    | none => none
    | some (e,s2) => some (.mk 7 [] [] 0 [e] [] [] (tokAt ts s.k).at_ 0,Qe.take ts s2 false [59])
def output (ts:List RT)(rx:RX)(s:Q):Out:=
 match rx (Qe.next s) with
 | none => none
 | some (e,s2) => some (.mk 8 [] [] 0 [e] [] [] (tokAt ts s.k).at_ 0,Qe.take ts s2 false [59])
def plainDo (ts:List RT)(at_:Int)(e:Ex)(s:Q):Sm × Q:=
 (.mk 9 [] [] 0 [e] [] [] at_ 0,Qe.take ts (if Qe.is ts s false [59] = true ∧ kindOf e ≠ 7 then Qe.fail ts s 2 else s) false [59])
def plainPut (ts:List RT)(rx:RX)(at_:Int)(e:Ex)(s:Q):Out:=
 match rx (Qe.take ts (if kindOf e ≠ 4 ∧ kindOf e ≠ 5 ∧ kindOf e ≠ 6 then Qe.fail ts s 2 else s) false [61]) with
 | none => none
 | some (b,s2) => some (if kindOf e = 4 then .mk 3 (nameOf e) [] 0 [b] [] [] at_ 0 else .mk 4 [] [] 0 [e,b] [] [] at_ 0,Qe.take ts s2 false [59])
def plain (ts:List RT)(rx:RX)(at_:Int)(s:Q):Out:=
 match rx s with
 | none => none
 | some (e,s1) => if Qe.is ts s1 false [61] then plainPut ts rx at_ e s1 else some (plainDo ts at_ e s1)
def stmt (ts:List RT)(rx:RX)(recB:Q → OutB)(s:Q):Out:=
 if Qe.is ts s true [118,97,114] || Qe.is ts s true [108,101,116] then declared ts rx s
 else if Qe.is ts s true [105,102] then choice ts rx recB s
 else if Qe.is ts s true [119,104,105,108,101] then loop ts rx recB s
 else if Qe.is ts s true [114,101,116,117,114,110] then result ts rx s
 else if Qe.is ts s true [112,114,105,110,116] then output ts rx s
 else plain ts rx (tokAt ts s.k).at_ s
def stLoop (ts:List RT)(recS:Q → Out):Nat → List Sm → Q → OutB
 | 0,_,_ => none
 | g + 1,l,s =>
   if s.E = 0 ∧ Qe.is ts s false [125] = false then
     match recS s with
     | none => none
     | some (x,s2) => stLoop ts recS g (l ++ [x]) s2
   else some (l,s)
def block (ts:List RT)(recS:Q → Out)(g:Nat)(s:Q):OutB:=
 match stLoop ts recS g [] (Qe.opens ts s [123]) with
 | none => none
 | some (l,s2) => some (l,Qe.closes ts s2 [125])
def run (ts:List RT)(rx:RX):Nat → (Q → Out) × (Q → OutB)
 | 0 => (fun _ => none,fun _ => none)
 | f + 1 => (stmt ts rx (run ts rx f).2,block ts (run ts rx f).1 f)
def stEnd (x:Sm)(s:Q):Sm × Int × Int × Int:=if s.E = 0 then (x,s.k,0,0) else (Sm.zero,0,s.E,s.F)
def blEnd (l:List Sm)(s:Q):List Sm × Int × Int × Int:=if s.E = 0 then (l,s.k,0,0) else ([],0,s.E,s.F)
def parse (ts:List RT)(rx:RX)(f:Nat)(k o:Int):Option (Sm × Int × Int × Int):=
 match (run ts rx f).1 ⟨k,max o 0,0,0⟩ with
 | none => none
 | some (x,s) => some (stEnd x s)
def parseB (ts:List RT)(rx:RX)(f:Nat)(k o:Int):Option (List Sm × Int × Int × Int):=
 match (run ts rx f).2 ⟨k,max o 0,0,0⟩ with
 | none => none
 | some (l,s) => some (blEnd l s)
end Qs
namespace Pe
open Go.RowKit
open Px (RT tokAt)
def halts (ts:List RT)(c:Cs):Prop:=(peek ts c).kind = 0 ∨ ((peek ts c).kind = 4 ∧ ((peek ts c).text = [41] ∨ (peek ts c).text = [93]))
theorem zBH {ts:List RT}{c:Cs}(h:c.E ≠ 0):halts ts c:=.inl (by rw [peek,if_neg h]; rfl)
theorem zJE {ts:List RT}{c:Cs}(h:halts ts c)(n:Int):seesOp ts c n = none:=by
 unfold seesOp
 rw [Option.map_eq_none_iff,List.find?_eq_none]
 intro o ho
 simp only [opList,List.mem_cons,List.not_mem_nil,or_false] at ho
 unfold sees
 rcases h with h | ⟨h,h1 | h1⟩
 ·simp [h]
 ·rcases ho with rfl | rfl | rfl | rfl | rfl | rfl | rfl | rfl | rfl | rfl | rfl <;> simp [h,h1]
 ·rcases ho with rfl | rfl | rfl | rfl | rfl | rfl | rfl | rfl | rfl | rfl | rfl <;> simp [h,h1]
theorem zBu {ts:List RT}{s:St}(h:halts ts s.c)(rec:Nat → St → Out)(n g:Nat)(e:Ex):binLoop ts rec n (g + 1) e s = some (e,s):=by
 rw [binLoop,zJE h]
theorem zBb {ts:List RT}{s:St}(h:halts ts s.c)(rec:Nat → St → Out)(g:Nat)(e:Ex):sufLoop ts rec (g + 1) e s = some (e,s):=by
 rw [sufLoop]
 rcases h with h | ⟨h,h1 | h1⟩
 ·rw [if_neg (by rw [h]; decide)]
 ·rw [if_pos h,if_neg (by rw [h1]; decide),if_neg (by rw [h1]; decide)]
 ·rw [if_pos h,if_neg (by rw [h1]; decide),if_neg (by rw [h1]; decide)]
theorem run_up {ts:List RT}{f:Nat}{s s1:St}{e:Ex}(h:(run ts f).2 s = some (e,s1))(hs:halts ts s1.c):(run ts (f + 6)).1 1 s = some (e,s1):=by
 have h6:(run ts (f + 1)).1 6 s = some (e,s1):=by rw [run]; exact h
 have h5:(run ts (f + 2)).1 5 s = some (e,s1):=by
  rw [run]; show (match (run ts (f + 1)).1 6 s with | none => none | some (l,s1) => binLoop ts (run ts (f + 1)).1 5 (f + 1) l s1) = _
  rw [h6]; exact zBu hs _ _ _ _
 have h4:(run ts (f + 3)).1 4 s = some (e,s1):=by
  rw [run]; show (match (run ts (f + 2)).1 5 s with | none => none | some (l,s1) => binLoop ts (run ts (f + 2)).1 4 (f + 2) l s1) = _
  rw [h5]; exact zBu hs _ _ _ _
 have h3:(run ts (f + 4)).1 3 s = some (e,s1):=by
  rw [run]; show (match (run ts (f + 3)).1 4 s with | none => none | some (l,s1) => binLoop ts (run ts (f + 3)).1 3 (f + 3) l s1) = _
  rw [h4]; exact zBu hs _ _ _ _
 have h2:(run ts (f + 5)).1 2 s = some (e,s1):=by
  rw [run]; show (match (run ts (f + 4)).1 3 s with | none => none | some (l,s1) => binLoop ts (run ts (f + 4)).1 2 (f + 4) l s1) = _
  rw [h3]; exact zBu hs _ _ _ _
 rw [run]; show (match (run ts (f + 5)).1 2 s with | none => none | some (l,s1) => binLoop ts (run ts (f + 5)).1 1 (f + 5) l s1) = _
 rw [h2]; exact zBu hs _ _ _ _
theorem peek_dead {ts:List RT}{c:Cs}(h:c.E ≠ 0):peek ts c = RT.none:=if_neg h
theorem sees_dead {ts:List RT}{c:Cs}(h:c.E ≠ 0)(t:List UInt8):sees ts c 4 t = false:=by unfold sees; rw [peek_dead h]; rfl
theorem fail_dead {ts:List RT}{c:Cs}(h:c.E ≠ 0)(e:Int):fail ts c e = c:=if_neg h
theorem zGI {ts:List RT}{s:St}(h:s.c.E ≠ 0)(f:Nat):(run ts (f + 2)).2 s = some (Ex.zero,s):=by
 rw [run]
 show unary ts _ _ (f + 1) s = _
 rw [unary,sees_dead h,sees_dead h]
 simp only [Bool.false_eq_true,if_false]
 rw [postfix_,primary,peek_dead h]
 have h0:RT.none.kind = 0:=rfl
 simp only [h0]
 rw [if_neg (by decide),if_neg (by decide),if_neg (by decide),if_neg (by decide),refuse,fail_dead h]
 exact zBb (zBH h) _ _ _
theorem dead_run {ts:List RT}{s:St}(h:s.c.E ≠ 0)(f:Nat):(run ts (f + 8)).1 1 s = some (Ex.zero,s):=run_up (zGI h f) (zBH h)
theorem sign_dead {ts:List RT}{c:Cs}(h:c.E ≠ 0)(t:List UInt8):(sign ts c t).2 = next c:=by
 unfold sign failUnless
 rw [sees_dead h]
 simp only [Bool.false_eq_true,if_false]
 rw [fail_dead h]
theorem leave_dead {ts:List RT}{s:St}(h:s.c.E ≠ 0)(t:List UInt8):(leave ts s t).c.E = s.c.E ∧ (leave ts s t).c.F = s.c.F:=by
 unfold leave
 rw [sign_dead h]
 exact ⟨rfl,rfl⟩
theorem name_live {ts:List RT}{k:Int}(h:(tokAt ts k).kind = 1):name ts ⟨k,0,0⟩ = ((tokAt ts k).text,⟨inc k,0,0⟩):=by
 have hp:peek ts ⟨k,0,0⟩ = tokAt ts k:=if_pos rfl
 unfold name failUnless
 simp only [hp,h,decide_true,if_true]
 rfl
end Pe
end Go.Proofs.YtmiiplefgkcklaaDoor
