/-
  What a list of tokens is as an expression, in plain data (no
-/
import Derived.Below
import Derived.RowKit
namespace Go.Proofs.YteadgahhchlgeaaDoor
namespace Px
structure RT where
 kind:Int
 text:List UInt8
 num:Int
 at_:Int
def RT.none:RT:=⟨0,[],0,0⟩
def tokAt (l:List RT)(k:Int):RT:=if 0 ≤ k ∧ k < (l.length:Int) then l.getD k.toNat RT.none else RT.none
def isT (l:List RT)(k:Int)(word:Bool)(text:List UInt8):Bool:=
 decide ((tokAt l k).kind = (if word then 3 else 4)) && (tokAt l k).text == text
def signsOf:Nat → List (List UInt8 × Int)
 | 0 => [([124,124],24)]
 | 1 => [([38,38],23)]
 | 2 => [([60],19),([60,61],20),([61,61],21),([33,61],22)]
 | 3 => [([43],14),([45],15)]
 | 4 => [([42],16),([47],17),([37],18)]
 | _ => []
def levelT (n:Nat)(t:RT):Int:=if t.kind = 4 then ((signsOf n).find? fun p => p.1 == t.text).elim 0 (·.2) else 0
theorem tokAt_out {l:List RT}{k:Int}(h:¬ (0 ≤ k ∧ k < (l.length:Int))):tokAt l k = RT.none:=if_neg h
end Px
end Go.Proofs.YteadgahhchlgeaaDoor
namespace Go.Proofs.YteadgahhchlgeaaDoor
namespace Pe
open Go.RowKit
open Px (RT tokAt)
structure Cs where
 k:Int
 E:Int
 F:Int
structure St where
 c:Cs
 o:Int
inductive Ex where
 | mk (kind num:Int) (name ofn:List UInt8) (dims:Int) (kids:List Ex) (at_ b r d ref:Int)
def Ex.zero:Ex:=.mk 0 0 [] [] 0 [] 0 0 0 0 0
def Ex.of (kind num:Int)(name ofn:List UInt8)(dims:Int)(kids:List Ex)(at_:Int):Ex:=.mk kind num name ofn dims kids at_ 0 0 0 0
def inc (x:Int):Int:=wrap64 (x + 1)
def dec (x:Int):Int:=wrap64 (x - 1)
def peek (ts:List RT)(s:Cs):RT:=if s.E = 0 then tokAt ts s.k else RT.none
def next (s:Cs):Cs:=⟨inc s.k,s.E,s.F⟩
def sees (ts:List RT)(s:Cs)(kind:Int)(text:List UInt8):Bool:=decide ((peek ts s).kind = kind) && (peek ts s).text == text
def fail (ts:List RT)(s:Cs)(e:Int):Cs:=if s.E = 0 then ⟨s.k,e,(tokAt ts s.k).at_⟩ else s
def failUnless (ts:List RT)(s:Cs)(e:Int)(b:Bool):Cs:=if b then s else fail ts s e
def sign (ts:List RT)(s:Cs)(text:List UInt8):RT × Cs:=
 let s1:=failUnless ts s 2 (sees ts s 4 text)
 (peek ts s1,next s1)
def name (ts:List RT)(s:Cs):List UInt8 × Cs:=
 let s1:=failUnless ts s 2 (decide ((peek ts s).kind = 1))
 ((peek ts s1).text,next s1)
def dims (ts:List RT):Nat → Cs → Nat × Cs
 | 0,s => (0,if sees ts s 4 [91] then fail ts s 4 else s)
 | n + 1,s => if sees ts s 4 [91] then ((dims ts n (next s)).1 + 1,(dims ts n (next s)).2) else (0,s)
def base (ts:List RT)(s:Cs):List UInt8 × Cs:=
 if sees ts s 3 [105,110,116] || sees ts s 3 [98,111,111,108] then ((peek ts s).text,next s) else name ts s
def shut (ts:List RT):Nat → Cs → Cs
 | 0,s => s
 | n + 1,s => shut ts n (sign ts s [93]).2
def readType (ts:List RT)(s:Cs):List UInt8 × Nat × Cs:=
 ((base ts (dims ts 3 s).2).1,(dims ts 3 s).1,shut ts (dims ts 3 s).1 (base ts (dims ts 3 s).2).2)
def ofEnd (n:List UInt8)(d:Nat)(s:Cs):List UInt8 × Nat × Int × Int × Int:=if s.E = 0 then (n,d,s.k,0,0) else ([],0,0,s.E,s.F)
def ofAns (ts:List RT)(k:Int):List UInt8 × Nat × Int × Int × Int:=ofEnd (readType ts ⟨k,0,0⟩).1 (readType ts ⟨k,0,0⟩).2.1 (readType ts ⟨k,0,0⟩).2.2
end Pe
namespace Pe
open Go.RowKit
open Px (RT tokAt)
def enter (ts:List RT)(s:St)(text:List UInt8):RT × St:=
 let c1:=if sees ts s.c 4 text && decide (s.o = 50) then fail ts s.c 4 else s.c
 ((sign ts c1 text).1,⟨(sign ts c1 text).2,inc s.o⟩)
def leave (ts:List RT)(s:St)(text:List UInt8):St:=⟨(sign ts s.c text).2,dec s.o⟩
def refuse (ts:List RT)(s:St):Ex × St:=(Ex.zero,⟨fail ts s.c 2,s.o⟩)
def opList:List (List UInt8 × Int × Int):=[([124,124],1,24),([38,38],2,23),([60],3,19),([60,61],3,20),([61,61],3,21),([33,61],3,22),([43],4,14),([45],4,15),([42],5,16),([47],5,17),([37],5,18)]
def seesOp (ts:List RT)(c:Cs)(level:Int):Option Int:=(opList.find? fun o => decide (o.2.1 = level) && sees ts c 4 o.1).map (·.2.2)
abbrev Out:=Option (Ex × St)
def enclosed (ts:List RT)(rec:Nat → St → Out)(s:St)(a b:List UInt8):Out:=
 match rec 1 (enter ts s a).2 with
 | none => none
 | some (e,s2) => some (e,leave ts s2 b)
def field (ts:List RT)(of:Ex)(s:St):Ex × St:=
 (Ex.of 5 0 (name ts (sign ts s.c [46]).2).1 [] 0 [of] (sign ts s.c [46]).1.at_,⟨(name ts (sign ts s.c [46]).2).2,s.o⟩)
def item (ts:List RT)(rec:Nat → St → Out)(of:Ex)(s:St):Out:=
 match enclosed ts rec s [91] [93] with
 | none => none
 | some (i,s2) => some (Ex.of 6 0 [] [] 0 [of,i] (peek ts s.c).at_,s2)
def number (ts:List RT)(s:St):Ex × St:=(Ex.of 1 (peek ts s.c).num [] [] 0 [] (peek ts s.c).at_,⟨next s.c,s.o⟩)
def argLoop (ts:List RT)(rec:Nat → St → Out):Nat → List Ex → St → Option (List Ex × St)
 | 0,_,_ => none
 | g + 1,l,s => if sees ts s.c 4 [44] then
     match rec 1 ⟨next s.c,s.o⟩ with
     | none => none
     | some (e,s2) => argLoop ts rec g (l ++ [e]) s2
   else some (l,s)
def args (ts:List RT)(rec:Nat → St → Out)(g:Nat)(s:St):Option (List Ex × St):=
 match (if sees ts (enter ts s [40]).2.c 4 [41] then some ([],(enter ts s [40]).2) else match rec 1 (enter ts s [40]).2 with | none => none | some (e,s2) => some ([e],s2)) with
 | none => none
 | some (l,s2) => match argLoop ts rec g l s2 with
   | none => none
   | some (l3,s3) => some (l3,leave ts s3 [41])
def varOrCall (ts:List RT)(rec:Nat → St → Out)(g:Nat)(s:St):Out:=
 let n:=name ts s.c
 if sees ts n.2 4 [40] then
    match args ts rec g ⟨n.2,s.o⟩ with
    | none => none
    | some (l,s2) => some (Ex.of 7 0 n.1 [] 0 l (peek ts s.c).at_,s2)
 else some (Ex.of 4 0 n.1 [] 0 [] (peek ts s.c).at_,⟨n.2,s.o⟩)
def truth (ts:List RT)(s:St):Ex × St:=(Ex.of 2 (if (peek ts s.c).text = [116,114,117,101] then 1 else 0) [] [] 0 [] (peek ts s.c).at_,⟨next s.c,s.o⟩)
def null (ts:List RT)(s:St):Ex × St:=
 let t:=readType ts (next s.c)
 (Ex.of 3 0 [] t.1 t.2.1 [] (peek ts s.c).at_,⟨t.2.2,s.o⟩)
def creation (ts:List RT)(rec:Nat → St → Out)(s:St):Out:=
 let c:=next s.c
 if sees ts c 4 [91] then
    let t:=readType ts (next c)
    match enclosed ts rec ⟨(sign ts t.2.2 [93]).2,s.o⟩ [40] [41] with
    | none => none
    | some (e,s2) => some (Ex.of 9 0 [] t.1 t.2.1 [e] (peek ts s.c).at_,s2)
 else some (Ex.of 8 0 [] (name ts c).1 0 [] (peek ts s.c).at_,⟨(name ts c).2,s.o⟩)
def length (ts:List RT)(rec:Nat → St → Out)(s:St):Out:=
 match enclosed ts rec ⟨next s.c,s.o⟩ [40] [41] with
 | none => none
 | some (e,s2) => some (Ex.of 10 0 [] [] 0 [e] (peek ts s.c).at_,s2)
def input (ts:List RT)(s:St):Ex × St:=
 (Ex.of 11 0 [] [] 0 [] (peek ts s.c).at_,leave ts (enter ts ⟨next s.c,s.o⟩ [40]).2 [41])
def keyword (ts:List RT)(rec:Nat → St → Out)(s:St):Out:=
 let x:=(peek ts s.c).text
 if x = [116,114,117,101] then some (truth ts s)
 else if x = [102,97,108,115,101] then some (truth ts s)
 else if x = [110,117,108,108] then some (null ts s)
 else if x = [110,101,119] then creation ts rec s
 else if x = [108,101,110] then length ts rec s
 else if x = [114,101,97,100] then some (input ts s)
 else some (refuse ts s)
def primary (ts:List RT)(rec:Nat → St → Out)(g:Nat)(s:St):Out:=
 let k:=(peek ts s.c).kind
 if k = 1 then varOrCall ts rec g s
 else if k = 2 then some (number ts s)
 else if k = 3 then keyword ts rec s
 else if k = 4 then enclosed ts rec s [40] [41]
 else some (refuse ts s)
def sufLoop (ts:List RT)(rec:Nat → St → Out):Nat → Ex → St → Out
 | 0,_,_ => none
 | g + 1,e,s =>
   if (peek ts s.c).kind = 4 then
     if (peek ts s.c).text = [46] then sufLoop ts rec g (field ts e s).1 (field ts e s).2
     else if (peek ts s.c).text = [91] then
       match item ts rec e s with
       | none => none
       | some (e2,s2) => sufLoop ts rec g e2 s2
     else some (e,s)
   else some (e,s)
def postfix_ (ts:List RT)(rec:Nat → St → Out)(g:Nat)(s:St):Out:=
 match primary ts rec g s with
 | none => none
 | some (e,s2) => sufLoop ts rec g e s2
def prefixed (ts:List RT)(recU:St → Out)(s:St)(text:List UInt8)(kind:Int):Out:=
 match recU (enter ts s text).2 with
 | none => none
 | some (e,s2) => some (Ex.of kind 0 [] [] 0 [e] (enter ts s text).1.at_,⟨s2.c,dec s2.o⟩)
def unary (ts:List RT)(rec:Nat → St → Out)(recU:St → Out)(g:Nat)(s:St):Out:=
 if sees ts s.c 4 [45] then prefixed ts recU s [45] 12
 else if sees ts s.c 4 [33] then prefixed ts recU s [33] 13
 else postfix_ ts rec g s
def binLoop (ts:List RT)(rec:Nat → St → Out)(n:Nat):Nat → Ex → St → Out
 | 0,_,_ => none
 | g + 1,l,s =>
   match seesOp ts s.c n with
   | none => some (l,s)
   | some kind => match rec (n + 1) ⟨next s.c,s.o⟩ with
     | none => none
     | some (r,s2) => binLoop ts rec n g (Ex.of kind 0 [] [] 0 [l,r] (peek ts s.c).at_) s2
def run (ts:List RT):Nat → (Nat → St → Out) × (St → Out)
 | 0 => (fun _ _ => none,fun _ => none)
 | f + 1 => (fun n s => if 5 < n then (run ts f).2 s else
     match (run ts f).1 (n + 1) s with
     | none => none
     | some (l,s1) => binLoop ts (run ts f).1 n f l s1,
   fun s => unary ts (run ts f).1 (run ts f).2 f s)
def clamp (o:Int):Int:=min (max o 0) 50
def exEnd (e:Ex)(s:Cs):Ex × Int × Int × Int:=if s.E = 0 then (e,s.k,0,0) else (Ex.zero,0,s.E,s.F)
def parse (ts:List RT)(f:Nat)(k o:Int):Option (Ex × Int × Int × Int):=
 match (run ts f).1 1 ⟨⟨k,0,0⟩,clamp o⟩ with
 | none => none
 | some (e,s) => some (exEnd e s.c)
end Pe
namespace Pe
open Go.RowKit
open Px (RT tokAt)
def halts (ts:List RT)(c:Cs):Prop:=(peek ts c).kind = 0 ∨ ((peek ts c).kind = 4 ∧ ((peek ts c).text = [41] ∨ (peek ts c).text = [93]))
theorem zCi {ts:List RT}{c:Cs}(h:c.E ≠ 0):halts ts c:=.inl (by rw [peek,if_neg h]; rfl)
theorem zL8 {ts:List RT}{c:Cs}(h:halts ts c)(n:Int):seesOp ts c n = none:=by
 unfold seesOp
 rw [Option.map_eq_none_iff,List.find?_eq_none]
 intro o ho
 simp only [opList,List.mem_cons,List.not_mem_nil,or_false] at ho
 unfold sees
 rcases h with h | ⟨h,h1 | h1⟩
 ·simp [h]
 ·rcases ho with rfl | rfl | rfl | rfl | rfl | rfl | rfl | rfl | rfl | rfl | rfl <;> simp [h,h1]
 ·rcases ho with rfl | rfl | rfl | rfl | rfl | rfl | rfl | rfl | rfl | rfl | rfl <;> simp [h,h1]
theorem zB1 {ts:List RT}{s:St}(h:halts ts s.c)(rec:Nat → St → Out)(n g:Nat)(e:Ex):binLoop ts rec n (g + 1) e s = some (e,s):=by
 rw [binLoop,zL8 h]
theorem zBB {ts:List RT}{s:St}(h:halts ts s.c)(rec:Nat → St → Out)(g:Nat)(e:Ex):sufLoop ts rec (g + 1) e s = some (e,s):=by
 rw [sufLoop]
 rcases h with h | ⟨h,h1 | h1⟩
 ·rw [if_neg (by rw [h]; decide)]
 ·rw [if_pos h,if_neg (by rw [h1]; decide),if_neg (by rw [h1]; decide)]
 ·rw [if_pos h,if_neg (by rw [h1]; decide),if_neg (by rw [h1]; decide)]
theorem run_up {ts:List RT}{f:Nat}{s s1:St}{e:Ex}(h:(run ts f).2 s = some (e,s1))(hs:halts ts s1.c):(run ts (f + 6)).1 1 s = some (e,s1):=by
 have h6:(run ts (f + 1)).1 6 s = some (e,s1):=by rw [run]; exact h
 have h5:(run ts (f + 2)).1 5 s = some (e,s1):=by
  rw [run]; show (match (run ts (f + 1)).1 6 s with | none => none | some (l,s1) => binLoop ts (run ts (f + 1)).1 5 (f + 1) l s1) = _
  rw [h6]; exact zB1 hs _ _ _ _
 have h4:(run ts (f + 3)).1 4 s = some (e,s1):=by
  rw [run]; show (match (run ts (f + 2)).1 5 s with | none => none | some (l,s1) => binLoop ts (run ts (f + 2)).1 4 (f + 2) l s1) = _
  rw [h5]; exact zB1 hs _ _ _ _
 have h3:(run ts (f + 4)).1 3 s = some (e,s1):=by
  rw [run]; show (match (run ts (f + 3)).1 4 s with | none => none | some (l,s1) => binLoop ts (run ts (f + 3)).1 3 (f + 3) l s1) = _
  rw [h4]; exact zB1 hs _ _ _ _
 have h2:(run ts (f + 5)).1 2 s = some (e,s1):=by
  rw [run]; show (match (run ts (f + 4)).1 3 s with | none => none | some (l,s1) => binLoop ts (run ts (f + 4)).1 2 (f + 4) l s1) = _
  rw [h3]; exact zB1 hs _ _ _ _
 rw [run]; show (match (run ts (f + 5)).1 2 s with | none => none | some (l,s1) => binLoop ts (run ts (f + 5)).1 1 (f + 5) l s1) = _
 rw [h2]; exact zB1 hs _ _ _ _
theorem peek_dead {ts:List RT}{c:Cs}(h:c.E ≠ 0):peek ts c = RT.none:=if_neg h
theorem sees_dead {ts:List RT}{c:Cs}(h:c.E ≠ 0)(t:List UInt8):sees ts c 4 t = false:=by unfold sees; rw [peek_dead h]; rfl
theorem fail_dead {ts:List RT}{c:Cs}(h:c.E ≠ 0)(e:Int):fail ts c e = c:=if_neg h
theorem zIN {ts:List RT}{s:St}(h:s.c.E ≠ 0)(f:Nat):(run ts (f + 2)).2 s = some (Ex.zero,s):=by
 rw [run]
 show unary ts _ _ (f + 1) s = _
 rw [unary,sees_dead h,sees_dead h]
 simp only [Bool.false_eq_true,if_false]
 rw [postfix_,primary,peek_dead h]
 have h0:RT.none.kind = 0:=rfl
 simp only [h0]
 rw [if_neg (by decide),if_neg (by decide),if_neg (by decide),if_neg (by decide),refuse,fail_dead h]
 exact zBB (zCi h) _ _ _
theorem dead_run {ts:List RT}{s:St}(h:s.c.E ≠ 0)(f:Nat):(run ts (f + 8)).1 1 s = some (Ex.zero,s):=run_up (zIN h f) (zCi h)
theorem sign_dead {ts:List RT}{c:Cs}(h:c.E ≠ 0)(t:List UInt8):(sign ts c t).2 = next c:=by
 unfold sign failUnless
 rw [sees_dead h]
 simp only [Bool.false_eq_true,if_false]
 rw [fail_dead h]
theorem leave_dead {ts:List RT}{s:St}(h:s.c.E ≠ 0)(t:List UInt8):(leave ts s t).c.E = s.c.E ∧ (leave ts s t).c.F = s.c.F:=by
 unfold leave
 rw [sign_dead h]
 exact ⟨rfl,rfl⟩
theorem name_live {ts:List RT}{k:Int}(h:(tokAt ts k).kind = 1):name ts ⟨k,0,0⟩ = ((tokAt ts k).text,⟨inc k,0,0⟩):=by
 have hp:peek ts ⟨k,0,0⟩ = tokAt ts k:=if_pos rfl
 unfold name failUnless
 simp only [hp,h,decide_true,if_true]
 rfl
end Pe
end Go.Proofs.YteadgahhchlgeaaDoor
