/-
  What the project's own reader of statements does, step by st
-/
import Derived.Test.YtjleggpbghmobaaK01
namespace Go.Proofs.Ytjleggpbghmobaa
namespace Ps
open Go.RowKit
open Px (RT tokAt)
open Pe
inductive Sm where
 | mk (kind:Int) (name ofn:List UInt8) (dims:Int) (es:List Ex) (body els:List Sm) (at_ ref:Int)
def Sm.zero:Sm:=.mk 0 [] [] 0 [] [] [] 0 0
def Sm.put (a:Int):Sm → Sm
 | .mk kind name ofn dims es body els _ ref => .mk kind name ofn dims es body els a ref
def kindOf:Ex → Int
 | .mk kind _ _ _ _ _ _ _ _ _ _ => kind
def nameOf:Ex → List UInt8
 | .mk _ _ name _ _ _ _ _ _ _ _ => name
abbrev PX:=Int → Int → Ex × Int × Int × Int
abbrev Out:=Option (Sm × St)
abbrev OutB:=Option (List Sm × St)
def rd (P:PX)(s:St):Ex × St:=
 if s.c.E = 0 then
    if (P s.c.k s.o).2.2.1 = 0 then ((P s.c.k s.o).1,⟨⟨(P s.c.k s.o).2.1,s.c.E,s.c.F⟩,s.o⟩)
    else (Ex.zero,⟨⟨s.c.k,(P s.c.k s.o).2.2.1,(P s.c.k s.o).2.2.2⟩,s.o⟩)
 else (Ex.zero,s)
def rdOf (ts:List RT)(s:St):List UInt8 × Nat × St:=
 if s.c.E = 0 then
    if (ofAns ts s.c.k).2.2.2.1 = 0 then ((ofAns ts s.c.k).1,(ofAns ts s.c.k).2.1,⟨⟨(ofAns ts s.c.k).2.2.1,s.c.E,s.c.F⟩,s.o⟩)
    else ([],0,⟨⟨s.c.k,(ofAns ts s.c.k).2.2.2.1,(ofAns ts s.c.k).2.2.2.2⟩,s.o⟩)
 else ([],0,s)
def sgn (ts:List RT)(s:St)(t:List UInt8):St:=⟨(sign ts s.c t).2,s.o⟩
def nxt (s:St):St:=⟨next s.c,s.o⟩
def decl (ts:List RT)(s:St):List UInt8 × List UInt8 × Nat × St:=
 ((name ts (next s.c)).1,rdOf ts (sgn ts ⟨(name ts (next s.c)).2,s.o⟩ [58]))
def variable_ (ts:List RT)(s:St):Sm × St:=
 let d:=decl ts s
 (.mk 1 d.1 d.2.1 d.2.2.1 [] [] [] 0 0,sgn ts d.2.2.2 [59])
def definition (ts:List RT)(P:PX)(s:St):Sm × St:=
 let d:=decl ts s
 let e:=rd P (sgn ts d.2.2.2 [61])
 (.mk 2 d.1 d.2.1 d.2.2.1 [e.1] [] [] 0 0,sgn ts e.2 [59])
def choice (ts:List RT)(P:PX)(recB:St → OutB)(s:St):Out:=
 let e:=rd P (nxt s)
 match recB e.2 with
 | none => none
 | some (b,s2) =>
   if sees ts s2.c 3 [101,108,115,101] then
    match recB (nxt s2) with
    | none => none
    | some (b2,s3) => some (.mk 5 [] [] 0 [e.1] b b2 0 0,s3)
   else some (.mk 5 [] [] 0 [e.1] b [] 0 0,s2)
def loop (P:PX)(recB:St → OutB)(s:St):Out:=
 let e:=rd P (nxt s)
 match recB e.2 with
 | none => none
 | some (b,s2) => some (.mk 6 [] [] 0 [e.1] b [] 0 0,s2)
def result (ts:List RT)(P:PX)(s:St):Sm × St:=
 if sees ts (next s.c) 4 [59] then (.mk 7 [] [] 0 [] [] [] 0 0,sgn ts (nxt s) [59])
 else (.mk 7 [] [] 0 [(rd P (nxt s)).1] [] [] 0 0,sgn ts (rd P (nxt s)).2 [59])
def output (ts:List RT)(P:PX)(s:St):Sm × St:=
 (.mk 8 [] [] 0 [(rd P (nxt s)).1] [] [] 0 0,sgn ts (rd P (nxt s)).2 [59])
def refuse (ts:List RT)(s:St):Sm × St:=(Sm.zero,⟨fail ts s.c 2,s.o⟩)
def call (ts:List RT)(e:Ex)(s:St):Sm × St:=
 if kindOf e = 7 then (.mk 9 [] [] 0 [e] [] [] 0 0,nxt s) else refuse ts s
def assigned (ts:List RT)(P:PX)(s:St):Ex × St:=((rd P (nxt s)).1,sgn ts (rd P (nxt s)).2 [59])
def assignment (ts:List RT)(P:PX)(e:Ex)(s:St):Sm × St:=
 if kindOf e = 4 then (.mk 3 (nameOf e) [] 0 [(assigned ts P s).1] [] [] 0 0,(assigned ts P s).2)
 else if kindOf e = 5 ∨ kindOf e = 6 then (.mk 4 [] [] 0 [e,(assigned ts P s).1] [] [] 0 0,(assigned ts P s).2)
 else refuse ts s
def fromExpr (ts:List RT)(P:PX)(s:St):Sm × St:=
 let e:=rd P s
 if (peek ts e.2.c).kind = 4 then
    if (peek ts e.2.c).text = [59] then call ts e.1 e.2
    else if (peek ts e.2.c).text = [61] then assignment ts P e.1 e.2
    else refuse ts e.2
 else refuse ts e.2
def step (ts:List RT)(P:PX)(recB:St → OutB)(s:St):Out:=
 if (peek ts s.c).kind = 3 then
    if (peek ts s.c).text = [118,97,114] then some (variable_ ts s)
    else if (peek ts s.c).text = [108,101,116] then some (definition ts P s)
    else if (peek ts s.c).text = [105,102] then choice ts P recB s
    else if (peek ts s.c).text = [119,104,105,108,101] then loop P recB s
    else if (peek ts s.c).text = [114,101,116,117,114,110] then some (result ts P s)
    else if (peek ts s.c).text = [112,114,105,110,116] then some (output ts P s)
    else some (fromExpr ts P s)
 else some (fromExpr ts P s)
def statement (ts:List RT)(P:PX)(recB:St → OutB)(s:St):Out:=
 match step ts P recB s with
 | none => none
 | some (x,s2) => some (x.put (peek ts s.c).at_,s2)
def stLoop (ts:List RT)(recS:St → Out):Nat → List Sm → St → OutB
 | 0,_,_ => none
 | g + 1,l,s =>
   if sees ts s.c 4 [125] then some (l,s)
   else if (peek ts s.c).kind = 0 then some (l,s)
   else match recS s with
     | none => none
     | some (x,s2) => stLoop ts recS g (l ++ [x]) s2
def block (ts:List RT)(recS:St → Out)(g:Nat)(s:St):OutB:=
 match stLoop ts recS g [] (enter ts s [123]).2 with
 | none => none
 | some (l,s2) => some (l,leave ts s2 [125])
def run (ts:List RT)(P:PX):Nat → (St → Out) × (St → OutB)
 | 0 => (fun _ => none,fun _ => none)
 | f + 1 => (statement ts P (run ts P f).2,block ts (run ts P f).1 f)
def stEnd (x:Sm)(c:Cs):Sm × Int × Int × Int:=if c.E = 0 then (x,c.k,0,0) else (Sm.zero,0,c.E,c.F)
def blEnd (l:List Sm)(c:Cs):List Sm × Int × Int × Int:=if c.E = 0 then (l,c.k,0,0) else ([],0,c.E,c.F)
def parse (ts:List RT)(P:PX)(f:Nat)(k o:Int):Option (Sm × Int × Int × Int):=
 match (run ts P f).1 ⟨⟨k,0,0⟩,clamp o⟩ with
 | none => none
 | some (x,s) => some (stEnd x s.c)
def parseB (ts:List RT)(P:PX)(f:Nat)(k o:Int):Option (List Sm × Int × Int × Int):=
 match (run ts P f).2 ⟨⟨k,0,0⟩,clamp o⟩ with
 | none => none
 | some (l,s) => some (blEnd l s.c)
end Ps
namespace Pg
open Go.RowKit
open Px (RT tokAt)
open Pe
open Ps (Sm)
structure Pm where
 name:List UInt8
 ofn:List UInt8
 dims:Int
 at_:Int
structure Rc where
 name:List UInt8
 fields:List Pm
 at_:Int
structure Fc where
 name:List UInt8
 params:List Pm
 has:Bool
 rn:List UInt8
 rd:Int
 body:List Sm
 at_:Int
structure Gm where
 recs:List Rc
 globals:List Pm
 funcs:List Fc
def Gm.zero:Gm:=⟨[],[],[]⟩
def Gm.addR (p:Gm)(x:Rc):Gm:=⟨p.recs ++ [x],p.globals,p.funcs⟩
def Gm.addG (p:Gm)(x:Pm):Gm:=⟨p.recs,p.globals ++ [x],p.funcs⟩
def Gm.addF (p:Gm)(x:Fc):Gm:=⟨p.recs,p.globals,p.funcs ++ [x]⟩
abbrev BX:=Int → List Sm × Int × Int × Int
def rdOf (ts:List RT)(s:Cs):List UInt8 × Nat × Cs:=
 if s.E = 0 then
    if (ofAns ts s.k).2.2.2.1 = 0 then ((ofAns ts s.k).1,(ofAns ts s.k).2.1,⟨(ofAns ts s.k).2.2.1,s.E,s.F⟩)
    else ([],0,⟨s.k,(ofAns ts s.k).2.2.2.1,(ofAns ts s.k).2.2.2.2⟩)
 else ([],0,s)
def rdB (B:BX)(s:Cs):List Sm × Cs:=
 if s.E = 0 then
    if (B s.k).2.2.1 = 0 then ((B s.k).1,⟨(B s.k).2.1,s.E,s.F⟩)
    else ([],⟨s.k,(B s.k).2.2.1,(B s.k).2.2.2⟩)
 else ([],s)
def limit (ts:List RT)(s:Cs)(n most:Int):Cs:=if n = most then fail ts s 4 else s
def sg (ts:List RT)(s:Cs)(t:List UInt8):Cs:=(sign ts s t).2
def declared (ts:List RT)(s:Cs):Pm × Cs:=
 let n:=name ts s
 let t:=rdOf ts (sg ts n.2 [58])
 (⟨n.1,t.1,t.2.1,(peek ts s).at_⟩,t.2.2)
def oneMore (ts:List RT)(l:List Pm)(most:Int)(s:Cs):List Pm × Cs:=
 let d:=declared ts (if (peek ts s).kind = 1 then limit ts s l.length most else s)
 (l ++ [d.1],d.2)
def parLoop (ts:List RT):Nat → List Pm → Cs → Option (List Pm × Cs)
 | 0,_,_ => none
 | g + 1,l,s =>
   if sees ts s 4 [44] then parLoop ts g (oneMore ts l 6 (next s)).1 (oneMore ts l 6 (next s)).2
   else some (l,s)
def parFirst (ts:List RT)(s:Cs):List Pm × Cs:=if sees ts s 4 [41] then ([],s) else oneMore ts [] 6 s
def params (ts:List RT)(g:Nat)(s:Cs):Option (List Pm × Cs):=
 match parLoop ts g (parFirst ts (sg ts s [40])).1 (parFirst ts (sg ts s [40])).2 with
 | none => none
 | some (l,s2) => some (l,sg ts s2 [41])
def resultOf (ts:List RT)(s:Cs):Bool × List UInt8 × Nat × Cs:=
 if sees ts s 4 [58] then (true,rdOf ts (next s)) else (false,[],0,s)
def function (ts:List RT)(B:BX)(g:Nat)(s:Cs):Option (Fc × Cs):=
 match params ts g (name ts (next s)).2 with
 | none => none
 | some (ps,s1) =>
   let t:=resultOf ts s1
   some (⟨(name ts (next s)).1,ps,t.1,t.2.1,t.2.2.1,(rdB B t.2.2.2).1,(peek ts (next s)).at_⟩,(rdB B t.2.2.2).2)
def fieldLoop (ts:List RT):Nat → List Pm → Cs → Option (List Pm × Cs)
 | 0,_,_ => none
 | g + 1,l,s =>
   if (peek ts s).kind = 1 then fieldLoop ts g (oneMore ts l 8 s).1 (sg ts (oneMore ts l 8 s).2 [59])
   else some (l,s)
def record (ts:List RT)(g:Nat)(s:Cs):Option (Rc × Cs):=
 match fieldLoop ts g [] (sg ts (name ts (next s)).2 [123]) with
 | none => none
 | some (l,s2) => some (⟨(name ts (next s)).1,l,(peek ts (next s)).at_⟩,sg ts s2 [125])
def global (ts:List RT)(s:Cs):Pm × Cs:=((declared ts (next s)).1,sg ts (declared ts (next s)).2 [59])
def loop (ts:List RT)(B:BX):Nat → Gm → Cs → Option (Gm × Cs)
 | 0,_,_ => none
 | g + 1,p,s =>
   if (peek ts s).kind = 0 then some (p,s)
   else if sees ts s 3 [114,101,99,111,114,100] then
     match record ts g (limit ts s p.recs.length 12) with
     | none => none
     | some (x,s2) => loop ts B g (p.addR x) s2
   else if sees ts s 3 [103,108,111,98,97,108] then
     loop ts B g (p.addG (global ts (limit ts s p.globals.length 8)).1) (global ts (limit ts s p.globals.length 8)).2
   else if sees ts s 3 [102,117,110,99] then
     match function ts B g (limit ts s p.funcs.length 16) with
     | none => none
     | some (x,s2) => loop ts B g (p.addF x) s2
   else loop ts B g p (fail ts s 2)
def pgEnd (p:Gm)(s:Cs):Gm × Int × Int:=if s.E = 0 then (p,0,0) else (Gm.zero,s.E,s.F)
def run (ts:List RT)(B:BX)(g:Nat):Option (Gm × Int × Int):=
 match loop ts B g Gm.zero ⟨0,0,0⟩ with
 | none => none
 | some (p,s) => some (pgEnd p s)
end Pg
namespace Hs
open Pg (Pm Rc Fc Gm)
abbrev Nm:=List UInt8
structure TypH where
 b:Int
 r:Int
 d:Int
def TypH.z:TypH:=⟨0,0,0⟩
structure FldH where
 name:Nm
 ty:TypH
structure ShpH where
 name:Nm
 fields:List FldH
structure SigH where
 name:Nm
 params:List FldH
 has:Bool
 result:TypH
structure HdsH where
 recs:List ShpH
 globals:List FldH
 sigs:List SigH
 main:Int
def HdsH.zero:HdsH:=⟨[],[],[],0⟩
def intN:Nm:=[105,110,116]
def boolN:Nm:=[98,111,111,108]
def mainN:Nm:=[109,97,105,110]
def find:List Nm → Nm → Option Nat
 | [],_ => none
 | x :: l,n => if x = n then some 0 else (find l n).map (· + 1)
def tyOf (rs:List Nm)(n:Nm)(d:Int):TypH × Bool:=
 if d < 0 ∨ 3 < d then (TypH.z,false)
 else if n = intN then (⟨1,0,d⟩,true)
 else if n = boolN then (⟨2,0,d⟩,true)
 else match find rs n with
    | some i => (⟨3,(i:Int),d⟩,true)
    | none => (TypH.z,false)
def fdOf (rs:List Nm)(p:Pm):FldH:=⟨p.name,(tyOf rs p.ofn p.dims).1⟩
def shOf (rs:List Nm)(r:Rc):ShpH:=⟨r.name,r.fields.map (fdOf rs)⟩
def resOf (rs:List Nm)(f:Fc):TypH:=if f.has then (tyOf rs f.rn f.rd).1 else TypH.z
def sgOf (rs:List Nm)(f:Fc):SigH:=⟨f.name,f.params.map (fdOf rs),f.has,resOf rs f⟩
def recNames (g:Gm):List Nm:=g.recs.map (·.name)
def fltPs (rs:List Nm):List Nm → List Pm → Option Int
 | _,[] => none
 | prev,p :: t => if p.name ∈ prev ∨ (tyOf rs p.ofn p.dims).2 = false then some p.at_ else fltPs rs (prev ++ [p.name]) t
def fltRs:List Nm → List Rc → Option Int
 | _,[] => none
 | prev,r :: t => if r.name ∈ prev then some r.at_ else fltRs (prev ++ [r.name]) t
def fltFs (rs:List Nm):List Rc → Option Int
 | [] => none
 | r :: t => (fltPs rs [] r.fields).or (fltFs rs t)
def badRes (rs:List Nm)(f:Fc):Option Int:=if f.has = true ∧ (tyOf rs f.rn f.rd).2 = false then some f.at_ else none
def fltFn (rs:List Nm):List Nm → List Fc → Option Int
 | _,[] => none
 | prev,f :: t => if f.name ∈ prev then some f.at_ else (fltPs rs [] f.params).or ((badRes rs f).or (fltFn rs (prev ++ [f.name]) t))
def plainF (f:Fc):Bool:=f.params.isEmpty && !f.has
def mainOf (fs:List Fc):Option Nat:=(find (fs.map (·.name)) mainN).bind fun i => (fs[i]?).bind fun f => if plainF f then some i else none
def fltMain (fs:List Fc):Option Int:=if (mainOf fs).isSome then none else some 0
def flt (g:Gm):Option Int:=
 (fltRs [] g.recs).or ((fltFs (recNames g) g.recs).or ((fltPs (recNames g) [] g.globals).or ((fltFn (recNames g) [] g.funcs).or (fltMain g.funcs))))
def hd (g:Gm):HdsH:=⟨g.recs.map (shOf (recNames g)),g.globals.map (fdOf (recNames g)),g.funcs.map (sgOf (recNames g)),((mainOf g.funcs).getD 0:Nat)⟩
def make (g:Gm):HdsH × Int × Int:=
 match flt g with
 | none => (hd g,0,0)
 | some a => (HdsH.zero,3,a)
theorem zAx:∀ (l:List Nm)(x n:Nm),find (l ++ [x]) n = (find l n).or (if x = n then some l.length else none)
 | [],x,n => by
   show find [x] n = _
   unfold find
   by_cases h:x = n
   ·rw [if_pos h,if_pos h]; rfl
   ·rw [if_neg h,if_neg h]; rfl
 | y :: l,x,n => by
   show find (y :: (l ++ [x])) n = (find (y :: l) n).or _
   rw [find,find]
   by_cases h:y = n
   ·rw [if_pos h,if_pos h]; rfl
   ·rw [if_neg h,if_neg h,zAx l x n]
    cases find l n with
    | some i => rfl
    | none =>
      by_cases hx:x = n
      ·rw [if_pos hx,if_pos hx]; rfl
      ·rw [if_neg hx,if_neg hx]; rfl
theorem find_none:∀ {l:List Nm}{n:Nm},find l n = none ↔ n ∉ l
 | [],n => by simp [find]
 | y :: l,n => by
   rw [find]
   by_cases h:y = n
   ·simp [h]
   ·rw [if_neg h]
    have:=find_none (l:=l) (n:=n)
    cases hf:find l n with
    | none => rw [hf] at this; simp [this.1 rfl,Ne.symm h]
    | some i => rw [hf] at this; simp at this; simp [this]
theorem zBt:∀ {l:List Nm}{n:Nm}{i:Nat},find l n = some i → l[i]? = some n
 | [],n,i,h => by simp [find] at h
 | y :: l,n,i,h => by
   rw [find] at h
   by_cases hy:y = n
   ·rw [if_pos hy] at h
    obtain rfl : 0 = i:=by simpa using h
    simp [hy]
   ·rw [if_neg hy] at h
    cases hf:find l n with
    | none => rw [hf] at h; simp at h
    | some j =>
      rw [hf] at h
      obtain rfl:j + 1 = i:=by simpa using h
      simpa using zBt hf
theorem zBI {l:List Nm}{n:Nm}{i:Nat}(h:find l n = some i):i < l.length:=(List.getElem?_eq_some_iff.1 (zBt h)).1
theorem zBW {l:List Nm}{x:Nm}(h:x ∈ l)(n:Nm):find (l ++ [x]) n = find l n:=by
 rw [zAx]
 by_cases hx:x = n
 ·subst hx
  cases hf:find l x with
  | none => exact absurd h (find_none.1 hf)
  | some i => rfl
 ·rw [if_neg hx]
  cases find l n <;> rfl
theorem zBV {l:List Nm}{x:Nm}(h:x ∉ l):find (l ++ [x]) x = some l.length:=by
 rw [zAx,find_none.2 h,if_pos rfl]; rfl
theorem zBc {l:List Nm}{x n:Nm}(h:x ≠ n):find (l ++ [x]) n = find l n:=by
 rw [zAx,if_neg h]
 cases find l n <;> rfl
def refuse (c:Option Int)(b:Bool)(a:Int):Option Int:=c.or (if b then some a else none)
theorem zAg (c:Option Int):c.or none = c:=by cases c <;> rfl
theorem zBe (a b c:Option Int):(a.or b).or c = a.or (b.or c):=by cases a <;> rfl
theorem zCE (rs:List Nm)(c:Option Int)(prev:List Nm)(p:Pm)(t:List Pm) :
 c.or (fltPs rs prev (p :: t)) = (refuse (refuse c (decide (p.name ∈ prev)) p.at_) (!(tyOf rs p.ofn p.dims).2) p.at_).or (fltPs rs (prev ++ [p.name]) t):=by
 unfold refuse
 rw [fltPs]
 by_cases h1:p.name ∈ prev
 ·rw [if_pos (.inl h1)]
  cases c <;> cases (tyOf rs p.ofn p.dims).2 <;> simp [h1]
 ·by_cases h2:(tyOf rs p.ofn p.dims).2 = false
  ·rw [if_pos (.inr h2),h2]
   cases c <;> simp [h1]
  ·have h3:(tyOf rs p.ofn p.dims).2 = true:=by simpa using h2
   rw [if_neg (by simp [h1,h3]),h3]
   cases c <;> simp [h1]
theorem zCD (c:Option Int)(prev:List Nm)(r:Rc)(t:List Rc) :
 c.or (fltRs prev (r :: t)) = (refuse c (decide (r.name ∈ prev)) r.at_).or (fltRs (prev ++ [r.name]) t):=by
 unfold refuse
 rw [fltRs]
 by_cases h1:r.name ∈ prev
 ·rw [if_pos h1]
  cases c <;> simp [h1]
 ·rw [if_neg h1]
  cases c <;> simp [h1]
theorem zCF (rs:List Nm)(c:Option Int)(prev:List Nm)(f:Fc)(t:List Fc) :
 c.or (fltFn rs prev (f :: t)) = (refuse ((refuse c (decide (f.name ∈ prev)) f.at_).or (fltPs rs [] f.params)) (f.has && !(tyOf rs f.rn f.rd).2) f.at_).or (fltFn rs (prev ++ [f.name]) t):=by
 unfold refuse
 rw [fltFn]
 by_cases h1:f.name ∈ prev
 ·rw [if_pos h1]
  cases c <;> simp [h1]
 ·rw [if_neg h1]
  unfold badRes
  cases c with
  | some a => simp
  | none =>
    cases fltPs rs [] f.params with
    | some a => simp [h1]
    | none => cases f.has <;> cases (tyOf rs f.rn f.rd).2 <;> simp [h1]
def mainTo (fs:List Fc):Int:=match mainOf fs with
 | some i => (i:Int)
 | none => -1
theorem zDQ (l:List Fc)(f:Fc)(h:f.name ∉ l.map (·.name)):mainTo (l ++ [f]) = if f.name = mainN ∧ plainF f = true then (l.length:Int) else mainTo l:=by
 unfold mainTo mainOf
 rw [List.map_append,List.map_singleton,zAx]
 cases hf:find (l.map (·.name)) mainN with
 | some i =>
   have hl:=zBI hf
   have hs:=zBt hf
   have hne:f.name ≠ mainN:=fun he => h (he ▸ List.mem_of_getElem? hs)
   rw [List.length_map] at hl
   simp only [Option.some_or,Option.bind_some]
   rw [List.getElem?_append_left hl,if_neg (fun hh => hne hh.1)]
 | none =>
   by_cases hm:f.name = mainN
   ·rw [if_pos hm]
    simp only [Option.none_or,List.length_map,Option.bind_some]
    rw [List.getElem?_append_right (Nat.le_refl _),Nat.sub_self]
    simp only [List.getElem?_cons_zero,Option.bind_some]
    cases plainF f <;> simp [hm]
   ·rw [if_neg hm,if_neg (fun hh => hm hh.1)]
    simp
theorem zE1 {fs:List Fc}:mainTo fs < 0 ↔ fltMain fs = some 0:=by
 unfold mainTo fltMain
 cases mainOf fs with
 | none => simp
 | some i => simp
theorem zE2 {fs:List Fc}(h:¬ mainTo fs < 0):mainTo fs = ((mainOf fs).getD 0:Nat) ∧ fltMain fs = none:=by
 unfold mainTo fltMain at *
 cases hm:mainOf fs with
 | none => rw [hm] at h; simp at h
 | some i => simp
def qf (rs:List Nm)(l:List Pm):List FldH × Int × Int:=match fltPs rs [] l with
 | none => (l.map (fdOf rs),0,0)
 | some a => ([],3,a)
theorem zU {α β:Type}(f : α → β){l:List α}{i:Nat}{x : α}(h:l[i]? = some x):(l.take (i + 1)).map f = (l.take i).map f ++ [f x]:=by
 rw [List.take_add_one,h]
 simp
theorem zS {α:Type}{l:List α}{i:Nat}{x : α}(h:l[i]? = some x):l.drop i = x :: l.drop (i + 1):=by
 obtain ⟨hl,rfl⟩:=List.getElem?_eq_some_iff.1 h
 exact List.drop_eq_getElem_cons hl
theorem zCX {α:Type}(f : α → Nm){l:List α}{i:Nat}{n:Nm}:n ∈ (l.take i).map f ↔ ∃ k x,k < i ∧ l[k]? = some x ∧ f x = n:=by
 constructor
 ·intro h
  obtain ⟨x,hx,rfl⟩:=List.mem_map.1 h
  obtain ⟨k,hk,rfl⟩:=List.mem_take_iff_getElem.1 hx
  exact ⟨k,_,by omega,List.getElem?_eq_getElem _,rfl⟩
 ·rintro ⟨k,x,hk,hx,rfl⟩
  obtain ⟨hl,rfl⟩:=List.getElem?_eq_some_iff.1 hx
  exact List.mem_map.2 ⟨_,List.mem_take_iff_getElem.2 ⟨k,by omega,rfl⟩,rfl⟩
end Hs
namespace Qe
open Go.RowKit
open Px (RT tokAt isT levelT)
open Pe (Ex inc dec)
structure Q where
 k:Int
 o:Int
 E:Int
 F:Int
def next (s:Q):Q:=⟨inc s.k,s.o,s.E,s.F⟩
def is (ts:List RT)(s:Q)(wd:Bool)(t:List UInt8):Bool:=s.E == 0 && isT ts s.k wd t
def fail (ts:List RT)(s:Q)(e:Int):Q:=if s.E = 0 then ⟨s.k,s.o,e,(tokAt ts s.k).at_⟩ else s
def take (ts:List RT)(s:Q)(wd:Bool)(t:List UInt8):Q:=if is ts s wd t then next s else fail ts s 2
def opens (ts:List RT)(s:Q)(t:List UInt8):Q:=
 if is ts s false t && decide (50 ≤ s.o) then fail ts s 4 else ⟨(take ts s false t).k,inc (take ts s false t).o,(take ts s false t).E,(take ts s false t).F⟩
def closes (ts:List RT)(s:Q)(t:List UInt8):Q:=⟨(take ts s false t).k,dec (take ts s false t).o,(take ts s false t).E,(take ts s false t).F⟩
def name (ts:List RT)(s:Q):List UInt8 × Q:=if s.E = 0 ∧ (tokAt ts s.k).kind = 1 then ((tokAt ts s.k).text,next s) else ([],fail ts s 2)
def dims (ts:List RT):Nat → Q → Option Nat × Q
 | 0,s => if is ts s false [91] then (none,fail ts s 4) else (some 0,s)
 | n + 1,s => if is ts s false [91] then ((dims ts n (next s)).1.map (· + 1),(dims ts n (next s)).2) else (some 0,s)
def base (ts:List RT)(s:Q):List UInt8 × Q:=
 if is ts s true [105,110,116] || is ts s true [98,111,111,108] then ((tokAt ts s.k).text,next s) else name ts s
def shut (ts:List RT):Nat → Q → Q
 | 0,s => s
 | n + 1,s => shut ts n (take ts s false [93])
def of (ts:List RT)(s:Q):List UInt8 × Nat × Q:=
 match (dims ts 3 s).1 with
 | none => ([],0,(dims ts 3 s).2)
 | some d => ((base ts (dims ts 3 s).2).1,d,shut ts d (base ts (dims ts 3 s).2).2)
abbrev Out:=Option (Ex × Q)
def sign (ts:List RT)(s:Q)(n:Nat):Int:=if s.E = 0 then levelT n (tokAt ts s.k) else 0
def inner (ts:List RT)(rec:Nat → Q → Out)(s:Q):Out:=
 match rec 0 (opens ts s [40]) with
 | none => none
 | some (e,s2) => some (e,closes ts s2 [41])
def argLoop (ts:List RT)(rec:Nat → Q → Out):Nat → List Ex → Q → Option (List Ex × Q)
 | 0,_,_ => none
 | g + 1,l,s => if is ts s false [44] then
     match rec 0 (next s) with
     | none => none
     | some (e,s2) => argLoop ts rec g (l ++ [e]) s2
   else some (l,s)
def args (ts:List RT)(rec:Nat → Q → Out)(g:Nat)(s:Q):Option (List Ex × Q):=
 if is ts (opens ts s [40]) false [41] then some ([],closes ts (opens ts s [40]) [41]) else
 match rec 0 (opens ts s [40]) with
 | none => none
 | some (e,s2) => match argLoop ts rec g [e] s2 with
   | none => none
   | some (l,s3) => some (l,closes ts s3 [41])
def fresh (ts:List RT)(rec:Nat → Q → Out)(s:Q)(at_:Int):Out:=
 if is ts s false [91] then
    let t:=of ts (next s)
    match inner ts rec (take ts t.2.2 false [93]) with
    | none => none
    | some (e,s2) => some (Ex.of 9 0 [] t.1 t.2.1 [e] at_,s2)
 else some (Ex.of 8 0 [] (name ts s).1 0 [] at_,(name ts s).2)
def first (ts:List RT)(rec:Nat → Q → Out)(g:Nat)(s:Q):Out:=
 let t:=tokAt ts s.k
 if s.E = 0 ∧ t.kind = 2 then some (Ex.of 1 t.num [] [] 0 [] t.at_,next s)
 else if is ts s true [116,114,117,101] then some (Ex.of 2 1 [] [] 0 [] t.at_,next s)
 else if is ts s true [102,97,108,115,101] then some (Ex.of 2 0 [] [] 0 [] t.at_,next s)
 else if is ts s true [110,117,108,108] then some (Ex.of 3 0 [] (of ts (next s)).1 (of ts (next s)).2.1 [] t.at_,(of ts (next s)).2.2)
 else if is ts s true [110,101,119] then fresh ts rec (next s) t.at_
 else if is ts s true [108,101,110] then
    match inner ts rec (next s) with
    | none => none
    | some (e,s2) => some (Ex.of 10 0 [] [] 0 [e] t.at_,s2)
 else if is ts s true [114,101,97,100] then some (Ex.of 11 0 [] [] 0 [] t.at_,closes ts (opens ts (next s) [40]) [41])
 else if is ts s false [40] then inner ts rec s
 else
    let n:=name ts s
    if is ts n.2 false [40] then
     match args ts rec g n.2 with
     | none => none
     | some (l,s2) => some (Ex.of 7 0 n.1 [] 0 l t.at_,s2)
    else some (Ex.of 4 0 n.1 [] 0 [] t.at_,n.2)
def behind (ts:List RT)(rec:Nat → Q → Out):Nat → Ex → Q → Out
 | 0,_,_ => none
 | g + 1,e,s =>
   if is ts s false [46] then
     behind ts rec g (Ex.of 5 0 (name ts (next s)).1 [] 0 [e] (tokAt ts s.k).at_) (name ts (next s)).2
   else if is ts s false [91] then
     match rec 0 (opens ts s [91]) with
     | none => none
     | some (i,s2) => behind ts rec g (Ex.of 6 0 [] [] 0 [e,i] (tokAt ts s.k).at_) (closes ts s2 [93])
   else some (e,s)
def prefixed (ts:List RT)(rec:Nat → Q → Out)(s:Q)(t:List UInt8)(kind:Int):Out:=
 match rec 5 (opens ts s t) with
 | none => none
 | some (e,s2) => some (Ex.of kind 0 [] [] 0 [e] (tokAt ts s.k).at_,⟨s2.k,dec s2.o,s2.E,s2.F⟩)
def unary (ts:List RT)(rec:Nat → Q → Out)(g:Nat)(s:Q):Out:=
 if is ts s false [45] then prefixed ts rec s [45] 12
 else if is ts s false [33] then prefixed ts rec s [33] 13
 else match first ts rec g s with
    | none => none
    | some (e,s2) => behind ts rec g e s2
def binLoop (ts:List RT)(rec:Nat → Q → Out)(n:Nat):Nat → Ex → Q → Out
 | 0,_,_ => none
 | g + 1,l,s =>
   if sign ts s n = 0 then some (l,s) else
   match rec (n + 1) (next s) with
   | none => none
   | some (r,s2) => binLoop ts rec n g (Ex.of (sign ts s n) 0 [] [] 0 [l,r] (tokAt ts s.k).at_) s2
def run (ts:List RT):Nat → Nat → Q → Out
 | 0 => fun _ _ => none
 | f + 1 => fun n s => if n = 5 then unary ts (run ts f) f s else
     match run ts f (n + 1) s with
     | none => none
     | some (l,s1) => binLoop ts (run ts f) n f l s1
def exEnd (e:Ex)(s:Q):Ex × Int × Int × Int:=if s.E = 0 then (e,s.k,0,0) else (Ex.zero,0,s.E,s.F)
def expr (ts:List RT)(f:Nat)(k o:Int):Option (Ex × Int × Int × Int):=
 match run ts f 0 ⟨k,max o 0,0,0⟩ with
 | none => none
 | some (e,s) => some (exEnd e s)
def ofEnd (n:List UInt8)(d:Nat)(s:Q):List UInt8 × Nat × Int × Int × Int:=if s.E = 0 then (n,d,s.k,0,0) else ([],0,0,s.E,s.F)
def ofAns (ts:List RT)(k:Int):List UInt8 × Nat × Int × Int × Int:=ofEnd (of ts ⟨k,0,0,0⟩).1 (of ts ⟨k,0,0,0⟩).2.1 (of ts ⟨k,0,0,0⟩).2.2
end Qe
namespace Qs
open Go.RowKit
open Px (RT tokAt isT levelT)
open Pe (Ex inc dec)
open Qe (Q)
open Ps (Sm kindOf nameOf)
abbrev Out:=Option (Sm × Q)
abbrev OutB:=Option (List Sm × Q)
abbrev RX:=Q → Option (Ex × Q)
def decl (ts:List RT)(s:Q):List UInt8 × List UInt8 × Nat × Q:=
 ((Qe.name ts (Qe.next s)).1,Qe.of ts (Qe.take ts (Qe.name ts (Qe.next s)).2 false [58]))
def declared (ts:List RT)(rx:RX)(s:Q):Out:=
 let d:=decl ts s
 if (tokAt ts s.k).text = [108,101,116] then
    match rx (Qe.take ts d.2.2.2 false [61]) with
    | none => none
    | some (e,s2) => some (.mk 2 d.1 d.2.1 d.2.2.1 [e] [] [] (tokAt ts s.k).at_ 0,Qe.take ts s2 false [59])
 else some (.mk 1 d.1 d.2.1 d.2.2.1 [] [] [] (tokAt ts s.k).at_ 0,Qe.take ts d.2.2.2 false [59])
def choice (ts:List RT)(rx:RX)(recB:Q → OutB)(s:Q):Out:=
 match rx (Qe.next s) with
 | none => none
 | some (e,s1) =>
   match recB s1 with
   | none => none
   | some (b,s2) =>
     if Qe.is ts s2 true [101,108,115,101] then
      match recB (Qe.next s2) with
      | none => none
      | some (b2,s3) => some (.mk 5 [] [] 0 [e] b b2 (tokAt ts s.k).at_ 0,s3)
     else some (.mk 5 [] [] 0 [e] b [] (tokAt ts s.k).at_ 0,s2)
def loop (ts:List RT)(rx:RX)(recB:Q → OutB)(s:Q):Out:=
 match rx (Qe.next s) with
 | none => none
 | some (e,s1) =>
   match recB s1 with
   | none => none
   | some (b,s2) => some (.mk 6 [] [] 0 [e] b [] (tokAt ts s.k).at_ 0,s2)
def result (ts:List RT)(rx:RX)(s:Q):Out:=
 if Qe.is ts (Qe.next s) false [59] then some (.mk 7 [] [] 0 [] [] [] (tokAt ts s.k).at_ 0,Qe.take ts (Qe.next s) false [59])
 else match rx (Qe.next s) with
    | none => none
    | some (e,s2) => some (.mk 7 [] [] 0 [e] [] [] (tokAt ts s.k).at_ 0,Qe.take ts s2 false [59])
def output (ts:List RT)(rx:RX)(s:Q):Out:=
 match rx (Qe.next s) with
 | none => none
 | some (e,s2) => some (.mk 8 [] [] 0 [e] [] [] (tokAt ts s.k).at_ 0,Qe.take ts s2 false [59])
def plainDo (ts:List RT)(at_:Int)(e:Ex)(s:Q):Sm × Q:=
 (.mk 9 [] [] 0 [e] [] [] at_ 0,Qe.take ts (if Qe.is ts s false [59] = true ∧ kindOf e ≠ 7 then Qe.fail ts s 2 else s) false [59])
def plainPut (ts:List RT)(rx:RX)(at_:Int)(e:Ex)(s:Q):Out:=
 match rx (Qe.take ts (if kindOf e ≠ 4 ∧ kindOf e ≠ 5 ∧ kindOf e ≠ 6 then Qe.fail ts s 2 else s) false [61]) with
 | none => none
 | some (b,s2) => some (if kindOf e = 4 then .mk 3 (nameOf e) [] 0 [b] [] [] at_ 0 else .mk 4 [] [] 0 [e,b] [] [] at_ 0,Qe.take ts s2 false [59])
def plain (ts:List RT)(rx:RX)(at_:Int)(s:Q):Out:=
 match rx s with
 | none => none
 | some (e,s1) => if Qe.is ts s1 false [61] then plainPut ts rx at_ e s1 else some (plainDo ts at_ e s1)
def stmt (ts:List RT)(rx:RX)(recB:Q → OutB)(s:Q):Out:=
 if Qe.is ts s true [118,97,114] || Qe.is ts s true [108,101,116] then declared ts rx s
 else if Qe.is ts s true [105,102] then choice ts rx recB s
 else if Qe.is ts s true [119,104,105,108,101] then loop ts rx recB s
 else if Qe.is ts s true [114,101,116,117,114,110] then result ts rx s
 else if Qe.is ts s true [112,114,105,110,116] then output ts rx s
 else plain ts rx (tokAt ts s.k).at_ s
def stLoop (ts:List RT)(recS:Q → Out):Nat → List Sm → Q → OutB
 | 0,_,_ => none
 | g + 1,l,s =>
   if s.E = 0 ∧ Qe.is ts s false [125] = false then
     match recS s with
     | none => none
     | some (x,s2) => stLoop ts recS g (l ++ [x]) s2
   else some (l,s)
def block (ts:List RT)(recS:Q → Out)(g:Nat)(s:Q):OutB:=
 match stLoop ts recS g [] (Qe.opens ts s [123]) with
 | none => none
 | some (l,s2) => some (l,Qe.closes ts s2 [125])
def run (ts:List RT)(rx:RX):Nat → (Q → Out) × (Q → OutB)
 | 0 => (fun _ => none,fun _ => none)
 | f + 1 => (stmt ts rx (run ts rx f).2,block ts (run ts rx f).1 f)
def stEnd (x:Sm)(s:Q):Sm × Int × Int × Int:=if s.E = 0 then (x,s.k,0,0) else (Sm.zero,0,s.E,s.F)
def blEnd (l:List Sm)(s:Q):List Sm × Int × Int × Int:=if s.E = 0 then (l,s.k,0,0) else ([],0,s.E,s.F)
def parse (ts:List RT)(rx:RX)(f:Nat)(k o:Int):Option (Sm × Int × Int × Int):=
 match (run ts rx f).1 ⟨k,max o 0,0,0⟩ with
 | none => none
 | some (x,s) => some (stEnd x s)
def parseB (ts:List RT)(rx:RX)(f:Nat)(k o:Int):Option (List Sm × Int × Int × Int):=
 match (run ts rx f).2 ⟨k,max o 0,0,0⟩ with
 | none => none
 | some (l,s) => some (blEnd l s)
end Qs
namespace Qg
open Go.RowKit
open Px (RT tokAt)
open Qe (Q)
open Ps (Sm)
open Pg (Pm Rc Fc Gm)
def param (ts:List RT)(q:Q):Pm × Q:=
 let n:=Qe.name ts q
 let t:=Qe.of ts (Qe.take ts n.2 false [58])
 (⟨n.1,t.1,t.2.1,(tokAt ts q.k).at_⟩,t.2.2)
def fieldLoop (ts:List RT):Nat → List Pm → Q → Option (List Pm × Q)
 | 0,_,_ => none
 | g + 1,l,q =>
   if q.E = 0 ∧ Qe.is ts q false [125] = false then
     if (tokAt ts q.k).kind = 1 ∧ l.length = 8 then some (l,Qe.fail ts q 4)
     else fieldLoop ts g (l ++ [(param ts q).1]) (Qe.take ts (param ts q).2 false [59])
   else some (l,q)
def record (ts:List RT)(g:Nat)(q:Q):Option (Rc × Q):=
 match fieldLoop ts g [] (Qe.take ts (Qe.name ts q).2 false [123]) with
 | none => none
 | some (l,q2) => some (⟨(Qe.name ts q).1,l,(tokAt ts q.k).at_⟩,Qe.take ts q2 false [125])
def comma (ts:List RT)(q:Q):Q:=
 if Qe.is ts q false [41] then q
 else if Qe.is ts (Qe.take ts q false [44]) false [41] then Qe.fail ts (Qe.take ts q false [44]) 2
 else Qe.take ts q false [44]
def parLoop (ts:List RT):Nat → List Pm → Q → Option (List Pm × Q)
 | 0,_,_ => none
 | g + 1,l,q =>
   if q.E = 0 ∧ Qe.is ts q false [41] = false then
     if (tokAt ts q.k).kind = 1 ∧ l.length = 6 then some (l,Qe.fail ts q 4)
     else parLoop ts g (l ++ [(param ts q).1]) (comma ts (param ts q).2)
   else some (l,q)
def resultOf (ts:List RT)(q:Q):Bool × List UInt8 × Nat × Q:=
 if Qe.is ts q false [58] then (true,Qe.of ts (Qe.next q)) else (false,[],0,q)
def function (ts:List RT)(recB:Q → Qs.OutB)(g:Nat)(q:Q):Option (Fc × Q):=
 match parLoop ts g [] (Qe.take ts (Qe.name ts q).2 false [40]) with
 | none => none
 | some (ps,q1) =>
   let t:=resultOf ts (Qe.take ts q1 false [41])
   match recB t.2.2.2 with
   | none => none
   | some (b,q3) => some (⟨(Qe.name ts q).1,ps,t.1,t.2.1,t.2.2.1,b,(tokAt ts q.k).at_⟩,q3)
def over (ts:List RT)(p:Gm)(q:Q):Prop:=
 (Qe.is ts q true [114,101,99,111,114,100] = true ∧ p.recs.length = 12) ∨ (Qe.is ts q true [103,108,111,98,97,108] = true ∧ p.globals.length = 8) ∨ (Qe.is ts q true [102,117,110,99] = true ∧ p.funcs.length = 16)
instance (ts:List RT) (p:Gm) (q:Q):Decidable (over ts p q):=by unfold over; infer_instance
def loop (ts:List RT)(recB:Q → Qs.OutB):Nat → Gm → Q → Option (Gm × Q)
 | 0,_,_ => none
 | g + 1,p,q =>
   if q.E = 0 ∧ (tokAt ts q.k).kind ≠ 0 then
     if over ts p q then loop ts recB g p (Qe.fail ts q 4)
     else if Qe.is ts q true [114,101,99,111,114,100] then
       match record ts g (Qe.next q) with
       | none => none
       | some (x,q2) => loop ts recB g (p.addR x) q2
     else if Qe.is ts q true [103,108,111,98,97,108] then
       loop ts recB g (p.addG (param ts (Qe.next q)).1) (Qe.take ts (param ts (Qe.next q)).2 false [59])
     else if Qe.is ts q true [102,117,110,99] then
       match function ts recB g (Qe.next q) with
       | none => none
       | some (x,q2) => loop ts recB g (p.addF x) q2
     else loop ts recB g p (Qe.fail ts q 2)
   else some (p,q)
def pgEnd (p:Gm)(q:Q):Gm × Int × Int:=if q.E = 0 then (p,0,0) else (Gm.zero,q.E,q.F)
def run (ts:List RT)(recB:Q → Qs.OutB)(g:Nat):Option (Gm × Int × Int):=
 match loop ts recB g Gm.zero ⟨0,0,0,0⟩ with
 | none => none
 | some (p,q) => some (pgEnd p q)
end Qg
end Go.Proofs.Ytjleggpbghmobaa
