/-
  What the project's own reader of statements does, step by step, in plain data (no program).
  P: what the reader of expressions answers at a place with so many open.
-/
import Derived.Test.YtnnbdidefgghjaaDoorPr
namespace Go.Proofs.YtnnbdidefgghjaaDoor
namespace Ps
open Go.RowKit
open Px (RT tokAt)
open Pe

/-- A statement, whatever it holds. -/
inductive Sm where
  | mk (kind : Int) (name ofn : List UInt8) (dims : Int) (es : List Ex) (body els : List Sm) (at_ ref : Int)
def Sm.zero : Sm := .mk 0 [] [] 0 [] [] [] 0 0
def Sm.put (a : Int) : Sm → Sm
  | .mk kind name ofn dims es body els _ ref => .mk kind name ofn dims es body els a ref
def kindOf : Ex → Int
  | .mk kind _ _ _ _ _ _ _ _ _ _ => kind
def nameOf : Ex → List UInt8
  | .mk _ _ name _ _ _ _ _ _ _ _ => name

abbrev PX := Int → Int → Ex × Int × Int × Int
abbrev Out := Option (Sm × St)
abbrev OutB := Option (List Sm × St)

/-- An expression is read by the other reader. -/
def rd (P : PX) (s : St) : Ex × St :=
  if s.c.E = 0 then
    if (P s.c.k s.o).2.2.1 = 0 then ((P s.c.k s.o).1, ⟨⟨(P s.c.k s.o).2.1, s.c.E, s.c.F⟩, s.o⟩)
    else (Ex.zero, ⟨⟨s.c.k, (P s.c.k s.o).2.2.1, (P s.c.k s.o).2.2.2⟩, s.o⟩)
  else (Ex.zero, s)
/-- A type is read by the other reader. -/
def rdOf (ts : List RT) (s : St) : List UInt8 × Nat × St :=
  if s.c.E = 0 then
    if (ofAns ts s.c.k).2.2.2.1 = 0 then ((ofAns ts s.c.k).1, (ofAns ts s.c.k).2.1, ⟨⟨(ofAns ts s.c.k).2.2.1, s.c.E, s.c.F⟩, s.o⟩)
    else ([], 0, ⟨⟨s.c.k, (ofAns ts s.c.k).2.2.2.1, (ofAns ts s.c.k).2.2.2.2⟩, s.o⟩)
  else ([], 0, s)
def sgn (ts : List RT) (s : St) (t : List UInt8) : St := ⟨(sign ts s.c t).2, s.o⟩
def nxt (s : St) : St := ⟨next s.c, s.o⟩

/-- A keyword, a name, a colon and a type. -/
def decl (ts : List RT) (s : St) : List UInt8 × List UInt8 × Nat × St :=
  ((name ts (next s.c)).1, rdOf ts (sgn ts ⟨(name ts (next s.c)).2, s.o⟩ [58]))
def variable_ (ts : List RT) (s : St) : Sm × St :=
  let d := decl ts s
  (.mk 1 d.1 d.2.1 d.2.2.1 [] [] [] 0 0, sgn ts d.2.2.2 [59])
def definition (ts : List RT) (P : PX) (s : St) : Sm × St :=
  let d := decl ts s
  let e := rd P (sgn ts d.2.2.2 [61])
  (.mk 2 d.1 d.2.1 d.2.2.1 [e.1] [] [] 0 0, sgn ts e.2 [59])
def choice (ts : List RT) (P : PX) (recB : St → OutB) (s : St) : Out :=
  let e := rd P (nxt s)
  match recB e.2 with
  | none => none
  | some (b, s2) =>
    if sees ts s2.c 3 [101, 108, 115, 101] then
      match recB (nxt s2) with
      | none => none
      | some (b2, s3) => some (.mk 5 [] [] 0 [e.1] b b2 0 0, s3)
    else some (.mk 5 [] [] 0 [e.1] b [] 0 0, s2)
def loop (P : PX) (recB : St → OutB) (s : St) : Out :=
  let e := rd P (nxt s)
  match recB e.2 with
  | none => none
  | some (b, s2) => some (.mk 6 [] [] 0 [e.1] b [] 0 0, s2)
def result (ts : List RT) (P : PX) (s : St) : Sm × St :=
  if sees ts (next s.c) 4 [59] then (.mk 7 [] [] 0 [] [] [] 0 0, sgn ts (nxt s) [59])
  else (.mk 7 [] [] 0 [(rd P (nxt s)).1] [] [] 0 0, sgn ts (rd P (nxt s)).2 [59])
def output (ts : List RT) (P : PX) (s : St) : Sm × St :=
  (.mk 8 [] [] 0 [(rd P (nxt s)).1] [] [] 0 0, sgn ts (rd P (nxt s)).2 [59])
def refuse (ts : List RT) (s : St) : Sm × St := (Sm.zero, ⟨fail ts s.c 2, s.o⟩)
def call (ts : List RT) (e : Ex) (s : St) : Sm × St :=
  if kindOf e = 7 then (.mk 9 [] [] 0 [e] [] [] 0 0, nxt s) else refuse ts s
/-- The second expression of one that is set, and the semicolon. -/
def assigned (ts : List RT) (P : PX) (s : St) : Ex × St := ((rd P (nxt s)).1, sgn ts (rd P (nxt s)).2 [59])
def assignment (ts : List RT) (P : PX) (e : Ex) (s : St) : Sm × St :=
  if kindOf e = 4 then (.mk 3 (nameOf e) [] 0 [(assigned ts P s).1] [] [] 0 0, (assigned ts P s).2)
  else if kindOf e = 5 ∨ kindOf e = 6 then (.mk 4 [] [] 0 [e, (assigned ts P s).1] [] [] 0 0, (assigned ts P s).2)
  else refuse ts s
def fromExpr (ts : List RT) (P : PX) (s : St) : Sm × St :=
  let e := rd P s
  if (peek ts e.2.c).kind = 4 then
    if (peek ts e.2.c).text = [59] then call ts e.1 e.2
    else if (peek ts e.2.c).text = [61] then assignment ts P e.1 e.2
    else refuse ts e.2
  else refuse ts e.2
/-- The step that a statement's first token stands for. -/
def step (ts : List RT) (P : PX) (recB : St → OutB) (s : St) : Out :=
  if (peek ts s.c).kind = 3 then
    if (peek ts s.c).text = [118, 97, 114] then some (variable_ ts s)
    else if (peek ts s.c).text = [108, 101, 116] then some (definition ts P s)
    else if (peek ts s.c).text = [105, 102] then choice ts P recB s
    else if (peek ts s.c).text = [119, 104, 105, 108, 101] then loop P recB s
    else if (peek ts s.c).text = [114, 101, 116, 117, 114, 110] then some (result ts P s)
    else if (peek ts s.c).text = [112, 114, 105, 110, 116] then some (output ts P s)
    else some (fromExpr ts P s)
  else some (fromExpr ts P s)
def statement (ts : List RT) (P : PX) (recB : St → OutB) (s : St) : Out :=
  match step ts P recB s with
  | none => none
  | some (x, s2) => some (x.put (peek ts s.c).at_, s2)
def stLoop (ts : List RT) (recS : St → Out) : Nat → List Sm → St → OutB
  | 0, _, _ => none
  | g + 1, l, s =>
    if sees ts s.c 4 [125] then some (l, s)
    else if (peek ts s.c).kind = 0 then some (l, s)
    else match recS s with
      | none => none
      | some (x, s2) => stLoop ts recS g (l ++ [x]) s2
def block (ts : List RT) (recS : St → Out) (g : Nat) (s : St) : OutB :=
  match stLoop ts recS g [] (enter ts s [123]).2 with
  | none => none
  | some (l, s2) => some (l, leave ts s2 [125])
/-- By so much fuel: a statement; a block. -/
def run (ts : List RT) (P : PX) : Nat → (St → Out) × (St → OutB)
  | 0 => (fun _ => none, fun _ => none)
  | f + 1 => (statement ts P (run ts P f).2, block ts (run ts P f).1 f)
def stEnd (x : Sm) (c : Cs) : Sm × Int × Int × Int := if c.E = 0 then (x, c.k, 0, 0) else (Sm.zero, 0, c.E, c.F)
def blEnd (l : List Sm) (c : Cs) : List Sm × Int × Int × Int := if c.E = 0 then (l, c.k, 0, 0) else ([], 0, c.E, c.F)
def parse (ts : List RT) (P : PX) (f : Nat) (k o : Int) : Option (Sm × Int × Int × Int) :=
  match (run ts P f).1 ⟨⟨k, 0, 0⟩, clamp o⟩ with
  | none => none
  | some (x, s) => some (stEnd x s.c)
def parseB (ts : List RT) (P : PX) (f : Nat) (k o : Int) : Option (List Sm × Int × Int × Int) :=
  match (run ts P f).2 ⟨⟨k, 0, 0⟩, clamp o⟩ with
  | none => none
  | some (l, s) => some (blEnd l s.c)
end Ps
end Go.Proofs.YtnnbdidefgghjaaDoor
