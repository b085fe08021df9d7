/-
  What the project's own reader of statements does, step by step, in plain data (no program). P: what the reader of expressions answers at a place with so many open.
  What the answer's reader (runrigref3) does, step by step, in plain data (no program): a place in the tokens, how many are open, the first fault.
  What the answer's reader (runrigref3) does with statements, step by step, in plain data (no program). rx: what it does with an expression.
-/
import Derived.Test.YtnadaedibicaaaaGreatDoorK05
namespace Go.Proofs.YtnadaedibicaaaaGreatDoor
namespace Ps
open Go.RowKit
open Px (RT tokAt)
open Pe

/-- A statement, whatever it holds. -/
inductive Sm where
  | mk (kind : Int) (name ofn : List UInt8) (dims : Int) (es : List Ex) (body els : List Sm) (at_ ref : Int)
def Sm.zero : Sm := .mk 0 [] [] 0 [] [] [] 0 0
def Sm.put (a : Int) : Sm → Sm
  | .mk kind name ofn dims es body els _ ref => .mk kind name ofn dims es body els a ref
def kindOf : Ex → Int
  | .mk kind _ _ _ _ _ _ _ _ _ _ => kind
def nameOf : Ex → List UInt8
  | .mk _ _ name _ _ _ _ _ _ _ _ => name

abbrev PX := Int → Int → Ex × Int × Int × Int
abbrev Out := Option (Sm × St)
abbrev OutB := Option (List Sm × St)

/-- An expression is read by the other reader. -/
def rd (P : PX) (s : St) : Ex × St :=
  if s.c.E = 0 then
    if (P s.c.k s.o).2.2.1 = 0 then ((P s.c.k s.o).1, ⟨⟨(P s.c.k s.o).2.1, s.c.E, s.c.F⟩, s.o⟩)
    else (Ex.zero, ⟨⟨s.c.k, (P s.c.k s.o).2.2.1, (P s.c.k s.o).2.2.2⟩, s.o⟩)
  else (Ex.zero, s)
/-- A type is read by the other reader. -/
def rdOf (ts : List RT) (s : St) : List UInt8 × Nat × St :=
  if s.c.E = 0 then
    if (ofAns ts s.c.k).2.2.2.1 = 0 then ((ofAns ts s.c.k).1, (ofAns ts s.c.k).2.1, ⟨⟨(ofAns ts s.c.k).2.2.1, s.c.E, s.c.F⟩, s.o⟩)
    else ([], 0, ⟨⟨s.c.k, (ofAns ts s.c.k).2.2.2.1, (ofAns ts s.c.k).2.2.2.2⟩, s.o⟩)
  else ([], 0, s)
def sgn (ts : List RT) (s : St) (t : List UInt8) : St := ⟨(sign ts s.c t).2, s.o⟩
def nxt (s : St) : St := ⟨next s.c, s.o⟩

/-- A keyword, a name, a colon and a type. -/
def decl (ts : List RT) (s : St) : List UInt8 × List UInt8 × Nat × St :=
  ((name ts (next s.c)).1, rdOf ts (sgn ts ⟨(name ts (next s.c)).2, s.o⟩ [58]))
def variable_ (ts : List RT) (s : St) : Sm × St :=
  let d := decl ts s
  (.mk 1 d.1 d.2.1 d.2.2.1 [] [] [] 0 0, sgn ts d.2.2.2 [59])
def definition (ts : List RT) (P : PX) (s : St) : Sm × St :=
  let d := decl ts s
  let e := rd P (sgn ts d.2.2.2 [61])
  (.mk 2 d.1 d.2.1 d.2.2.1 [e.1] [] [] 0 0, sgn ts e.2 [59])
def choice (ts : List RT) (P : PX) (recB : St → OutB) (s : St) : Out :=
  let e := rd P (nxt s)
  match recB e.2 with
  | none => none
  | some (b, s2) =>
    if sees ts s2.c 3 [101, 108, 115, 101] then
      match recB (nxt s2) with
      | none => none
      | some (b2, s3) => some (.mk 5 [] [] 0 [e.1] b b2 0 0, s3)
    else some (.mk 5 [] [] 0 [e.1] b [] 0 0, s2)
def loop (P : PX) (recB : St → OutB) (s : St) : Out :=
  let e := rd P (nxt s)
  match recB e.2 with
  | none => none
  | some (b, s2) => some (.mk 6 [] [] 0 [e.1] b [] 0 0, s2)
def result (ts : List RT) (P : PX) (s : St) : Sm × St :=
  if sees ts (next s.c) 4 [59] then (.mk 7 [] [] 0 [] [] [] 0 0, sgn ts (nxt s) [59])
  else (.mk 7 [] [] 0 [(rd P (nxt s)).1] [] [] 0 0, sgn ts (rd P (nxt s)).2 [59])
def output (ts : List RT) (P : PX) (s : St) : Sm × St :=
  (.mk 8 [] [] 0 [(rd P (nxt s)).1] [] [] 0 0, sgn ts (rd P (nxt s)).2 [59])
def refuse (ts : List RT) (s : St) : Sm × St := (Sm.zero, ⟨fail ts s.c 2, s.o⟩)
def call (ts : List RT) (e : Ex) (s : St) : Sm × St :=
  if kindOf e = 7 then (.mk 9 [] [] 0 [e] [] [] 0 0, nxt s) else refuse ts s
/-- The second expression of one that is set, and the semicolon. -/
def assigned (ts : List RT) (P : PX) (s : St) : Ex × St := ((rd P (nxt s)).1, sgn ts (rd P (nxt s)).2 [59])
def assignment (ts : List RT) (P : PX) (e : Ex) (s : St) : Sm × St :=
  if kindOf e = 4 then (.mk 3 (nameOf e) [] 0 [(assigned ts P s).1] [] [] 0 0, (assigned ts P s).2)
  else if kindOf e = 5 ∨ kindOf e = 6 then (.mk 4 [] [] 0 [e, (assigned ts P s).1] [] [] 0 0, (assigned ts P s).2)
  else refuse ts s
def fromExpr (ts : List RT) (P : PX) (s : St) : Sm × St :=
  let e := rd P s
  if (peek ts e.2.c).kind = 4 then
    if (peek ts e.2.c).text = [59] then call ts e.1 e.2
    else if (peek ts e.2.c).text = [61] then assignment ts P e.1 e.2
    else refuse ts e.2
  else refuse ts e.2
/-- The step that a statement's first token stands for. -/
def step (ts : List RT) (P : PX) (recB : St → OutB) (s : St) : Out :=
  if (peek ts s.c).kind = 3 then
    if (peek ts s.c).text = [118, 97, 114] then some (variable_ ts s)
    else if (peek ts s.c).text = [108, 101, 116] then some (definition ts P s)
    else if (peek ts s.c).text = [105, 102] then choice ts P recB s
    else if (peek ts s.c).text = [119, 104, 105, 108, 101] then loop P recB s
    else if (peek ts s.c).text = [114, 101, 116, 117, 114, 110] then some (result ts P s)
    else if (peek ts s.c).text = [112, 114, 105, 110, 116] then some (output ts P s)
    else some (fromExpr ts P s)
  else some (fromExpr ts P s)
def statement (ts : List RT) (P : PX) (recB : St → OutB) (s : St) : Out :=
  match step ts P recB s with
  | none => none
  | some (x, s2) => some (x.put (peek ts s.c).at_, s2)
def stLoop (ts : List RT) (recS : St → Out) : Nat → List Sm → St → OutB
  | 0, _, _ => none
  | g + 1, l, s =>
    if sees ts s.c 4 [125] then some (l, s)
    else if (peek ts s.c).kind = 0 then some (l, s)
    else match recS s with
      | none => none
      | some (x, s2) => stLoop ts recS g (l ++ [x]) s2
def block (ts : List RT) (recS : St → Out) (g : Nat) (s : St) : OutB :=
  match stLoop ts recS g [] (enter ts s [123]).2 with
  | none => none
  | some (l, s2) => some (l, leave ts s2 [125])
/-- By so much fuel: a statement; a block. -/
def run (ts : List RT) (P : PX) : Nat → (St → Out) × (St → OutB)
  | 0 => (fun _ => none, fun _ => none)
  | f + 1 => (statement ts P (run ts P f).2, block ts (run ts P f).1 f)
def stEnd (x : Sm) (c : Cs) : Sm × Int × Int × Int := if c.E = 0 then (x, c.k, 0, 0) else (Sm.zero, 0, c.E, c.F)
def blEnd (l : List Sm) (c : Cs) : List Sm × Int × Int × Int := if c.E = 0 then (l, c.k, 0, 0) else ([], 0, c.E, c.F)
def parse (ts : List RT) (P : PX) (f : Nat) (k o : Int) : Option (Sm × Int × Int × Int) :=
  match (run ts P f).1 ⟨⟨k, 0, 0⟩, clamp o⟩ with
  | none => none
  | some (x, s) => some (stEnd x s.c)
def parseB (ts : List RT) (P : PX) (f : Nat) (k o : Int) : Option (List Sm × Int × Int × Int) :=
  match (run ts P f).2 ⟨⟨k, 0, 0⟩, clamp o⟩ with
  | none => none
  | some (l, s) => some (blEnd l s.c)
end Ps
end Go.Proofs.YtnadaedibicaaaaGreatDoor
namespace Go.Proofs.YtnadaedibicaaaaGreatDoor
namespace Qe
open Go.RowKit
open Px (RT tokAt isT levelT)
open Pe (Ex inc dec)

structure Q where
  k : Int
  o : Int
  E : Int
  F : Int
def next (s : Q) : Q := ⟨inc s.k, s.o, s.E, s.F⟩
def is (ts : List RT) (s : Q) (wd : Bool) (t : List UInt8) : Bool := s.E == 0 && isT ts s.k wd t
def fail (ts : List RT) (s : Q) (e : Int) : Q := if s.E = 0 then ⟨s.k, s.o, e, (tokAt ts s.k).at_⟩ else s
def take (ts : List RT) (s : Q) (wd : Bool) (t : List UInt8) : Q := if is ts s wd t then next s else fail ts s 2
def opens (ts : List RT) (s : Q) (t : List UInt8) : Q :=
  if is ts s false t && decide (50 ≤ s.o) then fail ts s 4 else ⟨(take ts s false t).k, inc (take ts s false t).o, (take ts s false t).E, (take ts s false t).F⟩
def closes (ts : List RT) (s : Q) (t : List UInt8) : Q := ⟨(take ts s false t).k, dec (take ts s false t).o, (take ts s false t).E, (take ts s false t).F⟩
def name (ts : List RT) (s : Q) : List UInt8 × Q := if s.E = 0 ∧ (tokAt ts s.k).kind = 1 then ((tokAt ts s.k).text, next s) else ([], fail ts s 2)

/-- The opening brackets of a type: how many (none: one too many), and the state behind them. -/
def dims (ts : List RT) : Nat → Q → Option Nat × Q
  | 0, s => if is ts s false [91] then (none, fail ts s 4) else (some 0, s)
  | n + 1, s => if is ts s false [91] then ((dims ts n (next s)).1.map (· + 1), (dims ts n (next s)).2) else (some 0, s)
def base (ts : List RT) (s : Q) : List UInt8 × Q :=
  if is ts s true [105, 110, 116] || is ts s true [98, 111, 111, 108] then ((tokAt ts s.k).text, next s) else name ts s
def shut (ts : List RT) : Nat → Q → Q
  | 0, s => s
  | n + 1, s => shut ts n (take ts s false [93])
def of (ts : List RT) (s : Q) : List UInt8 × Nat × Q :=
  match (dims ts 3 s).1 with
  | none => ([], 0, (dims ts 3 s).2)
  | some d => ((base ts (dims ts 3 s).2).1, d, shut ts d (base ts (dims ts 3 s).2).2)

abbrev Out := Option (Ex × Q)
/-- The kind of the binary sign that is read at a level; 0: none, or a fault before. -/
def sign (ts : List RT) (s : Q) (n : Nat) : Int := if s.E = 0 then levelT n (tokAt ts s.k) else 0

def inner (ts : List RT) (rec : Nat → Q → Out) (s : Q) : Out :=
  match rec 0 (opens ts s [40]) with
  | none => none
  | some (e, s2) => some (e, closes ts s2 [41])
def argLoop (ts : List RT) (rec : Nat → Q → Out) : Nat → List Ex → Q → Option (List Ex × Q)
  | 0, _, _ => none
  | g + 1, l, s => if is ts s false [44] then
      match rec 0 (next s) with
      | none => none
      | some (e, s2) => argLoop ts rec g (l ++ [e]) s2
    else some (l, s)
def args (ts : List RT) (rec : Nat → Q → Out) (g : Nat) (s : Q) : Option (List Ex × Q) :=
  if is ts (opens ts s [40]) false [41] then some ([], closes ts (opens ts s [40]) [41]) else
  match rec 0 (opens ts s [40]) with
  | none => none
  | some (e, s2) => match argLoop ts rec g [e] s2 with
    | none => none
    | some (l, s3) => some (l, closes ts s3 [41])
def fresh (ts : List RT) (rec : Nat → Q → Out) (s : Q) (at_ : Int) : Out :=
  if is ts s false [91] then
    let t := of ts (next s)
    match inner ts rec (take ts t.2.2 false [93]) with
    | none => none
    | some (e, s2) => some (Ex.of 9 0 [] t.1 t.2.1 [e] at_, s2)
  else some (Ex.of 8 0 [] (name ts s).1 0 [] at_, (name ts s).2)
def first (ts : List RT) (rec : Nat → Q → Out) (g : Nat) (s : Q) : Out :=
  let t := tokAt ts s.k
  if s.E = 0 ∧ t.kind = 2 then some (Ex.of 1 t.num [] [] 0 [] t.at_, next s)
  else if is ts s true [116, 114, 117, 101] then some (Ex.of 2 1 [] [] 0 [] t.at_, next s)
  else if is ts s true [102, 97, 108, 115, 101] then some (Ex.of 2 0 [] [] 0 [] t.at_, next s)
  else if is ts s true [110, 117, 108, 108] then some (Ex.of 3 0 [] (of ts (next s)).1 (of ts (next s)).2.1 [] t.at_, (of ts (next s)).2.2)
  else if is ts s true [110, 101, 119] then fresh ts rec (next s) t.at_
  else if is ts s true [108, 101, 110] then
    match inner ts rec (next s) with
    | none => none
    | some (e, s2) => some (Ex.of 10 0 [] [] 0 [e] t.at_, s2)
  else if is ts s true [114, 101, 97, 100] then some (Ex.of 11 0 [] [] 0 [] t.at_, closes ts (opens ts (next s) [40]) [41])
  else if is ts s false [40] then inner ts rec s
  else
    let n := name ts s
    if is ts n.2 false [40] then
      match args ts rec g n.2 with
      | none => none
      | some (l, s2) => some (Ex.of 7 0 n.1 [] 0 l t.at_, s2)
    else some (Ex.of 4 0 n.1 [] 0 [] t.at_, n.2)
def behind (ts : List RT) (rec : Nat → Q → Out) : Nat → Ex → Q → Out
  | 0, _, _ => none
  | g + 1, e, s =>
    if is ts s false [46] then
      behind ts rec g (Ex.of 5 0 (name ts (next s)).1 [] 0 [e] (tokAt ts s.k).at_) (name ts (next s)).2
    else if is ts s false [91] then
      match rec 0 (opens ts s [91]) with
      | none => none
      | some (i, s2) => behind ts rec g (Ex.of 6 0 [] [] 0 [e, i] (tokAt ts s.k).at_) (closes ts s2 [93])
    else some (e, s)
def prefixed (ts : List RT) (rec : Nat → Q → Out) (s : Q) (t : List UInt8) (kind : Int) : Out :=
  match rec 5 (opens ts s t) with
  | none => none
  | some (e, s2) => some (Ex.of kind 0 [] [] 0 [e] (tokAt ts s.k).at_, ⟨s2.k, dec s2.o, s2.E, s2.F⟩)
def unary (ts : List RT) (rec : Nat → Q → Out) (g : Nat) (s : Q) : Out :=
  if is ts s false [45] then prefixed ts rec s [45] 12
  else if is ts s false [33] then prefixed ts rec s [33] 13
  else match first ts rec g s with
    | none => none
    | some (e, s2) => behind ts rec g e s2
def binLoop (ts : List RT) (rec : Nat → Q → Out) (n : Nat) : Nat → Ex → Q → Out
  | 0, _, _ => none
  | g + 1, l, s =>
    if sign ts s n = 0 then some (l, s) else
    match rec (n + 1) (next s) with
    | none => none
    | some (r, s2) => binLoop ts rec n g (Ex.of (sign ts s n) 0 [] [] 0 [l, r] (tokAt ts s.k).at_) s2
/-- By so much fuel: the signs of a level and those that bind more (5: one with signs in front). -/
def run (ts : List RT) : Nat → Nat → Q → Out
  | 0 => fun _ _ => none
  | f + 1 => fun n s => if n = 5 then unary ts (run ts f) f s else
      match run ts f (n + 1) s with
      | none => none
      | some (l, s1) => binLoop ts (run ts f) n f l s1
def exEnd (e : Ex) (s : Q) : Ex × Int × Int × Int := if s.E = 0 then (e, s.k, 0, 0) else (Ex.zero, 0, s.E, s.F)
def expr (ts : List RT) (f : Nat) (k o : Int) : Option (Ex × Int × Int × Int) :=
  match run ts f 0 ⟨k, max o 0, 0, 0⟩ with
  | none => none
  | some (e, s) => some (exEnd e s)
def ofEnd (n : List UInt8) (d : Nat) (s : Q) : List UInt8 × Nat × Int × Int × Int := if s.E = 0 then (n, d, s.k, 0, 0) else ([], 0, 0, s.E, s.F)
def ofAns (ts : List RT) (k : Int) : List UInt8 × Nat × Int × Int × Int := ofEnd (of ts ⟨k, 0, 0, 0⟩).1 (of ts ⟨k, 0, 0, 0⟩).2.1 (of ts ⟨k, 0, 0, 0⟩).2.2
end Qe
end Go.Proofs.YtnadaedibicaaaaGreatDoor
namespace Go.Proofs.YtnadaedibicaaaaGreatDoor
namespace Qs
open Go.RowKit
open Px (RT tokAt isT levelT)
open Pe (Ex inc dec)
open Qe (Q)
open Ps (Sm kindOf nameOf)

abbrev Out := Option (Sm × Q)
abbrev OutB := Option (List Sm × Q)
abbrev RX := Q → Option (Ex × Q)

/-- A keyword, a name, a colon and a type. -/
def decl (ts : List RT) (s : Q) : List UInt8 × List UInt8 × Nat × Q :=
  ((Qe.name ts (Qe.next s)).1, Qe.of ts (Qe.take ts (Qe.name ts (Qe.next s)).2 false [58]))
def declared (ts : List RT) (rx : RX) (s : Q) : Out :=
  let d := decl ts s
  if (tokAt ts s.k).text = [108, 101, 116] then
    match rx (Qe.take ts d.2.2.2 false [61]) with
    | none => none
    | some (e, s2) => some (.mk 2 d.1 d.2.1 d.2.2.1 [e] [] [] (tokAt ts s.k).at_ 0, Qe.take ts s2 false [59])
  else some (.mk 1 d.1 d.2.1 d.2.2.1 [] [] [] (tokAt ts s.k).at_ 0, Qe.take ts d.2.2.2 false [59])
def choice (ts : List RT) (rx : RX) (recB : Q → OutB) (s : Q) : Out :=
  match rx (Qe.next s) with
  | none => none
  | some (e, s1) =>
    match recB s1 with
    | none => none
    | some (b, s2) =>
      if Qe.is ts s2 true [101, 108, 115, 101] then
        match recB (Qe.next s2) with
        | none => none
        | some (b2, s3) => some (.mk 5 [] [] 0 [e] b b2 (tokAt ts s.k).at_ 0, s3)
      else some (.mk 5 [] [] 0 [e] b [] (tokAt ts s.k).at_ 0, s2)
def loop (ts : List RT) (rx : RX) (recB : Q → OutB) (s : Q) : Out :=
  match rx (Qe.next s) with
  | none => none
  | some (e, s1) =>
    match recB s1 with
    | none => none
    | some (b, s2) => some (.mk 6 [] [] 0 [e] b [] (tokAt ts s.k).at_ 0, s2)
def result (ts : List RT) (rx : RX) (s : Q) : Out :=
  if Qe.is ts (Qe.next s) false [59] then some (.mk 7 [] [] 0 [] [] [] (tokAt ts s.k).at_ 0, Qe.take ts (Qe.next s) false [59])
  else match rx (Qe.next s) with
    | none => none
    | some (e, s2) => some (.mk 7 [] [] 0 [e] [] [] (tokAt ts s.k).at_ 0, Qe.take ts s2 false [59])
def output (ts : List RT) (rx : RX) (s : Q) : Out :=
  match rx (Qe.next s) with
  | none => none
  | some (e, s2) => some (.mk 8 [] [] 0 [e] [] [] (tokAt ts s.k).at_ 0, Qe.take ts s2 false [59])
/-- What stands behind a first expression that no sign = follows. -/
def plainDo (ts : List RT) (at_ : Int) (e : Ex) (s : Q) : Sm × Q :=
  (.mk 9 [] [] 0 [e] [] [] at_ 0, Qe.take ts (if Qe.is ts s false [59] = true ∧ kindOf e ≠ 7 then Qe.fail ts s 2 else s) false [59])
def plainPut (ts : List RT) (rx : RX) (at_ : Int) (e : Ex) (s : Q) : Out :=
  match rx (Qe.take ts (if kindOf e ≠ 4 ∧ kindOf e ≠ 5 ∧ kindOf e ≠ 6 then Qe.fail ts s 2 else s) false [61]) with
  | none => none
  | some (b, s2) => some (if kindOf e = 4 then .mk 3 (nameOf e) [] 0 [b] [] [] at_ 0 else .mk 4 [] [] 0 [e, b] [] [] at_ 0, Qe.take ts s2 false [59])
def plain (ts : List RT) (rx : RX) (at_ : Int) (s : Q) : Out :=
  match rx s with
  | none => none
  | some (e, s1) => if Qe.is ts s1 false [61] then plainPut ts rx at_ e s1 else some (plainDo ts at_ e s1)
def stmt (ts : List RT) (rx : RX) (recB : Q → OutB) (s : Q) : Out :=
  if Qe.is ts s true [118, 97, 114] || Qe.is ts s true [108, 101, 116] then declared ts rx s
  else if Qe.is ts s true [105, 102] then choice ts rx recB s
  else if Qe.is ts s true [119, 104, 105, 108, 101] then loop ts rx recB s
  else if Qe.is ts s true [114, 101, 116, 117, 114, 110] then result ts rx s
  else if Qe.is ts s true [112, 114, 105, 110, 116] then output ts rx s
  else plain ts rx (tokAt ts s.k).at_ s
def stLoop (ts : List RT) (recS : Q → Out) : Nat → List Sm → Q → OutB
  | 0, _, _ => none
  | g + 1, l, s =>
    if s.E = 0 ∧ Qe.is ts s false [125] = false then
      match recS s with
      | none => none
      | some (x, s2) => stLoop ts recS g (l ++ [x]) s2
    else some (l, s)
def block (ts : List RT) (recS : Q → Out) (g : Nat) (s : Q) : OutB :=
  match stLoop ts recS g [] (Qe.opens ts s [123]) with
  | none => none
  | some (l, s2) => some (l, Qe.closes ts s2 [125])
/-- By so much fuel: a statement; a block. -/
def run (ts : List RT) (rx : RX) : Nat → (Q → Out) × (Q → OutB)
  | 0 => (fun _ => none, fun _ => none)
  | f + 1 => (stmt ts rx (run ts rx f).2, block ts (run ts rx f).1 f)
def stEnd (x : Sm) (s : Q) : Sm × Int × Int × Int := if s.E = 0 then (x, s.k, 0, 0) else (Sm.zero, 0, s.E, s.F)
def blEnd (l : List Sm) (s : Q) : List Sm × Int × Int × Int := if s.E = 0 then (l, s.k, 0, 0) else ([], 0, s.E, s.F)
def parse (ts : List RT) (rx : RX) (f : Nat) (k o : Int) : Option (Sm × Int × Int × Int) :=
  match (run ts rx f).1 ⟨k, max o 0, 0, 0⟩ with
  | none => none
  | some (x, s) => some (stEnd x s)
def parseB (ts : List RT) (rx : RX) (f : Nat) (k o : Int) : Option (List Sm × Int × Int × Int) :=
  match (run ts rx f).2 ⟨k, max o 0, 0, 0⟩ with
  | none => none
  | some (l, s) => some (blEnd l s)
end Qs
end Go.Proofs.YtnadaedibicaaaaGreatDoor
