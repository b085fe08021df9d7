/-
  What the project's own reader of programs does, step by step, in plain data (no program). B: what the reader of blocks answers at a place with nothing open.
  What the answer's reader (runrigref3) does with programs, step by step, in plain data (no program).
-/
import Derived.Test.YtnadaedibicaaaaGreatDoorK15
namespace Go.Proofs.YtnadaedibicaaaaGreatDoor
namespace Pg
open Go.RowKit
open Px (RT tokAt)
open Pe
open Ps (Sm)

/-- A name with its type; a record; a function; a program. -/
structure Pm where
  name : List UInt8
  ofn : List UInt8
  dims : Int
  at_ : Int
structure Rc where
  name : List UInt8
  fields : List Pm
  at_ : Int
structure Fc where
  name : List UInt8
  params : List Pm
  has : Bool
  rn : List UInt8
  rd : Int
  body : List Sm
  at_ : Int
structure Gm where
  recs : List Rc
  globals : List Pm
  funcs : List Fc
def Gm.zero : Gm := ⟨[], [], []⟩
def Gm.addR (p : Gm) (x : Rc) : Gm := ⟨p.recs ++ [x], p.globals, p.funcs⟩
def Gm.addG (p : Gm) (x : Pm) : Gm := ⟨p.recs, p.globals ++ [x], p.funcs⟩
def Gm.addF (p : Gm) (x : Fc) : Gm := ⟨p.recs, p.globals, p.funcs ++ [x]⟩

abbrev BX := Int → List Sm × Int × Int × Int

/-- A type is read by the other reader. -/
def rdOf (ts : List RT) (s : Cs) : List UInt8 × Nat × Cs :=
  if s.E = 0 then
    if (ofAns ts s.k).2.2.2.1 = 0 then ((ofAns ts s.k).1, (ofAns ts s.k).2.1, ⟨(ofAns ts s.k).2.2.1, s.E, s.F⟩)
    else ([], 0, ⟨s.k, (ofAns ts s.k).2.2.2.1, (ofAns ts s.k).2.2.2.2⟩)
  else ([], 0, s)
/-- A block is read by the other reader. -/
def rdB (B : BX) (s : Cs) : List Sm × Cs :=
  if s.E = 0 then
    if (B s.k).2.2.1 = 0 then ((B s.k).1, ⟨(B s.k).2.1, s.E, s.F⟩)
    else ([], ⟨s.k, (B s.k).2.2.1, (B s.k).2.2.2⟩)
  else ([], s)
def limit (ts : List RT) (s : Cs) (n most : Int) : Cs := if n = most then fail ts s 4 else s
def sg (ts : List RT) (s : Cs) (t : List UInt8) : Cs := (sign ts s t).2

def declared (ts : List RT) (s : Cs) : Pm × Cs :=
  let n := name ts s
  let t := rdOf ts (sg ts n.2 [58])
  (⟨n.1, t.1, t.2.1, (peek ts s).at_⟩, t.2.2)
def oneMore (ts : List RT) (l : List Pm) (most : Int) (s : Cs) : List Pm × Cs :=
  let d := declared ts (if (peek ts s).kind = 1 then limit ts s l.length most else s)
  (l ++ [d.1], d.2)
def parLoop (ts : List RT) : Nat → List Pm → Cs → Option (List Pm × Cs)
  | 0, _, _ => none
  | g + 1, l, s =>
    if sees ts s 4 [44] then parLoop ts g (oneMore ts l 6 (next s)).1 (oneMore ts l 6 (next s)).2
    else some (l, s)
def parFirst (ts : List RT) (s : Cs) : List Pm × Cs := if sees ts s 4 [41] then ([], s) else oneMore ts [] 6 s
def params (ts : List RT) (g : Nat) (s : Cs) : Option (List Pm × Cs) :=
  match parLoop ts g (parFirst ts (sg ts s [40])).1 (parFirst ts (sg ts s [40])).2 with
  | none => none
  | some (l, s2) => some (l, sg ts s2 [41])
/-- The result's type, if there is one. -/
def resultOf (ts : List RT) (s : Cs) : Bool × List UInt8 × Nat × Cs :=
  if sees ts s 4 [58] then (true, rdOf ts (next s)) else (false, [], 0, s)
def function (ts : List RT) (B : BX) (g : Nat) (s : Cs) : Option (Fc × Cs) :=
  match params ts g (name ts (next s)).2 with
  | none => none
  | some (ps, s1) =>
    let t := resultOf ts s1
    some (⟨(name ts (next s)).1, ps, t.1, t.2.1, t.2.2.1, (rdB B t.2.2.2).1, (peek ts (next s)).at_⟩, (rdB B t.2.2.2).2)
def fieldLoop (ts : List RT) : Nat → List Pm → Cs → Option (List Pm × Cs)
  | 0, _, _ => none
  | g + 1, l, s =>
    if (peek ts s).kind = 1 then fieldLoop ts g (oneMore ts l 8 s).1 (sg ts (oneMore ts l 8 s).2 [59])
    else some (l, s)
def record (ts : List RT) (g : Nat) (s : Cs) : Option (Rc × Cs) :=
  match fieldLoop ts g [] (sg ts (name ts (next s)).2 [123]) with
  | none => none
  | some (l, s2) => some (⟨(name ts (next s)).1, l, (peek ts (next s)).at_⟩, sg ts s2 [125])
def global (ts : List RT) (s : Cs) : Pm × Cs := ((declared ts (next s)).1, sg ts (declared ts (next s)).2 [59])
def loop (ts : List RT) (B : BX) : Nat → Gm → Cs → Option (Gm × Cs)
  | 0, _, _ => none
  | g + 1, p, s =>
    if (peek ts s).kind = 0 then some (p, s)
    else if sees ts s 3 [114, 101, 99, 111, 114, 100] then
      match record ts g (limit ts s p.recs.length 12) with
      | none => none
      | some (x, s2) => loop ts B g (p.addR x) s2
    else if sees ts s 3 [103, 108, 111, 98, 97, 108] then
      loop ts B g (p.addG (global ts (limit ts s p.globals.length 8)).1) (global ts (limit ts s p.globals.length 8)).2
    else if sees ts s 3 [102, 117, 110, 99] then
      match function ts B g (limit ts s p.funcs.length 16) with
      | none => none
      | some (x, s2) => loop ts B g (p.addF x) s2
    else loop ts B g p (fail ts s 2)
def pgEnd (p : Gm) (s : Cs) : Gm × Int × Int := if s.E = 0 then (p, 0, 0) else (Gm.zero, s.E, s.F)
/-- By so much fuel: the program of these tokens, or the first fault. -/
def run (ts : List RT) (B : BX) (g : Nat) : Option (Gm × Int × Int) :=
  match loop ts B g Gm.zero ⟨0, 0, 0⟩ with
  | none => none
  | some (p, s) => some (pgEnd p s)
end Pg
end Go.Proofs.YtnadaedibicaaaaGreatDoor
namespace Go.Proofs.YtnadaedibicaaaaGreatDoor
namespace Qg
open Go.RowKit
open Px (RT tokAt)
open Qe (Q)
open Ps (Sm)
open Pg (Pm Rc Fc Gm)

def param (ts : List RT) (q : Q) : Pm × Q :=
  let n := Qe.name ts q
  let t := Qe.of ts (Qe.take ts n.2 false [58])
  (⟨n.1, t.1, t.2.1, (tokAt ts q.k).at_⟩, t.2.2)
def fieldLoop (ts : List RT) : Nat → List Pm → Q → Option (List Pm × Q)
  | 0, _, _ => none
  | g + 1, l, q =>
    if q.E = 0 ∧ Qe.is ts q false [125] = false then
      if (tokAt ts q.k).kind = 1 ∧ l.length = 8 then some (l, Qe.fail ts q 4)
      else fieldLoop ts g (l ++ [(param ts q).1]) (Qe.take ts (param ts q).2 false [59])
    else some (l, q)
def record (ts : List RT) (g : Nat) (q : Q) : Option (Rc × Q) :=
  match fieldLoop ts g [] (Qe.take ts (Qe.name ts q).2 false [123]) with
  | none => none
  | some (l, q2) => some (⟨(Qe.name ts q).1, l, (tokAt ts q.k).at_⟩, Qe.take ts q2 false [125])
/-- Behind a parameter. -/
def comma (ts : List RT) (q : Q) : Q :=
  if Qe.is ts q false [41] then q
  else if Qe.is ts (Qe.take ts q false [44]) false [41] then Qe.fail ts (Qe.take ts q false [44]) 2
  else Qe.take ts q false [44]
def parLoop (ts : List RT) : Nat → List Pm → Q → Option (List Pm × Q)
  | 0, _, _ => none
  | g + 1, l, q =>
    if q.E = 0 ∧ Qe.is ts q false [41] = false then
      if (tokAt ts q.k).kind = 1 ∧ l.length = 6 then some (l, Qe.fail ts q 4)
      else parLoop ts g (l ++ [(param ts q).1]) (comma ts (param ts q).2)
    else some (l, q)
def resultOf (ts : List RT) (q : Q) : Bool × List UInt8 × Nat × Q :=
  if Qe.is ts q false [58] then (true, Qe.of ts (Qe.next q)) else (false, [], 0, q)
def function (ts : List RT) (recB : Q → Qs.OutB) (g : Nat) (q : Q) : Option (Fc × Q) :=
  match parLoop ts g [] (Qe.take ts (Qe.name ts q).2 false [40]) with
  | none => none
  | some (ps, q1) =>
    let t := resultOf ts (Qe.take ts q1 false [41])
    match recB t.2.2.2 with
    | none => none
    | some (b, q3) => some (⟨(Qe.name ts q).1, ps, t.1, t.2.1, t.2.2.1, b, (tokAt ts q.k).at_⟩, q3)
def over (ts : List RT) (p : Gm) (q : Q) : Prop :=
  (Qe.is ts q true [114, 101, 99, 111, 114, 100] = true ∧ p.recs.length = 12) ∨ (Qe.is ts q true [103, 108, 111, 98, 97, 108] = true ∧ p.globals.length = 8) ∨ (Qe.is ts q true [102, 117, 110, 99] = true ∧ p.funcs.length = 16)
instance (ts : List RT) (p : Gm) (q : Q) : Decidable (over ts p q) := by unfold over; infer_instance
def loop (ts : List RT) (recB : Q → Qs.OutB) : Nat → Gm → Q → Option (Gm × Q)
  | 0, _, _ => none
  | g + 1, p, q =>
    if q.E = 0 ∧ (tokAt ts q.k).kind ≠ 0 then
      if over ts p q then loop ts recB g p (Qe.fail ts q 4)
      else if Qe.is ts q true [114, 101, 99, 111, 114, 100] then
        match record ts g (Qe.next q) with
        | none => none
        | some (x, q2) => loop ts recB g (p.addR x) q2
      else if Qe.is ts q true [103, 108, 111, 98, 97, 108] then
        loop ts recB g (p.addG (param ts (Qe.next q)).1) (Qe.take ts (param ts (Qe.next q)).2 false [59])
      else if Qe.is ts q true [102, 117, 110, 99] then
        match function ts recB g (Qe.next q) with
        | none => none
        | some (x, q2) => loop ts recB g (p.addF x) q2
      else loop ts recB g p (Qe.fail ts q 2)
    else some (p, q)
def pgEnd (p : Gm) (q : Q) : Gm × Int × Int := if q.E = 0 then (p, 0, 0) else (Gm.zero, q.E, q.F)
def run (ts : List RT) (recB : Q → Qs.OutB) (g : Nat) : Option (Gm × Int × Int) :=
  match loop ts recB g Gm.zero ⟨0, 0, 0, 0⟩ with
  | none => none
  | some (p, q) => some (pgEnd p q)
end Qg
end Go.Proofs.YtnadaedibicaaaaGreatDoor
