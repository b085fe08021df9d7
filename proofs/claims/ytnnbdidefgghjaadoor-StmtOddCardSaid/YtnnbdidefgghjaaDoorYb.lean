/-
  What the answer's reader (runrigref3) does with statements, step by step, in plain data (no program).
  rx: what it does with an expression.
-/
import Derived.Test.YtnnbdidefgghjaaDoorQe
import Derived.Test.YtnnbdidefgghjaaDoorYa
namespace Go.Proofs.YtnnbdidefgghjaaDoor
namespace Qs
open Go.RowKit
open Px (RT tokAt isT levelT)
open Pe (Ex inc dec)
open Qe (Q)
open Ps (Sm kindOf nameOf)

abbrev Out := Option (Sm × Q)
abbrev OutB := Option (List Sm × Q)
abbrev RX := Q → Option (Ex × Q)

/-- A keyword, a name, a colon and a type. -/
def decl (ts : List RT) (s : Q) : List UInt8 × List UInt8 × Nat × Q :=
  ((Qe.name ts (Qe.next s)).1, Qe.of ts (Qe.take ts (Qe.name ts (Qe.next s)).2 false [58]))
def declared (ts : List RT) (rx : RX) (s : Q) : Out :=
  let d := decl ts s
  if (tokAt ts s.k).text = [108, 101, 116] then
    match rx (Qe.take ts d.2.2.2 false [61]) with
    | none => none
    | some (e, s2) => some (.mk 2 d.1 d.2.1 d.2.2.1 [e] [] [] (tokAt ts s.k).at_ 0, Qe.take ts s2 false [59])
  else some (.mk 1 d.1 d.2.1 d.2.2.1 [] [] [] (tokAt ts s.k).at_ 0, Qe.take ts d.2.2.2 false [59])
def choice (ts : List RT) (rx : RX) (recB : Q → OutB) (s : Q) : Out :=
  match rx (Qe.next s) with
  | none => none
  | some (e, s1) =>
    match recB s1 with
    | none => none
    | some (b, s2) =>
      if Qe.is ts s2 true [101, 108, 115, 101] then
        match recB (Qe.next s2) with
        | none => none
        | some (b2, s3) => some (.mk 5 [] [] 0 [e] b b2 (tokAt ts s.k).at_ 0, s3)
      else some (.mk 5 [] [] 0 [e] b [] (tokAt ts s.k).at_ 0, s2)
def loop (ts : List RT) (rx : RX) (recB : Q → OutB) (s : Q) : Out :=
  match rx (Qe.next s) with
  | none => none
  | some (e, s1) =>
    match recB s1 with
    | none => none
    | some (b, s2) => some (.mk 6 [] [] 0 [e] b [] (tokAt ts s.k).at_ 0, s2)
def result (ts : List RT) (rx : RX) (s : Q) : Out :=
  if Qe.is ts (Qe.next s) false [59] then some (.mk 7 [] [] 0 [] [] [] (tokAt ts s.k).at_ 0, Qe.take ts (Qe.next s) false [59])
  else match rx (Qe.next s) with
    | none => none
    | some (e, s2) => some (.mk 7 [] [] 0 [e] [] [] (tokAt ts s.k).at_ 0, Qe.take ts s2 false [59])
def output (ts : List RT) (rx : RX) (s : Q) : Out :=
  match rx (Qe.next s) with
  | none => none
  | some (e, s2) => some (.mk 8 [] [] 0 [e] [] [] (tokAt ts s.k).at_ 0, Qe.take ts s2 false [59])
/-- What stands behind a first expression that no sign = follows. -/
def plainDo (ts : List RT) (at_ : Int) (e : Ex) (s : Q) : Sm × Q :=
  (.mk 9 [] [] 0 [e] [] [] at_ 0, Qe.take ts (if Qe.is ts s false [59] = true ∧ kindOf e ≠ 7 then Qe.fail ts s 2 else s) false [59])
def plainPut (ts : List RT) (rx : RX) (at_ : Int) (e : Ex) (s : Q) : Out :=
  match rx (Qe.take ts (if kindOf e ≠ 4 ∧ kindOf e ≠ 5 ∧ kindOf e ≠ 6 then Qe.fail ts s 2 else s) false [61]) with
  | none => none
  | some (b, s2) => some (if kindOf e = 4 then .mk 3 (nameOf e) [] 0 [b] [] [] at_ 0 else .mk 4 [] [] 0 [e, b] [] [] at_ 0, Qe.take ts s2 false [59])
def plain (ts : List RT) (rx : RX) (at_ : Int) (s : Q) : Out :=
  match rx s with
  | none => none
  | some (e, s1) => if Qe.is ts s1 false [61] then plainPut ts rx at_ e s1 else some (plainDo ts at_ e s1)
def stmt (ts : List RT) (rx : RX) (recB : Q → OutB) (s : Q) : Out :=
  if Qe.is ts s true [118, 97, 114] || Qe.is ts s true [108, 101, 116] then declared ts rx s
  else if Qe.is ts s true [105, 102] then choice ts rx recB s
  else if Qe.is ts s true [119, 104, 105, 108, 101] then loop ts rx recB s
  else if Qe.is ts s true [114, 101, 116, 117, 114, 110] then result ts rx s
  else if Qe.is ts s true [112, 114, 105, 110, 116] then output ts rx s
  else plain ts rx (tokAt ts s.k).at_ s
def stLoop (ts : List RT) (recS : Q → Out) : Nat → List Sm → Q → OutB
  | 0, _, _ => none
  | g + 1, l, s =>
    if s.E = 0 ∧ Qe.is ts s false [125] = false then
      match recS s with
      | none => none
      | some (x, s2) => stLoop ts recS g (l ++ [x]) s2
    else some (l, s)
def block (ts : List RT) (recS : Q → Out) (g : Nat) (s : Q) : OutB :=
  match stLoop ts recS g [] (Qe.opens ts s [123]) with
  | none => none
  | some (l, s2) => some (l, Qe.closes ts s2 [125])
/-- By so much fuel: a statement; a block. -/
def run (ts : List RT) (rx : RX) : Nat → (Q → Out) × (Q → OutB)
  | 0 => (fun _ => none, fun _ => none)
  | f + 1 => (stmt ts rx (run ts rx f).2, block ts (run ts rx f).1 f)
def stEnd (x : Sm) (s : Q) : Sm × Int × Int × Int := if s.E = 0 then (x, s.k, 0, 0) else (Sm.zero, 0, s.E, s.F)
def blEnd (l : List Sm) (s : Q) : List Sm × Int × Int × Int := if s.E = 0 then (l, s.k, 0, 0) else ([], 0, s.E, s.F)
def parse (ts : List RT) (rx : RX) (f : Nat) (k o : Int) : Option (Sm × Int × Int × Int) :=
  match (run ts rx f).1 ⟨k, max o 0, 0, 0⟩ with
  | none => none
  | some (x, s) => some (stEnd x s)
def parseB (ts : List RT) (rx : RX) (f : Nat) (k o : Int) : Option (List Sm × Int × Int × Int) :=
  match (run ts rx f).2 ⟨k, max o 0, 0, 0⟩ with
  | none => none
  | some (l, s) => some (blEnd l s)
end Qs
end Go.Proofs.YtnnbdidefgghjaaDoor
