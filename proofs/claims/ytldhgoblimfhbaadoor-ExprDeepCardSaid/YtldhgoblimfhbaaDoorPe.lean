/-
  What the project's own readers do, step by step, in plain data (no program): a place in the tokens, the first fault, how many are open.
-/
import Derived.Test.YtldhgoblimfhbaaDoorExp
import Derived.RowKit
namespace Go.Proofs.YtldhgoblimfhbaaDoor
namespace Pe
open Go.RowKit
open Px (RT tokAt)

/-- A cursor: its place, its fault and the fault's place. -/
structure Cs where
  k : Int
  E : Int
  F : Int
/-- A reader: its cursor, how many are open. -/
structure St where
  c : Cs
  o : Int

/-- An expression, whatever it holds. -/
inductive Ex where
  | mk (kind num : Int) (name ofn : List UInt8) (dims : Int) (kids : List Ex) (at_ b r d ref : Int)
def Ex.zero : Ex := .mk 0 0 [] [] 0 [] 0 0 0 0 0
/-- One as it is read. -/
def Ex.of (kind num : Int) (name ofn : List UInt8) (dims : Int) (kids : List Ex) (at_ : Int) : Ex := .mk kind num name ofn dims kids at_ 0 0 0 0

def inc (x : Int) : Int := wrap64 (x + 1)
def dec (x : Int) : Int := wrap64 (x - 1)

def peek (ts : List RT) (s : Cs) : RT := if s.E = 0 then tokAt ts s.k else RT.none
def next (s : Cs) : Cs := ⟨inc s.k, s.E, s.F⟩
def sees (ts : List RT) (s : Cs) (kind : Int) (text : List UInt8) : Bool := decide ((peek ts s).kind = kind) && (peek ts s).text == text
def fail (ts : List RT) (s : Cs) (e : Int) : Cs := if s.E = 0 then ⟨s.k, e, (tokAt ts s.k).at_⟩ else s
def failUnless (ts : List RT) (s : Cs) (e : Int) (b : Bool) : Cs := if b then s else fail ts s e
/-- What is taken: the token, and the cursor behind it. -/
def sign (ts : List RT) (s : Cs) (text : List UInt8) : RT × Cs :=
  let s1 := failUnless ts s 2 (sees ts s 4 text)
  (peek ts s1, next s1)
def name (ts : List RT) (s : Cs) : List UInt8 × Cs :=
  let s1 := failUnless ts s 2 (decide ((peek ts s).kind = 1))
  ((peek ts s1).text, next s1)
/-- What a reading ends in: the place, the fault and its place. -/
def ends (s : Cs) : Int × Int × Int := if s.E = 0 then (s.k, 0, 0) else (0, s.E, s.F)
/-- The opening brackets of a type, so many at most: how many, and the cursor behind them. -/
def dims (ts : List RT) : Nat → Cs → Nat × Cs
  | 0, s => (0, if sees ts s 4 [91] then fail ts s 4 else s)
  | n + 1, s => if sees ts s 4 [91] then ((dims ts n (next s)).1 + 1, (dims ts n (next s)).2) else (0, s)
def base (ts : List RT) (s : Cs) : List UInt8 × Cs :=
  if sees ts s 3 [105, 110, 116] || sees ts s 3 [98, 111, 111, 108] then ((peek ts s).text, next s) else name ts s
def shut (ts : List RT) : Nat → Cs → Cs
  | 0, s => s
  | n + 1, s => shut ts n (sign ts s [93]).2
def readType (ts : List RT) (s : Cs) : List UInt8 × Nat × Cs :=
  ((base ts (dims ts 3 s).2).1, (dims ts 3 s).1, shut ts (dims ts 3 s).1 (base ts (dims ts 3 s).2).2)
/-- A type as it is written: its name, its dimensions, the place behind it, or the fault and its place. -/
def ofEnd (n : List UInt8) (d : Nat) (s : Cs) : List UInt8 × Nat × Int × Int × Int := if s.E = 0 then (n, d, s.k, 0, 0) else ([], 0, 0, s.E, s.F)
def ofAns (ts : List RT) (k : Int) : List UInt8 × Nat × Int × Int × Int := ofEnd (readType ts ⟨k, 0, 0⟩).1 (readType ts ⟨k, 0, 0⟩).2.1 (readType ts ⟨k, 0, 0⟩).2.2
end Pe
end Go.Proofs.YtldhgoblimfhbaaDoor
