/-
  What the answer's reader (runrigref3) does, step by step, in plain data (no program): a place in the tokens, how many are open, the first fault.
-/
import Derived.Test.YtnadaedibicaaaaDoorPr
namespace Go.Proofs.YtnadaedibicaaaaDoor
namespace Qe
open Go.RowKit
open Px (RT tokAt isT levelT)
open Pe (Ex inc dec)

structure Q where
  k : Int
  o : Int
  E : Int
  F : Int
def next (s : Q) : Q := ⟨inc s.k, s.o, s.E, s.F⟩
def is (ts : List RT) (s : Q) (wd : Bool) (t : List UInt8) : Bool := s.E == 0 && isT ts s.k wd t
def fail (ts : List RT) (s : Q) (e : Int) : Q := if s.E = 0 then ⟨s.k, s.o, e, (tokAt ts s.k).at_⟩ else s
def take (ts : List RT) (s : Q) (wd : Bool) (t : List UInt8) : Q := if is ts s wd t then next s else fail ts s 2
def opens (ts : List RT) (s : Q) (t : List UInt8) : Q :=
  if is ts s false t && decide (50 ≤ s.o) then fail ts s 4 else ⟨(take ts s false t).k, inc (take ts s false t).o, (take ts s false t).E, (take ts s false t).F⟩
def closes (ts : List RT) (s : Q) (t : List UInt8) : Q := ⟨(take ts s false t).k, dec (take ts s false t).o, (take ts s false t).E, (take ts s false t).F⟩
def name (ts : List RT) (s : Q) : List UInt8 × Q := if s.E = 0 ∧ (tokAt ts s.k).kind = 1 then ((tokAt ts s.k).text, next s) else ([], fail ts s 2)

/-- The opening brackets of a type: how many (none: one too many), and the state behind them. -/
def dims (ts : List RT) : Nat → Q → Option Nat × Q
  | 0, s => if is ts s false [91] then (none, fail ts s 4) else (some 0, s)
  | n + 1, s => if is ts s false [91] then ((dims ts n (next s)).1.map (· + 1), (dims ts n (next s)).2) else (some 0, s)
def base (ts : List RT) (s : Q) : List UInt8 × Q :=
  if is ts s true [105, 110, 116] || is ts s true [98, 111, 111, 108] then ((tokAt ts s.k).text, next s) else name ts s
def shut (ts : List RT) : Nat → Q → Q
  | 0, s => s
  | n + 1, s => shut ts n (take ts s false [93])
def of (ts : List RT) (s : Q) : List UInt8 × Nat × Q :=
  match (dims ts 3 s).1 with
  | none => ([], 0, (dims ts 3 s).2)
  | some d => ((base ts (dims ts 3 s).2).1, d, shut ts d (base ts (dims ts 3 s).2).2)

abbrev Out := Option (Ex × Q)
/-- The kind of the binary sign that is read at a level; 0: none, or a fault before. -/
def sign (ts : List RT) (s : Q) (n : Nat) : Int := if s.E = 0 then levelT n (tokAt ts s.k) else 0

def inner (ts : List RT) (rec : Nat → Q → Out) (s : Q) : Out :=
  match rec 0 (opens ts s [40]) with
  | none => none
  | some (e, s2) => some (e, closes ts s2 [41])
def argLoop (ts : List RT) (rec : Nat → Q → Out) : Nat → List Ex → Q → Option (List Ex × Q)
  | 0, _, _ => none
  | g + 1, l, s => if is ts s false [44] then
      match rec 0 (next s) with
      | none => none
      | some (e, s2) => argLoop ts rec g (l ++ [e]) s2
    else some (l, s)
def args (ts : List RT) (rec : Nat → Q → Out) (g : Nat) (s : Q) : Option (List Ex × Q) :=
  if is ts (opens ts s [40]) false [41] then some ([], closes ts (opens ts s [40]) [41]) else
  match rec 0 (opens ts s [40]) with
  | none => none
  | some (e, s2) => match argLoop ts rec g [e] s2 with
    | none => none
    | some (l, s3) => some (l, closes ts s3 [41])
def fresh (ts : List RT) (rec : Nat → Q → Out) (s : Q) (at_ : Int) : Out :=
  if is ts s false [91] then
    let t := of ts (next s)
    match inner ts rec (take ts t.2.2 false [93]) with
    | none => none
    | some (e, s2) => some (Ex.of 9 0 [] t.1 t.2.1 [e] at_, s2)
  else some (Ex.of 8 0 [] (name ts s).1 0 [] at_, (name ts s).2)
def first (ts : List RT) (rec : Nat → Q → Out) (g : Nat) (s : Q) : Out :=
  let t := tokAt ts s.k
  if s.E = 0 ∧ t.kind = 2 then some (Ex.of 1 t.num [] [] 0 [] t.at_, next s)
  else if is ts s true [116, 114, 117, 101] then some (Ex.of 2 1 [] [] 0 [] t.at_, next s)
  else if is ts s true [102, 97, 108, 115, 101] then some (Ex.of 2 0 [] [] 0 [] t.at_, next s)
  else if is ts s true [110, 117, 108, 108] then some (Ex.of 3 0 [] (of ts (next s)).1 (of ts (next s)).2.1 [] t.at_, (of ts (next s)).2.2)
  else if is ts s true [110, 101, 119] then fresh ts rec (next s) t.at_
  else if is ts s true [108, 101, 110] then
    match inner ts rec (next s) with
    | none => none
    | some (e, s2) => some (Ex.of 10 0 [] [] 0 [e] t.at_, s2)
  else if is ts s true [114, 101, 97, 100] then some (Ex.of 11 0 [] [] 0 [] t.at_, closes ts (opens ts (next s) [40]) [41])
  else if is ts s false [40] then inner ts rec s
  else
    let n := name ts s
    if is ts n.2 false [40] then
      match args ts rec g n.2 with
      | none => none
      | some (l, s2) => some (Ex.of 7 0 n.1 [] 0 l t.at_, s2)
    else some (Ex.of 4 0 n.1 [] 0 [] t.at_, n.2)
def behind (ts : List RT) (rec : Nat → Q → Out) : Nat → Ex → Q → Out
  | 0, _, _ => none
  | g + 1, e, s =>
    if is ts s false [46] then
      behind ts rec g (Ex.of 5 0 (name ts (next s)).1 [] 0 [e] (tokAt ts s.k).at_) (name ts (next s)).2
    else if is ts s false [91] then
      match rec 0 (opens ts s [91]) with
      | none => none
      | some (i, s2) => behind ts rec g (Ex.of 6 0 [] [] 0 [e, i] (tokAt ts s.k).at_) (closes ts s2 [93])
    else some (e, s)
def prefixed (ts : List RT) (rec : Nat → Q → Out) (s : Q) (t : List UInt8) (kind : Int) : Out :=
  match rec 5 (opens ts s t) with
  | none => none
  | some (e, s2) => some (Ex.of kind 0 [] [] 0 [e] (tokAt ts s.k).at_, ⟨s2.k, dec s2.o, s2.E, s2.F⟩)
def unary (ts : List RT) (rec : Nat → Q → Out) (g : Nat) (s : Q) : Out :=
  if is ts s false [45] then prefixed ts rec s [45] 12
  else if is ts s false [33] then prefixed ts rec s [33] 13
  else match first ts rec g s with
    | none => none
    | some (e, s2) => behind ts rec g e s2
def binLoop (ts : List RT) (rec : Nat → Q → Out) (n : Nat) : Nat → Ex → Q → Out
  | 0, _, _ => none
  | g + 1, l, s =>
    if sign ts s n = 0 then some (l, s) else
    match rec (n + 1) (next s) with
    | none => none
    | some (r, s2) => binLoop ts rec n g (Ex.of (sign ts s n) 0 [] [] 0 [l, r] (tokAt ts s.k).at_) s2
/-- By so much fuel: the signs of a level and those that bind more (5: one with signs in front). -/
def run (ts : List RT) : Nat → Nat → Q → Out
  | 0 => fun _ _ => none
  | f + 1 => fun n s => if n = 5 then unary ts (run ts f) f s else
      match run ts f (n + 1) s with
      | none => none
      | some (l, s1) => binLoop ts (run ts f) n f l s1
def exEnd (e : Ex) (s : Q) : Ex × Int × Int × Int := if s.E = 0 then (e, s.k, 0, 0) else (Ex.zero, 0, s.E, s.F)
def expr (ts : List RT) (f : Nat) (k o : Int) : Option (Ex × Int × Int × Int) :=
  match run ts f 0 ⟨k, max o 0, 0, 0⟩ with
  | none => none
  | some (e, s) => some (exEnd e s)
def ofEnd (n : List UInt8) (d : Nat) (s : Q) : List UInt8 × Nat × Int × Int × Int := if s.E = 0 then (n, d, s.k, 0, 0) else ([], 0, 0, s.E, s.F)
def ofAns (ts : List RT) (k : Int) : List UInt8 × Nat × Int × Int × Int := ofEnd (of ts ⟨k, 0, 0, 0⟩).1 (of ts ⟨k, 0, 0, 0⟩).2.1 (of ts ⟨k, 0, 0, 0⟩).2.2
end Qe
end Go.Proofs.YtnadaedibicaaaaDoor
