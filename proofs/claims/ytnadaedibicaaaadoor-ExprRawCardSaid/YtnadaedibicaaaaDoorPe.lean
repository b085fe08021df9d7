/-
  What a list of tokens is as an expression, in plain data (no program): chapter 3 of the document.
  What the project's own readers do, step by step, in plain data (no program): a place in the tokens, the first fault, how many are open.
-/
import Derived.Below
import Derived.RowKit
namespace Go.Proofs.YtnadaedibicaaaaDoor
namespace Px

/-- A token, whatever it holds. -/
structure RT where
  kind : Int
  text : List UInt8
  num : Int
  at_ : Int
def RT.none : RT := ⟨0, [], 0, 0⟩

/-- An expression as it is read: no type, no number of a local. -/
inductive Ex where
  | mk (kind num : Int) (name ofn : List UInt8) (dims : Int) (kids : List Ex) (at_ : Int)

def tokAt (l : List RT) (k : Int) : RT := if 0 ≤ k ∧ k < (l.length : Int) then l.getD k.toNat RT.none else RT.none

/-- A word (true), or a sign, stands at a place. -/
def isT (l : List RT) (k : Int) (word : Bool) (text : List UInt8) : Bool :=
  decide ((tokAt l k).kind = (if word then 3 else 4)) && (tokAt l k).text == text

/-- A reading's end: the value and the place behind it, or the error and its place. -/
abbrev Res (α : Type) := Except (Int × Int) (α × Int)
def bad {α : Type} (l : List RT) (k : Int) : Res α := .error (2, (tokAt l k).at_)
def over {α : Type} (l : List RT) (k : Int) : Res α := .error (4, (tokAt l k).at_)
def andThen {α β : Type} (x : Res α) (f : α → Int → Res β) : Res β :=
  match x with
  | .error e => .error e
  | .ok (a, k) => f a k

def takeT (l : List RT) (k : Int) (word : Bool) (text : List UInt8) : Res Unit := if isT l k word text then .ok ((), k + 1) else bad l k
def opensT (l : List RT) (opn k : Int) (text : List UInt8) : Res Unit := if isT l k false text && decide (50 ≤ opn) then over l k else takeT l k false text
def nameT (l : List RT) (k : Int) : Res (List UInt8) := if (tokAt l k).kind = 1 then .ok ((tokAt l k).text, k + 1) else bad l k

/-! Types. -/
def dimsT (l : List RT) : Nat → Nat → Int → Res Nat
  | 0, d, k => if isT l k false [91] then over l k else .ok (d, k)
  | n + 1, d, k => if isT l k false [91] then dimsT l n (d + 1) (k + 1) else .ok (d, k)
def closeT (l : List RT) : Nat → Int → Res Unit
  | 0, k => .ok ((), k)
  | n + 1, k => andThen (takeT l k false [93]) fun _ k => closeT l n k
def baseT (l : List RT) (k : Int) : Res (List UInt8) :=
  if isT l k true [105, 110, 116] || isT l k true [98, 111, 111, 108] then .ok ((tokAt l k).text, k + 1) else nameT l k
def ofT (l : List RT) (k : Int) : Res (List UInt8 × Nat) :=
  andThen (dimsT l 3 0 k) fun d k => andThen (baseT l k) fun s k => andThen (closeT l d k) fun _ k => .ok ((s, d), k)

/-! Expressions. -/
def signsOf : Nat → List (List UInt8 × Int)
  | 0 => [([124, 124], 24)]
  | 1 => [([38, 38], 23)]
  | 2 => [([60], 19), ([60, 61], 20), ([61, 61], 21), ([33, 61], 22)]
  | 3 => [([43], 14), ([45], 15)]
  | 4 => [([42], 16), ([47], 17), ([37], 18)]
  | _ => []
/-- The kind that a token makes at a level; 0: none. -/
def levelT (n : Nat) (t : RT) : Int := if t.kind = 4 then ((signsOf n).find? fun p => p.1 == t.text).elim 0 (·.2) else 0

def binT (l : List RT) (n : Nat) (next : Int → Res Ex) : Nat → Ex → Int → Res Ex
  | 0, a, k => .ok (a, k)
  | g + 1, a, k =>
    if levelT n (tokAt l k) = 0 then .ok (a, k) else
    andThen (next (k + 1)) fun b k2 => binT l n next g (.mk (levelT n (tokAt l k)) 0 [] [] 0 [a, b] (tokAt l k).at_) k2

def innerT (l : List RT) (expr0 : Int → Int → Res Ex) (opn k : Int) : Res Ex :=
  andThen (opensT l opn k [40]) fun _ k => andThen (expr0 (opn + 1) k) fun a k => andThen (takeT l k false [41]) fun _ k => .ok (a, k)

def moreT (l : List RT) (expr0 : Int → Res Ex) : Nat → List Ex → Int → Res (List Ex)
  | 0, as, k => .ok (as, k)
  | g + 1, as, k => if isT l k false [44] then andThen (expr0 (k + 1)) fun a k => moreT l expr0 g (as ++ [a]) k else .ok (as, k)
def argsT (l : List RT) (expr0 : Int → Int → Res Ex) (opn k : Int) : Res (List Ex) :=
  andThen (opensT l opn k [40]) fun _ k =>
    if isT l k false [41] then .ok ([], k + 1) else
    andThen (expr0 (opn + 1) k) fun a k => andThen (moreT l (expr0 (opn + 1)) (l.length + 1) [a] k) fun as k => andThen (takeT l k false [41]) fun _ k => .ok (as, k)

def freshT (l : List RT) (expr0 : Int → Int → Res Ex) (opn k at_ : Int) : Res Ex :=
  if isT l k false [91] then
    andThen (ofT l (k + 1)) fun o k => andThen (takeT l k false [93]) fun _ k => andThen (innerT l expr0 opn k) fun a k => .ok (.mk 9 0 [] o.1 o.2 [a] at_, k)
  else andThen (nameT l k) fun s k => .ok (.mk 8 0 [] s 0 [] at_, k)

def firstT (l : List RT) (expr0 : Int → Int → Res Ex) (opn k : Int) : Res Ex :=
  let t := tokAt l k
  if t.kind = 2 then .ok (.mk 1 t.num [] [] 0 [] t.at_, k + 1)
  else if isT l k true [116, 114, 117, 101] then .ok (.mk 2 1 [] [] 0 [] t.at_, k + 1)
  else if isT l k true [102, 97, 108, 115, 101] then .ok (.mk 2 0 [] [] 0 [] t.at_, k + 1)
  else if isT l k true [110, 117, 108, 108] then andThen (ofT l (k + 1)) fun o k => .ok (.mk 3 0 [] o.1 o.2 [] t.at_, k)
  else if isT l k true [110, 101, 119] then freshT l expr0 opn (k + 1) t.at_
  else if isT l k true [108, 101, 110] then andThen (innerT l expr0 opn (k + 1)) fun a k => .ok (.mk 10 0 [] [] 0 [a] t.at_, k)
  else if isT l k true [114, 101, 97, 100] then andThen (opensT l opn (k + 1) [40]) fun _ k => andThen (takeT l k false [41]) fun _ k => .ok (.mk 11 0 [] [] 0 [] t.at_, k)
  else if isT l k false [40] then innerT l expr0 opn k
  else andThen (nameT l k) fun s k =>
    if isT l k false [40] then andThen (argsT l expr0 opn k) fun as k => .ok (.mk 7 0 s [] 0 as t.at_, k) else .ok (.mk 4 0 s [] 0 [] t.at_, k)

def behindT (l : List RT) (expr0 : Int → Int → Res Ex) (opn : Int) : Nat → Ex → Int → Res Ex
  | 0, a, k => .ok (a, k)
  | g + 1, a, k =>
    if isT l k false [46] then andThen (nameT l (k + 1)) fun s k2 => behindT l expr0 opn g (.mk 5 0 s [] 0 [a] (tokAt l k).at_) k2
    else if isT l k false [91] then
      andThen (opensT l opn k [91]) fun _ k1 => andThen (expr0 (opn + 1) k1) fun i k2 => andThen (takeT l k2 false [93]) fun _ k3 => behindT l expr0 opn g (.mk 6 0 [] [] 0 [a, i] (tokAt l k).at_) k3
    else .ok (a, k)

/-- One with - or ! in front (expr5: such a one, with one more open), or a first one and what stands behind it. -/
def unaryT (l : List RT) (expr0 expr5 : Int → Int → Res Ex) (opn k : Int) : Res Ex :=
  if isT l k false [45] then andThen (opensT l opn k [45]) fun _ k1 => andThen (expr5 (opn + 1) k1) fun a k2 => .ok (.mk 12 0 [] [] 0 [a] (tokAt l k).at_, k2)
  else if isT l k false [33] then andThen (opensT l opn k [33]) fun _ k1 => andThen (expr5 (opn + 1) k1) fun a k2 => .ok (.mk 13 0 [] [] 0 [a] (tokAt l k).at_, k2)
  else andThen (firstT l expr0 opn k) fun a k => behindT l expr0 opn (l.length + 1) a k

/-- An expression whose signs bind at least as much as those of a level (5: none), by so much fuel. -/
def exprF (l : List RT) : Nat → Nat → Int → Int → Res Ex
  | 0, _, _, k => bad l k
  | f + 1, n, opn, k =>
    if n = 5 then unaryT l (exprF l f 0) (exprF l f 5) opn k
    else andThen (exprF l f (n + 1) opn k) fun a k => binT l n (exprF l f (n + 1) opn) (l.length + 1) a k

/-- How much fuel a place and a level want. -/
def need (l : List RT) (n : Nat) (k : Int) : Nat := 7 * (l.length - k.toNat) + (5 - n) + 1

/-! A place that is read lies within the list. -/
theorem tokAt_out {l : List RT} {k : Int} (h : ¬ (0 ≤ k ∧ k < (l.length : Int))) : tokAt l k = RT.none := if_neg h
theorem isT_in {l : List RT} {k : Int} {word : Bool} {text : List UInt8} (h : isT l k word text = true) : 0 ≤ k ∧ k < (l.length : Int) := by
  by_cases hk : 0 ≤ k ∧ k < (l.length : Int)
  · exact hk
  · unfold isT at h
    rw [tokAt_out hk] at h
    cases word <;> simp [RT.none] at h
theorem take_in {l : List RT} {k k2 : Int} {word : Bool} {text : List UInt8} {u : Unit} (h : takeT l k word text = .ok (u, k2)) : isT l k word text = true ∧ k2 = k + 1 := by
  unfold takeT at h
  split at h
  · rename_i hi
    injection h with h
    injection h with _ h
    exact ⟨hi, h.symm⟩
  · cases h
theorem opens_in {l : List RT} {opn k k2 : Int} {text : List UInt8} {u : Unit} (h : opensT l opn k text = .ok (u, k2)) : isT l k false text = true ∧ opn < 50 ∧ k2 = k + 1 := by
  unfold opensT at h
  split at h
  · cases h
  · rename_i hn
    obtain ⟨h1, h2⟩ := take_in h
    rw [h1] at hn
    exact ⟨h1, by simpa using hn, h2⟩
theorem name_in {l : List RT} {k k2 : Int} {s : List UInt8} (h : nameT l k = .ok (s, k2)) : 0 ≤ k ∧ k < (l.length : Int) ∧ k2 = k + 1 := by
  unfold nameT at h
  split at h
  · rename_i hk
    injection h with h
    injection h with _ h
    by_cases hin : 0 ≤ k ∧ k < (l.length : Int)
    · exact ⟨hin.1, hin.2, h.symm⟩
    · rw [tokAt_out hin] at hk; cases hk
  · cases h
end Px
end Go.Proofs.YtnadaedibicaaaaDoor
namespace Go.Proofs.YtnadaedibicaaaaDoor
namespace Pe
open Go.RowKit
open Px (RT tokAt)

/-- A cursor: its place, its fault and the fault's place. -/
structure Cs where
  k : Int
  E : Int
  F : Int
/-- A reader: its cursor, how many are open. -/
structure St where
  c : Cs
  o : Int

/-- An expression, whatever it holds. -/
inductive Ex where
  | mk (kind num : Int) (name ofn : List UInt8) (dims : Int) (kids : List Ex) (at_ b r d ref : Int)
def Ex.zero : Ex := .mk 0 0 [] [] 0 [] 0 0 0 0 0
/-- One as it is read. -/
def Ex.of (kind num : Int) (name ofn : List UInt8) (dims : Int) (kids : List Ex) (at_ : Int) : Ex := .mk kind num name ofn dims kids at_ 0 0 0 0

def inc (x : Int) : Int := wrap64 (x + 1)
def dec (x : Int) : Int := wrap64 (x - 1)

def peek (ts : List RT) (s : Cs) : RT := if s.E = 0 then tokAt ts s.k else RT.none
def next (s : Cs) : Cs := ⟨inc s.k, s.E, s.F⟩
def sees (ts : List RT) (s : Cs) (kind : Int) (text : List UInt8) : Bool := decide ((peek ts s).kind = kind) && (peek ts s).text == text
def fail (ts : List RT) (s : Cs) (e : Int) : Cs := if s.E = 0 then ⟨s.k, e, (tokAt ts s.k).at_⟩ else s
def failUnless (ts : List RT) (s : Cs) (e : Int) (b : Bool) : Cs := if b then s else fail ts s e
/-- What is taken: the token, and the cursor behind it. -/
def sign (ts : List RT) (s : Cs) (text : List UInt8) : RT × Cs :=
  let s1 := failUnless ts s 2 (sees ts s 4 text)
  (peek ts s1, next s1)
def name (ts : List RT) (s : Cs) : List UInt8 × Cs :=
  let s1 := failUnless ts s 2 (decide ((peek ts s).kind = 1))
  ((peek ts s1).text, next s1)
/-- What a reading ends in: the place, the fault and its place. -/
def ends (s : Cs) : Int × Int × Int := if s.E = 0 then (s.k, 0, 0) else (0, s.E, s.F)
/-- The opening brackets of a type, so many at most: how many, and the cursor behind them. -/
def dims (ts : List RT) : Nat → Cs → Nat × Cs
  | 0, s => (0, if sees ts s 4 [91] then fail ts s 4 else s)
  | n + 1, s => if sees ts s 4 [91] then ((dims ts n (next s)).1 + 1, (dims ts n (next s)).2) else (0, s)
def base (ts : List RT) (s : Cs) : List UInt8 × Cs :=
  if sees ts s 3 [105, 110, 116] || sees ts s 3 [98, 111, 111, 108] then ((peek ts s).text, next s) else name ts s
def shut (ts : List RT) : Nat → Cs → Cs
  | 0, s => s
  | n + 1, s => shut ts n (sign ts s [93]).2
def readType (ts : List RT) (s : Cs) : List UInt8 × Nat × Cs :=
  ((base ts (dims ts 3 s).2).1, (dims ts 3 s).1, shut ts (dims ts 3 s).1 (base ts (dims ts 3 s).2).2)
/-- A type as it is written: its name, its dimensions, the place behind it, or the fault and its place. -/
def ofEnd (n : List UInt8) (d : Nat) (s : Cs) : List UInt8 × Nat × Int × Int × Int := if s.E = 0 then (n, d, s.k, 0, 0) else ([], 0, 0, s.E, s.F)
def ofAns (ts : List RT) (k : Int) : List UInt8 × Nat × Int × Int × Int := ofEnd (readType ts ⟨k, 0, 0⟩).1 (readType ts ⟨k, 0, 0⟩).2.1 (readType ts ⟨k, 0, 0⟩).2.2
end Pe
end Go.Proofs.YtnadaedibicaaaaDoor
