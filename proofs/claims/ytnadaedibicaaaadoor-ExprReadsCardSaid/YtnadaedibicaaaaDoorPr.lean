/-
  What the project's own reader of expressions does, step by step, in plain data (no program).
-/
import Derived.Test.YtnadaedibicaaaaDoorPe
namespace Go.Proofs.YtnadaedibicaaaaDoor
namespace Pe
open Go.RowKit
open Px (RT tokAt)

def enter (ts : List RT) (s : St) (text : List UInt8) : RT × St :=
  let c1 := if sees ts s.c 4 text && decide (s.o = 50) then fail ts s.c 4 else s.c
  ((sign ts c1 text).1, ⟨(sign ts c1 text).2, inc s.o⟩)
def leave (ts : List RT) (s : St) (text : List UInt8) : St := ⟨(sign ts s.c text).2, dec s.o⟩
def refuse (ts : List RT) (s : St) : Ex × St := (Ex.zero, ⟨fail ts s.c 2, s.o⟩)

/-- The binary signs: text, level, kind. -/
def opList : List (List UInt8 × Int × Int) := [([124, 124], 1, 24), ([38, 38], 2, 23), ([60], 3, 19), ([60, 61], 3, 20), ([61, 61], 3, 21), ([33, 61], 3, 22), ([43], 4, 14), ([45], 4, 15), ([42], 5, 16), ([47], 5, 17), ([37], 5, 18)]
def seesOp (ts : List RT) (c : Cs) (level : Int) : Option Int := (opList.find? fun o => decide (o.2.1 = level) && sees ts c 4 o.1).map (·.2.2)

abbrev Out := Option (Ex × St)

def enclosed (ts : List RT) (rec : Nat → St → Out) (s : St) (a b : List UInt8) : Out :=
  match rec 1 (enter ts s a).2 with
  | none => none
  | some (e, s2) => some (e, leave ts s2 b)
def field (ts : List RT) (of : Ex) (s : St) : Ex × St :=
  (Ex.of 5 0 (name ts (sign ts s.c [46]).2).1 [] 0 [of] (sign ts s.c [46]).1.at_, ⟨(name ts (sign ts s.c [46]).2).2, s.o⟩)
def item (ts : List RT) (rec : Nat → St → Out) (of : Ex) (s : St) : Out :=
  match enclosed ts rec s [91] [93] with
  | none => none
  | some (i, s2) => some (Ex.of 6 0 [] [] 0 [of, i] (peek ts s.c).at_, s2)
def number (ts : List RT) (s : St) : Ex × St := (Ex.of 1 (peek ts s.c).num [] [] 0 [] (peek ts s.c).at_, ⟨next s.c, s.o⟩)
def argLoop (ts : List RT) (rec : Nat → St → Out) : Nat → List Ex → St → Option (List Ex × St)
  | 0, _, _ => none
  | g + 1, l, s => if sees ts s.c 4 [44] then
      match rec 1 ⟨next s.c, s.o⟩ with
      | none => none
      | some (e, s2) => argLoop ts rec g (l ++ [e]) s2
    else some (l, s)
def args (ts : List RT) (rec : Nat → St → Out) (g : Nat) (s : St) : Option (List Ex × St) :=
  match (if sees ts (enter ts s [40]).2.c 4 [41] then some ([], (enter ts s [40]).2) else match rec 1 (enter ts s [40]).2 with | none => none | some (e, s2) => some ([e], s2)) with
  | none => none
  | some (l, s2) => match argLoop ts rec g l s2 with
    | none => none
    | some (l3, s3) => some (l3, leave ts s3 [41])
def varOrCall (ts : List RT) (rec : Nat → St → Out) (g : Nat) (s : St) : Out :=
  let n := name ts s.c
  if sees ts n.2 4 [40] then
    match args ts rec g ⟨n.2, s.o⟩ with
    | none => none
    | some (l, s2) => some (Ex.of 7 0 n.1 [] 0 l (peek ts s.c).at_, s2)
  else some (Ex.of 4 0 n.1 [] 0 [] (peek ts s.c).at_, ⟨n.2, s.o⟩)
def truth (ts : List RT) (s : St) : Ex × St := (Ex.of 2 (if (peek ts s.c).text = [116, 114, 117, 101] then 1 else 0) [] [] 0 [] (peek ts s.c).at_, ⟨next s.c, s.o⟩)
def null (ts : List RT) (s : St) : Ex × St :=
  let t := readType ts (next s.c)
  (Ex.of 3 0 [] t.1 t.2.1 [] (peek ts s.c).at_, ⟨t.2.2, s.o⟩)
def creation (ts : List RT) (rec : Nat → St → Out) (s : St) : Out :=
  let c := next s.c
  if sees ts c 4 [91] then
    let t := readType ts (next c)
    match enclosed ts rec ⟨(sign ts t.2.2 [93]).2, s.o⟩ [40] [41] with
    | none => none
    | some (e, s2) => some (Ex.of 9 0 [] t.1 t.2.1 [e] (peek ts s.c).at_, s2)
  else some (Ex.of 8 0 [] (name ts c).1 0 [] (peek ts s.c).at_, ⟨(name ts c).2, s.o⟩)
def length (ts : List RT) (rec : Nat → St → Out) (s : St) : Out :=
  match enclosed ts rec ⟨next s.c, s.o⟩ [40] [41] with
  | none => none
  | some (e, s2) => some (Ex.of 10 0 [] [] 0 [e] (peek ts s.c).at_, s2)
def input (ts : List RT) (s : St) : Ex × St :=
  (Ex.of 11 0 [] [] 0 [] (peek ts s.c).at_, leave ts (enter ts ⟨next s.c, s.o⟩ [40]).2 [41])
def keyword (ts : List RT) (rec : Nat → St → Out) (s : St) : Out :=
  let x := (peek ts s.c).text
  if x = [116, 114, 117, 101] then some (truth ts s)
  else if x = [102, 97, 108, 115, 101] then some (truth ts s)
  else if x = [110, 117, 108, 108] then some (null ts s)
  else if x = [110, 101, 119] then creation ts rec s
  else if x = [108, 101, 110] then length ts rec s
  else if x = [114, 101, 97, 100] then some (input ts s)
  else some (refuse ts s)
def primary (ts : List RT) (rec : Nat → St → Out) (g : Nat) (s : St) : Out :=
  let k := (peek ts s.c).kind
  if k = 1 then varOrCall ts rec g s
  else if k = 2 then some (number ts s)
  else if k = 3 then keyword ts rec s
  else if k = 4 then enclosed ts rec s [40] [41]
  else some (refuse ts s)
def sufLoop (ts : List RT) (rec : Nat → St → Out) : Nat → Ex → St → Out
  | 0, _, _ => none
  | g + 1, e, s =>
    if (peek ts s.c).kind = 4 then
      if (peek ts s.c).text = [46] then sufLoop ts rec g (field ts e s).1 (field ts e s).2
      else if (peek ts s.c).text = [91] then
        match item ts rec e s with
        | none => none
        | some (e2, s2) => sufLoop ts rec g e2 s2
      else some (e, s)
    else some (e, s)
def postfix_ (ts : List RT) (rec : Nat → St → Out) (g : Nat) (s : St) : Out :=
  match primary ts rec g s with
  | none => none
  | some (e, s2) => sufLoop ts rec g e s2
def prefixed (ts : List RT) (recU : St → Out) (s : St) (text : List UInt8) (kind : Int) : Out :=
  match recU (enter ts s text).2 with
  | none => none
  | some (e, s2) => some (Ex.of kind 0 [] [] 0 [e] (enter ts s text).1.at_, ⟨s2.c, dec s2.o⟩)
def unary (ts : List RT) (rec : Nat → St → Out) (recU : St → Out) (g : Nat) (s : St) : Out :=
  if sees ts s.c 4 [45] then prefixed ts recU s [45] 12
  else if sees ts s.c 4 [33] then prefixed ts recU s [33] 13
  else postfix_ ts rec g s
def binLoop (ts : List RT) (rec : Nat → St → Out) (n : Nat) : Nat → Ex → St → Out
  | 0, _, _ => none
  | g + 1, l, s =>
    match seesOp ts s.c n with
    | none => some (l, s)
    | some kind => match rec (n + 1) ⟨next s.c, s.o⟩ with
      | none => none
      | some (r, s2) => binLoop ts rec n g (Ex.of kind 0 [] [] 0 [l, r] (peek ts s.c).at_) s2
/-- By so much fuel: the signs of a level and those that bind more; one with signs in front. -/
def run (ts : List RT) : Nat → (Nat → St → Out) × (St → Out)
  | 0 => (fun _ _ => none, fun _ => none)
  | f + 1 => (fun n s => if 5 < n then (run ts f).2 s else
      match (run ts f).1 (n + 1) s with
      | none => none
      | some (l, s1) => binLoop ts (run ts f).1 n f l s1,
    fun s => unary ts (run ts f).1 (run ts f).2 f s)
/-- How many are open when a reading begins. -/
def clamp (o : Int) : Int := min (max o 0) 50
def exEnd (e : Ex) (s : Cs) : Ex × Int × Int × Int := if s.E = 0 then (e, s.k, 0, 0) else (Ex.zero, 0, s.E, s.F)
def parse (ts : List RT) (f : Nat) (k o : Int) : Option (Ex × Int × Int × Int) :=
  match (run ts f).1 1 ⟨⟨k, 0, 0⟩, clamp o⟩ with
  | none => none
  | some (e, s) => some (exEnd e s.c)
end Pe
end Go.Proofs.YtnadaedibicaaaaDoor
