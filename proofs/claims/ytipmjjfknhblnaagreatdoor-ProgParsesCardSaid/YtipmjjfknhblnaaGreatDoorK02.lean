/-
  Short names for what the texts say often.
-/
import Derived.Lib.Hide
import Derived.WalkKit
import Derived.Lib.ItoaNum
import Derived.Lib.AtoiAll
import Derived.Lib.AtoiAllCases
import Derived.Test.YtipmjjfknhblnaaGreatDoorChecked
import Derived.ProofKit
import Derived.BigCall
import Derived.Lib.Strings
import Derived.Outline
import Derived.Shelf.Abstract
set_option maxRecDepth 8000
set_option maxHeartbeats 8000000
namespace Go.Proofs.YtipmjjfknhblnaaGreatDoor
theorem vH {p : Prop} (h : p) : RowKit.Hid p := h
theorem vA {α : Type} {a : α} {l : List α} : a ∈ a :: l := List.Mem.head _
theorem vB {α : Type} {a b : α} {l : List α} : b ∈ a :: b :: l := List.Mem.tail _ vA
theorem vC {α : Type} {a b c : α} {l : List α} : c ∈ a :: b :: c :: l := List.Mem.tail _ vB
theorem vD {α : Type} {a b c d : α} {l : List α} : d ∈ a :: b :: c :: d :: l := List.Mem.tail _ vC
abbrev vE : Array Value := #[.int .i64 0, .int .i64 0, .string ⟨#[]⟩, .string ⟨#[]⟩, .int .i64 0, .slice none 0 0, .int .i64 0, .int .i64 0, .int .i64 0, .int .i64 0, .int .i64 0]
abbrev vS : Array Value := #[.int .i64 0, .string ⟨#[]⟩, .string ⟨#[]⟩, .int .i64 0, .slice none 0 0, .slice none 0 0, .slice none 0 0, .int .i64 0, .int .i64 0]
abbrev vF : Array Value := #[.int .i64 0, .int .i64 0]
abbrev vO : Array Value := #[.string ⟨#[]⟩, .int .i64 0]
end Go.Proofs.YtipmjjfknhblnaaGreatDoor
namespace Go.Proofs.YtipmjjfknhblnaaGreatDoor.Ln
namespace Lx
def letB (c:Int):Bool:=decide (97 ≤ c ∧ c ≤ 122 ∨ 65 ≤ c ∧ c ≤ 90)
def digB (c:Int):Bool:=decide (48 ≤ c ∧ c ≤ 57)
def alnB (c:Int):Bool:=letB c || digB c
def spcB (c:Int):Bool:=decide (c = 32 ∨ c = 9 ∨ c = 10 ∨ c = 13)
def linB (c:Int):Bool:=decide (c ≠ 10)
def runN (p:Int → Bool):List UInt8 → Nat
 | [] => 0
 | c :: r => if p (c.toNat:Int) then runN p r + 1 else 0
def skipS:Bool → List UInt8 → Nat
 | _,[] => 0
 | true,c :: r => skipS (linB (c.toNat:Int)) r + 1
 | false,c :: r => if spcB (c.toNat:Int) then skipS false r + 1 else if c = 47 ∧ r.head? = some 47 then skipS true r + 1 else 0
def words:List (List UInt8):=[[114,101,99,111,114,100],[103,108,111,98,97,108],[102,117,110,99],[118,97,114],[108,101,116],[105,102],[101,108,115,101],[119,104,105,108,101],[114,101,116,117,114,110],[112,114,105,110,116],[110,117,108,108],[110,101,119],[108,101,110],[114,101,97,100],[116,114,117,101],[102,97,108,115,101],[105,110,116],[98,111,111,108]]
def isWord (l:List UInt8):Bool:=words.contains l
def isName (l:List UInt8):Bool:=
 match l with
 | [] => false
 | c :: _ => decide (l.length ≤ 8) && letB (c.toNat:Int) && decide (runN alnB l = l.length) && !isWord l
def digStep (a:Nat)(c:UInt8):Nat:=10 * a + (c.toNat - 48)
def valN (acc:Nat)(l:List UInt8):Nat:=l.foldl digStep acc
theorem valN_nil (acc:Nat):valN acc [] = acc:=List.foldl_nil
theorem valN_cons (acc:Nat)(c:UInt8)(l:List UInt8):valN acc (c :: l) = valN (10 * acc + (c.toNat - 48)) l:=List.foldl_cons ..
theorem valN_ge (l:List UInt8):∀ acc:Nat,acc ≤ valN acc l:=by
 induction l with
 | nil => intro acc; rw [valN_nil]; exact Nat.le_refl _
 | cons c l ih =>
   intro acc
   rw [valN_cons]
   have:=ih (10 * acc + (c.toNat - 48))
   omega
def signs:List (List UInt8):=[[60,61],[61,61],[33,61],[38,38],[124,124],[123],[125],[40],[41],[91],[93],[59],[58],[44],[46],[61],[43],[45],[42],[47],[37],[60],[33]]
def signAt (r:List UInt8):Option (List UInt8):=signs.find? fun g => g.isPrefixOf r
structure Tk where
 kind:Nat
 text:List UInt8
 num:Nat
 at_:Nat
instance:DecidableEq Tk:=fun a b =>
 if h:a.kind = b.kind ∧ a.text = b.text ∧ a.num = b.num ∧ a.at_ = b.at_ then
  isTrue (by obtain ⟨x,y,z,v⟩:=a; obtain ⟨x',y',z',v'⟩:=b; obtain ⟨rfl,rfl,rfl,rfl⟩:=h; rfl)
 else isFalse (fun e => h (by rw [e]; exact ⟨rfl,rfl,rfl,rfl⟩))
def nextLet:List UInt8 → Bool
 | [] => false
 | d :: _ => letB (d.toNat:Int)
def numBad (r:List UInt8):Bool:=
 decide (r.head? = some 48 ∧ 1 < runN digB r) || decide (9223372036854775807 < valN 0 (r.take (runN digB r))) || nextLet (r.drop (runN digB r))
def one (r:List UInt8):Option (Nat × List UInt8 × Nat × Nat):=
 match r with
 | [] => none
 | c :: _ =>
   if letB (c.toNat:Int) then
     if isWord (r.take (runN alnB r)) then some (3,r.take (runN alnB r),0,runN alnB r)
     else if isName (r.take (runN alnB r)) then some (1,r.take (runN alnB r),0,runN alnB r)
     else none
   else if digB (c.toNat:Int) then
     if numBad r then none
     else some (2,[],valN 0 (r.take (runN digB r)),runN digB r)
   else match signAt r with
     | none => none
     | some g => some (4,g,0,g.length)
def lexF:Nat → Nat → List UInt8 → Except Nat (List Tk)
 | 0,k,_ => .error k
 | _ + 1,_,[] => .ok []
 | f + 1,k,c :: r => match one (c :: r) with
   | none => .error k
   | some (kind,text,num,m) =>
     match lexF f (k + (m + skipS false ((c :: r).drop m))) ((c :: r).drop (m + skipS false ((c :: r).drop m))) with
     | .error e => .error e
     | .ok ts => .ok (⟨kind,text,num,k⟩ :: ts)
def lexAll (l:List UInt8):Except Nat (List Tk):=lexF (l.length + 1) (skipS false l) (l.drop (skipS false l))
def toks (l:List UInt8):List Tk × Nat × Nat:=
 if 6000 < l.length then ([],4,0) else
 match lexAll l with
 | .error k => ([],1,k)
 | .ok ts => (ts ++ [⟨0,[],0,l.length⟩],0,0)
def pre (ts:List Tk):Except Nat (List Tk) → Except Nat (List Tk)
 | .error e => .error e
 | .ok us => .ok (ts ++ us)
theorem runN_le (p:Int → Bool):∀ l:List UInt8,runN p l ≤ l.length
 | [] => Nat.le_refl _
 | c :: r => by
   rw [runN]
   have:=runN_le p r
   split <;> simp <;> omega
theorem runN_yes (p:Int → Bool)(c:UInt8)(r:List UInt8)(h:p (c.toNat:Int) = true):runN p (c :: r) = runN p r + 1:=by rw [runN,if_pos h]
theorem zDS (p:Int → Bool)(c:UInt8)(r:List UInt8)(h:p (c.toNat:Int) = false):runN p (c :: r) = 0:=by rw [runN,if_neg (by rw [h]; decide)]
theorem skipS_le:∀ (l:List UInt8)(b:Bool),skipS b l ≤ l.length
 | [],b => by cases b <;> exact Nat.le_refl _
 | c :: r,true => by
   have:=skipS_le r (linB (c.toNat:Int))
   simp only [skipS,List.length_cons]; omega
 | c :: r,false => by
   have h1:=skipS_le r true
   have h2:=skipS_le r false
   simp only [skipS,List.length_cons]
   split
   ·omega
   ·split <;> omega
theorem zEq {c:Int}(h:linB c = false):spcB c = true:=by
 have:c = 10:=by simpa [linB] using h
 subst this; decide
theorem skip_line:∀ l:List UInt8,skipS true l = runN linB l + skipS false (l.drop (runN linB l))
 | [] => rfl
 | c :: r => by
   cases h:linB (c.toNat:Int)
   ·rw [zDS _ _ _ h,List.drop_zero,skipS,h,skipS,if_pos (zEq h)]; omega
   ·rw [runN_yes _ _ _ h,List.drop_succ_cons,skipS,h,skip_line r]; omega
theorem skip_space:∀ l:List UInt8,skipS false l = runN spcB l + skipS false (l.drop (runN spcB l))
 | [] => rfl
 | c :: r => by
   cases h:spcB (c.toNat:Int)
   ·rw [zDS _ _ _ h,List.drop_zero]; omega
   ·rw [runN_yes _ _ _ h,List.drop_succ_cons,skipS,if_pos h,skip_space r]; omega
theorem zDf:spcB ((47:UInt8).toNat:Int) = false:=by decide
theorem skip_slash (r:List UInt8):skipS false (47 :: 47 :: r) = skipS true (47 :: 47 :: r):=by
 have h1:linB ((47:UInt8).toNat:Int) = true:=by decide
 have h2:skipS true (47 :: 47 :: r) = skipS true (47 :: r) + 1:=by
  show skipS (linB ((47:UInt8).toNat:Int)) (47 :: r) + 1 = _
  rw [h1]
 have h3:skipS false (47 :: 47 :: r) = if spcB ((47:UInt8).toNat:Int) then skipS false (47 :: r) + 1 else if (47:UInt8) = 47 ∧ (47 :: r).head? = some 47 then skipS true (47 :: r) + 1 else 0:=rfl
 rw [h2,h3,if_neg (by rw [zDf]; decide),if_pos ⟨rfl,rfl⟩]
theorem skip_none (c:UInt8)(r:List UInt8)(h:spcB (c.toNat:Int) = false)(h2:¬ (c = 47 ∧ r.head? = some 47)):skipS false (c :: r) = 0:=by
 rw [skipS,if_neg (by rw [h]; decide),if_neg h2]
theorem runN_stop (p:Int → Bool):∀ (l:List UInt8)(c:UInt8)(r:List UInt8),l.drop (runN p l) = c :: r → p (c.toNat:Int) = false
 | [],c,r,h => by simp [runN] at h
 | d :: l,c,r,h => by
   cases hd:p (d.toNat:Int)
   ·rw [zDS _ _ _ hd,List.drop_zero] at h
    injection h with h _
    rw [← h]; exact hd
   ·rw [runN_yes _ _ _ hd,List.drop_succ_cons] at h
    exact runN_stop p l c r h
theorem zJJ:∀ g ∈ signs,0 < g.length:=by decide
theorem zGI {r g:List UInt8}(h:signAt r = some g):g ∈ signs:=List.mem_of_find?_eq_some h
theorem signAt_pos {r g:List UInt8}(h:signAt r = some g) : 0 < g.length:=zJJ g (zGI h)
theorem zGH {r g:List UInt8}(h:signAt r = some g):g.isPrefixOf r = true:=by
 have:=List.find?_some h
 simpa using this
theorem signAt_le {r g:List UInt8}(h:signAt r = some g):g.length ≤ r.length:=by
 have:=zGH h
 rw [List.isPrefixOf_iff_prefix] at this
 exact this.length_le
theorem one_len {r:List UInt8}{kind:Nat}{text:List UInt8}{num m:Nat}(h:one r = some (kind,text,num,m)) : 0 < m ∧ m ≤ r.length:=by
 unfold one at h
 split at h
 ·cases h
 ·rename_i c r'
  split at h
  ·rename_i hc
   have hl:=runN_le alnB (c :: r')
   have h0 : 0 < runN alnB (c :: r'):=by rw [runN_yes _ _ _ (by simp [alnB,hc])]; omega
   split at h
   ·simp only [Option.some.injEq,Prod.mk.injEq] at h; omega
   ·split at h
    ·simp only [Option.some.injEq,Prod.mk.injEq] at h; omega
    ·cases h
  ·split at h
   ·rename_i hc
    have hl:=runN_le digB (c :: r')
    have h0 : 0 < runN digB (c :: r'):=by rw [runN_yes _ _ _ hc]; omega
    split at h
    ·cases h
    ·simp only [Option.some.injEq,Prod.mk.injEq] at h; omega
   ·split at h
    ·cases h
    ·rename_i g hg
     simp only [Option.some.injEq,Prod.mk.injEq] at h
     have:=signAt_pos hg
     have:=signAt_le hg
     omega
def Come (l:List UInt8)(ts:List Tk)(k:Nat):Prop:=∃ f,l.length - k < f ∧ pre ts (lexF f k (l.drop k)) = lexAll l
theorem come_start (l:List UInt8):Come l [] (skipS false l):=by
 refine ⟨l.length + 1,by omega,?_⟩
 unfold lexAll
 cases lexF (l.length + 1) (skipS false l) (l.drop (skipS false l)) <;> rfl
theorem come_end {l:List UInt8}{ts:List Tk}{k:Nat}(h:Come l ts k)(hk:l.length ≤ k):lexAll l = .ok ts:=by
 obtain ⟨f,hf,h⟩:=h
 obtain ⟨f,rfl⟩:∃ g,f = g + 1:=⟨f - 1,by omega⟩
 rw [List.drop_eq_nil_of_le hk] at h
 rw [← h]
 simp [lexF,pre]
theorem come_fault {l:List UInt8}{ts:List Tk}{k:Nat}(h:Come l ts k)(hk:k < l.length)(h1:one (l.drop k) = none):lexAll l = .error k:=by
 obtain ⟨f,hf,h⟩:=h
 obtain ⟨f,rfl⟩:∃ g,f = g + 1:=⟨f - 1,by omega⟩
 rw [List.drop_eq_getElem_cons hk] at h h1
 rw [← h,lexF,h1]
 rfl
theorem come_next {l:List UInt8}{ts:List Tk}{k:Nat}(h:Come l ts k)(hk:k < l.length){kind:Nat}{text:List UInt8}{num m:Nat}(h1:one (l.drop k) = some (kind,text,num,m)) :
 Come l (ts ++ [⟨kind,text,num,k⟩]) (k + m + skipS false (l.drop (k + m))):=by
 obtain ⟨f,hf,h⟩:=h
 obtain ⟨f,rfl⟩:∃ g,f = g + 1:=⟨f - 1,by omega⟩
 have hm:=one_len h1
 refine ⟨f,by omega,?_⟩
 rw [← h]
 rw [List.drop_eq_getElem_cons hk] at h1 ⊢
 rw [lexF,h1]
 simp only []
 rw [← List.drop_eq_getElem_cons hk,List.drop_drop,List.drop_drop]
 rw [show k + (m + skipS false (l.drop (k + m))) = k + m + skipS false (l.drop (k + m)) from by omega]
 cases lexF f (k + m + skipS false (l.drop (k + m))) (l.drop (k + m + skipS false (l.drop (k + m)))) <;> simp [pre]
theorem zGf:∀ (f k:Nat)(r:List UInt8)(ts:List Tk),lexF f k r = .ok ts → ts.length ≤ r.length
 | 0,_,_,_,h => by simp [lexF] at h
 | f + 1,k,[],ts,h => by
   simp only [lexF] at h
   injection h with h
   rw [← h]; simp
 | f + 1,k,c :: r,ts,h => by
   rw [lexF] at h
   split at h
   ·cases h
   ·rename_i kind text num m h1
    have hm:=one_len h1
    split at h
    ·cases h
    ·rename_i us hu
     have:=zGf f _ _ us hu
     injection h with h
     rw [← h]
     rw [List.length_drop] at this
     simp only [List.length_cons] at this hm ⊢
     omega
theorem toks_len (l:List UInt8):(toks l).1.length ≤ 6001:=by
 unfold toks
 by_cases h : 6000 < l.length
 ·rw [if_pos h]; simp
 ·rw [if_neg h]
  cases h2:lexAll l with
  | error k => simp
  | ok ts =>
    have:=zGf _ _ _ ts h2
    rw [List.length_drop] at this
    simp only [List.length_append,List.length_singleton]
    omega
end Lx
open Go.RowKit
def bs (l:List UInt8):ByteArray:=⟨l.toArray⟩
theorem zFW (l:List UInt8):(bs l).data.toList = l:=rfl
theorem zMo (l:List UInt8):(bs l).size = l.length:=rfl
theorem zNi (s:ByteArray):bs s.data.toList = s:=rfl
theorem zAz {a b:Bool}(h:a = b):Ending.returned (.bool a) = .returned (.bool b):=by rw [h]
theorem zBa {k:IntKind}{a b:Int}(h:a = b):Ending.returned (.int k a) = .returned (.int k b):=by rw [h]
theorem zAR (c:Int)(w:World):Calls Tryz.prog 55 #[.int .u8 c] w fun e w' => e = .returned (.bool (Lx.letB c)) ∧ w = w':=by
 go_in
 go_wp2
 all_goals
  go_ret
  refine ⟨zAz ?_,rfl⟩
  rw [Bool.eq_iff_iff]
  simp [Lx.letB]
  try omega
theorem zDc (c:Int)(w:World):Calls Tryz.prog 57 #[.int .u8 c] w fun e w' => e = .returned (.bool (Lx.digB c)) ∧ w = w':=by
 go_in
 go_wp2
 all_goals
  go_ret
  refine ⟨zAz ?_,rfl⟩
  rw [Bool.eq_iff_iff]
  simp [Lx.digB]
  try omega
theorem zH9 (c:Int)(w:World):Calls Tryz.prog 52 #[.int .u8 c] w fun e w' => e = .returned (.bool (Lx.spcB c)) ∧ w = w':=by
 go_in
 go_wp2
 all_goals
  go_ret
  refine ⟨zAz ?_,rfl⟩
  rw [Bool.eq_iff_iff]
  simp [Lx.spcB]
  try omega
theorem zKn (c:Int)(w:World):Calls Tryz.prog 54 #[.int .u8 c] w fun e w' => e = .returned (.bool (Lx.linB c)) ∧ w = w':=by
 go_in
 go_wp2
 all_goals
  go_ret
  refine ⟨zAz ?_,rfl⟩
  rw [Bool.eq_iff_iff]
  simp [Lx.linB]
  try omega
theorem zAg (c:Int)(w:World):Calls Tryz.prog 71 #[.int .u8 c] w fun e w' => e = .returned (.bool (Lx.letB c)) ∧ w = w':=by
 go_in
 go_wp2
 all_goals
  go_ret
  refine ⟨zAz ?_,rfl⟩
  rw [Bool.eq_iff_iff]
  simp [Lx.letB]
  try omega
theorem zAK (c:Int)(w:World):Calls Tryz.prog 75 #[.int .u8 c] w fun e w' => e = .returned (.bool (Lx.digB c)) ∧ w = w':=by
 go_in
 go_wp2
 all_goals
  go_ret
  refine ⟨zAz ?_,rfl⟩
  rw [Bool.eq_iff_iff]
  simp [Lx.digB]
  try omega
theorem zJx (c:Int)(w:World):Calls Tryz.prog 85 #[.int .u8 c] w fun e w' => e = .returned (.bool (Lx.alnB c)) ∧ w = w':=by
 cases h:Lx.letB c
 ·have hl:=zAR c
  have hd:=zDc c
  rw [h] at hl
  have h2:Lx.alnB c = Lx.digB c:=by simp [Lx.alnB,h]
  have HL:=vH hl
  have HD:=vH hd
  rw [h2]
  clear hl hd h h2
  go_in
  go_wp2_with (first | (go_at_call 55; refine (HL.out _).mono ?_; rintro e w' ⟨rfl,rfl⟩) | (go_at_call 57; refine (HD.out _).mono ?_; rintro e w' ⟨rfl,rfl⟩))
  go_ret
  exact ⟨rfl,rfl⟩
 ·have hl:=zAR c
  rw [h] at hl
  have h2:Lx.alnB c = true:=by simp [Lx.alnB,h]
  have HL:=vH hl
  rw [h2]
  clear hl h h2
  go_in
  go_wp2_with (go_at_call 55; refine (HL.out _).mono ?_; rintro e w' ⟨rfl,rfl⟩)
  go_ret
  exact ⟨rfl,rfl⟩
structure Belongs (F:FuncId) (p:Int → Bool):Prop where
 enter:∀ (args:Array Value) (w:World),(callFunc F args).run Tryz.prog w = .ok (.enter F args) w
 ans:∀ (c:Int) (w:World),Calls Tryz.prog F #[.int .u8 c] w fun e w' => e = .returned (.bool (p c)) ∧ w = w'
theorem zB7:Belongs 85 Lx.alnB:=⟨enters_of Tryz.func85 (by kernel_rfl) rfl,zJx⟩
theorem zA4:Belongs 57 Lx.digB:=⟨enters_of Tryz.func57 (by kernel_rfl) rfl,zDc⟩
theorem zF0:Belongs 52 Lx.spcB:=⟨enters_of Tryz.func52 (by kernel_rfl) rfl,zH9⟩
theorem zL0:Belongs 54 Lx.linB:=⟨enters_of Tryz.func54 (by kernel_rfl) rfl,zKn⟩
theorem zAn (s:ByteArray)(j:Nat)(h:j < s.size):s.data.toList.drop j = s[j] :: s.data.toList.drop (j + 1):=List.drop_eq_getElem_cons (by simpa using h)
theorem zCq (s:ByteArray)(p:Int → Bool)(j:Nat)(h:j < s.size):Lx.runN p (s.data.toList.drop j) = if p (s[j].toNat:Int) then Lx.runN p (s.data.toList.drop (j + 1)) + 1 else 0:=by
 rw [zAn s j h,Lx.runN]
theorem zBJ (s:ByteArray)(j:Nat)(h:s.size ≤ j):s.data.toList.drop j = []:=List.drop_eq_nil_of_le (by simpa using h)
theorem zAq (s:ByteArray):s.data.toList.length = s.size:=by simp
theorem zLB (F:FuncId)(p:Int → Bool)(hF:Belongs F p)(s:ByteArray)(hs:s.size ≤ maxLen)(a:Int)(k:Nat)(ha:a = k)(hk:k ≤ s.size)(w:World) :
 Calls Tryz.prog 51 #[.string s,.int .i64 a,.func (.func F) #[] #[]] w fun e w' => e = .returned (.int .i64 (k + Lx.runN p (s.data.toList.drop k):Nat)) ∧ w = w':=by
 subst ha
 unfold maxLen at hs
 have hR:=Lx.runN_le p (s.data.toList.drop k)
 rw [List.length_drop] at hR
 have hz:s.data.toList.length = s.size:=by simp
 generalize hG:k + Lx.runN p (s.data.toList.drop k) = G
 have HG:=vH hG
 have hGb:G ≤ s.size:=by omega
 have hE:=hF.enter
 have HF:=vH hF.ans
 clear hG hz hR hF
 go_in
 go_wp2
 go_loop [1] (fun i => ∃ j:Nat,j ≤ s.size ∧ i = .int .i64 j ∧ j + Lx.runN p (s.data.toList.drop j) = G) (fun i => s.size - (intOf i).toNat)
 case atStart => exact ⟨k,hk,rfl,HG.out⟩
 case round =>
  obtain ⟨j,hj,rfl,hJ⟩:=hrel
  have HJ:=vH hJ
  clear hJ
  by_cases hlt:j < s.size
  ·cases hp:p (s[j].toNat:Int)
   ·have hc:=HF.out (s[j].toNat:Int)
    rw [hp] at hc
    have HC:=vH hc
    clear hc
    have HP:=vH hp
    clear hp
    go_wp2_with (go_at_fn F; refine (HC.out _).mono ?_; rintro e w' ⟨rfl,rfl⟩)
    go_ret
    have hJ:=HJ.out
    rw [zCq s p j hlt,if_neg (by rw [HP.out]; decide)] at hJ
    exact ⟨zBa (by omega),rfl⟩
   ·have hc:=HF.out (s[j].toNat:Int)
    rw [hp] at hc
    have HC:=vH hc
    clear hc
    have HP:=vH hp
    clear hp
    go_wp2_with (go_at_fn F; refine (HC.out _).mono ?_; rintro e w' ⟨rfl,rfl⟩)
    go_round
    case rel =>
     have hJ:=HJ.out
     rw [zCq s p j hlt,if_pos HP.out] at hJ
     exact ⟨j + 1,by omega,by go_num,by omega⟩
    case measure => simp [intOf]; omega
  ·go_wp2
   go_ret
   have hJ:=HJ.out
   rw [List.drop_eq_nil_of_le (by simp; omega),Lx.runN] at hJ
   exact ⟨zBa (by omega),rfl⟩
theorem zHw (l:List UInt8):Lx.isWord l = (l == [114,101,99,111,114,100] || (l == [103,108,111,98,97,108] || (l == [102,117,110,99] || (l == [118,97,114] || (l == [108,101,116] || (l == [105,102] || (l == [101,108,115,101] || (l == [119,104,105,108,101] || (l == [114,101,116,117,114,110] || (l == [112,114,105,110,116] || (l == [110,117,108,108] || (l == [110,101,119] || (l == [108,101,110] || (l == [114,101,97,100] || (l == [116,114,117,101] || (l == [102,97,108,115,101] || (l == [105,110,116] || (l == [98,111,111,108] || false)))))))))))))))))):=rfl
theorem zFZ (s:ByteArray)(w:World):Calls Tryz.prog 86 #[.string s] w fun e w' => e = .returned (.bool (Lx.isWord s.data.toList)) ∧ w = w':=by
 rw [← Lib.toList_data,zHw]
 generalize hb:(s.toList == [114,101,99,111,114,100] || _) = b
 have HB:=vH hb
 clear hb
 go_in
 go_wp2
 all_goals
  go_ret
  refine ⟨zAz ?_,rfl⟩
  have hb:=HB.out
  clear HB
  simp only [*,Bool.true_or,Bool.or_true,Bool.or_false] at hb ⊢
  try (first | exact hb | (rw [← hb]; done) | simp_all)
theorem zGy (w:World):Calls Tryz.prog 94 #[] w fun e w' => e = .returned (.slice (some ⟨w.heap.size,0,none⟩) 18 18) ∧ w' = w.alloc (.cells (Lx.words.map fun l => .string (bs l)).toArray 9):=by
 go_in
 go_wp2
 go_ret
 exact ⟨rfl,rfl⟩
def HasWords (B:Nat)(w:World):Prop:=∀ j g,Lx.words[j]? = some g → w.cell? ⟨B,j,none⟩ = some (.string (bs g))
theorem zHO (w:World):Calls Tryz.prog 94 #[] w fun e w' => e = .returned (.slice (some ⟨w.heap.size,0,none⟩) 18 18) ∧ HasWords w.heap.size w' ∧ Below w.heap.size w w':=
 (zGy w).mono fun _ _ ⟨he,hw⟩ => ⟨he,fun j g hg => by
  rw [hw,cell_of_row _ _ j _ _ _ (heap_alloc_new w _)]
  simp [hg],hw ▸ (Below.refl _ _).alloc (Nat.le_refl _) _⟩
theorem zHN:Lx.words.length = 18:=by decide
theorem zCU (s:ByteArray)(w:World):Calls Tryz.prog 73 #[.string s] w fun e w' => e = .returned (.bool (Lx.isWord s.data.toList)) ∧ Below w.heap.size w w':=by
 have hlen:=zHN
 have HL:=vH hlen
 clear hlen
 go_in
 go_wp2_with (go_at_call 94; refine (zHO _).mono ?_; rintro e w1 ⟨rfl,hw1,hb⟩)
 have HW:=vH hw1
 clear hw1
 go_loop [4] (fun i => ∃ j:Nat,j ≤ 18 ∧ i = .int .i64 j ∧ ∀ g ∈ Lx.words.take j,g ≠ s.data.toList) (fun i => 18 - (intOf i).toNat)
 case atStart => exact ⟨0,by omega,rfl,by simp⟩
 case round =>
  obtain ⟨j,hj,rfl,hno⟩:=hrel
  have HN:=vH hno
  clear hno
  by_cases hlt:j < 18
  ·obtain ⟨g,hg⟩:∃ g,Lx.words[j]? = some g:=⟨_,List.getElem?_eq_getElem (by rw [HL.out]; exact hlt)⟩
   have hc:=HW.out j g hg
   have HG:=vH hg
   clear hg
   by_cases he:g = s.data.toList
   ·have hx:((bs g).toList == s.toList) = true:=by rw [Lib.toList_data,Lib.toList_data,zFW]; exact beq_iff_eq.2 he
    have HE:=vH he
    clear he
    go_wp2
    go_ret
    refine ⟨zAz ?_,hb⟩
    rw [Lx.isWord,List.contains_iff_mem.2 (by rw [← HE.out]; exact List.mem_of_getElem? HG.out)]
   ·have hx:((bs g).toList == s.toList) = false:=by rw [Lib.toList_data,Lib.toList_data,zFW]; exact beq_eq_false_iff_ne.2 he
    have HE:=vH he
    clear he
    go_wp2
    go_round
    case rel =>
     refine ⟨j + 1,by omega,by go_num,?_⟩
     intro g' hg'
     rw [List.take_add_one,HG.out] at hg'
     simp only [Option.toList,List.mem_append,List.mem_singleton] at hg'
     rcases hg' with hg' | rfl
     ·exact HN.out g' hg'
     ·exact HE.out
    case measure => simp [intOf]; omega
  ·go_wp2
   go_ret
   refine ⟨zAz ?_,hb⟩
   have hn:=HN.out
   rw [List.take_of_length_le (by rw [HL.out]; omega)] at hn
   rw [Lx.isWord]
   symm
   rw [← Bool.not_eq_true,List.contains_iff_mem]
   exact fun h => hn _ h rfl
end Go.Proofs.YtipmjjfknhblnaaGreatDoor.Ln
