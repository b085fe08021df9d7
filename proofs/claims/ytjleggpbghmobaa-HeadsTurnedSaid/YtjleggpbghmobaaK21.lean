/-
  What a text's tokens are, in plain lists (no program): chapt
-/
import Derived.Test.YtjleggpbghmobaaK01
import Derived.Test.YtjleggpbghmobaaK06
import Derived.Lib.ItoaNum
import Derived.Lib.AtoiAll
import Derived.Lib.AtoiAllCases
import Derived.Test.YtjleggpbghmobaaChecked
import Derived.ProofKit
import Derived.WalkKit
import Derived.BigCall
import Derived.Lib.Hide
import Derived.Lib.Strings
import Derived.Outline
import Derived.Shelf.Abstract
import Derived.Test.YtjleggpbghmobaaShelf
import Derived.Laws.DeepStrings4
import Derived.Test.YtjleggpbghmobaaRows
import Derived.LaidMore
import Derived.OpenShut
import Derived.Stop.Joined
import Derived.Stop.LaidErr
import Derived.Lib.LaidTab
import Derived.Lib.SmallJoins
set_option maxRecDepth 8000
set_option maxHeartbeats 8000000
namespace Go.Proofs.Ytjleggpbghmobaa.Ln
namespace Lx
def letB (c:Int):Bool:=decide (97 ≤ c ∧ c ≤ 122 ∨ 65 ≤ c ∧ c ≤ 90)
def digB (c:Int):Bool:=decide (48 ≤ c ∧ c ≤ 57)
def alnB (c:Int):Bool:=letB c || digB c
def spcB (c:Int):Bool:=decide (c = 32 ∨ c = 9 ∨ c = 10 ∨ c = 13)
def linB (c:Int):Bool:=decide (c ≠ 10)
def runN (p:Int → Bool):List UInt8 → Nat
 | [] => 0
 | c :: r => if p (c.toNat:Int) then runN p r + 1 else 0
def skipS:Bool → List UInt8 → Nat
 | _,[] => 0
 | true,c :: r => skipS (linB (c.toNat:Int)) r + 1
 | false,c :: r => if spcB (c.toNat:Int) then skipS false r + 1 else if c = 47 ∧ r.head? = some 47 then skipS true r + 1 else 0
def words:List (List UInt8):=[[114,101,99,111,114,100],[103,108,111,98,97,108],[102,117,110,99],[118,97,114],[108,101,116],[105,102],[101,108,115,101],[119,104,105,108,101],[114,101,116,117,114,110],[112,114,105,110,116],[110,117,108,108],[110,101,119],[108,101,110],[114,101,97,100],[116,114,117,101],[102,97,108,115,101],[105,110,116],[98,111,111,108]]
def isWord (l:List UInt8):Bool:=words.contains l
def isName (l:List UInt8):Bool:=
 match l with
 | [] => false
 | c :: _ => decide (l.length ≤ 8) && letB (c.toNat:Int) && decide (runN alnB l = l.length) && !isWord l
def digStep (a:Nat)(c:UInt8):Nat:=10 * a + (c.toNat - 48)
def valN (acc:Nat)(l:List UInt8):Nat:=l.foldl digStep acc
theorem valN_nil (acc:Nat):valN acc [] = acc:=List.foldl_nil
theorem valN_cons (acc:Nat)(c:UInt8)(l:List UInt8):valN acc (c :: l) = valN (10 * acc + (c.toNat - 48)) l:=List.foldl_cons ..
theorem valN_ge (l:List UInt8):∀ acc:Nat,acc ≤ valN acc l:=by
 induction l with
 | nil => intro acc; rw [valN_nil]; exact Nat.le_refl _
 | cons c l ih =>
   intro acc
   rw [valN_cons]
   have:=ih (10 * acc + (c.toNat - 48))
   omega
def signs:List (List UInt8):=[[60,61],[61,61],[33,61],[38,38],[124,124],[123],[125],[40],[41],[91],[93],[59],[58],[44],[46],[61],[43],[45],[42],[47],[37],[60],[33]]
def signAt (r:List UInt8):Option (List UInt8):=signs.find? fun g => g.isPrefixOf r
structure Tk where
 kind:Nat
 text:List UInt8
 num:Nat
 at_:Nat
instance:DecidableEq Tk:=fun a b =>
 if h:a.kind = b.kind ∧ a.text = b.text ∧ a.num = b.num ∧ a.at_ = b.at_ then
  isTrue (by obtain ⟨x,y,z,v⟩:=a; obtain ⟨x',y',z',v'⟩:=b; obtain ⟨rfl,rfl,rfl,rfl⟩:=h; rfl)
 else isFalse (fun e => h (by rw [e]; exact ⟨rfl,rfl,rfl,rfl⟩))
def nextLet:List UInt8 → Bool
 | [] => false
 | d :: _ => letB (d.toNat:Int)
def numBad (r:List UInt8):Bool:=
 decide (r.head? = some 48 ∧ 1 < runN digB r) || decide (9223372036854775807 < valN 0 (r.take (runN digB r))) || nextLet (r.drop (runN digB r))
def one (r:List UInt8):Option (Nat × List UInt8 × Nat × Nat):=
 match r with
 | [] => none
 | c :: _ =>
   if letB (c.toNat:Int) then
     if isWord (r.take (runN alnB r)) then some (3,r.take (runN alnB r),0,runN alnB r)
     else if isName (r.take (runN alnB r)) then some (1,r.take (runN alnB r),0,runN alnB r)
     else none
   else if digB (c.toNat:Int) then
     if numBad r then none
     else some (2,[],valN 0 (r.take (runN digB r)),runN digB r)
   else match signAt r with
     | none => none
     | some g => some (4,g,0,g.length)
def lexF:Nat → Nat → List UInt8 → Except Nat (List Tk)
 | 0,k,_ => .error k
 | _ + 1,_,[] => .ok []
 | f + 1,k,c :: r => match one (c :: r) with
   | none => .error k
   | some (kind,text,num,m) =>
     match lexF f (k + (m + skipS false ((c :: r).drop m))) ((c :: r).drop (m + skipS false ((c :: r).drop m))) with
     | .error e => .error e
     | .ok ts => .ok (⟨kind,text,num,k⟩ :: ts)
def lexAll (l:List UInt8):Except Nat (List Tk):=lexF (l.length + 1) (skipS false l) (l.drop (skipS false l))
def toks (l:List UInt8):List Tk × Nat × Nat:=
 if 6000 < l.length then ([],4,0) else
 match lexAll l with
 | .error k => ([],1,k)
 | .ok ts => (ts ++ [⟨0,[],0,l.length⟩],0,0)
def pre (ts:List Tk):Except Nat (List Tk) → Except Nat (List Tk)
 | .error e => .error e
 | .ok us => .ok (ts ++ us)
theorem runN_le (p:Int → Bool):∀ l:List UInt8,runN p l ≤ l.length
 | [] => Nat.le_refl _
 | c :: r => by
   rw [runN]
   have:=runN_le p r
   split <;> simp <;> omega
theorem runN_yes (p:Int → Bool)(c:UInt8)(r:List UInt8)(h:p (c.toNat:Int) = true):runN p (c :: r) = runN p r + 1:=by rw [runN,if_pos h]
theorem zCP (p:Int → Bool)(c:UInt8)(r:List UInt8)(h:p (c.toNat:Int) = false):runN p (c :: r) = 0:=by rw [runN,if_neg (by rw [h]; decide)]
theorem skipS_le:∀ (l:List UInt8)(b:Bool),skipS b l ≤ l.length
 | [],b => by cases b <;> exact Nat.le_refl _
 | c :: r,true => by
   have:=skipS_le r (linB (c.toNat:Int))
   simp only [skipS,List.length_cons]; omega
 | c :: r,false => by
   have h1:=skipS_le r true
   have h2:=skipS_le r false
   simp only [skipS,List.length_cons]
   split
   ·omega
   ·split <;> omega
theorem zC9 {c:Int}(h:linB c = false):spcB c = true:=by
 have:c = 10:=by simpa [linB] using h
 subst this; decide
theorem skip_line:∀ l:List UInt8,skipS true l = runN linB l + skipS false (l.drop (runN linB l))
 | [] => rfl
 | c :: r => by
   cases h:linB (c.toNat:Int)
   ·rw [zCP _ _ _ h,List.drop_zero,skipS,h,skipS,if_pos (zC9 h)]; omega
   ·rw [runN_yes _ _ _ h,List.drop_succ_cons,skipS,h,skip_line r]; omega
theorem zCo:spcB ((47:UInt8).toNat:Int) = false:=by decide
theorem skip_slash (r:List UInt8):skipS false (47 :: 47 :: r) = skipS true (47 :: 47 :: r):=by
 have h1:linB ((47:UInt8).toNat:Int) = true:=by decide
 have h2:skipS true (47 :: 47 :: r) = skipS true (47 :: r) + 1:=by
  show skipS (linB ((47:UInt8).toNat:Int)) (47 :: r) + 1 = _
  rw [h1]
 have h3:skipS false (47 :: 47 :: r) = if spcB ((47:UInt8).toNat:Int) then skipS false (47 :: r) + 1 else if (47:UInt8) = 47 ∧ (47 :: r).head? = some 47 then skipS true (47 :: r) + 1 else 0:=rfl
 rw [h2,h3,if_neg (by rw [zCo]; decide),if_pos ⟨rfl,rfl⟩]
theorem skip_none (c:UInt8)(r:List UInt8)(h:spcB (c.toNat:Int) = false)(h2:¬ (c = 47 ∧ r.head? = some 47)):skipS false (c :: r) = 0:=by
 rw [skipS,if_neg (by rw [h]; decide),if_neg h2]
theorem zGF:∀ g ∈ signs,0 < g.length:=by decide
theorem zEu {r g:List UInt8}(h:signAt r = some g):g ∈ signs:=List.mem_of_find?_eq_some h
theorem signAt_pos {r g:List UInt8}(h:signAt r = some g) : 0 < g.length:=zGF g (zEu h)
theorem zEt {r g:List UInt8}(h:signAt r = some g):g.isPrefixOf r = true:=by
 have:=List.find?_some h
 simpa using this
theorem signAt_le {r g:List UInt8}(h:signAt r = some g):g.length ≤ r.length:=by
 have:=zEt h
 rw [List.isPrefixOf_iff_prefix] at this
 exact this.length_le
theorem one_len {r:List UInt8}{kind:Nat}{text:List UInt8}{num m:Nat}(h:one r = some (kind,text,num,m)) : 0 < m ∧ m ≤ r.length:=by
 unfold one at h
 split at h
 ·cases h
 ·rename_i c r'
  split at h
  ·rename_i hc
   have hl:=runN_le alnB (c :: r')
   have h0 : 0 < runN alnB (c :: r'):=by rw [runN_yes _ _ _ (by simp [alnB,hc])]; omega
   split at h
   ·simp only [Option.some.injEq,Prod.mk.injEq] at h; omega
   ·split at h
    ·simp only [Option.some.injEq,Prod.mk.injEq] at h; omega
    ·cases h
  ·split at h
   ·rename_i hc
    have hl:=runN_le digB (c :: r')
    have h0 : 0 < runN digB (c :: r'):=by rw [runN_yes _ _ _ hc]; omega
    split at h
    ·cases h
    ·simp only [Option.some.injEq,Prod.mk.injEq] at h; omega
   ·split at h
    ·cases h
    ·rename_i g hg
     simp only [Option.some.injEq,Prod.mk.injEq] at h
     have:=signAt_pos hg
     have:=signAt_le hg
     omega
def Come (l:List UInt8)(ts:List Tk)(k:Nat):Prop:=∃ f,l.length - k < f ∧ pre ts (lexF f k (l.drop k)) = lexAll l
theorem come_start (l:List UInt8):Come l [] (skipS false l):=by
 refine ⟨l.length + 1,by omega,?_⟩
 unfold lexAll
 cases lexF (l.length + 1) (skipS false l) (l.drop (skipS false l)) <;> rfl
theorem come_end {l:List UInt8}{ts:List Tk}{k:Nat}(h:Come l ts k)(hk:l.length ≤ k):lexAll l = .ok ts:=by
 obtain ⟨f,hf,h⟩:=h
 obtain ⟨f,rfl⟩:∃ g,f = g + 1:=⟨f - 1,by omega⟩
 rw [List.drop_eq_nil_of_le hk] at h
 rw [← h]
 simp [lexF,pre]
theorem come_fault {l:List UInt8}{ts:List Tk}{k:Nat}(h:Come l ts k)(hk:k < l.length)(h1:one (l.drop k) = none):lexAll l = .error k:=by
 obtain ⟨f,hf,h⟩:=h
 obtain ⟨f,rfl⟩:∃ g,f = g + 1:=⟨f - 1,by omega⟩
 rw [List.drop_eq_getElem_cons hk] at h h1
 rw [← h,lexF,h1]
 rfl
theorem come_next {l:List UInt8}{ts:List Tk}{k:Nat}(h:Come l ts k)(hk:k < l.length){kind:Nat}{text:List UInt8}{num m:Nat}(h1:one (l.drop k) = some (kind,text,num,m)) :
 Come l (ts ++ [⟨kind,text,num,k⟩]) (k + m + skipS false (l.drop (k + m))):=by
 obtain ⟨f,hf,h⟩:=h
 obtain ⟨f,rfl⟩:∃ g,f = g + 1:=⟨f - 1,by omega⟩
 have hm:=one_len h1
 refine ⟨f,by omega,?_⟩
 rw [← h]
 rw [List.drop_eq_getElem_cons hk] at h1 ⊢
 rw [lexF,h1]
 simp only []
 rw [← List.drop_eq_getElem_cons hk,List.drop_drop,List.drop_drop]
 rw [show k + (m + skipS false (l.drop (k + m))) = k + m + skipS false (l.drop (k + m)) from by omega]
 cases lexF f (k + m + skipS false (l.drop (k + m))) (l.drop (k + m + skipS false (l.drop (k + m)))) <;> simp [pre]
theorem zEb:∀ (f k:Nat)(r:List UInt8)(ts:List Tk),lexF f k r = .ok ts → ts.length ≤ r.length
 | 0,_,_,_,h => by simp [lexF] at h
 | f + 1,k,[],ts,h => by
   simp only [lexF] at h
   injection h with h
   rw [← h]; simp
 | f + 1,k,c :: r,ts,h => by
   rw [lexF] at h
   split at h
   ·cases h
   ·rename_i kind text num m h1
    have hm:=one_len h1
    split at h
    ·cases h
    ·rename_i us hu
     have:=zEb f _ _ us hu
     injection h with h
     rw [← h]
     rw [List.length_drop] at this
     simp only [List.length_cons] at this hm ⊢
     omega
theorem toks_len (l:List UInt8):(toks l).1.length ≤ 6001:=by
 unfold toks
 by_cases h : 6000 < l.length
 ·rw [if_pos h]; simp
 ·rw [if_neg h]
  cases h2:lexAll l with
  | error k => simp
  | ok ts =>
    have:=zEb _ _ _ ts h2
    rw [List.length_drop] at this
    simp only [List.length_append,List.length_singleton]
    omega
end Lx
open Go.RowKit
def bs (l:List UInt8):ByteArray:=⟨l.toArray⟩
theorem zD0 (l:List UInt8):(bs l).data.toList = l:=rfl
theorem zJ6 (s:ByteArray):bs s.data.toList = s:=rfl
theorem zA6 {a b:Bool}(h:a = b):Ending.returned (.bool a) = .returned (.bool b):=by rw [h]
theorem zBg {k:IntKind}{a b:Int}(h:a = b):Ending.returned (.int k a) = .returned (.int k b):=by rw [h]
theorem zY (c:Int)(w:World):Calls Try.prog 47 #[.int .u8 c] w fun e w' => e = .returned (.bool (Lx.letB c)) ∧ w = w':=by
 go_in
 go_wp2
 all_goals
  go_ret
  refine ⟨zA6 ?_,rfl⟩
  rw [Bool.eq_iff_iff]
  simp [Lx.letB]
  try omega
theorem zAv (c:Int)(w:World):Calls Try.prog 51 #[.int .u8 c] w fun e w' => e = .returned (.bool (Lx.digB c)) ∧ w = w':=by
 go_in
 go_wp2
 all_goals
  go_ret
  refine ⟨zA6 ?_,rfl⟩
  rw [Bool.eq_iff_iff]
  simp [Lx.digB]
  try omega
structure Belongs (F:FuncId) (p:Int → Bool):Prop where
 enter:∀ (args:Array Value) (w:World),(callFunc F args).run Try.prog w = .ok (.enter F args) w
 ans:∀ (c:Int) (w:World),Calls Try.prog F #[.int .u8 c] w fun e w' => e = .returned (.bool (p c)) ∧ w = w'
theorem zAe (s:ByteArray)(j:Nat)(h:j < s.size):s.data.toList.drop j = s[j] :: s.data.toList.drop (j + 1):=List.drop_eq_getElem_cons (by simpa using h)
theorem zDb (s:ByteArray)(p:Int → Bool)(j:Nat)(h:j < s.size):Lx.runN p (s.data.toList.drop j) = if p (s[j].toNat:Int) then Lx.runN p (s.data.toList.drop (j + 1)) + 1 else 0:=by
 rw [zAe s j h,Lx.runN]
theorem zBd (s:ByteArray)(j:Nat)(h:s.size ≤ j):s.data.toList.drop j = []:=List.drop_eq_nil_of_le (by simpa using h)
theorem zAF (s:ByteArray):s.data.toList.length = s.size:=by simp
theorem zEo (w:World):Calls Try.prog 61 #[] w fun e w' => e = .returned (.slice (some ⟨w.heap.size,0,none⟩) 18 18) ∧ w' = w.alloc (.cells (Lx.words.map fun l => .string (bs l)).toArray 9):=by
 go_in
 go_wp2
 go_ret
 exact ⟨rfl,rfl⟩
def HasWords (B:Nat)(w:World):Prop:=∀ j g,Lx.words[j]? = some g → w.cell? ⟨B,j,none⟩ = some (.string (bs g))
theorem zE9 (w:World):Calls Try.prog 61 #[] w fun e w' => e = .returned (.slice (some ⟨w.heap.size,0,none⟩) 18 18) ∧ HasWords w.heap.size w' ∧ Below w.heap.size w w':=
 (zEo w).mono fun _ _ ⟨he,hw⟩ => ⟨he,fun j g hg => by
  rw [hw,cell_of_row _ _ j _ _ _ (heap_alloc_new w _)]
  simp [hg],hw ▸ (Below.refl _ _).alloc (Nat.le_refl _) _⟩
theorem zE8:Lx.words.length = 18:=by decide
theorem zB9 (s:ByteArray)(w:World):Calls Try.prog 49 #[.string s] w fun e w' => e = .returned (.bool (Lx.isWord s.data.toList)) ∧ Below w.heap.size w w':=by
 have hlen:=zE8
 have HL:=vH hlen
 clear hlen
 go_in
 go_wp2_with (go_at_call 61; refine (zE9 _).mono ?_; rintro e w1 ⟨rfl,hw1,hb⟩)
 have HW:=vH hw1
 clear hw1
 go_loop [4] (fun i => ∃ j:Nat,j ≤ 18 ∧ i = .int .i64 j ∧ ∀ g ∈ Lx.words.take j,g ≠ s.data.toList) (fun i => 18 - (intOf i).toNat)
 case atStart => exact ⟨0,by omega,rfl,by simp⟩
 case round =>
  obtain ⟨j,hj,rfl,hno⟩:=hrel
  have HN:=vH hno
  clear hno
  by_cases hlt:j < 18
  ·obtain ⟨g,hg⟩:∃ g,Lx.words[j]? = some g:=⟨_,List.getElem?_eq_getElem (by rw [HL.out]; exact hlt)⟩
   have hc:=HW.out j g hg
   have HG:=vH hg
   clear hg
   by_cases he:g = s.data.toList
   ·have hx:((bs g).toList == s.toList) = true:=by rw [Lib.toList_data,Lib.toList_data,zD0]; exact beq_iff_eq.2 he
    have HE:=vH he
    clear he
    go_wp2
    go_ret
    refine ⟨zA6 ?_,hb⟩
    rw [Lx.isWord,List.contains_iff_mem.2 (by rw [← HE.out]; exact List.mem_of_getElem? HG.out)]
   ·have hx:((bs g).toList == s.toList) = false:=by rw [Lib.toList_data,Lib.toList_data,zD0]; exact beq_eq_false_iff_ne.2 he
    have HE:=vH he
    clear he
    go_wp2
    go_round
    case rel =>
     refine ⟨j + 1,by omega,by go_num,?_⟩
     intro g' hg'
     rw [List.take_add_one,HG.out] at hg'
     simp only [Option.toList,List.mem_append,List.mem_singleton] at hg'
     rcases hg' with hg' | rfl
     ·exact HN.out g' hg'
     ·exact HE.out
    case measure => simp [intOf]; omega
  ·go_wp2
   go_ret
   refine ⟨zA6 ?_,hb⟩
   have hn:=HN.out
   rw [List.take_of_length_le (by rw [HL.out]; omega)] at hn
   rw [Lx.isWord]
   symm
   rw [← Bool.not_eq_true,List.contains_iff_mem]
   exact fun h => hn _ h rfl
theorem zB6 (p:Int → Bool)(s:ByteArray)(k:Nat)(hk:k ≤ s.size):k + Lx.runN p (s.data.toList.drop k) ≤ s.size:=by
 have:=Lx.runN_le p (s.data.toList.drop k)
 rw [List.length_drop,zAF] at this
 omega
def slashes (l:List UInt8):Bool:=[47,47].isPrefixOf l
theorem zAQ {l:List UInt8}(h:slashes l = true):∃ r,l = 47 :: 47 :: r:=by
 match l with
 | [] => simp [slashes,List.isPrefixOf] at h
 | [a] => simp [slashes,List.isPrefixOf] at h
 | a :: b :: r => simp [slashes,List.isPrefixOf] at h; exact ⟨r,by rw [← h.1,← h.2]⟩
theorem zCv {l:List UInt8}(h:slashes l = false)(h2:∀ c r,l = c :: r → Lx.spcB (c.toNat:Int) = false):Lx.skipS false l = 0:=by
 match l with
 | [] => rfl
 | c :: r =>
   refine Lx.skip_none c r (h2 c r rfl) fun ⟨hc,hr⟩ => ?_
   match r,hr with
   | d :: r,hr =>
     simp at hr
     rw [hc,hr] at h
     simp [slashes,List.isPrefixOf] at h
theorem zB3 {l:List UInt8}(h:slashes l = true):Lx.skipS false l = Lx.skipS true l:=by
 obtain ⟨r,rfl⟩:=zAQ h
 exact Lx.skip_slash r
theorem zA5 {s:ByteArray}{j m:Nat}(hlt:j < s.size)(hsp:Lx.spcB (s[j].toNat:Int) = true)(h:j + Lx.skipS false (s.data.toList.drop j) = m):j + 1 + Lx.skipS false (s.data.toList.drop (j + 1)) = m:=by
 rw [zAe s j hlt,Lx.skipS,if_pos hsp] at h
 omega
theorem zF6 {s:ByteArray}{j m:Nat}(hlt:j < s.size)(hln:Lx.linB (s[j].toNat:Int) = true)(h:j + Lx.skipS true (s.data.toList.drop j) = m):j + 1 + Lx.skipS true (s.data.toList.drop (j + 1)) = m:=by
 rw [zAe s j hlt] at h
 rw [show Lx.skipS true (s[j] :: s.data.toList.drop (j + 1)) = Lx.skipS (Lx.linB (s[j].toNat:Int)) (s.data.toList.drop (j + 1)) + 1 from rfl,hln] at h
 omega
theorem zDp {s:ByteArray}{j m:Nat}(h:j + Lx.skipS true (s.data.toList.drop j) = m)(hd:j = s.size ∨ ∃ hlt:j < s.size,Lx.linB (s[j].toNat:Int) = false):j + Lx.skipS false (s.data.toList.drop j) = m:=by
 rw [Lx.skip_line] at h
 rcases hd with rfl | ⟨hlt,hl⟩
 ·rw [zBd s _ (Nat.le_refl _)] at h ⊢
  exact h
 ·rw [zDb s _ j hlt,hl] at h
  simpa using h
theorem zFi {c:Int}(h:Lx.spcB c = false):c ≠ 32 ∧ c ≠ 9 ∧ c ≠ 10 ∧ c ≠ 13:=by
 simpa [Lx.spcB] using h
theorem beqF {a b:Int}(h:a ≠ b):(a == b) = false:=beq_eq_false_iff_ne.2 h
theorem zJe (s:ByteArray)(j:Nat)(h:j + 2 ≤ s.size):((s.extract j (j + 2)).toList == [47,47]) = slashes (s.data.toList.drop j):=by
 rw [Lib.toList_data,Lib.extract_data]
 rw [zAe s j (by omega),zAe s (j + 1) (by omega)]
 rw [Bool.eq_iff_iff]
 simp [slashes,List.isPrefixOf]
 exact ⟨fun ⟨a,b⟩ => ⟨a.symm,b.symm⟩,fun ⟨a,b⟩ => ⟨a.symm,b.symm⟩⟩
theorem zF7 {c:Int}(h:Lx.linB c = false):(c != 10) = false:=by simpa [Lx.linB] using h
theorem zHd {c:Int}(h:Lx.linB c = true):(c != 10) = true:=by simpa [Lx.linB] using h
theorem zIp {c:Int}(h:(c == 10) = false):Lx.linB c = true:=by simpa [Lx.linB] using h
theorem zBL (s:ByteArray)(hs:s.size ≤ maxLen)(a:Int)(k m:Nat)(ha:a = k)(hk:k ≤ s.size)(hm:k + Lx.skipS false (s.data.toList.drop k) = m)(w:World) :
 Calls Try.prog 37 #[.string s,.int .i64 a] w fun e w' => e = .returned (.int .i64 m) ∧ w = w':=by
 subst ha
 unfold maxLen at hs
 have HM:=vH hm
 clear hm
 go_in
 go_wp2
 go_loop [1] (fun i => ∃ j:Nat,j ≤ s.size ∧ i = .int .i64 j ∧ j + Lx.skipS false (s.data.toList.drop j) = m) (fun i => s.size - (intOf i).toNat)
 case atStart => exact ⟨k,hk,rfl,HM.out⟩
 case round =>
  obtain ⟨j,hj,rfl,hJ⟩:=hrel
  have HJ:=vH hJ
  clear hJ
  by_cases hlt:j < s.size
  ·cases hsp:Lx.spcB (s[j].toNat:Int)
   ·have HP:=vH hsp
    have hc:=zFi hsp
    have c1:=beqF hc.1
    have c2:=beqF hc.2.1
    have c3:=beqF hc.2.2.1
    have c4:=beqF hc.2.2.2
    clear hsp hc
    by_cases h2:j + 2 ≤ s.size
    ·have h2':(2:Int) ≤ (s.size:Int) - (j:Int):=by omega
     have h3:(j:Int) + 2 ≤ (s.size:Int):=by omega
     have h4:=zJe s j h2
     cases hsl:slashes (s.data.toList.drop j)
     ·rw [hsl] at h4
      have HNO:=vH hsl
      clear hsl
      go_wp2
      go_ret
      have h:=HJ.out
      rw [zCv HNO.out (fun c r e => by rw [zAe s j hlt] at e; injection e with e _; rw [← e]; exact HP.out)] at h
      exact ⟨zBg (by omega),rfl⟩
     ·rw [hsl] at h4
      have hJ5:=HJ.out
      rw [zB3 hsl] at hJ5
      have HJ5:=vH hJ5
      clear hsl hJ5
      go_wp2
      go_loop [1] (fun i => ∃ q:Nat,j ≤ q ∧ q ≤ s.size ∧ i = .int .i64 q ∧ q + Lx.skipS true (s.data.toList.drop q) = m) (fun i => s.size - (intOf i).toNat)
      case atStart => exact ⟨j,Nat.le_refl _,hj,rfl,HJ5.out⟩
      case round =>
       obtain ⟨q,hq1,hq2,rfl,hQ⟩:=hrel
       have HQ:=vH hQ
       clear hQ
       by_cases hqs:q < s.size
       ·cases hln:Lx.linB (s[q].toNat:Int)
        ·have hl:=zF7 hln
         have hne:j < q:=by
          rcases Nat.lt_or_eq_of_le hq1 with h | rfl
          ·exact h
          ·rw [zIp c3] at hln; cases hln
         have HL:=vH hln
         clear hln
         go_wp2
         go_round
         case rel => exact ⟨q,hq2,rfl,zDp HQ.out (Or.inr ⟨hqs,HL.out⟩)⟩
         case measure => simp [intOf]; omega
        ·have hl:=zHd hln
         have HL:=vH hln
         clear hln
         go_wp2
         go_round
         case rel => exact ⟨q + 1,by omega,by omega,by go_num,zF6 hqs HL.out HQ.out⟩
         case measure => simp [intOf]; omega
       ·have he:q = s.size:=by omega
        have HE:=vH he
        clear he
        go_wp2
        go_round
        case rel => exact ⟨q,hq2,rfl,zDp HQ.out (Or.inl HE.out)⟩
        case measure => simp [intOf]; omega
    ·have hno:slashes (s.data.toList.drop j) = false:=by
         cases h:slashes (s.data.toList.drop j)
         ·rfl
         ·obtain ⟨r,hr⟩:=zAQ h
          have:=congrArg List.length hr
          rw [List.length_drop,zAF] at this
          simp at this
          omega
     have HNO:=vH hno
     clear hno
     go_wp2
     go_ret
     have h:=HJ.out
     rw [zCv HNO.out (fun c r e => by rw [zAe s j hlt] at e; injection e with e _; rw [← e]; exact HP.out)] at h
     exact ⟨zBg (by omega),rfl⟩
   ·have HP:=vH hsp
    have hor:s[j].toNat = 32 ∨ s[j].toNat = 9 ∨ s[j].toNat = 10 ∨ s[j].toNat = 13:=by
     have:=hsp
     simp [Lx.spcB] at this
     omega
    clear hsp
    rcases hor with h | h | h | h
    ·have c1:((s[j].toNat:Int) == 32) = true:=beq_iff_eq.2 (by omega)
     clear h
     go_wp2
     go_round
     case rel => exact ⟨j + 1,by omega,by go_num,zA5 hlt HP.out HJ.out⟩
     case measure => simp [intOf]; omega
    ·have c1:((s[j].toNat:Int) == 32) = false:=beqF (by omega)
     have c2:((s[j].toNat:Int) == 9) = true:=beq_iff_eq.2 (by omega)
     clear h
     go_wp2
     go_round
     case rel => exact ⟨j + 1,by omega,by go_num,zA5 hlt HP.out HJ.out⟩
     case measure => simp [intOf]; omega
    ·have c1:((s[j].toNat:Int) == 32) = false:=beqF (by omega)
     have c2:((s[j].toNat:Int) == 9) = false:=beqF (by omega)
     have c3:((s[j].toNat:Int) == 10) = true:=beq_iff_eq.2 (by omega)
     clear h
     go_wp2
     go_round
     case rel => exact ⟨j + 1,by omega,by go_num,zA5 hlt HP.out HJ.out⟩
     case measure => simp [intOf]; omega
    ·have c1:((s[j].toNat:Int) == 32) = false:=beqF (by omega)
     have c2:((s[j].toNat:Int) == 9) = false:=beqF (by omega)
     have c3:((s[j].toNat:Int) == 10) = false:=beqF (by omega)
     have c4:((s[j].toNat:Int) == 13) = true:=beq_iff_eq.2 (by omega)
     clear h
     go_wp2
     go_round
     case rel => exact ⟨j + 1,by omega,by go_num,zA5 hlt HP.out HJ.out⟩
     case measure => simp [intOf]; omega
  ·go_wp2
   go_ret
   have h:=HJ.out
   rw [zBd s j (by omega)] at h
   exact ⟨zBg (by simp [Lx.skipS] at h; omega),rfl⟩
theorem zGa (s:ByteArray)(h : 0 < s.size):Lx.isName s.data.toList = (decide (s.size ≤ 8) && Lx.letB (s[0].toNat:Int) && decide (Lx.runN Lx.alnB s.data.toList = s.size) && !Lx.isWord s.data.toList):=by
 have hd:=zAe s 0 h
 rw [List.drop_zero] at hd
 have hl:=zAF s
 generalize s[0] = c at hd ⊢
 generalize s.data.toList = l at hd hl ⊢
 obtain ⟨r,rfl⟩:∃ r,l = c :: r:=⟨_,hd⟩
 rw [← hl]
 rfl
theorem zF0 (s:ByteArray)(h : 0 < s.size):s.toList ≠ []:=by
 rw [Lib.toList_data]
 intro h2
 have:=congrArg List.length h2
 rw [zAF] at this
 have h3:s.size = 0:=this
 omega
theorem zJB (s:ByteArray)(h : 0 < s.size):(s.toList == []) = false:=beq_eq_false_iff_ne.2 (zF0 s h)
theorem zHb (s:ByteArray)(h : 0 < s.size):s.toList.isEmpty = false:=by
 cases h2:s.toList.isEmpty
 ·rfl
 ·exact absurd (List.isEmpty_iff.1 h2) (zF0 s h)
theorem zHx (s:ByteArray)(h:s.size = 0):s = ⟨#[]⟩:=by
 apply ByteArray.ext
 exact Array.eq_empty_of_size_eq_zero h
theorem zEm {s:ByteArray}{j m:Nat}(hlt:j < s.size)(ha:Lx.alnB (s[j].toNat:Int) = true)(h:j + Lx.runN Lx.alnB (s.data.toList.drop j) = m):j + 1 + Lx.runN Lx.alnB (s.data.toList.drop (j + 1)) = m:=by
 rw [zDb s _ j hlt,if_pos ha] at h
 omega
theorem zHD {s:ByteArray}{j m:Nat}(hlt:j < s.size)(ha:Lx.alnB (s[j].toNat:Int) = false)(h:j + Lx.runN Lx.alnB (s.data.toList.drop j) = m):m = j:=by
 rw [zDb s _ j hlt,if_neg (by rw [ha]; decide)] at h
 omega
theorem zDD (s:ByteArray)(hs:s.size ≤ maxLen)(w:World):Calls Try.prog 50 #[.string s] w fun e w' => e = .returned (.bool (Lx.isName s.data.toList)) ∧ Below w.heap.size w w':=by
 rcases Nat.eq_zero_or_pos s.size with h0 | h0
 ·have:=zHx s h0
  subst this
  clear h0
  go_in
  go_wp2
  go_ret
  exact ⟨rfl,Below.refl _ _⟩
 ·have hN:=zGa s h0
  by_cases h8:s.size ≤ 8
  ·have hi:(0:Int) < (s.size:Int):=by omega
   have h1 : 1 ≤ s.size:=h0
   cases hc:Lx.letB (s[0].toNat:Int)
   ·have hl:=zY (s[0].toNat:Int)
    rw [hc] at hl hN
    have hN2:Lx.isName s.data.toList = false:=by rw [hN]; simp
    have HL:=vH hl
    rw [hN2]
    clear hl hN hN2 hc
    go_in
    go_wp2_with (go_at_call 47; refine (HL.out _).mono ?_; rintro e w' ⟨rfl,rfl⟩)
    go_ret
    exact ⟨rfl,Below.refl _ _⟩
   ·have hl:=zY (s[0].toNat:Int)
    rw [hc] at hl hN
    have HL:=vH hl
    have hw:=zB9 s
    cases hwd:Lx.isWord s.data.toList
    ·rw [hwd] at hw hN
     have HW:=vH hw
     have hb:=zB6 Lx.alnB s 0 (by omega)
     generalize hm : 0 + Lx.runN Lx.alnB (s.data.toList.drop 0) = m at hb
     have hm2:Lx.runN Lx.alnB s.data.toList = m:=by rw [← hm]; simp
     rw [hm2] at hN
     have HM:=vH hm
     have hN2:Lx.isName s.data.toList = decide (m = s.size):=by rw [hN]; simp [h8]
     rw [hN2]
     clear hl hN hN2 hc hm hm2 hw hwd
     go_in
     go_wp2_with (first
         | (go_at_call 47; refine (HL.out _).mono ?_; rintro e w' ⟨rfl,rfl⟩)
         | (go_at_call 49; refine (HW.out _).mono ?_; rintro e w1 ⟨rfl,hb1⟩))
     go_loop [3] (fun i => ∃ j:Nat,j ≤ s.size ∧ i = .int .i64 j ∧ j + Lx.runN Lx.alnB (s.data.toList.drop j) = m) (fun i => s.size - (intOf i).toNat)
     case atStart => exact ⟨0,by omega,rfl,HM.out⟩
     case round =>
         obtain ⟨j,hj,rfl,hJ⟩:=hrel
         have HJ:=vH hJ
         clear hJ
         by_cases hlt:j < s.size
         ·have hl:=zY (s[j].toNat:Int)
          have hd:=zAv (s[j].toNat:Int)
          cases hcl:Lx.letB (s[j].toNat:Int)
          ·rw [hcl] at hl
           cases hcd:Lx.digB (s[j].toNat:Int)
           ·rw [hcd] at hd
            have HA:Hid (Lx.alnB (s[j].toNat:Int) = false):=by show _ = _; simp [Lx.alnB,hcl,hcd]
            have HL:=vH hl
            have HD:=vH hd
            clear hl hd hcl hcd
            go_wp2_with (first
               | (go_at_call 47; refine (HL.out _).mono ?_; rintro e w' ⟨rfl,rfl⟩)
               | (go_at_call 51; refine (HD.out _).mono ?_; rintro e w' ⟨rfl,rfl⟩))
            go_ret
            refine ⟨zA6 ?_,hb1⟩
            have:=zHD hlt HA.out HJ.out
            exact (decide_eq_false (by omega)).symm
           ·rw [hcd] at hd
            have HA:Hid (Lx.alnB (s[j].toNat:Int) = true):=by show _ = _; simp [Lx.alnB,hcd]
            have HL:=vH hl
            have HD:=vH hd
            clear hl hd hcl hcd
            go_wp2_with (first
               | (go_at_call 47; refine (HL.out _).mono ?_; rintro e w' ⟨rfl,rfl⟩)
               | (go_at_call 51; refine (HD.out _).mono ?_; rintro e w' ⟨rfl,rfl⟩))
            go_round
            case rel => exact ⟨j + 1,by omega,by go_num,zEm hlt HA.out HJ.out⟩
            case measure => simp [intOf]; omega
          ·rw [hcl] at hl
           have HA:Hid (Lx.alnB (s[j].toNat:Int) = true):=by show _ = _; simp [Lx.alnB,hcl]
           have HL:=vH hl
           clear hl hd hcl
           go_wp2_with (go_at_call 47; refine (HL.out _).mono ?_; rintro e w' ⟨rfl,rfl⟩)
           go_round
           case rel => exact ⟨j + 1,by omega,by go_num,zEm hlt HA.out HJ.out⟩
           case measure => simp [intOf]; omega
         ·go_wp2
          go_ret
          refine ⟨zA6 ?_,hb1⟩
          have h:=HJ.out
          rw [zBd s j (by omega),Lx.runN] at h
          exact (decide_eq_true (by omega)).symm
    ·rw [hwd] at hw hN
     have HW:=vH hw
     have hN2:Lx.isName s.data.toList = false:=by rw [hN]; simp
     rw [hN2]
     clear hl hN hN2 hc hw hwd
     go_in
     go_wp2_with (first
         | (go_at_call 47; refine (HL.out _).mono ?_; rintro e w' ⟨rfl,rfl⟩)
         | (go_at_call 49; refine (HW.out _).mono ?_; rintro e w1 ⟨rfl,hb1⟩))
     go_ret
     exact ⟨rfl,hb1⟩
  ·have hN2:Lx.isName s.data.toList = false:=by rw [hN]; simp [h8]
   rw [hN2]
   have h9 : 8 < s.size:=by omega
   have h1 : 1 ≤ s.size:=h0
   clear hN hN2 h8
   go_in
   go_wp2
   go_ret
   exact ⟨rfl,Below.refl _ _⟩
end Go.Proofs.Ytjleggpbghmobaa.Ln
namespace Go.Proofs.Ytjleggpbghmobaa.Ln
open Go.ChangeShapes Go.WideShapes Go.ChangeAt Go.WideMaps Go.WideElems Go.RowKit
theorem zAW {w:World}{b:Nat}{v:Obj}(h:w.heap[b]? = some v):b < w.heap.size:=(Array.getElem?_eq_some_iff.1 h).1
end Go.Proofs.Ytjleggpbghmobaa.Ln
namespace Go.Proofs.Ytjleggpbghmobaa
open Go.ChangeShapes Go.WideShapes Go.ChangeAt Go.WideMaps Go.WideElems Go.RowKit
open Pe
theorem cS:Try.prog.cellsOf 9 = 1:=by kernel_rfl
theorem own:ownKnob Try.prog.godebug = none:=by kernel_rfl
end Go.Proofs.Ytjleggpbghmobaa
