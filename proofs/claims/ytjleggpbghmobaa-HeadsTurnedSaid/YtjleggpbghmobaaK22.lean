/-
  Digits: their value, what strconv.Atoi answers at them (plai
-/
import Derived.Test.YtjleggpbghmobaaK01
import Derived.Test.YtjleggpbghmobaaK21
import Derived.Lib.AtoiErrMem
set_option maxRecDepth 8000
set_option maxHeartbeats 8000000
namespace Go.Proofs.Ytjleggpbghmobaa.Ln
namespace Lx
open Go.Lib
theorem runN_all (p:Int → Bool):∀ l:List UInt8,∀ c ∈ l.take (runN p l),p (c.toNat:Int) = true
 | [],c,h => by simp at h
 | d :: l,c,h => by
   cases hd:p (d.toNat:Int)
   ·rw [zCP _ _ _ hd] at h; simp at h
   ·rw [runN_yes _ _ _ hd,List.take_succ_cons,List.mem_cons] at h
    rcases h with rfl | h
    ·exact hd
    ·exact runN_all p l c h
theorem dig_bounds {c:UInt8}(h:digB (c.toNat:Int) = true) : 48 ≤ c.toNat ∧ c.toNat ≤ 57:=by
 simp [digB] at h; omega
end Lx
open Go.RowKit
theorem zDc {v:Int}{b:Bool}{a:Int}{c:Bool}(h:a = v)(h2:c = b):Ending.returned (.tuple #[.int .i64 a,.bool c]) = .returned (.tuple #[.int .i64 v,.bool b]):=by rw [h,h2]
def wholeV (V:Nat):Nat:=if V ≤ 9223372036854775807 then V else 0
def wholeB (V:Nat):Bool:=decide (V ≤ 9223372036854775807)
theorem zCs {V:Nat}(h:V ≤ 9223372036854775807):wholeV V = V:=if_pos h
theorem zC5 {V:Nat}(h:¬ V ≤ 9223372036854775807):wholeV V = 0:=if_neg h
theorem zCt {V:Nat}(h:V ≤ 9223372036854775807):wholeB V = true:=decide_eq_true h
theorem zC6 {V:Nat}(h:¬ V ≤ 9223372036854775807):wholeB V = false:=decide_eq_false h
theorem zFa (s:ByteArray)(hs:s.size ≤ maxLen)(hd:∀ c ∈ s.data.toList,Lx.digB (c.toNat:Int) = true)(V:Nat)(hV:Lx.valN 0 s.data.toList = V)(w:World) :
 Calls Try.prog 52 #[.string s] w fun e w' => e = .returned (.tuple #[.int .i64 (wholeV V),.bool (wholeB V)]) ∧ w = w':=by
 unfold maxLen at hs
 have HD:=vH hd
 have HV:=vH hV
 clear hd hV
 go_in
 go_wp2
 go_loop [4,5] (fun n i => ∃ j n':Nat,j ≤ s.size ∧ i = .int .i64 j ∧ n = .int .i64 n' ∧ n' ≤ 9223372036854775807 ∧ Lx.valN n' (s.data.toList.drop j) = V) (fun _ i => s.size - (intOf i).toNat)
 case atStart => exact ⟨0,0,by omega,rfl,rfl,by omega,HV.out⟩
 case round =>
  obtain ⟨j,n,hj,rfl,rfl,hn,hJ⟩:=hrel
  have HJ:=vH hJ
  clear hJ
  by_cases hlt:j < s.size
  ·have hb:=Lx.dig_bounds (HD.out s[j] (by have h:=zAe s j hlt; exact List.mem_of_mem_drop (by rw [h]; exact List.mem_cons_self)))
   have h1:=hb.1
   have h2:=hb.2
   clear hb
   have hJ:=HJ.out
   rw [zAe s j hlt,Lx.valN_cons] at hJ
   have hg:=Lx.valN_ge (s.data.toList.drop (j + 1)) (10 * n + (s[j].toNat - 48))
   rw [hJ] at hg
   have HJ2:=vH hJ
   clear hJ HJ
   by_cases hov : 9223372036854775807 < 10 * n + (s[j].toNat - 48)
   ·have h3:((9223372036854775807:Int) - ((s[j].toNat:Int) - 48)) / 10 < (n:Int):=by omega
    go_wp2
    go_ret2
    exact ⟨zDc (by rw [zC5 (by omega)]; rfl) (zC6 (by omega)).symm,rfl⟩
   ·have h3:(n:Int) ≤ ((9223372036854775807:Int) - ((s[j].toNat:Int) - 48)) / 10:=by omega
    go_wp2
    go_round
    case rel => exact ⟨j + 1,10 * n + (s[j].toNat - 48),by omega,by go_num,congrArg (Value.int .i64) (by omega),by omega,HJ2.out⟩
    case measure => simp [intOf]; omega
  ·go_wp2
   go_ret2
   have h:=HJ.out
   rw [zBd s j (by omega),Lx.valN_nil] at h
   exact ⟨zDc (by rw [zCs (by omega),h]) (zCt (by omega)).symm,rfl⟩
theorem zCO {s:ByteArray}{p:Int → Bool}{k q m:Nat}(hlt:k + q < s.size)(ha:p (s[k + q].toNat:Int) = true)(h:q + Lx.runN p (s.data.toList.drop (k + q)) = m):q + 1 + Lx.runN p (s.data.toList.drop (k + (q + 1))) = m:=by
 rw [zDb s _ (k + q) hlt,if_pos ha] at h
 rw [show k + (q + 1) = k + q + 1 from rfl]
 omega
theorem zD3 {s:ByteArray}{p:Int → Bool}{k q m:Nat}(hlt:k + q < s.size)(ha:p (s[k + q].toNat:Int) = false)(h:q + Lx.runN p (s.data.toList.drop (k + q)) = m):q = m:=by
 rw [zDb s _ (k + q) hlt,if_neg (by rw [ha]; decide)] at h
 omega
theorem zFp {s:ByteArray}{p:Int → Bool}{k q m:Nat}(hlt:s.size ≤ k + q)(h:q + Lx.runN p (s.data.toList.drop (k + q)) = m):q = m:=by
 rw [zBd s _ hlt,Lx.runN] at h
 omega
theorem zAz (s:ByteArray)(hs:s.size ≤ maxLen)(a:Int)(k m:Nat)(ha:a = k)(hk:k ≤ s.size)(hm:Lx.runN Lx.digB (s.data.toList.drop k) = m)(w:World) :
 Calls Try.prog 48 #[.string s,.int .i64 a,.bool true] w fun e w' => e = .returned (.int .i64 m) ∧ w = w':=by
 subst ha
 unfold maxLen at hs
 have HM:=vH hm
 clear hm
 go_in
 go_wp2
 go_loop [7] (fun i => ∃ q:Nat,k + q ≤ s.size ∧ i = .int .i64 q ∧ q + Lx.runN Lx.digB (s.data.toList.drop (k + q)) = m) (fun i => s.size - k - (intOf i).toNat)
 case atStart => exact ⟨0,hk,rfl,by rw [Nat.add_zero,HM.out]; omega⟩
 case round =>
  obtain ⟨q,hq,rfl,hJ⟩:=hrel
  have HJ:=vH hJ
  clear hJ
  by_cases hlt:k + q < s.size
  ·have hlt2:(k:Int) + (q:Int) < (s.size:Int):=by omega
   have hd:=zAv (s[k + q].toNat:Int)
   cases hcd:Lx.digB (s[k + q].toNat:Int)
   ·rw [hcd] at hd
    have HD:=vH hd
    have HC:=vH hcd
    clear hd hcd
    go_wp2_with (go_at_call 51; refine (HD.out _).mono ?_; rintro e w' ⟨rfl,rfl⟩)
    go_ret
    exact ⟨zBg (by rw [zD3 hlt HC.out HJ.out]),rfl⟩
   ·rw [hcd] at hd
    have HD:=vH hd
    have HC:=vH hcd
    clear hd hcd
    go_wp2_with (go_at_call 51; refine (HD.out _).mono ?_; rintro e w' ⟨rfl,rfl⟩)
    go_round
    case rel => exact ⟨q + 1,by omega,by go_num,zCO hlt HC.out HJ.out⟩
    case measure => simp [intOf]; omega
  ·have hlt2:(s.size:Int) ≤ (k:Int) + (q:Int):=by omega
   go_wp2
   go_ret
   exact ⟨zBg (by rw [zFp (by omega) HJ.out]),rfl⟩
theorem zBi (s:ByteArray)(hs:s.size ≤ maxLen)(a:Int)(k m:Nat)(ha:a = k)(hk:k ≤ s.size)(hm:Lx.runN Lx.alnB (s.data.toList.drop k) = m)(w:World) :
 Calls Try.prog 48 #[.string s,.int .i64 a,.bool false] w fun e w' => e = .returned (.int .i64 m) ∧ w = w':=by
 subst ha
 unfold maxLen at hs
 have HM:=vH hm
 clear hm
 go_in
 go_wp2
 go_loop [7] (fun i => ∃ q:Nat,k + q ≤ s.size ∧ i = .int .i64 q ∧ q + Lx.runN Lx.alnB (s.data.toList.drop (k + q)) = m) (fun i => s.size - k - (intOf i).toNat)
 case atStart => exact ⟨0,hk,rfl,by rw [Nat.add_zero,HM.out]; omega⟩
 case round =>
  obtain ⟨q,hq,rfl,hJ⟩:=hrel
  have HJ:=vH hJ
  clear hJ
  by_cases hlt:k + q < s.size
  ·have hlt2:(k:Int) + (q:Int) < (s.size:Int):=by omega
   have hd:=zAv (s[k + q].toNat:Int)
   have hl:=zY (s[k + q].toNat:Int)
   cases hcd:Lx.digB (s[k + q].toNat:Int)
   ·rw [hcd] at hd
    cases hcl:Lx.letB (s[k + q].toNat:Int)
    ·rw [hcl] at hl
     have HC:Hid (Lx.alnB (s[k + q].toNat:Int) = false):=by show _ = _; simp [Lx.alnB,hcl,hcd]
     have HD:=vH hd
     have HL:=vH hl
     clear hd hcd hl hcl
     go_wp2_with (first
        | (go_at_call 51; refine (HD.out _).mono ?_; rintro e w' ⟨rfl,rfl⟩)
        | (go_at_call 47; refine (HL.out _).mono ?_; rintro e w' ⟨rfl,rfl⟩))
     go_ret
     exact ⟨zBg (by rw [zD3 hlt HC.out HJ.out]),rfl⟩
    ·rw [hcl] at hl
     have HC:Hid (Lx.alnB (s[k + q].toNat:Int) = true):=by show _ = _; simp [Lx.alnB,hcl]
     have HD:=vH hd
     have HL:=vH hl
     clear hd hcd hl hcl
     go_wp2_with (first
        | (go_at_call 51; refine (HD.out _).mono ?_; rintro e w' ⟨rfl,rfl⟩)
        | (go_at_call 47; refine (HL.out _).mono ?_; rintro e w' ⟨rfl,rfl⟩))
     go_round
     case rel => exact ⟨q + 1,by omega,by go_num,zCO hlt HC.out HJ.out⟩
     case measure => simp [intOf]; omega
   ·rw [hcd] at hd
    have HC:Hid (Lx.alnB (s[k + q].toNat:Int) = true):=by show _ = _; simp [Lx.alnB,hcd]
    have HD:=vH hd
    clear hd hcd hl
    go_wp2_with (go_at_call 51; refine (HD.out _).mono ?_; rintro e w' ⟨rfl,rfl⟩)
    go_round
    case rel => exact ⟨q + 1,by omega,by go_num,zCO hlt HC.out HJ.out⟩
    case measure => simp [intOf]; omega
  ·have hlt2:(s.size:Int) ≤ (k:Int) + (q:Int):=by omega
   go_wp2
   go_ret
   exact ⟨zBg (by rw [zFp (by omega) HJ.out]),rfl⟩
namespace Lx
def oneWord (r:List UInt8):Option (Nat × List UInt8 × Nat × Nat):=
 if isWord (r.take (runN alnB r)) then some (3,r.take (runN alnB r),0,runN alnB r)
 else if isName (r.take (runN alnB r)) then some (1,r.take (runN alnB r),0,runN alnB r)
 else none
def oneNum (r:List UInt8):Option (Nat × List UInt8 × Nat × Nat):=
 if numBad r then none else some (2,[],valN 0 (r.take (runN digB r)),runN digB r)
def oneSign (r:List UInt8):Option (Nat × List UInt8 × Nat × Nat):=
 match signAt r with
 | none => none
 | some g => some (4,g,0,g.length)
theorem one_word (c:UInt8)(r:List UInt8)(h:letB (c.toNat:Int) = true):one (c :: r) = oneWord (c :: r):=by
 rw [one,if_pos h,oneWord]
theorem one_num (c:UInt8)(r:List UInt8)(h:letB (c.toNat:Int) = false)(h2:digB (c.toNat:Int) = true):one (c :: r) = oneNum (c :: r):=by
 rw [one,if_neg (by rw [h]; decide),if_pos h2,oneNum]
theorem one_sign (c:UInt8)(r:List UInt8)(h:letB (c.toNat:Int) = false)(h2:digB (c.toNat:Int) = false):one (c :: r) = oneSign (c :: r):=by
 rw [one,if_neg (by rw [h]; decide),if_neg (by rw [h2]; decide),oneSign]
 cases signAt (c :: r) <;> rfl
end Lx
open Go.RowKit
theorem zFj:Lx.signs.length = 23:=by decide
theorem zDz {r:List UInt8}(h:∀ g ∈ Lx.signs,g.isPrefixOf r = false):Lx.signAt r = none:=by
 rw [Lx.signAt,List.find?_eq_none]
 intro g hg
 rw [h g hg]; decide
theorem zCI:∀ (l:List (List UInt8))(p:List UInt8 → Bool)(j:Nat)(g:List UInt8),l[j]? = some g → (∀ x ∈ l.take j,p x = false) → p g = true → l.find? p = some g
 | [],_,_,_,h,_,_ => by simp at h
 | x :: l,p,0,g,h,_,hp => by
   simp at h
   subst h
   simp [hp]
 | x :: l,p,j + 1,g,h,hn,hp => by
   have hx:=hn x (by simp)
   rw [List.find?_cons_of_neg (by rw [hx]; decide)]
   exact zCI l p j g (by simpa using h) (fun y hy => hn y (by simp [hy])) hp
theorem zBK {r g:List UInt8}{j:Nat}(hg:Lx.signs[j]? = some g)(hn:∀ x ∈ Lx.signs.take j,x.isPrefixOf r = false)(hp:g.isPrefixOf r = true):Lx.signAt r = some g:=
 zCI Lx.signs _ j g hg hn hp
open Go.RowKit
theorem zBu (s:ByteArray)(k m:Nat):(s.extract k (k + m)).data.toList = (s.data.toList.drop k).take m:=by
 rw [Lib.extract_data]
 congr 1
 omega
theorem zJW (s:ByteArray)(k m n:Nat)(h:k + m = n):s.extract k n = bs ((s.data.toList.drop k).take m):=by
 rw [← h,← zJ6 (s.extract k (k + m)),zBu]
theorem zHv (s:ByteArray)(k n:Nat):(s.extract k n).size ≤ s.size:=by
 rw [ByteArray.size_extract]; omega
theorem zDa {s:ByteArray}(h:s.size ≤ 6000):s.size ≤ maxLen:=by unfold maxLen; omega
theorem zGt {s:ByteArray}(k n:Nat)(h:s.size ≤ 6000):(s.extract k n).size ≤ maxLen:=by
 have:=zHv s k n
 unfold maxLen; omega
theorem clone_any (s:ByteArray)(hs:s.size ≤ 281474976710656)(w:World):Calls Try.prog 43 #[.string s] w fun e w' => e = .returned (.string s) ∧ Below w.heap.size w w':=by
 go_in
 go_wp2_with (go_at_call 59; refine (Any.stringslite_Clone Try.laysM316 s _ hs).mono ?_; rintro e w1 ⟨rfl,hb⟩)
 go_ret
 exact ⟨rfl,hb⟩
theorem zDw {w w1:World}{cs:Array Value}{T:TypeId}(hb:Below (w.alloc (.cells cs T)).heap.size (w.alloc (.cells cs T)) w1):w1.heap[w.heap.size]? = some (.cells cs T (0,0)):=by
 rw [hb.block _ (by simp)]; exact heap_alloc_new w _
theorem box4 {w1:World}{B:Nat}{T:TypeId}{a b c d:Value}(h:w1.heap[B]? = some (.cells #[a,b,c,d] T (0,0))) :
 (w1.cell? ⟨B,0,none⟩ = some a ∧ w1.cell? ⟨B,1,none⟩ = some b ∧ w1.cell? ⟨B,2,none⟩ = some c ∧ w1.cell? ⟨B,3,none⟩ = some d) ∧
 (w1.frozen? ⟨B,0,none⟩ = false ∧ w1.frozen? ⟨B,1,none⟩ = false ∧ w1.frozen? ⟨B,2,none⟩ = false ∧ w1.frozen? ⟨B,3,none⟩ = false):=
 ⟨⟨by rw [cell_of_row _ _ _ _ _ _ h]; rfl,by rw [cell_of_row _ _ _ _ _ _ h]; rfl,by rw [cell_of_row _ _ _ _ _ _ h]; rfl,by rw [cell_of_row _ _ _ _ _ _ h]; rfl⟩,
   frozen_of_row _ _ _ _ _ h,frozen_of_row _ _ _ _ _ h,frozen_of_row _ _ _ _ _ h,frozen_of_row _ _ _ _ _ h⟩
theorem zA3 {w w1:World}{o:Obj}(hb:Below (w.alloc o).heap.size (w.alloc o) w1):Below w.heap.size w w1:=
 ((Below.refl _ _).alloc (Nat.le_refl _) o).trans (hb.mono (by simp))
theorem zDM {s:ByteArray}{k:Nat}(hk:k < s.size)(h:Lx.letB (s[k].toNat:Int) = true):Lx.one (s.data.toList.drop k) = Lx.oneWord (s.data.toList.drop k):=by
 rw [zAe s k hk]; exact Lx.one_word _ _ h
theorem zEZ {s:ByteArray}{k:Nat}(hk:k < s.size)(h:Lx.letB (s[k].toNat:Int) = false)(h2:Lx.digB (s[k].toNat:Int) = true):Lx.one (s.data.toList.drop k) = Lx.oneNum (s.data.toList.drop k):=by
 rw [zAe s k hk]; exact Lx.one_num _ _ h h2
theorem zDN {s:ByteArray}{k:Nat}(hk:k < s.size)(h:Lx.letB (s[k].toNat:Int) = false)(h2:Lx.digB (s[k].toNat:Int) = false):Lx.one (s.data.toList.drop k) = Lx.oneSign (s.data.toList.drop k):=by
 rw [zAe s k hk]; exact Lx.one_sign _ _ h h2
theorem zIF {s:ByteArray}{k:Nat}(hk:k < s.size):(s.data.toList.drop k).head? = some s[k]:=by rw [zAe s k hk]; rfl
theorem zE0 {s:ByteArray}{n:Nat}(hn:n < s.size):Lx.nextLet (s.data.toList.drop n) = Lx.letB (s[n].toNat:Int):=by rw [zAe s n hn]; rfl
theorem zDP {s:ByteArray}{n:Nat}(hn:s.size ≤ n):Lx.nextLet (s.data.toList.drop n) = false:=by rw [zBd s n hn]; rfl
theorem zFZ {s:ByteArray}{k m n V:Nat}(hk:k < s.size)(hm:Lx.runN Lx.digB (s.data.toList.drop k) = m)(hn:k + m = n)(hV:Lx.valN 0 ((s.data.toList.drop k).take m) = V) :
 Lx.numBad (s.data.toList.drop k) = (decide (s[k] = 48 ∧ 1 < m) || decide (9223372036854775807 < V) || Lx.nextLet (s.data.toList.drop n)):=by
 rw [Lx.numBad,hm,hV,List.drop_drop,hn,zIF hk]
 simp
theorem zJ5 {c:UInt8}(h:((c.toNat:Int) == 48) = true):c = 48:=by
 have h1:=beq_iff_eq.1 h
 exact UInt8.toNat_inj.1 (by show c.toNat = 48; omega)
theorem zIP {c:UInt8}(h:((c.toNat:Int) == 48) = false):c ≠ 48:=by
 rintro rfl
 exact absurd h (by decide)
end Go.Proofs.Ytjleggpbghmobaa.Ln
