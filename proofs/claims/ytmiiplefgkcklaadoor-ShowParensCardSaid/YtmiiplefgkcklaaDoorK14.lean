/-
  The contracts of skipBlanks (lex) and of blank and run (the
-/
import Derived.Test.YtmiiplefgkcklaaDoorK04
import Derived.Test.YtmiiplefgkcklaaDoorShelf
import Derived.Laws.DeepStrings4
import Derived.Test.YtmiiplefgkcklaaDoorRows
import Derived.ProofKit
import Derived.LaidMore
import Derived.OpenShut
import Derived.Stop.Joined
import Derived.Stop.LaidErr
import Derived.Lib.LaidTab
import Derived.Lib.SmallJoins
import Derived.Lib.AtoiErrMem
set_option maxRecDepth 8000
set_option maxHeartbeats 8000000
namespace Go.Proofs.YtmiiplefgkcklaaDoor.Ln
open Go.RowKit
theorem zCH (p:Int → Bool)(s:ByteArray)(k:Nat)(hk:k ≤ s.size):k + Lx.runN p (s.data.toList.drop k) ≤ s.size:=by
 have:=Lx.runN_le p (s.data.toList.drop k)
 rw [List.length_drop,zAW] at this
 omega
def slashes (l:List UInt8):Bool:=[47,47].isPrefixOf l
theorem zBg {l:List UInt8}(h:slashes l = true):∃ r,l = 47 :: 47 :: r:=by
 match l with
 | [] => simp [slashes,List.isPrefixOf] at h
 | [a] => simp [slashes,List.isPrefixOf] at h
 | a :: b :: r => simp [slashes,List.isPrefixOf] at h; exact ⟨r,by rw [← h.1,← h.2]⟩
theorem zDl {l:List UInt8}(h:slashes l = false)(h2:∀ c r,l = c :: r → Lx.spcB (c.toNat:Int) = false):Lx.skipS false l = 0:=by
 match l with
 | [] => rfl
 | c :: r =>
   refine Lx.skip_none c r (h2 c r rfl) fun ⟨hc,hr⟩ => ?_
   match r,hr with
   | d :: r,hr =>
     simp at hr
     rw [hc,hr] at h
     simp [slashes,List.isPrefixOf] at h
theorem zCE {l:List UInt8}(h:slashes l = true):Lx.skipS false l = Lx.skipS true l:=by
 obtain ⟨r,rfl⟩:=zBg h
 exact Lx.skip_slash r
theorem zBB {s:ByteArray}{j m:Nat}(hlt:j < s.size)(hsp:Lx.spcB (s[j].toNat:Int) = true)(h:j + Lx.skipS false (s.data.toList.drop j) = m):j + 1 + Lx.skipS false (s.data.toList.drop (j + 1)) = m:=by
 rw [zAj s j hlt,Lx.skipS,if_pos hsp] at h
 omega
theorem zH4 {s:ByteArray}{j m:Nat}(hlt:j < s.size)(hln:Lx.linB (s[j].toNat:Int) = true)(h:j + Lx.skipS true (s.data.toList.drop j) = m):j + 1 + Lx.skipS true (s.data.toList.drop (j + 1)) = m:=by
 rw [zAj s j hlt] at h
 rw [show Lx.skipS true (s[j] :: s.data.toList.drop (j + 1)) = Lx.skipS (Lx.linB (s[j].toNat:Int)) (s.data.toList.drop (j + 1)) + 1 from rfl,hln] at h
 omega
theorem zEB {s:ByteArray}{j m:Nat}(h:j + Lx.skipS true (s.data.toList.drop j) = m)(hd:j = s.size ∨ ∃ hlt:j < s.size,Lx.linB (s[j].toNat:Int) = false):j + Lx.skipS false (s.data.toList.drop j) = m:=by
 rw [Lx.skip_line] at h
 rcases hd with rfl | ⟨hlt,hl⟩
 ·rw [zBI s _ (Nat.le_refl _)] at h ⊢
  exact h
 ·rw [zEr s _ j hlt,hl] at h
  simpa using h
theorem zG1 {c:Int}(h:Lx.spcB c = false):c ≠ 32 ∧ c ≠ 9 ∧ c ≠ 10 ∧ c ≠ 13:=by
 simpa [Lx.spcB] using h
theorem beqF {a b:Int}(h:a ≠ b):(a == b) = false:=beq_eq_false_iff_ne.2 h
theorem zMk (s:ByteArray)(j:Nat)(h:j + 2 ≤ s.size):((s.extract j (j + 2)).toList == [47,47]) = slashes (s.data.toList.drop j):=by
 rw [Lib.toList_data,Lib.extract_data]
 rw [zAj s j (by omega),zAj s (j + 1) (by omega)]
 rw [Bool.eq_iff_iff]
 simp [slashes,List.isPrefixOf]
 exact ⟨fun ⟨a,b⟩ => ⟨a.symm,b.symm⟩,fun ⟨a,b⟩ => ⟨a.symm,b.symm⟩⟩
theorem zH5 {c:Int}(h:Lx.linB c = false):(c != 10) = false:=by simpa [Lx.linB] using h
theorem zJv {c:Int}(h:Lx.linB c = true):(c != 10) = true:=by simpa [Lx.linB] using h
theorem zLm {c:Int}(h:(c == 10) = false):Lx.linB c = true:=by simpa [Lx.linB] using h
theorem zCk (s:ByteArray)(hs:s.size ≤ maxLen)(a:Int)(k m:Nat)(ha:a = k)(hk:k ≤ s.size)(hm:k + Lx.skipS false (s.data.toList.drop k) = m)(w:World) :
 Calls Tryd.prog 35 #[.string s,.int .i64 a] w fun e w' => e = .returned (.int .i64 m) ∧ w = w':=by
 subst ha
 unfold maxLen at hs
 have HM:=vH hm
 clear hm
 go_in
 go_wp2
 go_loop [1] (fun i => ∃ j:Nat,j ≤ s.size ∧ i = .int .i64 j ∧ j + Lx.skipS false (s.data.toList.drop j) = m) (fun i => s.size - (intOf i).toNat)
 case atStart => exact ⟨k,hk,rfl,HM.out⟩
 case round =>
  obtain ⟨j,hj,rfl,hJ⟩:=hrel
  have HJ:=vH hJ
  clear hJ
  by_cases hlt:j < s.size
  ·cases hsp:Lx.spcB (s[j].toNat:Int)
   ·have HP:=vH hsp
    have hc:=zG1 hsp
    have c1:=beqF hc.1
    have c2:=beqF hc.2.1
    have c3:=beqF hc.2.2.1
    have c4:=beqF hc.2.2.2
    clear hsp hc
    by_cases h2:j + 2 ≤ s.size
    ·have h2':(2:Int) ≤ (s.size:Int) - (j:Int):=by omega
     have h3:(j:Int) + 2 ≤ (s.size:Int):=by omega
     have h4:=zMk s j h2
     cases hsl:slashes (s.data.toList.drop j)
     ·rw [hsl] at h4
      have HNO:=vH hsl
      clear hsl
      go_wp2
      go_ret
      have h:=HJ.out
      rw [zDl HNO.out (fun c r e => by rw [zAj s j hlt] at e; injection e with e _; rw [← e]; exact HP.out)] at h
      exact ⟨zBN (by omega),rfl⟩
     ·rw [hsl] at h4
      have hJ5:=HJ.out
      rw [zCE hsl] at hJ5
      have HJ5:=vH hJ5
      clear hsl hJ5
      go_wp2
      go_loop [1] (fun i => ∃ q:Nat,j ≤ q ∧ q ≤ s.size ∧ i = .int .i64 q ∧ q + Lx.skipS true (s.data.toList.drop q) = m) (fun i => s.size - (intOf i).toNat)
      case atStart => exact ⟨j,Nat.le_refl _,hj,rfl,HJ5.out⟩
      case round =>
       obtain ⟨q,hq1,hq2,rfl,hQ⟩:=hrel
       have HQ:=vH hQ
       clear hQ
       by_cases hqs:q < s.size
       ·cases hln:Lx.linB (s[q].toNat:Int)
        ·have hl:=zH5 hln
         have hne:j < q:=by
          rcases Nat.lt_or_eq_of_le hq1 with h | rfl
          ·exact h
          ·rw [zLm c3] at hln; cases hln
         have HL:=vH hln
         clear hln
         go_wp2
         go_round
         case rel => exact ⟨q,hq2,rfl,zEB HQ.out (Or.inr ⟨hqs,HL.out⟩)⟩
         case measure => simp [intOf]; omega
        ·have hl:=zJv hln
         have HL:=vH hln
         clear hln
         go_wp2
         go_round
         case rel => exact ⟨q + 1,by omega,by omega,by go_num,zH4 hqs HL.out HQ.out⟩
         case measure => simp [intOf]; omega
       ·have he:q = s.size:=by omega
        have HE:=vH he
        clear he
        go_wp2
        go_round
        case rel => exact ⟨q,hq2,rfl,zEB HQ.out (Or.inl HE.out)⟩
        case measure => simp [intOf]; omega
    ·have hno:slashes (s.data.toList.drop j) = false:=by
         cases h:slashes (s.data.toList.drop j)
         ·rfl
         ·obtain ⟨r,hr⟩:=zBg h
          have:=congrArg List.length hr
          rw [List.length_drop,zAW] at this
          simp at this
          omega
     have HNO:=vH hno
     clear hno
     go_wp2
     go_ret
     have h:=HJ.out
     rw [zDl HNO.out (fun c r e => by rw [zAj s j hlt] at e; injection e with e _; rw [← e]; exact HP.out)] at h
     exact ⟨zBN (by omega),rfl⟩
   ·have HP:=vH hsp
    have hor:s[j].toNat = 32 ∨ s[j].toNat = 9 ∨ s[j].toNat = 10 ∨ s[j].toNat = 13:=by
     have:=hsp
     simp [Lx.spcB] at this
     omega
    clear hsp
    rcases hor with h | h | h | h
    ·have c1:((s[j].toNat:Int) == 32) = true:=beq_iff_eq.2 (by omega)
     clear h
     go_wp2
     go_round
     case rel => exact ⟨j + 1,by omega,by go_num,zBB hlt HP.out HJ.out⟩
     case measure => simp [intOf]; omega
    ·have c1:((s[j].toNat:Int) == 32) = false:=beqF (by omega)
     have c2:((s[j].toNat:Int) == 9) = true:=beq_iff_eq.2 (by omega)
     clear h
     go_wp2
     go_round
     case rel => exact ⟨j + 1,by omega,by go_num,zBB hlt HP.out HJ.out⟩
     case measure => simp [intOf]; omega
    ·have c1:((s[j].toNat:Int) == 32) = false:=beqF (by omega)
     have c2:((s[j].toNat:Int) == 9) = false:=beqF (by omega)
     have c3:((s[j].toNat:Int) == 10) = true:=beq_iff_eq.2 (by omega)
     clear h
     go_wp2
     go_round
     case rel => exact ⟨j + 1,by omega,by go_num,zBB hlt HP.out HJ.out⟩
     case measure => simp [intOf]; omega
    ·have c1:((s[j].toNat:Int) == 32) = false:=beqF (by omega)
     have c2:((s[j].toNat:Int) == 9) = false:=beqF (by omega)
     have c3:((s[j].toNat:Int) == 10) = false:=beqF (by omega)
     have c4:((s[j].toNat:Int) == 13) = true:=beq_iff_eq.2 (by omega)
     clear h
     go_wp2
     go_round
     case rel => exact ⟨j + 1,by omega,by go_num,zBB hlt HP.out HJ.out⟩
     case measure => simp [intOf]; omega
  ·go_wp2
   go_ret
   have h:=HJ.out
   rw [zBI s j (by omega)] at h
   exact ⟨zBN (by simp [Lx.skipS] at h; omega),rfl⟩
theorem zIe (s:ByteArray)(h : 0 < s.size):Lx.isName s.data.toList = (decide (s.size ≤ 8) && Lx.letB (s[0].toNat:Int) && decide (Lx.runN Lx.alnB s.data.toList = s.size) && !Lx.isWord s.data.toList):=by
 have hd:=zAj s 0 h
 rw [List.drop_zero] at hd
 have hl:=zAW s
 generalize s[0] = c at hd ⊢
 generalize s.data.toList = l at hd hl ⊢
 obtain ⟨r,rfl⟩:∃ r,l = c :: r:=⟨_,hd⟩
 rw [← hl]
 rfl
theorem zH1 (s:ByteArray)(h : 0 < s.size):s.toList ≠ []:=by
 rw [Lib.toList_data]
 intro h2
 have:=congrArg List.length h2
 rw [zAW] at this
 have h3:s.size = 0:=this
 omega
theorem zMN (s:ByteArray)(h : 0 < s.size):(s.toList == []) = false:=beq_eq_false_iff_ne.2 (zH1 s h)
theorem zJs (s:ByteArray)(h : 0 < s.size):s.toList.isEmpty = false:=by
 cases h2:s.toList.isEmpty
 ·rfl
 ·exact absurd (List.isEmpty_iff.1 h2) (zH1 s h)
theorem zJ3 (s:ByteArray)(h:s.size = 0):s = ⟨#[]⟩:=by
 apply ByteArray.ext
 exact Array.eq_empty_of_size_eq_zero h
theorem zF4 {s:ByteArray}{j m:Nat}(hlt:j < s.size)(ha:Lx.alnB (s[j].toNat:Int) = true)(h:j + Lx.runN Lx.alnB (s.data.toList.drop j) = m):j + 1 + Lx.runN Lx.alnB (s.data.toList.drop (j + 1)) = m:=by
 rw [zEr s _ j hlt,if_pos ha] at h
 omega
theorem zKg {s:ByteArray}{j m:Nat}(hlt:j < s.size)(ha:Lx.alnB (s[j].toNat:Int) = false)(h:j + Lx.runN Lx.alnB (s.data.toList.drop j) = m):m = j:=by
 rw [zEr s _ j hlt,if_neg (by rw [ha]; decide)] at h
 omega
theorem zE3 (s:ByteArray)(hs:s.size ≤ maxLen)(w:World):Calls Tryd.prog 56 #[.string s] w fun e w' => e = .returned (.bool (Lx.isName s.data.toList)) ∧ Below w.heap.size w w':=by
 rcases Nat.eq_zero_or_pos s.size with h0 | h0
 ·have:=zJ3 s h0
  subst this
  clear h0
  go_in
  go_wp2
  go_ret
  exact ⟨rfl,Below.refl _ _⟩
 ·have hN:=zIe s h0
  by_cases h8:s.size ≤ 8
  ·have hi:(0:Int) < (s.size:Int):=by omega
   have h1 : 1 ≤ s.size:=h0
   cases hc:Lx.letB (s[0].toNat:Int)
   ·have hl:=zAb (s[0].toNat:Int)
    rw [hc] at hl hN
    have hN2:Lx.isName s.data.toList = false:=by rw [hN]; simp
    have HL:=vH hl
    rw [hN2]
    clear hl hN hN2 hc
    go_in
    go_wp2_with (go_at_call 53; refine (HL.out _).mono ?_; rintro e w' ⟨rfl,rfl⟩)
    go_ret
    exact ⟨rfl,Below.refl _ _⟩
   ·have hl:=zAb (s[0].toNat:Int)
    rw [hc] at hl hN
    have HL:=vH hl
    have hw:=zCK s
    cases hwd:Lx.isWord s.data.toList
    ·rw [hwd] at hw hN
     have HW:=vH hw
     have hb:=zCH Lx.alnB s 0 (by omega)
     generalize hm : 0 + Lx.runN Lx.alnB (s.data.toList.drop 0) = m at hb
     have hm2:Lx.runN Lx.alnB s.data.toList = m:=by rw [← hm]; simp
     rw [hm2] at hN
     have HM:=vH hm
     have hN2:Lx.isName s.data.toList = decide (m = s.size):=by rw [hN]; simp [h8]
     rw [hN2]
     clear hl hN hN2 hc hm hm2 hw hwd
     go_in
     go_wp2_with (first
         | (go_at_call 53; refine (HL.out _).mono ?_; rintro e w' ⟨rfl,rfl⟩)
         | (go_at_call 55; refine (HW.out _).mono ?_; rintro e w1 ⟨rfl,hb1⟩))
     go_loop [3] (fun i => ∃ j:Nat,j ≤ s.size ∧ i = .int .i64 j ∧ j + Lx.runN Lx.alnB (s.data.toList.drop j) = m) (fun i => s.size - (intOf i).toNat)
     case atStart => exact ⟨0,by omega,rfl,HM.out⟩
     case round =>
         obtain ⟨j,hj,rfl,hJ⟩:=hrel
         have HJ:=vH hJ
         clear hJ
         by_cases hlt:j < s.size
         ·have hl:=zAb (s[j].toNat:Int)
          have hd:=zAG (s[j].toNat:Int)
          cases hcl:Lx.letB (s[j].toNat:Int)
          ·rw [hcl] at hl
           cases hcd:Lx.digB (s[j].toNat:Int)
           ·rw [hcd] at hd
            have HA:Hid (Lx.alnB (s[j].toNat:Int) = false):=by show _ = _; simp [Lx.alnB,hcl,hcd]
            have HL:=vH hl
            have HD:=vH hd
            clear hl hd hcl hcd
            go_wp2_with (first
               | (go_at_call 53; refine (HL.out _).mono ?_; rintro e w' ⟨rfl,rfl⟩)
               | (go_at_call 57; refine (HD.out _).mono ?_; rintro e w' ⟨rfl,rfl⟩))
            go_ret
            refine ⟨zBD ?_,hb1⟩
            have:=zKg hlt HA.out HJ.out
            exact (decide_eq_false (by omega)).symm
           ·rw [hcd] at hd
            have HA:Hid (Lx.alnB (s[j].toNat:Int) = true):=by show _ = _; simp [Lx.alnB,hcd]
            have HL:=vH hl
            have HD:=vH hd
            clear hl hd hcl hcd
            go_wp2_with (first
               | (go_at_call 53; refine (HL.out _).mono ?_; rintro e w' ⟨rfl,rfl⟩)
               | (go_at_call 57; refine (HD.out _).mono ?_; rintro e w' ⟨rfl,rfl⟩))
            go_round
            case rel => exact ⟨j + 1,by omega,by go_num,zF4 hlt HA.out HJ.out⟩
            case measure => simp [intOf]; omega
          ·rw [hcl] at hl
           have HA:Hid (Lx.alnB (s[j].toNat:Int) = true):=by show _ = _; simp [Lx.alnB,hcl]
           have HL:=vH hl
           clear hl hd hcl
           go_wp2_with (go_at_call 53; refine (HL.out _).mono ?_; rintro e w' ⟨rfl,rfl⟩)
           go_round
           case rel => exact ⟨j + 1,by omega,by go_num,zF4 hlt HA.out HJ.out⟩
           case measure => simp [intOf]; omega
         ·go_wp2
          go_ret
          refine ⟨zBD ?_,hb1⟩
          have h:=HJ.out
          rw [zBI s j (by omega),Lx.runN] at h
          exact (decide_eq_true (by omega)).symm
    ·rw [hwd] at hw hN
     have HW:=vH hw
     have hN2:Lx.isName s.data.toList = false:=by rw [hN]; simp
     rw [hN2]
     clear hl hN hN2 hc hw hwd
     go_in
     go_wp2_with (first
         | (go_at_call 53; refine (HL.out _).mono ?_; rintro e w' ⟨rfl,rfl⟩)
         | (go_at_call 55; refine (HW.out _).mono ?_; rintro e w1 ⟨rfl,hb1⟩))
     go_ret
     exact ⟨rfl,hb1⟩
  ·have hN2:Lx.isName s.data.toList = false:=by rw [hN]; simp [h8]
   rw [hN2]
   have h9 : 8 < s.size:=by omega
   have h1 : 1 ≤ s.size:=h0
   clear hN hN2 h8
   go_in
   go_wp2
   go_ret
   exact ⟨rfl,Below.refl _ _⟩
end Go.Proofs.YtmiiplefgkcklaaDoor.Ln
namespace Go.Proofs.YtmiiplefgkcklaaDoor.Ln
namespace Lx
open Go.Lib
theorem runN_all (p:Int → Bool):∀ l:List UInt8,∀ c ∈ l.take (runN p l),p (c.toNat:Int) = true
 | [],c,h => by simp at h
 | d :: l,c,h => by
   cases hd:p (d.toNat:Int)
   ·rw [zDV _ _ _ hd] at h; simp at h
   ·rw [runN_yes _ _ _ hd,List.take_succ_cons,List.mem_cons] at h
    rcases h with rfl | h
    ·exact hd
    ·exact runN_all p l c h
theorem dig_bounds {c:UInt8}(h:digB (c.toNat:Int) = true) : 48 ≤ c.toNat ∧ c.toNat ≤ 57:=by
 simp [digB] at h; omega
end Lx
open Go.RowKit
theorem zEs {v:Int}{b:Bool}{a:Int}{c:Bool}(h:a = v)(h2:c = b):Ending.returned (.tuple #[.int .i64 a,.bool c]) = .returned (.tuple #[.int .i64 v,.bool b]):=by rw [h,h2]
def wholeV (V:Nat):Nat:=if V ≤ 9223372036854775807 then V else 0
def wholeB (V:Nat):Bool:=decide (V ≤ 9223372036854775807)
theorem zDi {V:Nat}(h:V ≤ 9223372036854775807):wholeV V = V:=if_pos h
theorem zEh {V:Nat}(h:¬ V ≤ 9223372036854775807):wholeV V = 0:=if_neg h
theorem zDj {V:Nat}(h:V ≤ 9223372036854775807):wholeB V = true:=decide_eq_true h
theorem zEi {V:Nat}(h:¬ V ≤ 9223372036854775807):wholeB V = false:=decide_eq_false h
theorem zGN (s:ByteArray)(hs:s.size ≤ maxLen)(hd:∀ c ∈ s.data.toList,Lx.digB (c.toNat:Int) = true)(V:Nat)(hV:Lx.valN 0 s.data.toList = V)(w:World) :
 Calls Tryd.prog 58 #[.string s] w fun e w' => e = .returned (.tuple #[.int .i64 (wholeV V),.bool (wholeB V)]) ∧ w = w':=by
 unfold maxLen at hs
 have HD:=vH hd
 have HV:=vH hV
 clear hd hV
 go_in
 go_wp2
 go_loop [4,5] (fun n i => ∃ j n':Nat,j ≤ s.size ∧ i = .int .i64 j ∧ n = .int .i64 n' ∧ n' ≤ 9223372036854775807 ∧ Lx.valN n' (s.data.toList.drop j) = V) (fun _ i => s.size - (intOf i).toNat)
 case atStart => exact ⟨0,0,by omega,rfl,rfl,by omega,HV.out⟩
 case round =>
  obtain ⟨j,n,hj,rfl,rfl,hn,hJ⟩:=hrel
  have HJ:=vH hJ
  clear hJ
  by_cases hlt:j < s.size
  ·have hb:=Lx.dig_bounds (HD.out s[j] (by have h:=zAj s j hlt; exact List.mem_of_mem_drop (by rw [h]; exact List.mem_cons_self)))
   have h1:=hb.1
   have h2:=hb.2
   clear hb
   have hJ:=HJ.out
   rw [zAj s j hlt,Lx.valN_cons] at hJ
   have hg:=Lx.valN_ge (s.data.toList.drop (j + 1)) (10 * n + (s[j].toNat - 48))
   rw [hJ] at hg
   have HJ2:=vH hJ
   clear hJ HJ
   by_cases hov : 9223372036854775807 < 10 * n + (s[j].toNat - 48)
   ·have h3:((9223372036854775807:Int) - ((s[j].toNat:Int) - 48)) / 10 < (n:Int):=by omega
    go_wp2
    go_ret2
    exact ⟨zEs (by rw [zEh (by omega)]; rfl) (zEi (by omega)).symm,rfl⟩
   ·have h3:(n:Int) ≤ ((9223372036854775807:Int) - ((s[j].toNat:Int) - 48)) / 10:=by omega
    go_wp2
    go_round
    case rel => exact ⟨j + 1,10 * n + (s[j].toNat - 48),by omega,by go_num,congrArg (Value.int .i64) (by omega),by omega,HJ2.out⟩
    case measure => simp [intOf]; omega
  ·go_wp2
   go_ret2
   have h:=HJ.out
   rw [zBI s j (by omega),Lx.valN_nil] at h
   exact ⟨zEs (by rw [zDi (by omega),h]) (zDj (by omega)).symm,rfl⟩
theorem zDU {s:ByteArray}{p:Int → Bool}{k q m:Nat}(hlt:k + q < s.size)(ha:p (s[k + q].toNat:Int) = true)(h:q + Lx.runN p (s.data.toList.drop (k + q)) = m):q + 1 + Lx.runN p (s.data.toList.drop (k + (q + 1))) = m:=by
 rw [zEr s _ (k + q) hlt,if_pos ha] at h
 rw [show k + (q + 1) = k + q + 1 from rfl]
 omega
theorem zFE {s:ByteArray}{p:Int → Bool}{k q m:Nat}(hlt:k + q < s.size)(ha:p (s[k + q].toNat:Int) = false)(h:q + Lx.runN p (s.data.toList.drop (k + q)) = m):q = m:=by
 rw [zEr s _ (k + q) hlt,if_neg (by rw [ha]; decide)] at h
 omega
theorem zHd {s:ByteArray}{p:Int → Bool}{k q m:Nat}(hlt:s.size ≤ k + q)(h:q + Lx.runN p (s.data.toList.drop (k + q)) = m):q = m:=by
 rw [zBI s _ hlt,Lx.runN] at h
 omega
theorem zAM (s:ByteArray)(hs:s.size ≤ maxLen)(a:Int)(k m:Nat)(ha:a = k)(hk:k ≤ s.size)(hm:Lx.runN Lx.digB (s.data.toList.drop k) = m)(w:World) :
 Calls Tryd.prog 54 #[.string s,.int .i64 a,.bool true] w fun e w' => e = .returned (.int .i64 m) ∧ w = w':=by
 subst ha
 unfold maxLen at hs
 have HM:=vH hm
 clear hm
 go_in
 go_wp2
 go_loop [7] (fun i => ∃ q:Nat,k + q ≤ s.size ∧ i = .int .i64 q ∧ q + Lx.runN Lx.digB (s.data.toList.drop (k + q)) = m) (fun i => s.size - k - (intOf i).toNat)
 case atStart => exact ⟨0,hk,rfl,by rw [Nat.add_zero,HM.out]; omega⟩
 case round =>
  obtain ⟨q,hq,rfl,hJ⟩:=hrel
  have HJ:=vH hJ
  clear hJ
  by_cases hlt:k + q < s.size
  ·have hlt2:(k:Int) + (q:Int) < (s.size:Int):=by omega
   have hd:=zAG (s[k + q].toNat:Int)
   cases hcd:Lx.digB (s[k + q].toNat:Int)
   ·rw [hcd] at hd
    have HD:=vH hd
    have HC:=vH hcd
    clear hd hcd
    go_wp2_with (go_at_call 57; refine (HD.out _).mono ?_; rintro e w' ⟨rfl,rfl⟩)
    go_ret
    exact ⟨zBN (by rw [zFE hlt HC.out HJ.out]),rfl⟩
   ·rw [hcd] at hd
    have HD:=vH hd
    have HC:=vH hcd
    clear hd hcd
    go_wp2_with (go_at_call 57; refine (HD.out _).mono ?_; rintro e w' ⟨rfl,rfl⟩)
    go_round
    case rel => exact ⟨q + 1,by omega,by go_num,zDU hlt HC.out HJ.out⟩
    case measure => simp [intOf]; omega
  ·have hlt2:(s.size:Int) ≤ (k:Int) + (q:Int):=by omega
   go_wp2
   go_ret
   exact ⟨zBN (by rw [zHd (by omega) HJ.out]),rfl⟩
theorem zBP (s:ByteArray)(hs:s.size ≤ maxLen)(a:Int)(k m:Nat)(ha:a = k)(hk:k ≤ s.size)(hm:Lx.runN Lx.alnB (s.data.toList.drop k) = m)(w:World) :
 Calls Tryd.prog 54 #[.string s,.int .i64 a,.bool false] w fun e w' => e = .returned (.int .i64 m) ∧ w = w':=by
 subst ha
 unfold maxLen at hs
 have HM:=vH hm
 clear hm
 go_in
 go_wp2
 go_loop [7] (fun i => ∃ q:Nat,k + q ≤ s.size ∧ i = .int .i64 q ∧ q + Lx.runN Lx.alnB (s.data.toList.drop (k + q)) = m) (fun i => s.size - k - (intOf i).toNat)
 case atStart => exact ⟨0,hk,rfl,by rw [Nat.add_zero,HM.out]; omega⟩
 case round =>
  obtain ⟨q,hq,rfl,hJ⟩:=hrel
  have HJ:=vH hJ
  clear hJ
  by_cases hlt:k + q < s.size
  ·have hlt2:(k:Int) + (q:Int) < (s.size:Int):=by omega
   have hd:=zAG (s[k + q].toNat:Int)
   have hl:=zAb (s[k + q].toNat:Int)
   cases hcd:Lx.digB (s[k + q].toNat:Int)
   ·rw [hcd] at hd
    cases hcl:Lx.letB (s[k + q].toNat:Int)
    ·rw [hcl] at hl
     have HC:Hid (Lx.alnB (s[k + q].toNat:Int) = false):=by show _ = _; simp [Lx.alnB,hcl,hcd]
     have HD:=vH hd
     have HL:=vH hl
     clear hd hcd hl hcl
     go_wp2_with (first
        | (go_at_call 57; refine (HD.out _).mono ?_; rintro e w' ⟨rfl,rfl⟩)
        | (go_at_call 53; refine (HL.out _).mono ?_; rintro e w' ⟨rfl,rfl⟩))
     go_ret
     exact ⟨zBN (by rw [zFE hlt HC.out HJ.out]),rfl⟩
    ·rw [hcl] at hl
     have HC:Hid (Lx.alnB (s[k + q].toNat:Int) = true):=by show _ = _; simp [Lx.alnB,hcl]
     have HD:=vH hd
     have HL:=vH hl
     clear hd hcd hl hcl
     go_wp2_with (first
        | (go_at_call 57; refine (HD.out _).mono ?_; rintro e w' ⟨rfl,rfl⟩)
        | (go_at_call 53; refine (HL.out _).mono ?_; rintro e w' ⟨rfl,rfl⟩))
     go_round
     case rel => exact ⟨q + 1,by omega,by go_num,zDU hlt HC.out HJ.out⟩
     case measure => simp [intOf]; omega
   ·rw [hcd] at hd
    have HC:Hid (Lx.alnB (s[k + q].toNat:Int) = true):=by show _ = _; simp [Lx.alnB,hcd]
    have HD:=vH hd
    clear hd hcd hl
    go_wp2_with (go_at_call 57; refine (HD.out _).mono ?_; rintro e w' ⟨rfl,rfl⟩)
    go_round
    case rel => exact ⟨q + 1,by omega,by go_num,zDU hlt HC.out HJ.out⟩
    case measure => simp [intOf]; omega
  ·have hlt2:(s.size:Int) ≤ (k:Int) + (q:Int):=by omega
   go_wp2
   go_ret
   exact ⟨zBN (by rw [zHd (by omega) HJ.out]),rfl⟩
open Go.ChangeShapes Go.WideShapes Go.ChangeAt Go.WideMaps Go.WideElems Go.RowKit
def textData {H:Type}(zs:List (List UInt8)):DataW H:=.agg (zs.map fun z => .lit (.string z))
theorem zDh {H:Type}{enc:TypeId × Value → H}{P:Program}{w:World}{base:Nat}{sp:Nat → Bool}{held:Bool}{fuel:Nat}{t e:TypeId}{n:Nat}{cs:List Value}{zs:List (List UInt8)}{p:List MemPlace}
 (ht:P.underlying t = some (.array n e)) (he:P.underlying e = some .string) (hce:P.cellsOf e = 1) (hct:P.cellsOf t = n)
 (h:DataW.trod enc P w base sp held fuel t cs = some (textData zs,p)):cs = zs.map fun z => Value.string (bs z):=by
 cases fuel with
 | zero => simp [DataW.trod] at h
 | succ fuel =>
   simp only [DataW.trod,ht,hce,hct,Nat.mul_one] at h
   split at h
   ·rename_i hl
    obtain ⟨xs,hm,hx⟩:=Option.map_eq_some_iff.1 h
    have hxs:xs.map (·.1) = zs.map fun z => (DataW.lit (.string z):DataW H):=by
        have:=congrArg Prod.fst hx
        simpa [textData] using this
    have hxl:xs.length = n:=by simpa using Lib.mapM_length hm
    have hzl:zs.length = n:=by
        have:=congrArg List.length hxs
        simp at this
        omega
    apply List.ext_getElem?
    intro i
    by_cases hi:i < n
    ·obtain ⟨b,hb,hf⟩:=Lib.mapM_at hm i i (by simp [hi])
     obtain ⟨z,hc,hbz,_⟩:=DataW.trod_string he hf
     have h1:cs[i]? = some (.string z):=by
      have:=congrArg (·[0]?) hc
      simpa [List.getElem?_take,List.getElem?_drop] using this
     have h2:(xs.map (·.1))[i]? = some (DataW.lit (.string z.data.toList):DataW H):=by simp [hb,hbz]
     rw [hxs] at h2
     simp only [List.getElem?_map,Option.map_eq_some_iff,DataW.lit.injEq,Lit.string.injEq] at h2
     obtain ⟨z',hz',hq⟩:=h2
     rw [h1,List.getElem?_map,hz',hq]
     rfl
    ·rw [List.getElem?_eq_none (by omega),List.getElem?_eq_none (by simp; omega)]
   ·cases h
theorem zFi {P:Program}{w:World}{n:String}{g:Nat}{cs:Array Value}(hg:P.globalNamed n = some g)(h:w.var? P n = some cs):∃ t fr,w.heap[g]? = some (.cells cs t fr):=by
 simp only [World.var?,hg,Option.bind_some] at h
 split at h
 ·rename_i cs' t fr he
  injection h with h
  exact ⟨t,fr,by rw [he,h]⟩
 ·cases h
theorem zII {P:Program}{W:World}{name:String}{zs:List (List UInt8)}{rest:List (String × DataW Unit)}{g:Nat}{t e:TypeId}{n:Nat}
 (hg:P.globalNamed name = some g) (hty:(P.globals[g]?).map (·.type) = some t) (ht:P.underlying t = some (.array n e)) (he:P.underlying e = some .string) (hce:P.cellsOf e = 1) (hct:P.cellsOf t = n)
 (h:laidMet P ((name,textData zs) :: rest) W):∃ t' fr,W.heap[g]? = some (.cells (zs.map fun z => Value.string (bs z)).toArray t' fr):=by
 obtain ⟨ps,⟨g',t',cs,fuel,p,q,hg',ht',hvar,hd,_,_⟩,_⟩:=h
 obtain rfl:=Option.some.inj (hg.symm.trans hg')
 obtain rfl:=Option.some.inj (hty.symm.trans ht')
 refine zFi hg ?_
 rw [hvar,← zDh ht he hce hct hd]
theorem zBp {w:World}{b:Nat}{v:Obj}(h:w.heap[b]? = some v):b < w.heap.size:=(Array.getElem?_eq_some_iff.1 h).1
end Go.Proofs.YtmiiplefgkcklaaDoor.Ln
namespace Go.Proofs.YtmiiplefgkcklaaDoor.Ln
namespace Lx
def oneWord (r:List UInt8):Option (Nat × List UInt8 × Nat × Nat):=
 if isWord (r.take (runN alnB r)) then some (3,r.take (runN alnB r),0,runN alnB r)
 else if isName (r.take (runN alnB r)) then some (1,r.take (runN alnB r),0,runN alnB r)
 else none
def oneNum (r:List UInt8):Option (Nat × List UInt8 × Nat × Nat):=
 if numBad r then none else some (2,[],valN 0 (r.take (runN digB r)),runN digB r)
def oneSign (r:List UInt8):Option (Nat × List UInt8 × Nat × Nat):=
 match signAt r with
 | none => none
 | some g => some (4,g,0,g.length)
theorem one_word (c:UInt8)(r:List UInt8)(h:letB (c.toNat:Int) = true):one (c :: r) = oneWord (c :: r):=by
 rw [one,if_pos h,oneWord]
theorem one_num (c:UInt8)(r:List UInt8)(h:letB (c.toNat:Int) = false)(h2:digB (c.toNat:Int) = true):one (c :: r) = oneNum (c :: r):=by
 rw [one,if_neg (by rw [h]; decide),if_pos h2,oneNum]
theorem one_sign (c:UInt8)(r:List UInt8)(h:letB (c.toNat:Int) = false)(h2:digB (c.toNat:Int) = false):one (c :: r) = oneSign (c :: r):=by
 rw [one,if_neg (by rw [h]; decide),if_neg (by rw [h2]; decide),oneSign]
 cases signAt (c :: r) <;> rfl
end Lx
open Go.RowKit
theorem zG3:Lx.signs.length = 23:=by decide
theorem zEU {r:List UInt8}(h:∀ g ∈ Lx.signs,g.isPrefixOf r = false):Lx.signAt r = none:=by
 rw [Lx.signAt,List.find?_eq_none]
 intro g hg
 rw [h g hg]; decide
theorem zDB:∀ (l:List (List UInt8))(p:List UInt8 → Bool)(j:Nat)(g:List UInt8),l[j]? = some g → (∀ x ∈ l.take j,p x = false) → p g = true → l.find? p = some g
 | [],_,_,_,h,_,_ => by simp at h
 | x :: l,p,0,g,h,_,hp => by
   simp at h
   subst h
   simp [hp]
 | x :: l,p,j + 1,g,h,hn,hp => by
   have hx:=hn x (by simp)
   rw [List.find?_cons_of_neg (by rw [hx]; decide)]
   exact zDB l p j g (by simpa using h) (fun y hy => hn y (by simp [hy])) hp
theorem zCj {r g:List UInt8}{j:Nat}(hg:Lx.signs[j]? = some g)(hn:∀ x ∈ Lx.signs.take j,x.isPrefixOf r = false)(hp:g.isPrefixOf r = true):Lx.signAt r = some g:=
 zDB Lx.signs _ j g hg hn hp
open Go.RowKit
theorem zB1 (s:ByteArray)(k m:Nat):(s.extract k (k + m)).data.toList = (s.data.toList.drop k).take m:=by
 rw [Lib.extract_data]
 congr 1
 omega
theorem zNe (s:ByteArray)(k m n:Nat)(h:k + m = n):s.extract k n = bs ((s.data.toList.drop k).take m):=by
 rw [← h,← zNy (s.extract k (k + m)),zB1]
theorem zJ0 (s:ByteArray)(k n:Nat):(s.extract k n).size ≤ s.size:=by
 rw [ByteArray.size_extract]; omega
theorem zEp {s:ByteArray}(h:s.size ≤ 6000):s.size ≤ maxLen:=by unfold maxLen; omega
theorem zIv {s:ByteArray}(k n:Nat)(h:s.size ≤ 6000):(s.extract k n).size ≤ maxLen:=by
 have:=zJ0 s k n
 unfold maxLen; omega
theorem zER {w w1:World}{cs:Array Value}{T:TypeId}(hb:Below (w.alloc (.cells cs T)).heap.size (w.alloc (.cells cs T)) w1):w1.heap[w.heap.size]? = some (.cells cs T (0,0)):=by
 rw [hb.block _ (by simp)]; exact heap_alloc_new w _
theorem box4 {w1:World}{B:Nat}{T:TypeId}{a b c d:Value}(h:w1.heap[B]? = some (.cells #[a,b,c,d] T (0,0))) :
 (w1.cell? ⟨B,0,none⟩ = some a ∧ w1.cell? ⟨B,1,none⟩ = some b ∧ w1.cell? ⟨B,2,none⟩ = some c ∧ w1.cell? ⟨B,3,none⟩ = some d) ∧
 (w1.frozen? ⟨B,0,none⟩ = false ∧ w1.frozen? ⟨B,1,none⟩ = false ∧ w1.frozen? ⟨B,2,none⟩ = false ∧ w1.frozen? ⟨B,3,none⟩ = false):=
 ⟨⟨by rw [cell_of_row _ _ _ _ _ _ h]; rfl,by rw [cell_of_row _ _ _ _ _ _ h]; rfl,by rw [cell_of_row _ _ _ _ _ _ h]; rfl,by rw [cell_of_row _ _ _ _ _ _ h]; rfl⟩,
   frozen_of_row _ _ _ _ _ h,frozen_of_row _ _ _ _ _ h,frozen_of_row _ _ _ _ _ h,frozen_of_row _ _ _ _ _ h⟩
theorem zBy {w w1:World}{o:Obj}(hb:Below (w.alloc o).heap.size (w.alloc o) w1):Below w.heap.size w w1:=
 ((Below.refl _ _).alloc (Nat.le_refl _) o).trans (hb.mono (by simp))
theorem zFb {s:ByteArray}{k:Nat}(hk:k < s.size)(h:Lx.letB (s[k].toNat:Int) = true):Lx.one (s.data.toList.drop k) = Lx.oneWord (s.data.toList.drop k):=by
 rw [zAj s k hk]; exact Lx.one_word _ _ h
theorem zGE {s:ByteArray}{k:Nat}(hk:k < s.size)(h:Lx.letB (s[k].toNat:Int) = false)(h2:Lx.digB (s[k].toNat:Int) = true):Lx.one (s.data.toList.drop k) = Lx.oneNum (s.data.toList.drop k):=by
 rw [zAj s k hk]; exact Lx.one_num _ _ h h2
theorem zFc {s:ByteArray}{k:Nat}(hk:k < s.size)(h:Lx.letB (s[k].toNat:Int) = false)(h2:Lx.digB (s[k].toNat:Int) = false):Lx.one (s.data.toList.drop k) = Lx.oneSign (s.data.toList.drop k):=by
 rw [zAj s k hk]; exact Lx.one_sign _ _ h h2
theorem zLw {s:ByteArray}{k:Nat}(hk:k < s.size):(s.data.toList.drop k).head? = some s[k]:=by rw [zAj s k hk]; rfl
theorem zGG {s:ByteArray}{n:Nat}(hn:n < s.size):Lx.nextLet (s.data.toList.drop n) = Lx.letB (s[n].toNat:Int):=by rw [zAj s n hn]; rfl
theorem zFe {s:ByteArray}{n:Nat}(hn:s.size ≤ n):Lx.nextLet (s.data.toList.drop n) = false:=by rw [zBI s n hn]; rfl
theorem zHZ {s:ByteArray}{k m n V:Nat}(hk:k < s.size)(hm:Lx.runN Lx.digB (s.data.toList.drop k) = m)(hn:k + m = n)(hV:Lx.valN 0 ((s.data.toList.drop k).take m) = V) :
 Lx.numBad (s.data.toList.drop k) = (decide (s[k] = 48 ∧ 1 < m) || decide (9223372036854775807 < V) || Lx.nextLet (s.data.toList.drop n)):=by
 rw [Lx.numBad,hm,hV,List.drop_drop,hn,zLw hk]
 simp
theorem zNx {c:UInt8}(h:((c.toNat:Int) == 48) = true):c = 48:=by
 have h1:=beq_iff_eq.1 h
 exact UInt8.toNat_inj.1 (by show c.toNat = 48; omega)
theorem zLO {c:UInt8}(h:((c.toNat:Int) == 48) = false):c ≠ 48:=by
 rintro rfl
 exact absurd h (by decide)
def tokCells (t:Lx.Tk):List Value:=[.int .i64 t.kind,.string (bs t.text),.int .i64 t.num,.int .i64 t.at_]
def cellsOf (ts:List Lx.Tk):List Value:=ts.flatMap tokCells
theorem zCt (ts:List Lx.Tk)(t:Lx.Tk):cellsOf (ts ++ [t]) = cellsOf ts ++ tokCells t:=by simp [cellsOf]
def Lies (w:World)(B:Nat)(A:Option Addr)(xs:List Value):Prop:=
 xs ≠ [] → ∃ g,A = some ⟨g,0,none⟩ ∧ g < B ∧ ∀ j u,xs[j]? = some u → w.cell? ⟨g,j,none⟩ = some u
theorem Lies.below {w w':World}{B:Nat}{A:Option Addr}{xs:List Value}(h:Lies w B A xs)(hb:Below B w w'):Lies w' B A xs:=by
 intro hx
 obtain ⟨g,ha,hg,hc⟩:=h hx
 exact ⟨g,ha,hg,fun j u hu => by rw [hb.cell (p:=⟨g,j,none⟩) hg]; exact hc j u hu⟩
theorem Lies.mono {w:World}{B B':Nat}{A:Option Addr}{xs:List Value}(h:Lies w B A xs)(hB:B ≤ B'):Lies w B' A xs:=by
 intro hx
 obtain ⟨g,ha,hg,hc⟩:=h hx
 exact ⟨g,ha,by omega,hc⟩
theorem Lies.nil {w:World}{B:Nat}{A:Option Addr}:Lies w B A []:=fun h => absurd rfl h
theorem zCT {w:World}{base n sz:Nat}{T:TypeId}{v:Value}{xs:List Value}(h:w.ownsRow base T sz v n xs):∃ A c,v = .slice A n c ∧ Lies w w.heap.size A xs:=by
 rcases h.2 with ⟨rfl,rfl⟩ | ⟨g,cap,cur,rfl,_,hg,_⟩
 ·have:xs = []:=List.eq_nil_of_length_eq_zero (by have:=h.1; omega)
  exact ⟨none,0,rfl,by rw [this]; exact Lies.nil⟩
 ·refine ⟨_,_,rfl,fun _ => ⟨g,rfl,zBp hg,fun j u hu => ?_⟩⟩
  have:=h.cells (g:=g) rfl j u hu
  have hadd:(⟨g,0,none⟩:Addr).add j = ⟨g,j,none⟩:=by unfold Addr.add; split <;> simp_all
  rw [← hadd]; exact this
def TokRes (l:List UInt8)(w:World)(e:Ending)(w':World):Prop:=
 ∃ (A:Option Addr) (c:Nat),e = .returned (.tuple #[.slice A (Lx.toks l).1.length c,.agg #[.int .i64 (Lx.toks l).2.1,.int .i64 (Lx.toks l).2.2]]) ∧ Lies w' w'.heap.size A (cellsOf (Lx.toks l).1) ∧ Below w.heap.size w w'
theorem zGV {l:List UInt8}(h : 6000 < l.length):Lx.toks l = ([],4,0):=by rw [Lx.toks,if_pos h]
theorem zF8 {l:List UInt8}{k:Nat}(h:l.length ≤ 6000)(h2:Lx.lexAll l = .error k):Lx.toks l = ([],1,k):=by rw [Lx.toks,if_neg (by omega),h2]
theorem toks_ok {l:List UInt8}{ts:List Lx.Tk}(h:l.length ≤ 6000)(h2:Lx.lexAll l = .ok ts):Lx.toks l = (ts ++ [⟨0,[],0,l.length⟩],0,0):=by rw [Lx.toks,if_neg (by omega),h2]
theorem zLu:(Tryd.prog.info? 60).map (fun i => (i.zero,i.size,i.bytes)) = some (some (.agg #[.int .i64 0,.string ⟨#[]⟩,.int .i64 0,.int .i64 0]),4,40):=by kernel_rfl
theorem zIX {l:List UInt8}(h : 6000 < l.length){w w':World}(hb:Below w.heap.size w w'):TokRes l w (.returned (.tuple #[.slice none 0 0,.agg #[.int .i64 4,.int .i64 0]])) w':=by
 unfold TokRes
 rw [zGV h]
 exact ⟨none,0,rfl,Lies.nil,hb⟩
theorem zHj {l:List UInt8}{k:Nat}(h:l.length ≤ 6000)(h2:Lx.lexAll l = .error k){w w':World}(hb:Below w.heap.size w w'):TokRes l w (.returned (.tuple #[.slice none 0 0,.agg #[.int .i64 1,.int .i64 k]])) w':=by
 unfold TokRes
 rw [zF8 h h2]
 exact ⟨none,0,rfl,Lies.nil,hb⟩
theorem zMz {l:List UInt8}{ts:List Lx.Tk}(h:l.length ≤ 6000)(h2:Lx.lexAll l = .ok ts){w w':World}(hb:Below w.heap.size w w'){A:Option Addr}{n c:Nat}(hn:n = ts.length + 1)(hl:Lies w' w'.heap.size A (cellsOf ts ++ tokCells ⟨0,[],0,l.length⟩)) :
 TokRes l w (.returned (.tuple #[.slice A n c,.agg #[.int .i64 0,.int .i64 0]])) w':=by
 unfold TokRes
 rw [toks_ok h h2]
 refine ⟨A,c,?_,?_,hb⟩
 ·rw [hn]; simp
 ·rw [zCt]; exact hl
structure TokLoop (l:List UInt8) (w:World) (ts:List Lx.Tk) (k:Nat) (v:Value) (wr:World):Prop where
 come:Lx.Come l ts k
 few:ts.length ≤ k
 own:wr.ownsRow (w.heap.size + 1) 60 4 v ts.length (cellsOf ts)
 blk:wr.heap[w.heap.size]? = some (.cells vF 29 (0,0))
 bel:Below w.heap.size w wr
theorem TokLoop.start {l:List UInt8}{w:World}{k:Nat}(hk:Lx.skipS false l = k):TokLoop l w [] k (.slice none 0 0) (w.alloc (.cells vF 29)):=
 ⟨by rw [← hk]; exact Lx.come_start l,Nat.zero_le _,World.ownsRow_nil _ _ _ _,heap_alloc_new _ _,(Below.refl _ _).alloc (Nat.le_refl _) _⟩
theorem box2 {w1:World}{B:Nat}{T:TypeId}{a b:Value}(h:w1.heap[B]? = some (.cells #[a,b] T (0,0))) :
 (w1.cell? ⟨B,0,none⟩ = some a ∧ w1.cell? ⟨B,1,none⟩ = some b) ∧ (w1.frozen? ⟨B,0,none⟩ = false ∧ w1.frozen? ⟨B,1,none⟩ = false) ∧ B < w1.heap.size:=
 ⟨⟨by rw [cell_of_row _ _ _ _ _ _ h]; rfl,by rw [cell_of_row _ _ _ _ _ _ h]; rfl⟩,⟨frozen_of_row _ _ _ _ _ h,frozen_of_row _ _ _ _ _ h⟩,zBp h⟩
theorem zCC {w wr w1:World}(h1:Below w.heap.size w wr)(h2:Below wr.heap.size wr w1):Below w.heap.size w w1:=h1.trans (h2.mono h1.size)
theorem zFk {w w1:World}(hb:Below w.heap.size w w1):w.grownBy w1 none:=⟨hb.os,hb.tape,hb.output,hb.size,fun i hi _ => hb.block i hi⟩
theorem zHO {w w1:World}{base n sz:Nat}{T:TypeId}{v:Value}{xs:List Value}(h:w.ownsRow base T sz v n xs)(hb:Below w.heap.size w w1):w1.ownsRow base T sz v n xs:=
 h.kept (zFk hb) (by cases v.ownBlock <;> simp)
theorem TokLoop.next {l:List UInt8}{w wr w1 w2:World}{ts:List Lx.Tk}{k kind num m p q:Nat}{text:List UInt8}{v v':Value}{o1 o2:Obj}(h:TokLoop l w ts k v wr)(hk:k < l.length)(hone:Lx.one (l.drop k) = some (kind,text,num,m))(hp:k + m = p)
 (hq:p + Lx.skipS false (l.drop p) = q) (hb:Below wr.heap.size wr w1) (hg:((w1.alloc o1).alloc o2).grownBy w2 v.ownBlock) (hown:w2.ownsRow (w.heap.size + 1) 60 4 v' (ts.length + 1) (cellsOf ts ++ tokCells ⟨kind,text,num,k⟩)) :
 TokLoop l w (ts ++ [⟨kind,text,num,k⟩]) q v' w2:=by
 have hm:=Lx.one_len hone
 have hlt:=zBp h.blk
 have hbs:=hb.size
 refine ⟨?_,?_,?_,?_,?_⟩
 ·rw [← hq,← hp]; exact Lx.come_next h.come hk hone
 ·have:=h.few
  rw [List.length_append,List.length_singleton]; omega
 ·rw [zCt,List.length_append,List.length_singleton]; exact hown
 ·rw [hg.block w.heap.size (by simp; omega) (fun e => by have:=(h.own.lt _ e.symm).1; omega)]
  rw [heap_alloc_old _ _ (by simp; omega),heap_alloc_old _ _ (by omega),hb.block _ hlt]
  exact h.blk
 ·refine (((zCC h.bel hb).alloc (by omega) o1).alloc (by simp; omega) o2).grown hg (by simp; omega) (fun j hj => ?_)
  have:=(h.own.lt _ hj).1
  omega
theorem zMM (W:World)(a b c d:Value)(T:TypeId)(B:Nat)(hB:B = W.heap.size):∀ j u,[a,b,c,d][j]? = some u → (W.alloc (.cells #[a,b,c,d] T)).cell? ((⟨B,0,none⟩:Addr).add j) = some u:=by
 intro j u hu
 subst hB
 have hadd:(⟨W.heap.size,0,none⟩:Addr).add j = ⟨W.heap.size,j,none⟩:=by unfold Addr.add; split <;> simp_all
 rw [hadd,cell_of_row _ _ j _ _ _ (heap_alloc_new W _)]
 simpa using hu
theorem zGW (t:Lx.Tk):∀ u ∈ tokCells t,u.oneCell' = true:=by
 intro u hu
 simp [tokCells] at hu
 rcases hu with rfl | rfl | rfl | rfl <;> rfl
theorem zHM {w:World}{base n sz:Nat}{T:TypeId}{v:Value}{xs:List Value}(h:w.ownsRow base T sz v n xs){p:Addr}(hp:p.block < base)(u:Value):(w.setCell p u).ownsRow base T sz v n xs:=by
 refine h.kept (row:=some p.block) ⟨rfl,rfl,rfl,by simp [World.setCell],fun i _ hne => Below.heap_setCell w p u i (fun e => hne (by rw [e]))⟩ ?_
 cases hv:v.ownBlock with
 | none => exact Or.inl rfl
 | some g => exact Or.inr (fun e => by have:=(h.lt g hv).1; injection e; omega)
theorem zH6 {w:World}{B n c sz:Nat}{T:TypeId}{A:Option Addr}{xs:List Value}(h:w.ownsRow (B + 1) T sz (.slice A n c) n xs)(x y:Value) :
 Lies ((w.setCell ⟨B,0,none⟩ x).setCell ⟨B,1,none⟩ y) ((w.setCell ⟨B,0,none⟩ x).setCell ⟨B,1,none⟩ y).heap.size A xs:=by
 have h2:=zHM (zHM h (p:=⟨B,0,none⟩) (by simp) x) (p:=⟨B,1,none⟩) (by simp) y
 obtain ⟨A',c',he,hl⟩:=zCT h2
 injection he with he _ _
 rw [he]; exact hl
theorem TokLoop.blk_last {l:List UInt8}{w wr w2:World}{ts:List Lx.Tk}{k:Nat}{v:Value}{o1:Obj}(h:TokLoop l w ts k v wr)(hg:(wr.alloc o1).grownBy w2 v.ownBlock):w2.heap[w.heap.size]? = some (.cells vF 29 (0,0)):=by
 have hlt:=zBp h.blk
 rw [hg.block w.heap.size (by simp; omega) (fun e => by have:=(h.own.lt _ e.symm).1; omega),heap_alloc_old _ _ (by omega)]
 exact h.blk
theorem TokLoop.bel_last {l:List UInt8}{w wr w2:World}{ts:List Lx.Tk}{k:Nat}{v:Value}{o1:Obj}(h:TokLoop l w ts k v wr)(hg:(wr.alloc o1).grownBy w2 v.ownBlock):Below w.heap.size w w2:=by
 have hlt:=zBp h.blk
 refine (h.bel.alloc (by omega) o1).grown hg (by simp; omega) (fun j hj => ?_)
 have:=(h.own.lt _ hj).1
 omega
end Go.Proofs.YtmiiplefgkcklaaDoor.Ln
