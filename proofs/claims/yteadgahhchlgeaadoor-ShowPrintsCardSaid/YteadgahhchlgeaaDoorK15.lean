/-
  The contracts of skipBlanks (lex) and of blank and run (the
-/
import Derived.Test.YteadgahhchlgeaaDoorK02
import Derived.Test.YteadgahhchlgeaaDoorShelf
import Derived.Laws.DeepStrings4
set_option maxRecDepth 8000
set_option maxHeartbeats 8000000
namespace Go.Proofs.YteadgahhchlgeaaDoor.Ln
open Go.RowKit
theorem zDs (p:Int → Bool)(s:ByteArray)(k:Nat)(hk:k ≤ s.size):k + Lx.runN p (s.data.toList.drop k) ≤ s.size:=by
 have:=Lx.runN_le p (s.data.toList.drop k)
 rw [List.length_drop,zBm] at this
 omega
def slashes (l:List UInt8):Bool:=[47,47].isPrefixOf l
theorem zBJ {l:List UInt8}(h:slashes l = true):∃ r,l = 47 :: 47 :: r:=by
 match l with
 | [] => simp [slashes,List.isPrefixOf] at h
 | [a] => simp [slashes,List.isPrefixOf] at h
 | a :: b :: r => simp [slashes,List.isPrefixOf] at h; exact ⟨r,by rw [← h.1,← h.2]⟩
theorem zEd {l:List UInt8}(h:slashes l = false)(h2:∀ c r,l = c :: r → Lx.spcB (c.toNat:Int) = false):Lx.skipS false l = 0:=by
 match l with
 | [] => rfl
 | c :: r =>
   refine Lx.skip_none c r (h2 c r rfl) fun ⟨hc,hr⟩ => ?_
   match r,hr with
   | d :: r,hr =>
     simp at hr
     rw [hc,hr] at h
     simp [slashes,List.isPrefixOf] at h
theorem zDq {l:List UInt8}(h:slashes l = true):Lx.skipS false l = Lx.skipS true l:=by
 obtain ⟨r,rfl⟩:=zBJ h
 exact Lx.skip_slash r
theorem zCc {s:ByteArray}{j m:Nat}(hlt:j < s.size)(hsp:Lx.spcB (s[j].toNat:Int) = true)(h:j + Lx.skipS false (s.data.toList.drop j) = m):j + 1 + Lx.skipS false (s.data.toList.drop (j + 1)) = m:=by
 rw [zAy s j hlt,Lx.skipS,if_pos hsp] at h
 omega
theorem zKh {s:ByteArray}{j m:Nat}(hlt:j < s.size)(hln:Lx.linB (s[j].toNat:Int) = true)(h:j + Lx.skipS true (s.data.toList.drop j) = m):j + 1 + Lx.skipS true (s.data.toList.drop (j + 1)) = m:=by
 rw [zAy s j hlt] at h
 rw [show Lx.skipS true (s[j] :: s.data.toList.drop (j + 1)) = Lx.skipS (Lx.linB (s[j].toNat:Int)) (s.data.toList.drop (j + 1)) + 1 from rfl,hln] at h
 omega
theorem zFW {s:ByteArray}{j m:Nat}(h:j + Lx.skipS true (s.data.toList.drop j) = m)(hd:j = s.size ∨ ∃ hlt:j < s.size,Lx.linB (s[j].toNat:Int) = false):j + Lx.skipS false (s.data.toList.drop j) = m:=by
 rw [Lx.skip_line] at h
 rcases hd with rfl | ⟨hlt,hl⟩
 ·rw [zCl s _ (Nat.le_refl _)] at h ⊢
  exact h
 ·rw [zFJ s _ j hlt,hl] at h
  simpa using h
theorem zJa {c:Int}(h:Lx.spcB c = false):c ≠ 32 ∧ c ≠ 9 ∧ c ≠ 10 ∧ c ≠ 13:=by
 simpa [Lx.spcB] using h
theorem beqF {a b:Int}(h:a ≠ b):(a == b) = false:=beq_eq_false_iff_ne.2 h
theorem zPz (s:ByteArray)(j:Nat)(h:j + 2 ≤ s.size):((s.extract j (j + 2)).toList == [47,47]) = slashes (s.data.toList.drop j):=by
 rw [Lib.toList_data,Lib.extract_data]
 rw [zAy s j (by omega),zAy s (j + 1) (by omega)]
 rw [Bool.eq_iff_iff]
 simp [slashes,List.isPrefixOf]
 exact ⟨fun ⟨a,b⟩ => ⟨a.symm,b.symm⟩,fun ⟨a,b⟩ => ⟨a.symm,b.symm⟩⟩
theorem zKi {c:Int}(h:Lx.linB c = false):(c != 10) = false:=by simpa [Lx.linB] using h
theorem zLU {c:Int}(h:Lx.linB c = true):(c != 10) = true:=by simpa [Lx.linB] using h
theorem zOc {c:Int}(h:(c == 10) = false):Lx.linB c = true:=by simpa [Lx.linB] using h
theorem zC5 (s:ByteArray)(hs:s.size ≤ maxLen)(a:Int)(k m:Nat)(ha:a = k)(hk:k ≤ s.size)(hm:k + Lx.skipS false (s.data.toList.drop k) = m)(w:World) :
 Calls Tryd.prog 30 #[.string s,.int .i64 a] w fun e w' => e = .returned (.int .i64 m) ∧ w = w':=by
 subst ha
 unfold maxLen at hs
 have HM:=vH hm
 clear hm
 go_in
 go_wp2
 go_loop [1] (fun i => ∃ j:Nat,j ≤ s.size ∧ i = .int .i64 j ∧ j + Lx.skipS false (s.data.toList.drop j) = m) (fun i => s.size - (intOf i).toNat)
 case atStart => exact ⟨k,hk,rfl,HM.out⟩
 case round =>
  obtain ⟨j,hj,rfl,hJ⟩:=hrel
  have HJ:=vH hJ
  clear hJ
  by_cases hlt:j < s.size
  ·cases hsp:Lx.spcB (s[j].toNat:Int)
   ·have HP:=vH hsp
    have hc:=zJa hsp
    have c1:=beqF hc.1
    have c2:=beqF hc.2.1
    have c3:=beqF hc.2.2.1
    have c4:=beqF hc.2.2.2
    clear hsp hc
    by_cases h2:j + 2 ≤ s.size
    ·have h2':(2:Int) ≤ (s.size:Int) - (j:Int):=by omega
     have h3:(j:Int) + 2 ≤ (s.size:Int):=by omega
     have h4:=zPz s j h2
     cases hsl:slashes (s.data.toList.drop j)
     ·rw [hsl] at h4
      have HNO:=vH hsl
      clear hsl
      go_wp2
      go_ret
      have h:=HJ.out
      rw [zEd HNO.out (fun c r e => by rw [zAy s j hlt] at e; injection e with e _; rw [← e]; exact HP.out)] at h
      exact ⟨zCs (by omega),rfl⟩
     ·rw [hsl] at h4
      have hJ5:=HJ.out
      rw [zDq hsl] at hJ5
      have HJ5:=vH hJ5
      clear hsl hJ5
      go_wp2
      go_loop [1] (fun i => ∃ q:Nat,j ≤ q ∧ q ≤ s.size ∧ i = .int .i64 q ∧ q + Lx.skipS true (s.data.toList.drop q) = m) (fun i => s.size - (intOf i).toNat)
      case atStart => exact ⟨j,Nat.le_refl _,hj,rfl,HJ5.out⟩
      case round =>
       obtain ⟨q,hq1,hq2,rfl,hQ⟩:=hrel
       have HQ:=vH hQ
       clear hQ
       by_cases hqs:q < s.size
       ·cases hln:Lx.linB (s[q].toNat:Int)
        ·have hl:=zKi hln
         have hne:j < q:=by
          rcases Nat.lt_or_eq_of_le hq1 with h | rfl
          ·exact h
          ·rw [zOc c3] at hln; cases hln
         have HL:=vH hln
         clear hln
         go_wp2
         go_round
         case rel => exact ⟨q,hq2,rfl,zFW HQ.out (Or.inr ⟨hqs,HL.out⟩)⟩
         case measure => simp [intOf]; omega
        ·have hl:=zLU hln
         have HL:=vH hln
         clear hln
         go_wp2
         go_round
         case rel => exact ⟨q + 1,by omega,by omega,by go_num,zKh hqs HL.out HQ.out⟩
         case measure => simp [intOf]; omega
       ·have he:q = s.size:=by omega
        have HE:=vH he
        clear he
        go_wp2
        go_round
        case rel => exact ⟨q,hq2,rfl,zFW HQ.out (Or.inl HE.out)⟩
        case measure => simp [intOf]; omega
    ·have hno:slashes (s.data.toList.drop j) = false:=by
         cases h:slashes (s.data.toList.drop j)
         ·rfl
         ·obtain ⟨r,hr⟩:=zBJ h
          have:=congrArg List.length hr
          rw [List.length_drop,zBm] at this
          simp at this
          omega
     have HNO:=vH hno
     clear hno
     go_wp2
     go_ret
     have h:=HJ.out
     rw [zEd HNO.out (fun c r e => by rw [zAy s j hlt] at e; injection e with e _; rw [← e]; exact HP.out)] at h
     exact ⟨zCs (by omega),rfl⟩
   ·have HP:=vH hsp
    have hor:s[j].toNat = 32 ∨ s[j].toNat = 9 ∨ s[j].toNat = 10 ∨ s[j].toNat = 13:=by
     have:=hsp
     simp [Lx.spcB] at this
     omega
    clear hsp
    rcases hor with h | h | h | h
    ·have c1:((s[j].toNat:Int) == 32) = true:=beq_iff_eq.2 (by omega)
     clear h
     go_wp2
     go_round
     case rel => exact ⟨j + 1,by omega,by go_num,zCc hlt HP.out HJ.out⟩
     case measure => simp [intOf]; omega
    ·have c1:((s[j].toNat:Int) == 32) = false:=beqF (by omega)
     have c2:((s[j].toNat:Int) == 9) = true:=beq_iff_eq.2 (by omega)
     clear h
     go_wp2
     go_round
     case rel => exact ⟨j + 1,by omega,by go_num,zCc hlt HP.out HJ.out⟩
     case measure => simp [intOf]; omega
    ·have c1:((s[j].toNat:Int) == 32) = false:=beqF (by omega)
     have c2:((s[j].toNat:Int) == 9) = false:=beqF (by omega)
     have c3:((s[j].toNat:Int) == 10) = true:=beq_iff_eq.2 (by omega)
     clear h
     go_wp2
     go_round
     case rel => exact ⟨j + 1,by omega,by go_num,zCc hlt HP.out HJ.out⟩
     case measure => simp [intOf]; omega
    ·have c1:((s[j].toNat:Int) == 32) = false:=beqF (by omega)
     have c2:((s[j].toNat:Int) == 9) = false:=beqF (by omega)
     have c3:((s[j].toNat:Int) == 10) = false:=beqF (by omega)
     have c4:((s[j].toNat:Int) == 13) = true:=beq_iff_eq.2 (by omega)
     clear h
     go_wp2
     go_round
     case rel => exact ⟨j + 1,by omega,by go_num,zCc hlt HP.out HJ.out⟩
     case measure => simp [intOf]; omega
  ·go_wp2
   go_ret
   have h:=HJ.out
   rw [zCl s j (by omega)] at h
   exact ⟨zCs (by simp [Lx.skipS] at h; omega),rfl⟩
theorem zKr (s:ByteArray)(h : 0 < s.size):Lx.isName s.data.toList = (decide (s.size ≤ 8) && Lx.letB (s[0].toNat:Int) && decide (Lx.runN Lx.alnB s.data.toList = s.size) && !Lx.isWord s.data.toList):=by
 have hd:=zAy s 0 h
 rw [List.drop_zero] at hd
 have hl:=zBm s
 generalize s[0] = c at hd ⊢
 generalize s.data.toList = l at hd hl ⊢
 obtain ⟨r,rfl⟩:∃ r,l = c :: r:=⟨_,hd⟩
 rw [← hl]
 rfl
theorem zKf (s:ByteArray)(h : 0 < s.size):s.toList ≠ []:=by
 rw [Lib.toList_data]
 intro h2
 have:=congrArg List.length h2
 rw [zBm] at this
 have h3:s.size = 0:=this
 omega
theorem zQk (s:ByteArray)(h : 0 < s.size):(s.toList == []) = false:=beq_eq_false_iff_ne.2 (zKf s h)
theorem zLQ (s:ByteArray)(h : 0 < s.size):s.toList.isEmpty = false:=by
 cases h2:s.toList.isEmpty
 ·rfl
 ·exact absurd (List.isEmpty_iff.1 h2) (zKf s h)
theorem zMw (s:ByteArray)(h:s.size = 0):s = ⟨#[]⟩:=by
 apply ByteArray.ext
 exact Array.eq_empty_of_size_eq_zero h
theorem zHQ {s:ByteArray}{j m:Nat}(hlt:j < s.size)(ha:Lx.alnB (s[j].toNat:Int) = true)(h:j + Lx.runN Lx.alnB (s.data.toList.drop j) = m):j + 1 + Lx.runN Lx.alnB (s.data.toList.drop (j + 1)) = m:=by
 rw [zFJ s _ j hlt,if_pos ha] at h
 omega
theorem zMO {s:ByteArray}{j m:Nat}(hlt:j < s.size)(ha:Lx.alnB (s[j].toNat:Int) = false)(h:j + Lx.runN Lx.alnB (s.data.toList.drop j) = m):m = j:=by
 rw [zFJ s _ j hlt,if_neg (by rw [ha]; decide)] at h
 omega
theorem zGt (s:ByteArray)(hs:s.size ≤ maxLen)(w:World):Calls Tryd.prog 50 #[.string s] w fun e w' => e = .returned (.bool (Lx.isName s.data.toList)) ∧ Below w.heap.size w w':=by
 rcases Nat.eq_zero_or_pos s.size with h0 | h0
 ·have:=zMw s h0
  subst this
  clear h0
  go_in
  go_wp2
  go_ret
  exact ⟨rfl,Below.refl _ _⟩
 ·have hN:=zKr s h0
  by_cases h8:s.size ≤ 8
  ·have hi:(0:Int) < (s.size:Int):=by omega
   have h1 : 1 ≤ s.size:=h0
   cases hc:Lx.letB (s[0].toNat:Int)
   ·have hl:=zAm (s[0].toNat:Int)
    rw [hc] at hl hN
    have hN2:Lx.isName s.data.toList = false:=by rw [hN]; simp
    have HL:=vH hl
    rw [hN2]
    clear hl hN hN2 hc
    go_in
    go_wp2_with (go_at_call 47; refine (HL.out _).mono ?_; rintro e w' ⟨rfl,rfl⟩)
    go_ret
    exact ⟨rfl,Below.refl _ _⟩
   ·have hl:=zAm (s[0].toNat:Int)
    rw [hc] at hl hN
    have HL:=vH hl
    have hw:=zDw s
    cases hwd:Lx.isWord s.data.toList
    ·rw [hwd] at hw hN
     have HW:=vH hw
     have hb:=zDs Lx.alnB s 0 (by omega)
     generalize hm : 0 + Lx.runN Lx.alnB (s.data.toList.drop 0) = m at hb
     have hm2:Lx.runN Lx.alnB s.data.toList = m:=by rw [← hm]; simp
     rw [hm2] at hN
     have HM:=vH hm
     have hN2:Lx.isName s.data.toList = decide (m = s.size):=by rw [hN]; simp [h8]
     rw [hN2]
     clear hl hN hN2 hc hm hm2 hw hwd
     go_in
     go_wp2_with (first
         | (go_at_call 47; refine (HL.out _).mono ?_; rintro e w' ⟨rfl,rfl⟩)
         | (go_at_call 49; refine (HW.out _).mono ?_; rintro e w1 ⟨rfl,hb1⟩))
     go_loop [3] (fun i => ∃ j:Nat,j ≤ s.size ∧ i = .int .i64 j ∧ j + Lx.runN Lx.alnB (s.data.toList.drop j) = m) (fun i => s.size - (intOf i).toNat)
     case atStart => exact ⟨0,by omega,rfl,HM.out⟩
     case round =>
         obtain ⟨j,hj,rfl,hJ⟩:=hrel
         have HJ:=vH hJ
         clear hJ
         by_cases hlt:j < s.size
         ·have hl:=zAm (s[j].toNat:Int)
          have hd:=zA3 (s[j].toNat:Int)
          cases hcl:Lx.letB (s[j].toNat:Int)
          ·rw [hcl] at hl
           cases hcd:Lx.digB (s[j].toNat:Int)
           ·rw [hcd] at hd
            have HA:Hid (Lx.alnB (s[j].toNat:Int) = false):=by show _ = _; simp [Lx.alnB,hcl,hcd]
            have HL:=vH hl
            have HD:=vH hd
            clear hl hd hcl hcd
            go_wp2_with (first
               | (go_at_call 47; refine (HL.out _).mono ?_; rintro e w' ⟨rfl,rfl⟩)
               | (go_at_call 51; refine (HD.out _).mono ?_; rintro e w' ⟨rfl,rfl⟩))
            go_ret
            refine ⟨zCe ?_,hb1⟩
            have:=zMO hlt HA.out HJ.out
            exact (decide_eq_false (by omega)).symm
           ·rw [hcd] at hd
            have HA:Hid (Lx.alnB (s[j].toNat:Int) = true):=by show _ = _; simp [Lx.alnB,hcd]
            have HL:=vH hl
            have HD:=vH hd
            clear hl hd hcl hcd
            go_wp2_with (first
               | (go_at_call 47; refine (HL.out _).mono ?_; rintro e w' ⟨rfl,rfl⟩)
               | (go_at_call 51; refine (HD.out _).mono ?_; rintro e w' ⟨rfl,rfl⟩))
            go_round
            case rel => exact ⟨j + 1,by omega,by go_num,zHQ hlt HA.out HJ.out⟩
            case measure => simp [intOf]; omega
          ·rw [hcl] at hl
           have HA:Hid (Lx.alnB (s[j].toNat:Int) = true):=by show _ = _; simp [Lx.alnB,hcl]
           have HL:=vH hl
           clear hl hd hcl
           go_wp2_with (go_at_call 47; refine (HL.out _).mono ?_; rintro e w' ⟨rfl,rfl⟩)
           go_round
           case rel => exact ⟨j + 1,by omega,by go_num,zHQ hlt HA.out HJ.out⟩
           case measure => simp [intOf]; omega
         ·go_wp2
          go_ret
          refine ⟨zCe ?_,hb1⟩
          have h:=HJ.out
          rw [zCl s j (by omega),Lx.runN] at h
          exact (decide_eq_true (by omega)).symm
    ·rw [hwd] at hw hN
     have HW:=vH hw
     have hN2:Lx.isName s.data.toList = false:=by rw [hN]; simp
     rw [hN2]
     clear hl hN hN2 hc hw hwd
     go_in
     go_wp2_with (first
         | (go_at_call 47; refine (HL.out _).mono ?_; rintro e w' ⟨rfl,rfl⟩)
         | (go_at_call 49; refine (HW.out _).mono ?_; rintro e w1 ⟨rfl,hb1⟩))
     go_ret
     exact ⟨rfl,hb1⟩
  ·have hN2:Lx.isName s.data.toList = false:=by rw [hN]; simp [h8]
   rw [hN2]
   have h9 : 8 < s.size:=by omega
   have h1 : 1 ≤ s.size:=h0
   clear hN hN2 h8
   go_in
   go_wp2
   go_ret
   exact ⟨rfl,Below.refl _ _⟩
end Go.Proofs.YteadgahhchlgeaaDoor.Ln
namespace Go.Proofs.YteadgahhchlgeaaDoor.Ln
namespace Lx
open Go.Lib
theorem runN_all (p:Int → Bool):∀ l:List UInt8,∀ c ∈ l.take (runN p l),p (c.toNat:Int) = true
 | [],c,h => by simp at h
 | d :: l,c,h => by
   cases hd:p (d.toNat:Int)
   ·rw [zE2 _ _ _ hd] at h; simp at h
   ·rw [runN_yes _ _ _ hd,List.take_succ_cons,List.mem_cons] at h
    rcases h with rfl | h
    ·exact hd
    ·exact runN_all p l c h
theorem dig_bounds {c:UInt8}(h:digB (c.toNat:Int) = true) : 48 ≤ c.toNat ∧ c.toNat ≤ 57:=by
 simp [digB] at h; omega
end Lx
open Go.RowKit
theorem zFK {v:Int}{b:Bool}{a:Int}{c:Bool}(h:a = v)(h2:c = b):Ending.returned (.tuple #[.int .i64 a,.bool c]) = .returned (.tuple #[.int .i64 v,.bool b]):=by rw [h,h2]
def wholeV (V:Nat):Nat:=if V ≤ 9223372036854775807 then V else 0
def wholeB (V:Nat):Bool:=decide (V ≤ 9223372036854775807)
theorem zD9 {V:Nat}(h:V ≤ 9223372036854775807):wholeV V = V:=if_pos h
theorem zFv {V:Nat}(h:¬ V ≤ 9223372036854775807):wholeV V = 0:=if_neg h
theorem zEa {V:Nat}(h:V ≤ 9223372036854775807):wholeB V = true:=decide_eq_true h
theorem zFw {V:Nat}(h:¬ V ≤ 9223372036854775807):wholeB V = false:=decide_eq_false h
theorem zIV (s:ByteArray)(hs:s.size ≤ maxLen)(hd:∀ c ∈ s.data.toList,Lx.digB (c.toNat:Int) = true)(V:Nat)(hV:Lx.valN 0 s.data.toList = V)(w:World) :
 Calls Tryd.prog 52 #[.string s] w fun e w' => e = .returned (.tuple #[.int .i64 (wholeV V),.bool (wholeB V)]) ∧ w = w':=by
 unfold maxLen at hs
 have HD:=vH hd
 have HV:=vH hV
 clear hd hV
 go_in
 go_wp2
 go_loop [4,5] (fun n i => ∃ j n':Nat,j ≤ s.size ∧ i = .int .i64 j ∧ n = .int .i64 n' ∧ n' ≤ 9223372036854775807 ∧ Lx.valN n' (s.data.toList.drop j) = V) (fun _ i => s.size - (intOf i).toNat)
 case atStart => exact ⟨0,0,by omega,rfl,rfl,by omega,HV.out⟩
 case round =>
  obtain ⟨j,n,hj,rfl,rfl,hn,hJ⟩:=hrel
  have HJ:=vH hJ
  clear hJ
  by_cases hlt:j < s.size
  ·have hb:=Lx.dig_bounds (HD.out s[j] (by have h:=zAy s j hlt; exact List.mem_of_mem_drop (by rw [h]; exact List.mem_cons_self)))
   have h1:=hb.1
   have h2:=hb.2
   clear hb
   have hJ:=HJ.out
   rw [zAy s j hlt,Lx.valN_cons] at hJ
   have hg:=Lx.valN_ge (s.data.toList.drop (j + 1)) (10 * n + (s[j].toNat - 48))
   rw [hJ] at hg
   have HJ2:=vH hJ
   clear hJ HJ
   by_cases hov : 9223372036854775807 < 10 * n + (s[j].toNat - 48)
   ·have h3:((9223372036854775807:Int) - ((s[j].toNat:Int) - 48)) / 10 < (n:Int):=by omega
    go_wp2
    go_ret2
    exact ⟨zFK (by rw [zFv (by omega)]; rfl) (zFw (by omega)).symm,rfl⟩
   ·have h3:(n:Int) ≤ ((9223372036854775807:Int) - ((s[j].toNat:Int) - 48)) / 10:=by omega
    go_wp2
    go_round
    case rel => exact ⟨j + 1,10 * n + (s[j].toNat - 48),by omega,by go_num,congrArg (Value.int .i64) (by omega),by omega,HJ2.out⟩
    case measure => simp [intOf]; omega
  ·go_wp2
   go_ret2
   have h:=HJ.out
   rw [zCl s j (by omega),Lx.valN_nil] at h
   exact ⟨zFK (by rw [zD9 (by omega),h]) (zEa (by omega)).symm,rfl⟩
theorem zE1 {s:ByteArray}{p:Int → Bool}{k q m:Nat}(hlt:k + q < s.size)(ha:p (s[k + q].toNat:Int) = true)(h:q + Lx.runN p (s.data.toList.drop (k + q)) = m):q + 1 + Lx.runN p (s.data.toList.drop (k + (q + 1))) = m:=by
 rw [zFJ s _ (k + q) hlt,if_pos ha] at h
 rw [show k + (q + 1) = k + q + 1 from rfl]
 omega
theorem zHg {s:ByteArray}{p:Int → Bool}{k q m:Nat}(hlt:k + q < s.size)(ha:p (s[k + q].toNat:Int) = false)(h:q + Lx.runN p (s.data.toList.drop (k + q)) = m):q = m:=by
 rw [zFJ s _ (k + q) hlt,if_neg (by rw [ha]; decide)] at h
 omega
theorem zJn {s:ByteArray}{p:Int → Bool}{k q m:Nat}(hlt:s.size ≤ k + q)(h:q + Lx.runN p (s.data.toList.drop (k + q)) = m):q = m:=by
 rw [zCl s _ hlt,Lx.runN] at h
 omega
theorem zBa (s:ByteArray)(hs:s.size ≤ maxLen)(a:Int)(k m:Nat)(ha:a = k)(hk:k ≤ s.size)(hm:Lx.runN Lx.digB (s.data.toList.drop k) = m)(w:World) :
 Calls Tryd.prog 48 #[.string s,.int .i64 a,.bool true] w fun e w' => e = .returned (.int .i64 m) ∧ w = w':=by
 subst ha
 unfold maxLen at hs
 have HM:=vH hm
 clear hm
 go_in
 go_wp2
 go_loop [7] (fun i => ∃ q:Nat,k + q ≤ s.size ∧ i = .int .i64 q ∧ q + Lx.runN Lx.digB (s.data.toList.drop (k + q)) = m) (fun i => s.size - k - (intOf i).toNat)
 case atStart => exact ⟨0,hk,rfl,by rw [Nat.add_zero,HM.out]; omega⟩
 case round =>
  obtain ⟨q,hq,rfl,hJ⟩:=hrel
  have HJ:=vH hJ
  clear hJ
  by_cases hlt:k + q < s.size
  ·have hlt2:(k:Int) + (q:Int) < (s.size:Int):=by omega
   have hd:=zA3 (s[k + q].toNat:Int)
   cases hcd:Lx.digB (s[k + q].toNat:Int)
   ·rw [hcd] at hd
    have HD:=vH hd
    have HC:=vH hcd
    clear hd hcd
    go_wp2_with (go_at_call 51; refine (HD.out _).mono ?_; rintro e w' ⟨rfl,rfl⟩)
    go_ret
    exact ⟨zCs (by rw [zHg hlt HC.out HJ.out]),rfl⟩
   ·rw [hcd] at hd
    have HD:=vH hd
    have HC:=vH hcd
    clear hd hcd
    go_wp2_with (go_at_call 51; refine (HD.out _).mono ?_; rintro e w' ⟨rfl,rfl⟩)
    go_round
    case rel => exact ⟨q + 1,by omega,by go_num,zE1 hlt HC.out HJ.out⟩
    case measure => simp [intOf]; omega
  ·have hlt2:(s.size:Int) ≤ (k:Int) + (q:Int):=by omega
   go_wp2
   go_ret
   exact ⟨zCs (by rw [zJn (by omega) HJ.out]),rfl⟩
theorem zCu (s:ByteArray)(hs:s.size ≤ maxLen)(a:Int)(k m:Nat)(ha:a = k)(hk:k ≤ s.size)(hm:Lx.runN Lx.alnB (s.data.toList.drop k) = m)(w:World) :
 Calls Tryd.prog 48 #[.string s,.int .i64 a,.bool false] w fun e w' => e = .returned (.int .i64 m) ∧ w = w':=by
 subst ha
 unfold maxLen at hs
 have HM:=vH hm
 clear hm
 go_in
 go_wp2
 go_loop [7] (fun i => ∃ q:Nat,k + q ≤ s.size ∧ i = .int .i64 q ∧ q + Lx.runN Lx.alnB (s.data.toList.drop (k + q)) = m) (fun i => s.size - k - (intOf i).toNat)
 case atStart => exact ⟨0,hk,rfl,by rw [Nat.add_zero,HM.out]; omega⟩
 case round =>
  obtain ⟨q,hq,rfl,hJ⟩:=hrel
  have HJ:=vH hJ
  clear hJ
  by_cases hlt:k + q < s.size
  ·have hlt2:(k:Int) + (q:Int) < (s.size:Int):=by omega
   have hd:=zA3 (s[k + q].toNat:Int)
   have hl:=zAm (s[k + q].toNat:Int)
   cases hcd:Lx.digB (s[k + q].toNat:Int)
   ·rw [hcd] at hd
    cases hcl:Lx.letB (s[k + q].toNat:Int)
    ·rw [hcl] at hl
     have HC:Hid (Lx.alnB (s[k + q].toNat:Int) = false):=by show _ = _; simp [Lx.alnB,hcl,hcd]
     have HD:=vH hd
     have HL:=vH hl
     clear hd hcd hl hcl
     go_wp2_with (first
        | (go_at_call 51; refine (HD.out _).mono ?_; rintro e w' ⟨rfl,rfl⟩)
        | (go_at_call 47; refine (HL.out _).mono ?_; rintro e w' ⟨rfl,rfl⟩))
     go_ret
     exact ⟨zCs (by rw [zHg hlt HC.out HJ.out]),rfl⟩
    ·rw [hcl] at hl
     have HC:Hid (Lx.alnB (s[k + q].toNat:Int) = true):=by show _ = _; simp [Lx.alnB,hcl]
     have HD:=vH hd
     have HL:=vH hl
     clear hd hcd hl hcl
     go_wp2_with (first
        | (go_at_call 51; refine (HD.out _).mono ?_; rintro e w' ⟨rfl,rfl⟩)
        | (go_at_call 47; refine (HL.out _).mono ?_; rintro e w' ⟨rfl,rfl⟩))
     go_round
     case rel => exact ⟨q + 1,by omega,by go_num,zE1 hlt HC.out HJ.out⟩
     case measure => simp [intOf]; omega
   ·rw [hcd] at hd
    have HC:Hid (Lx.alnB (s[k + q].toNat:Int) = true):=by show _ = _; simp [Lx.alnB,hcd]
    have HD:=vH hd
    clear hd hcd hl
    go_wp2_with (go_at_call 51; refine (HD.out _).mono ?_; rintro e w' ⟨rfl,rfl⟩)
    go_round
    case rel => exact ⟨q + 1,by omega,by go_num,zE1 hlt HC.out HJ.out⟩
    case measure => simp [intOf]; omega
  ·have hlt2:(s.size:Int) ≤ (k:Int) + (q:Int):=by omega
   go_wp2
   go_ret
   exact ⟨zCs (by rw [zJn (by omega) HJ.out]),rfl⟩
end Go.Proofs.YteadgahhchlgeaaDoor.Ln
