/-
  The given printer of statements.
-/
import Derived.Test.YteadgahhchlgeaaDoorK02
import Derived.Test.YteadgahhchlgeaaDoorK43
import Derived.Test.YteadgahhchlgeaaDoorK39
set_option maxRecDepth 8000
set_option maxHeartbeats 8000000
namespace Go.Proofs.YteadgahhchlgeaaDoor
open Go.RowKit
open Pe (Ex)
open Ps (Sm kindOf)
open Rt (tyB lvl prE prL pad prS prB stOf blT shS shB shSK shL shE zAw zG zAC)
def RBs (xs:List Sm)(d:Nat):Prop:=∀ (w:World)(q:Option Addr)(c:Nat),SsAt w 0 q xs → (prB xs d).length ≤ 1000000000000 →
 Calls Tryd.prog 28 #[.slice q xs.length c,.int .i64 (d:Int)] w fun e w' => e = .returned (.string (cbs (prB xs d))) ∧ Below w.heap.size w w'
theorem zLM (j:Nat):cbs (pad j) ++ (⟨#[32,32]⟩:ByteArray) = cbs (pad (j + 1)):=by
 show cbs (pad j) ++ cbs [32,32] = _
 rw [zAo]
 unfold pad
 rw [show 2 * (j + 1) = 2 * j + 2 from by omega,← List.replicate_append_replicate]
 rfl
theorem pad_len (d:Nat):(pad d).length = 2 * d:=by unfold pad; simp
theorem zAj {w1:World}{B:Nat}{T:TypeId}{c0 c1 c2 c3 c4 c5 c6 c7 c8:Value}(h:w1.heap[B]? = some (.cells #[c0,c1,c2,c3,c4,c5,c6,c7,c8] T (0,0))) :
 w1.cell? ⟨B,0,none⟩ = some c0 ∧ w1.cell? ⟨B,1,none⟩ = some c1 ∧ w1.cell? ⟨B,2,none⟩ = some c2 ∧ w1.cell? ⟨B,3,none⟩ = some c3 ∧ w1.cell? ⟨B,4,none⟩ = some c4 ∧ w1.cell? ⟨B,5,none⟩ = some c5 ∧ w1.cell? ⟨B,6,none⟩ = some c6 ∧ w1.cell? ⟨B,7,none⟩ = some c7 ∧ w1.cell? ⟨B,8,none⟩ = some c8:=
 ⟨by rw [cell_of_row _ _ _ _ _ _ h]; rfl,by rw [cell_of_row _ _ _ _ _ _ h]; rfl,by rw [cell_of_row _ _ _ _ _ _ h]; rfl,by rw [cell_of_row _ _ _ _ _ _ h]; rfl,by rw [cell_of_row _ _ _ _ _ _ h]; rfl,by rw [cell_of_row _ _ _ _ _ _ h]; rfl,by rw [cell_of_row _ _ _ _ _ _ h]; rfl,by rw [cell_of_row _ _ _ _ _ _ h]; rfl,by rw [cell_of_row _ _ _ _ _ _ h]; rfl⟩
theorem zDt (zs:List Sm)(d n:Nat)(hd:d ≤ 60)(hsh:shB zs n)(hB:∀ k nm ot dm es b l a r,Sm.mk k nm ot dm es b l a r ∈ zs → RBs b (d + 1) ∧ RBs l (d + 1)):RBs zs d:=by
 intro w q c hq hlen
 have HQ:=vH hq
 have HS:=vH hsh
 have HB:=vH hB
 have HL:=vH hlen
 have hnn:=zDC zs d
 have hN:zs.length ≤ 1000000000000:=by omega
 have HN:=vH hN
 have HD:=vH hd
 clear hq hsh hB hlen hnn hN hd
 go_in
 go_wp2_with fail
 go_loopg [6,7] d (fun g s v wr => ∃ j:Nat,g + j = d ∧ v = .int .i64 (j:Int) ∧ s = .string (cbs (pad j)) ∧ w = wr)
 case atStart => exact ⟨0,rfl,rfl,rfl,rfl⟩
 case round =>
  obtain ⟨j,hj,rfl,rfl,rfl⟩:=hrel
  have HJ:=vH hj
  cases gk with
  | succ m =>
    have hd1:decide ((j:Int) < (d:Int)) = true:=decide_eq_true (by omega)
    have hd1n:decide (j < d) = true:=decide_eq_true (by omega)
    have hdw:wrap64 ((j:Int) + 1) = ((j + 1:Nat):Int):=by have:=HD.out; simp [wrap64]; omega
    have hz1:(cbs (pad j)).size + (⟨#[32,32]⟩:ByteArray).size ≤ 9223372036854775807:=by rw [zB,pad_len]; have:=HD.out; show 2 * j + 2 ≤ _; omega
    clear hj
    go_wp2_with fail
    go_roundg m
    case measure => omega
    case rel => exact ⟨j + 1,by have:=HJ.out; omega,by first | rfl | simp [hdw],congrArg Value.string (zLM j),rfl⟩
  | zero =>
    obtain rfl:j = d:=by omega
    have hd1:decide ((j:Int) < (j:Int)) = false:=decide_eq_false (by omega)
    have hd1n:decide (j < j) = false:=decide_eq_false (by omega)
    clear hj HJ
    go_wp2_with fail
    go_loopg [5,8] zs.length (fun g s v wr => ∃ i:Nat,g + i = zs.length ∧ v = .int .i64 (i:Int) ∧ (∃ t:List UInt8,s = .string (cbs t) ∧ t ++ prB (zs.drop i) j = prB zs j) ∧ Below w.heap.size w wr)
    case atStart => exact ⟨0,rfl,rfl,⟨[],rfl,rfl⟩,Below.refl _ _⟩
    case round =>
        obtain ⟨i,hi,rfl,⟨t,rfl,ht⟩,hx⟩:=hrel
        have HI:=vH hi
        have HT:=vH ht
        have Y:=vH hx
        cases gk with
        | zero =>
          obtain rfl:i = zs.length:=by omega
          have hd2:decide ((zs.length:Int) < (zs.length:Int)) = false:=decide_eq_false (by omega)
          clear hi ht hx
          go_wp2_with fail
          go_ret
          have h9:=HT.out
          rw [List.drop_of_length_le (Nat.le_refl _),prB,List.append_nil] at h9
          exact ⟨zBV (by rw [h9]),Y.out⟩
        | succ m =>
          have hil:i < zs.length:=by omega
          have hd2:decide ((i:Int) < (zs.length:Int)) = true:=decide_eq_true (by omega)
          have hd3:decide (zs.length ≤ i) = false:=decide_eq_false (by omega)
          have hi1:(i:Int) < (zs.length:Int):=by omega
          have hi3:(0:Int) ≤ (i:Int):=by omega
          have hdw:wrap64 ((i:Int) + 1) = ((i + 1:Nat):Int):=by have:=HN.out; simp [wrap64]; omega
          have he:=List.getElem?_eq_getElem hil
          have hd4:zs.drop i = zs[i] :: zs.drop (i + 1):=List.drop_eq_getElem_cons hil
          have hm:=List.getElem_mem hil
          have hsx:=zCr HS.out hm
          generalize zs[i] = x at he hd4 hm hsx
          obtain ⟨k,nm,ot,dm,es,body,els,a,r⟩:=x
          obtain ⟨hBb,hBe⟩:=HB.out k nm ot dm es body els a r hm
          obtain ⟨bl,off,vs,rfl,hbl,hin,hc⟩:=(HQ.out.below Y.out).get he
          rw [SIs] at hin
          obtain ⟨p,c0,qb,cb,qe,ce,rfl,hp,hqb,hqe⟩:=hin
          obtain ⟨s0,s1,s2,s3,s4,s5,s6,s7,s8⟩:=zKe hc
          rw [shS] at hsx
          obtain ⟨⟨hk0,hkd,hm1,hm2,hm7⟩,hsl,-⟩:=hsx
          obtain ⟨D,rfl⟩:=Int.eq_ofNat_of_zero_le hkd.1
          have hn2:=ht
          rw [hd4,prB,prS] at hn2
          have hle:=congrArg List.length hn2
          simp only [List.length_append,List.length_cons,List.length_nil] at hle
          have hll:=HL.out
          have HBB:=vH hBb
          have HBE:=vH hBe
          have hst:t.length + (2 * j + (stOf j k nm ot D (prL es) (prB body (j + 1)) els.isEmpty (prB els (j + 1))).length) ≤ 1000000000000:=by rw [pad_len] at hle; omega
          have HP:=vH hp
          have HQB:=vH hqb
          have HQE:=vH hqe
          have HSL:=vH hsl
          have HN2:=vH hn2
          have X:=vH (Bxp.start wr 65 #[.int .i64 k,.string (cbs nm),.string (cbs ot),.int .i64 (D:Int),.slice p es.length c0,.slice qb body.length cb,.slice qe els.length ce,.int .i64 a,.int .i64 r])
          have hpl:=pad_len j
          have hz0:(cbs t).size + (cbs (pad j)).size ≤ 9223372036854775807:=by rw [zB,zB,pad_len]; omega
          have hcs:k = 1 ∨ k = 2 ∨ k = 3 ∨ k = 4 ∨ k = 5 ∨ k = 6 ∨ k = 7 ∨ k = 8 ∨ k = 9:=by omega
          clear hle hll hc he hd4 hm hbl hn2 hi ht hx hp hqb hqe hsl hBb hBe hil
          rcases hcs with rfl | rfl | rfl | rfl | rfl | rfl | rfl | rfl | rfl
          ·as_aux_lemma =>
           have hst2:t.length + (2 * j + (stOf j 1 nm ot D (prL es) (prB body (j + 1)) els.isEmpty (prB els (j + 1))).length) ≤ 1000000000000:=by exact hst
           have hn3:t ++ (pad j ++ (stOf j 1 nm ot D (prL es) (prB body (j + 1)) els.isEmpty (prB els (j + 1)) ++ [10]) ++ prB (List.drop (i + 1) zs) j) = prB zs j:=by exact HN2.out
           have h1:(stOf j 1 nm ot D (prL es) (prB body (j + 1)) els.isEmpty (prB els (j + 1))) = [118,97,114] ++ 32 :: (nm ++ 58 :: 32 :: (tyB ot D ++ [59])):=rfl
           rw [h1] at hst2 hn3
           obtain ⟨TY,hTY⟩:∃ T,T = tyB ot D:=⟨_,rfl⟩
           have hty:TY.length = ot.length + 2 * D:=by rw [hTY]; exact zAg ot D
           simp only [List.length_append,List.length_cons,List.length_nil,zAg] at hst2
           have HTY:Hid (∀ w1,Calls Tryd.prog 27 #[.agg #[.string (cbs ot),.int .i64 (D:Int)]] w1 fun e w' => e = .returned (.string (cbs TY)) ∧ Below w1.heap.size w1 w'):=vH (fun w1 => by rw [hTY]; exact zBv ot D w1 (by omega) (by omega))
           rw [← hTY] at hn3
           obtain ⟨C0,hC0⟩:∃ C:List UInt8,C = t ++ pad j:=⟨_,rfl⟩
           have hl0:C0.length = t.length + 2 * j:=by rw [hC0,List.length_append,pad_len]
           have hcat:cbs t ++ cbs (pad j) = cbs C0:=by rw [hC0]; exact zAo _ _
           have HC0:=vH hC0
           have HCAT:=vH hcat
           clear hcat
           obtain ⟨C1,hC1⟩:∃ C:List UInt8,C = C0 ++ [118,97,114,32]:=⟨_,rfl⟩
           have hl1:C1.length = C0.length + 4:=by rw [hC1,List.length_append] <;> rfl
           have hc1:∀ w':World,(Op.stringOp .add (cbs C0) (⟨#[118,97,114,32]⟩:ByteArray)).run Tryd.prog w' = .ok (.string (cbs C1)) w':=by
            rw [hC1]
            exact zL C0 [118,97,114,32] (by show C0.length + 4 ≤ _; omega)
           obtain ⟨C2,hC2⟩:∃ C:List UInt8,C = C1 ++ nm:=⟨_,rfl⟩
           have hl2:C2.length = C1.length + nm.length:=by rw [hC2,List.length_append] <;> rfl
           have hc2:∀ w':World,(Op.stringOp .add (cbs C1) (cbs nm)).run Tryd.prog w' = .ok (.string (cbs C2)) w':=by
            rw [hC2]
            exact zL C1 nm (by show C1.length + nm.length ≤ _; omega)
           obtain ⟨C3,hC3⟩:∃ C:List UInt8,C = C2 ++ [58,32]:=⟨_,rfl⟩
           have hl3:C3.length = C2.length + 2:=by rw [hC3,List.length_append] <;> rfl
           have hc3:∀ w':World,(Op.stringOp .add (cbs C2) (⟨#[58,32]⟩:ByteArray)).run Tryd.prog w' = .ok (.string (cbs C3)) w':=by
            rw [hC3]
            exact zL C2 [58,32] (by show C2.length + 2 ≤ _; omega)
           obtain ⟨C4,hC4⟩:∃ C:List UInt8,C = C3 ++ TY:=⟨_,rfl⟩
           have hl4:C4.length = C3.length + TY.length:=by rw [hC4,List.length_append] <;> rfl
           have hc4:∀ w':World,(Op.stringOp .add (cbs C3) (cbs TY)).run Tryd.prog w' = .ok (.string (cbs C4)) w':=by
            rw [hC4]
            exact zL C3 TY (by show C3.length + TY.length ≤ _; omega)
           obtain ⟨C5,hC5⟩:∃ C:List UInt8,C = C4 ++ [59]:=⟨_,rfl⟩
           have hl5:C5.length = C4.length + 1:=by rw [hC5,List.length_append] <;> rfl
           have hc5:∀ w':World,(Op.stringOp .add (cbs C4) (⟨#[59]⟩:ByteArray)).run Tryd.prog w' = .ok (.string (cbs C5)) w':=by
            rw [hC5]
            exact zL C4 [59] (by show C4.length + 1 ≤ _; omega)
           have hz9:(cbs C5).size + (⟨#[10]⟩:ByteArray).size ≤ 9223372036854775807:=by rw [zB]; show C5.length + 1 ≤ _; omega
           have HC1:=vH hC1
           have HC2:=vH hC2
           have HC3:=vH hC3
           have HC4:=vH hC4
           have HC5:=vH hC5
           have HN3:=vH hn3
           clear hn3 hst hst2 HN2 h1 hl0 hl5 hl4 hl3 hl2 hl1 hC5 hC4 hC3 hC2 hC1 hC0 hpl hm1 hm2 hm7 hkd HBE HQE HSL hk0 HBB HQB hty hTY HP
           go_wp2_with fail
           rw [HCAT.out]
           clear s0 s1 s2 s3 s4 s5 s6 s7 s8
           generalize wr.alloc (.cells #[.int .i64 1,.string (cbs nm),.string (cbs ot),.int .i64 (D:Int),.slice p es.length c0,.slice qb body.length cb,.slice qe els.length ce,.int .i64 a,.int .i64 r] 65) = W at X ⊢
           replace X:=vH X.out.drew
           go_region_held3 (fun w' => w'.cell? ⟨wr.heap.size,1,none⟩ = some (.string (cbs nm)) ∧ w'.cell? ⟨wr.heap.size,2,none⟩ = some (.string (cbs ot)) ∧ w'.cell? ⟨wr.heap.size,3,none⟩ = some (.int .i64 (D:Int))) (first | exact ⟨(zAj X.out.h).2.1,(zAj X.out.h).2.2.1,(zAj X.out.h).2.2.2.1⟩)
            (first
            | (go_at_call 27; (with_reducible refine Calls.mono (HTY.out _) ?_); rintro e u ⟨rfl,hb⟩; have X2:=vH (X.out.go hb); have X:=X2))
           all_goals
            go_wp2_with fail
            go_roundg m
            case measure => omega
            case rel => exact ⟨i + 1,by have:=HI.out; omega,by first | rfl | simp [hdw],⟨C5 ++ [10],congrArg Value.string (zAo C5 [10]),by rw [← HN3.out,HC5.out,HC4.out,HC3.out,HC2.out,HC1.out,HC0.out]; simp⟩,zH Y.out X.out.b Y.out.size⟩
          ·as_aux_lemma =>
           obtain ⟨e,rfl⟩:=zAi (hm1 (by omega))
           obtain ⟨b2,b2o,rfl,hb2,xk,xn,xs,xo,xd,xq,xp,xc,xa,xb,xr,xe,xf,rfl,hxi,hxk⟩:=zAH HP.out (j:=0) rfl 0 rfl
           rw [zG] at hst HN2
           obtain ⟨T,hT⟩:∃ T,T = prE (.mk xk xn xs xo xd xq xa xb xr xe xf):=⟨_,rfl⟩
           have hst2:t.length + (2 * j + (stOf j 2 nm ot D [(lvl xk,T)] (prB body (j + 1)) els.isEmpty (prB els (j + 1))).length) ≤ 1000000000000:=by rw [hT]; exact hst
           have hn3:t ++ (pad j ++ (stOf j 2 nm ot D [(lvl xk,T)] (prB body (j + 1)) els.isEmpty (prB els (j + 1)) ++ [10]) ++ prB (List.drop (i + 1) zs) j) = prB zs j:=by rw [hT]; exact HN2.out
           have h1:(stOf j 2 nm ot D [(lvl xk,T)] (prB body (j + 1)) els.isEmpty (prB els (j + 1))) = [108,101,116] ++ 32 :: (nm ++ 58 :: 32 :: (tyB ot D ++ 32 :: 61 :: 32 :: (T ++ [59]))):=rfl
           rw [h1] at hst2 hn3
           obtain ⟨TY,hTY⟩:∃ T,T = tyB ot D:=⟨_,rfl⟩
           have hty:TY.length = ot.length + 2 * D:=by rw [hTY]; exact zAg ot D
           simp only [List.length_append,List.length_cons,List.length_nil,zAg] at hst2
           have HTY:Hid (∀ w1,Calls Tryd.prog 27 #[.agg #[.string (cbs ot),.int .i64 (D:Int)]] w1 fun e w' => e = .returned (.string (cbs TY)) ∧ Below w1.heap.size w1 w'):=vH (fun w1 => by rw [hTY]; exact zBv ot D w1 (by omega) (by omega))
           rw [← hTY] at hn3
           have HE:Hid (Gives wr 45 #[.agg #[.int .i64 xk,.int .i64 xn,.string (cbs xs),.string (cbs xo),.int .i64 xd,.slice xp xq.length xc,.int .i64 xa,.int .i64 xb,.int .i64 xr,.int .i64 xe,.int .i64 xf]] T):=vH (by rw [hT]; exact zAW (zAF (zAw HSL.out (List.mem_singleton.2 rfl))) hxi (by rw [← hT]; omega))
           have K:=vH (hxk.go X.out.b)
           obtain ⟨C0,hC0⟩:∃ C:List UInt8,C = t ++ pad j:=⟨_,rfl⟩
           have hl0:C0.length = t.length + 2 * j:=by rw [hC0,List.length_append,pad_len]
           have hcat:cbs t ++ cbs (pad j) = cbs C0:=by rw [hC0]; exact zAo _ _
           have HC0:=vH hC0
           have HCAT:=vH hcat
           clear hcat
           obtain ⟨C1,hC1⟩:∃ C:List UInt8,C = C0 ++ [108,101,116,32]:=⟨_,rfl⟩
           have hl1:C1.length = C0.length + 4:=by rw [hC1,List.length_append] <;> rfl
           have hc1:∀ w':World,(Op.stringOp .add (cbs C0) (⟨#[108,101,116,32]⟩:ByteArray)).run Tryd.prog w' = .ok (.string (cbs C1)) w':=by
            rw [hC1]
            exact zL C0 [108,101,116,32] (by show C0.length + 4 ≤ _; omega)
           obtain ⟨C2,hC2⟩:∃ C:List UInt8,C = C1 ++ nm:=⟨_,rfl⟩
           have hl2:C2.length = C1.length + nm.length:=by rw [hC2,List.length_append] <;> rfl
           have hc2:∀ w':World,(Op.stringOp .add (cbs C1) (cbs nm)).run Tryd.prog w' = .ok (.string (cbs C2)) w':=by
            rw [hC2]
            exact zL C1 nm (by show C1.length + nm.length ≤ _; omega)
           obtain ⟨C3,hC3⟩:∃ C:List UInt8,C = C2 ++ [58,32]:=⟨_,rfl⟩
           have hl3:C3.length = C2.length + 2:=by rw [hC3,List.length_append] <;> rfl
           have hc3:∀ w':World,(Op.stringOp .add (cbs C2) (⟨#[58,32]⟩:ByteArray)).run Tryd.prog w' = .ok (.string (cbs C3)) w':=by
            rw [hC3]
            exact zL C2 [58,32] (by show C2.length + 2 ≤ _; omega)
           obtain ⟨C4,hC4⟩:∃ C:List UInt8,C = C3 ++ TY:=⟨_,rfl⟩
           have hl4:C4.length = C3.length + TY.length:=by rw [hC4,List.length_append] <;> rfl
           have hc4:∀ w':World,(Op.stringOp .add (cbs C3) (cbs TY)).run Tryd.prog w' = .ok (.string (cbs C4)) w':=by
            rw [hC4]
            exact zL C3 TY (by show C3.length + TY.length ≤ _; omega)
           obtain ⟨C5,hC5⟩:∃ C:List UInt8,C = C4 ++ [32,61,32]:=⟨_,rfl⟩
           have hl5:C5.length = C4.length + 3:=by rw [hC5,List.length_append] <;> rfl
           have hc5:∀ w':World,(Op.stringOp .add (cbs C4) (⟨#[32,61,32]⟩:ByteArray)).run Tryd.prog w' = .ok (.string (cbs C5)) w':=by
            rw [hC5]
            exact zL C4 [32,61,32] (by show C4.length + 3 ≤ _; omega)
           obtain ⟨C6,hC6⟩:∃ C:List UInt8,C = C5 ++ T:=⟨_,rfl⟩
           have hl6:C6.length = C5.length + T.length:=by rw [hC6,List.length_append] <;> rfl
           have hc6:∀ w':World,(Op.stringOp .add (cbs C5) (cbs T)).run Tryd.prog w' = .ok (.string (cbs C6)) w':=by
            rw [hC6]
            exact zL C5 T (by show C5.length + T.length ≤ _; omega)
           obtain ⟨C7,hC7⟩:∃ C:List UInt8,C = C6 ++ [59]:=⟨_,rfl⟩
           have hl7:C7.length = C6.length + 1:=by rw [hC7,List.length_append] <;> rfl
           have hc7:∀ w':World,(Op.stringOp .add (cbs C6) (⟨#[59]⟩:ByteArray)).run Tryd.prog w' = .ok (.string (cbs C7)) w':=by
            rw [hC7]
            exact zL C6 [59] (by show C6.length + 1 ≤ _; omega)
           have hz9:(cbs C7).size + (⟨#[10]⟩:ByteArray).size ≤ 9223372036854775807:=by rw [zB]; show C7.length + 1 ≤ _; omega
           have HC1:=vH hC1
           have HC2:=vH hC2
           have HC3:=vH hC3
           have HC4:=vH hC4
           have HC5:=vH hC5
           have HC6:=vH hC6
           have HC7:=vH hC7
           have HN3:=vH hn3
           clear hn3 hst hst2 HN2 h1 hl0 hl7 hl6 hl5 hl4 hl3 hl2 hl1 hC7 hC6 hC5 hC4 hC3 hC2 hC1 hC0 hpl hm1 hm2 hm7 hkd HBE HQE HSL hk0 HBB HQB hty hTY hxk hxi hT hb2 HP
           go_wp2_with fail
           rw [HCAT.out]
           clear s0 s1 s2 s3 s4 s5 s6 s7 s8
           generalize wr.alloc (.cells #[.int .i64 2,.string (cbs nm),.string (cbs ot),.int .i64 (D:Int),.slice (some ⟨b2,b2o,none⟩) 1 c0,.slice qb body.length cb,.slice qe els.length ce,.int .i64 a,.int .i64 r] 65) = W at X K ⊢
           replace X:=vH X.out.drew
           replace K:=vH (K.out.go (zAI W))
           go_region_held3 (fun w' => w'.cell? ⟨wr.heap.size,1,none⟩ = some (.string (cbs nm)) ∧ w'.cell? ⟨wr.heap.size,2,none⟩ = some (.string (cbs ot)) ∧ w'.cell? ⟨wr.heap.size,3,none⟩ = some (.int .i64 (D:Int)) ∧ w'.cell? ⟨wr.heap.size,4,none⟩ = some (.slice (some ⟨b2,b2o,none⟩) 1 c0) ∧ w'.cell? ⟨b2,b2o,none⟩ = some (.int .i64 xk) ∧ w'.cell? ⟨b2,b2o + 1,none⟩ = some (.int .i64 xn) ∧ w'.cell? ⟨b2,b2o + 2,none⟩ = some (.string (cbs xs)) ∧ w'.cell? ⟨b2,b2o + 3,none⟩ = some (.string (cbs xo)) ∧ w'.cell? ⟨b2,b2o + 4,none⟩ = some (.int .i64 xd) ∧ w'.cell? ⟨b2,b2o + 5,none⟩ = some (.slice xp xq.length xc) ∧ w'.cell? ⟨b2,b2o + 6,none⟩ = some (.int .i64 xa) ∧ w'.cell? ⟨b2,b2o + 7,none⟩ = some (.int .i64 xb) ∧ w'.cell? ⟨b2,b2o + 8,none⟩ = some (.int .i64 xr) ∧ w'.cell? ⟨b2,b2o + 9,none⟩ = some (.int .i64 xe) ∧ w'.cell? ⟨b2,b2o + 10,none⟩ = some (.int .i64 xf)) (first | exact ⟨(zAj X.out.h).2.1,(zAj X.out.h).2.2.1,(zAj X.out.h).2.2.2.1,(zAj X.out.h).2.2.2.2.1,K.out⟩)
            (first
            | (go_at_call 27; (with_reducible refine Calls.mono (HTY.out _) ?_); rintro e u ⟨rfl,hb⟩; have X2:=vH (X.out.go hb); have X:=X2; have K2:=vH (K.out.go hb); have K:=K2)
            | (go_at_call 45; (with_reducible refine Calls.mono (HE.out _ X.out.b) ?_); rintro e u ⟨rfl,hb⟩; have X2:=vH (X.out.go hb); have X:=X2; have K2:=vH (K.out.go hb); have K:=K2))
           all_goals
            go_wp2_with fail
            go_roundg m
            case measure => omega
            case rel => exact ⟨i + 1,by have:=HI.out; omega,by first | rfl | simp [hdw],⟨C7 ++ [10],congrArg Value.string (zAo C7 [10]),by rw [← HN3.out,HC7.out,HC6.out,HC5.out,HC4.out,HC3.out,HC2.out,HC1.out,HC0.out]; simp⟩,zH Y.out X.out.b Y.out.size⟩
          ·as_aux_lemma =>
           obtain ⟨e,rfl⟩:=zAi (hm1 (by omega))
           obtain ⟨b2,b2o,rfl,hb2,xk,xn,xs,xo,xd,xq,xp,xc,xa,xb,xr,xe,xf,rfl,hxi,hxk⟩:=zAH HP.out (j:=0) rfl 0 rfl
           rw [zG] at hst HN2
           obtain ⟨T,hT⟩:∃ T,T = prE (.mk xk xn xs xo xd xq xa xb xr xe xf):=⟨_,rfl⟩
           have hst2:t.length + (2 * j + (stOf j 3 nm ot D [(lvl xk,T)] (prB body (j + 1)) els.isEmpty (prB els (j + 1))).length) ≤ 1000000000000:=by rw [hT]; exact hst
           have hn3:t ++ (pad j ++ (stOf j 3 nm ot D [(lvl xk,T)] (prB body (j + 1)) els.isEmpty (prB els (j + 1)) ++ [10]) ++ prB (List.drop (i + 1) zs) j) = prB zs j:=by rw [hT]; exact HN2.out
           have h1:(stOf j 3 nm ot D [(lvl xk,T)] (prB body (j + 1)) els.isEmpty (prB els (j + 1))) = nm ++ 32 :: 61 :: 32 :: (T ++ [59]):=rfl
           rw [h1] at hst2 hn3
           simp only [List.length_append,List.length_cons,List.length_nil] at hst2
           have HE:Hid (Gives wr 45 #[.agg #[.int .i64 xk,.int .i64 xn,.string (cbs xs),.string (cbs xo),.int .i64 xd,.slice xp xq.length xc,.int .i64 xa,.int .i64 xb,.int .i64 xr,.int .i64 xe,.int .i64 xf]] T):=vH (by rw [hT]; exact zAW (zAF (zAw HSL.out (List.mem_singleton.2 rfl))) hxi (by rw [← hT]; omega))
           have K:=vH (hxk.go X.out.b)
           obtain ⟨C0,hC0⟩:∃ C:List UInt8,C = t ++ pad j:=⟨_,rfl⟩
           have hl0:C0.length = t.length + 2 * j:=by rw [hC0,List.length_append,pad_len]
           have hcat:cbs t ++ cbs (pad j) = cbs C0:=by rw [hC0]; exact zAo _ _
           have HC0:=vH hC0
           have HCAT:=vH hcat
           clear hcat
           obtain ⟨C1,hC1⟩:∃ C:List UInt8,C = C0 ++ nm:=⟨_,rfl⟩
           have hl1:C1.length = C0.length + nm.length:=by rw [hC1,List.length_append] <;> rfl
           have hc1:∀ w':World,(Op.stringOp .add (cbs C0) (cbs nm)).run Tryd.prog w' = .ok (.string (cbs C1)) w':=by
            rw [hC1]
            exact zL C0 nm (by show C0.length + nm.length ≤ _; omega)
           obtain ⟨C2,hC2⟩:∃ C:List UInt8,C = C1 ++ [32,61,32]:=⟨_,rfl⟩
           have hl2:C2.length = C1.length + 3:=by rw [hC2,List.length_append] <;> rfl
           have hc2:∀ w':World,(Op.stringOp .add (cbs C1) (⟨#[32,61,32]⟩:ByteArray)).run Tryd.prog w' = .ok (.string (cbs C2)) w':=by
            rw [hC2]
            exact zL C1 [32,61,32] (by show C1.length + 3 ≤ _; omega)
           obtain ⟨C3,hC3⟩:∃ C:List UInt8,C = C2 ++ T:=⟨_,rfl⟩
           have hl3:C3.length = C2.length + T.length:=by rw [hC3,List.length_append] <;> rfl
           have hc3:∀ w':World,(Op.stringOp .add (cbs C2) (cbs T)).run Tryd.prog w' = .ok (.string (cbs C3)) w':=by
            rw [hC3]
            exact zL C2 T (by show C2.length + T.length ≤ _; omega)
           obtain ⟨C4,hC4⟩:∃ C:List UInt8,C = C3 ++ [59]:=⟨_,rfl⟩
           have hl4:C4.length = C3.length + 1:=by rw [hC4,List.length_append] <;> rfl
           have hc4:∀ w':World,(Op.stringOp .add (cbs C3) (⟨#[59]⟩:ByteArray)).run Tryd.prog w' = .ok (.string (cbs C4)) w':=by
            rw [hC4]
            exact zL C3 [59] (by show C3.length + 1 ≤ _; omega)
           have hz9:(cbs C4).size + (⟨#[10]⟩:ByteArray).size ≤ 9223372036854775807:=by rw [zB]; show C4.length + 1 ≤ _; omega
           have HC1:=vH hC1
           have HC2:=vH hC2
           have HC3:=vH hC3
           have HC4:=vH hC4
           have HN3:=vH hn3
           clear hn3 hst hst2 HN2 h1 hl0 hl4 hl3 hl2 hl1 hC4 hC3 hC2 hC1 hC0 hpl hm1 hm2 hm7 hkd HBE HQE HSL hk0 HBB HQB hxk hxi hT hb2 HP
           go_wp2_with fail
           rw [HCAT.out]
           clear s0 s1 s2 s3 s4 s5 s6 s7 s8
           generalize wr.alloc (.cells #[.int .i64 3,.string (cbs nm),.string (cbs ot),.int .i64 (D:Int),.slice (some ⟨b2,b2o,none⟩) 1 c0,.slice qb body.length cb,.slice qe els.length ce,.int .i64 a,.int .i64 r] 65) = W at X K ⊢
           replace X:=vH X.out.drew
           replace K:=vH (K.out.go (zAI W))
           go_region_held3 (fun w' => w'.cell? ⟨wr.heap.size,1,none⟩ = some (.string (cbs nm)) ∧ w'.cell? ⟨wr.heap.size,4,none⟩ = some (.slice (some ⟨b2,b2o,none⟩) 1 c0) ∧ w'.cell? ⟨b2,b2o,none⟩ = some (.int .i64 xk) ∧ w'.cell? ⟨b2,b2o + 1,none⟩ = some (.int .i64 xn) ∧ w'.cell? ⟨b2,b2o + 2,none⟩ = some (.string (cbs xs)) ∧ w'.cell? ⟨b2,b2o + 3,none⟩ = some (.string (cbs xo)) ∧ w'.cell? ⟨b2,b2o + 4,none⟩ = some (.int .i64 xd) ∧ w'.cell? ⟨b2,b2o + 5,none⟩ = some (.slice xp xq.length xc) ∧ w'.cell? ⟨b2,b2o + 6,none⟩ = some (.int .i64 xa) ∧ w'.cell? ⟨b2,b2o + 7,none⟩ = some (.int .i64 xb) ∧ w'.cell? ⟨b2,b2o + 8,none⟩ = some (.int .i64 xr) ∧ w'.cell? ⟨b2,b2o + 9,none⟩ = some (.int .i64 xe) ∧ w'.cell? ⟨b2,b2o + 10,none⟩ = some (.int .i64 xf)) (first | exact ⟨(zAj X.out.h).2.1,(zAj X.out.h).2.2.2.2.1,K.out⟩)
            (first
            | (go_at_call 45; (with_reducible refine Calls.mono (HE.out _ X.out.b) ?_); rintro e u ⟨rfl,hb⟩; have X2:=vH (X.out.go hb); have X:=X2; have K2:=vH (K.out.go hb); have K:=K2))
           all_goals
            go_wp2_with fail
            go_roundg m
            case measure => omega
            case rel => exact ⟨i + 1,by have:=HI.out; omega,by first | rfl | simp [hdw],⟨C4 ++ [10],congrArg Value.string (zAo C4 [10]),by rw [← HN3.out,HC4.out,HC3.out,HC2.out,HC1.out,HC0.out]; simp⟩,zH Y.out X.out.b Y.out.size⟩
          ·as_aux_lemma =>
           obtain ⟨e,e2,rfl⟩:=zCa (hm2 (by omega))
           obtain ⟨b2,b2o,rfl,hb2,xk,xn,xs,xo,xd,xq,xp,xc,xa,xb,xr,xe,xf,rfl,hxi,hxk⟩:=zAH HP.out (j:=0) rfl 0 rfl
           obtain ⟨b3,b3o,hbo,-,yk,yn,ys,yo,yd,yq,yp,yc,ya,yb,yr,ye,yf,rfl,hyi,hyk⟩:=zAH HP.out (j:=1) rfl 11 rfl
           injection hbo with hbo
           injection hbo with hb1 ho1
           subst hb1 ho1
           rw [zAC] at hst HN2
           obtain ⟨T,hT⟩:∃ T,T = prE (.mk xk xn xs xo xd xq xa xb xr xe xf):=⟨_,rfl⟩
           obtain ⟨T2,hT2⟩:∃ T,T = prE (.mk yk yn ys yo yd yq ya yb yr ye yf):=⟨_,rfl⟩
           have hst2:t.length + (2 * j + (stOf j 4 nm ot D [(lvl xk,T),(lvl yk,T2)] (prB body (j + 1)) els.isEmpty (prB els (j + 1))).length) ≤ 1000000000000:=by rw [hT,hT2]; exact hst
           have hn3:t ++ (pad j ++ (stOf j 4 nm ot D [(lvl xk,T),(lvl yk,T2)] (prB body (j + 1)) els.isEmpty (prB els (j + 1)) ++ [10]) ++ prB (List.drop (i + 1) zs) j) = prB zs j:=by rw [hT,hT2]; exact HN2.out
           have h1:(stOf j 4 nm ot D [(lvl xk,T),(lvl yk,T2)] (prB body (j + 1)) els.isEmpty (prB els (j + 1))) = T ++ 32 :: 61 :: 32 :: (T2 ++ [59]):=rfl
           rw [h1] at hst2 hn3
           simp only [List.length_append,List.length_cons,List.length_nil] at hst2
           have HE:Hid (Gives wr 45 #[.agg #[.int .i64 xk,.int .i64 xn,.string (cbs xs),.string (cbs xo),.int .i64 xd,.slice xp xq.length xc,.int .i64 xa,.int .i64 xb,.int .i64 xr,.int .i64 xe,.int .i64 xf]] T):=vH (by rw [hT]; exact zAW (zAF (zAw HSL.out (List.mem_cons_self ..))) hxi (by rw [← hT]; omega))
           have K:=vH (hxk.go X.out.b)
           have HE2:Hid (Gives wr 45 #[.agg #[.int .i64 yk,.int .i64 yn,.string (cbs ys),.string (cbs yo),.int .i64 yd,.slice yp yq.length yc,.int .i64 ya,.int .i64 yb,.int .i64 yr,.int .i64 ye,.int .i64 yf]] T2):=vH (by rw [hT2]; exact zAW (zAF (zAw HSL.out (List.mem_cons_of_mem _ (List.mem_singleton.2 rfl)))) hyi (by rw [← hT2]; omega))
           have L:=vH (hyk.go X.out.b)
           obtain ⟨C0,hC0⟩:∃ C:List UInt8,C = t ++ pad j:=⟨_,rfl⟩
           have hl0:C0.length = t.length + 2 * j:=by rw [hC0,List.length_append,pad_len]
           have hcat:cbs t ++ cbs (pad j) = cbs C0:=by rw [hC0]; exact zAo _ _
           have HC0:=vH hC0
           have HCAT:=vH hcat
           clear hcat
           obtain ⟨C1,hC1⟩:∃ C:List UInt8,C = C0 ++ T:=⟨_,rfl⟩
           have hl1:C1.length = C0.length + T.length:=by rw [hC1,List.length_append] <;> rfl
           have hc1:∀ w':World,(Op.stringOp .add (cbs C0) (cbs T)).run Tryd.prog w' = .ok (.string (cbs C1)) w':=by
            rw [hC1]
            exact zL C0 T (by show C0.length + T.length ≤ _; omega)
           obtain ⟨C2,hC2⟩:∃ C:List UInt8,C = C1 ++ [32,61,32]:=⟨_,rfl⟩
           have hl2:C2.length = C1.length + 3:=by rw [hC2,List.length_append] <;> rfl
           have hc2:∀ w':World,(Op.stringOp .add (cbs C1) (⟨#[32,61,32]⟩:ByteArray)).run Tryd.prog w' = .ok (.string (cbs C2)) w':=by
            rw [hC2]
            exact zL C1 [32,61,32] (by show C1.length + 3 ≤ _; omega)
           obtain ⟨C3,hC3⟩:∃ C:List UInt8,C = C2 ++ T2:=⟨_,rfl⟩
           have hl3:C3.length = C2.length + T2.length:=by rw [hC3,List.length_append] <;> rfl
           have hc3:∀ w':World,(Op.stringOp .add (cbs C2) (cbs T2)).run Tryd.prog w' = .ok (.string (cbs C3)) w':=by
            rw [hC3]
            exact zL C2 T2 (by show C2.length + T2.length ≤ _; omega)
           obtain ⟨C4,hC4⟩:∃ C:List UInt8,C = C3 ++ [59]:=⟨_,rfl⟩
           have hl4:C4.length = C3.length + 1:=by rw [hC4,List.length_append] <;> rfl
           have hc4:∀ w':World,(Op.stringOp .add (cbs C3) (⟨#[59]⟩:ByteArray)).run Tryd.prog w' = .ok (.string (cbs C4)) w':=by
            rw [hC4]
            exact zL C3 [59] (by show C3.length + 1 ≤ _; omega)
           have hz9:(cbs C4).size + (⟨#[10]⟩:ByteArray).size ≤ 9223372036854775807:=by rw [zB]; show C4.length + 1 ≤ _; omega
           have HC1:=vH hC1
           have HC2:=vH hC2
           have HC3:=vH hC3
           have HC4:=vH hC4
           have HN3:=vH hn3
           clear hn3 hst hst2 HN2 h1 hl0 hl4 hl3 hl2 hl1 hC4 hC3 hC2 hC1 hC0 hpl hm1 hm2 hm7 hkd HBE HQE HSL hk0 HBB HQB hxk hxi hT hb2 HP hyk hyi hT2
           go_wp2_with fail
           rw [HCAT.out]
           clear s0 s1 s2 s3 s4 s5 s6 s7 s8
           generalize wr.alloc (.cells #[.int .i64 4,.string (cbs nm),.string (cbs ot),.int .i64 (D:Int),.slice (some ⟨b2,b2o,none⟩) 2 c0,.slice qb body.length cb,.slice qe els.length ce,.int .i64 a,.int .i64 r] 65) = W at X K L ⊢
           replace X:=vH X.out.drew
           replace K:=vH (K.out.go (zAI W))
           replace L:=vH (L.out.go (zAI W))
           go_region_held3 (fun w' => w'.cell? ⟨wr.heap.size,4,none⟩ = some (.slice (some ⟨b2,b2o,none⟩) 2 c0) ∧ w'.cell? ⟨b2,b2o,none⟩ = some (.int .i64 xk) ∧ w'.cell? ⟨b2,b2o + 1,none⟩ = some (.int .i64 xn) ∧ w'.cell? ⟨b2,b2o + 2,none⟩ = some (.string (cbs xs)) ∧ w'.cell? ⟨b2,b2o + 3,none⟩ = some (.string (cbs xo)) ∧ w'.cell? ⟨b2,b2o + 4,none⟩ = some (.int .i64 xd) ∧ w'.cell? ⟨b2,b2o + 5,none⟩ = some (.slice xp xq.length xc) ∧ w'.cell? ⟨b2,b2o + 6,none⟩ = some (.int .i64 xa) ∧ w'.cell? ⟨b2,b2o + 7,none⟩ = some (.int .i64 xb) ∧ w'.cell? ⟨b2,b2o + 8,none⟩ = some (.int .i64 xr) ∧ w'.cell? ⟨b2,b2o + 9,none⟩ = some (.int .i64 xe) ∧ w'.cell? ⟨b2,b2o + 10,none⟩ = some (.int .i64 xf) ∧ w'.cell? ⟨b2,b2o + 11,none⟩ = some (.int .i64 yk) ∧ w'.cell? ⟨b2,b2o + 12,none⟩ = some (.int .i64 yn) ∧ w'.cell? ⟨b2,b2o + 13,none⟩ = some (.string (cbs ys)) ∧ w'.cell? ⟨b2,b2o + 14,none⟩ = some (.string (cbs yo)) ∧ w'.cell? ⟨b2,b2o + 15,none⟩ = some (.int .i64 yd) ∧ w'.cell? ⟨b2,b2o + 16,none⟩ = some (.slice yp yq.length yc) ∧ w'.cell? ⟨b2,b2o + 17,none⟩ = some (.int .i64 ya) ∧ w'.cell? ⟨b2,b2o + 18,none⟩ = some (.int .i64 yb) ∧ w'.cell? ⟨b2,b2o + 19,none⟩ = some (.int .i64 yr) ∧ w'.cell? ⟨b2,b2o + 20,none⟩ = some (.int .i64 ye) ∧ w'.cell? ⟨b2,b2o + 21,none⟩ = some (.int .i64 yf)) (first | exact ⟨(zAj X.out.h).2.2.2.2.1,K.out.1,K.out.2.1,K.out.2.2.1,K.out.2.2.2.1,K.out.2.2.2.2.1,K.out.2.2.2.2.2.1,K.out.2.2.2.2.2.2.1,K.out.2.2.2.2.2.2.2.1,K.out.2.2.2.2.2.2.2.2.1,K.out.2.2.2.2.2.2.2.2.2.1,K.out.2.2.2.2.2.2.2.2.2.2,L.out⟩)
            (first
            | (go_at_call 45; (with_reducible refine Calls.mono (HE.out _ X.out.b) ?_); rintro e u ⟨rfl,hb⟩; have X2:=vH (X.out.go hb); have X:=X2; have K2:=vH (K.out.go hb); have K:=K2; have L2:=vH (L.out.go hb); have L:=L2)
            | (go_at_call 45; (with_reducible refine Calls.mono (HE2.out _ X.out.b) ?_); rintro e u ⟨rfl,hb⟩; have X2:=vH (X.out.go hb); have X:=X2; have K2:=vH (K.out.go hb); have K:=K2; have L2:=vH (L.out.go hb); have L:=L2))
           all_goals
            go_wp2_with fail
            go_roundg m
            case measure => omega
            case rel => exact ⟨i + 1,by have:=HI.out; omega,by first | rfl | simp [hdw],⟨C4 ++ [10],congrArg Value.string (zAo C4 [10]),by rw [← HN3.out,HC4.out,HC3.out,HC2.out,HC1.out,HC0.out]; simp⟩,zH Y.out X.out.b Y.out.size⟩
          ·as_aux_lemma =>
           by_cases hel:els = []
           ·subst hel
            obtain ⟨e,rfl⟩:=zAi (hm1 (by omega))
            obtain ⟨b2,b2o,rfl,hb2,xk,xn,xs,xo,xd,xq,xp,xc,xa,xb,xr,xe,xf,rfl,hxi,hxk⟩:=zAH HP.out (j:=0) rfl 0 rfl
            rw [zG] at hst HN2
            obtain ⟨T,hT⟩:∃ T,T = prE (.mk xk xn xs xo xd xq xa xb xr xe xf):=⟨_,rfl⟩
            have hst2:t.length + (2 * j + (stOf j 5 nm ot D [(lvl xk,T)] (prB body (j + 1)) ([]:List Sm).isEmpty (prB ([]:List Sm) (j + 1))).length) ≤ 1000000000000:=by rw [hT]; exact hst
            have hn3:t ++ (pad j ++ (stOf j 5 nm ot D [(lvl xk,T)] (prB body (j + 1)) ([]:List Sm).isEmpty (prB ([]:List Sm) (j + 1)) ++ [10]) ++ prB (List.drop (i + 1) zs) j) = prB zs j:=by rw [hT]; exact HN2.out
            have h1:(stOf j 5 nm ot D [(lvl xk,T)] (prB body (j + 1)) ([]:List Sm).isEmpty (prB ([]:List Sm) (j + 1))) = [105,102] ++ 32 :: (T ++ 32 :: (blT j (prB body (j + 1)) ++ [])):=rfl
            rw [h1] at hst2 hn3
            unfold blT at hst2 hn3
            obtain ⟨TB,hTB⟩:∃ T,T = prB body (j + 1):=⟨_,rfl⟩
            simp only [List.length_append,List.length_cons,List.length_nil,pad_len] at hst2
            rw [← hTB] at hst2 hn3
            have HTB:Hid (Gives wr 28 #[.slice qb body.length cb,.int .i64 ((j:Int) + 1)] TB):=vH (fun w1 hb => by rw [hTB]; exact HBB.out w1 qb cb ((show SsAt wr 0 qb body from HQB.out).below hb) (by rw [← hTB]; omega))
            have HE:Hid (Gives wr 45 #[.agg #[.int .i64 xk,.int .i64 xn,.string (cbs xs),.string (cbs xo),.int .i64 xd,.slice xp xq.length xc,.int .i64 xa,.int .i64 xb,.int .i64 xr,.int .i64 xe,.int .i64 xf]] T):=vH (by rw [hT]; exact zAW (zAF (zAw HSL.out (List.mem_singleton.2 rfl))) hxi (by rw [← hT]; omega))
            have K:=vH (hxk.go X.out.b)
            obtain ⟨C0,hC0⟩:∃ C:List UInt8,C = t ++ pad j:=⟨_,rfl⟩
            have hl0:C0.length = t.length + 2 * j:=by rw [hC0,List.length_append,pad_len]
            have hcat:cbs t ++ cbs (pad j) = cbs C0:=by rw [hC0]; exact zAo _ _
            have HC0:=vH hC0
            have HCAT:=vH hcat
            clear hcat
            obtain ⟨C1,hC1⟩:∃ C:List UInt8,C = C0 ++ [105,102,32]:=⟨_,rfl⟩
            have hl1:C1.length = C0.length + 3:=by rw [hC1,List.length_append] <;> rfl
            have hc1:∀ w':World,(Op.stringOp .add (cbs C0) (⟨#[105,102,32]⟩:ByteArray)).run Tryd.prog w' = .ok (.string (cbs C1)) w':=by
             rw [hC1]
             exact zL C0 [105,102,32] (by show C0.length + 3 ≤ _; omega)
            obtain ⟨C2,hC2⟩:∃ C:List UInt8,C = C1 ++ T:=⟨_,rfl⟩
            have hl2:C2.length = C1.length + T.length:=by rw [hC2,List.length_append] <;> rfl
            have hc2:∀ w':World,(Op.stringOp .add (cbs C1) (cbs T)).run Tryd.prog w' = .ok (.string (cbs C2)) w':=by
             rw [hC2]
             exact zL C1 T (by show C1.length + T.length ≤ _; omega)
            obtain ⟨C3,hC3⟩:∃ C:List UInt8,C = C2 ++ [32,123,10]:=⟨_,rfl⟩
            have hl3:C3.length = C2.length + 3:=by rw [hC3,List.length_append] <;> rfl
            have hc3:∀ w':World,(Op.stringOp .add (cbs C2) (⟨#[32,123,10]⟩:ByteArray)).run Tryd.prog w' = .ok (.string (cbs C3)) w':=by
             rw [hC3]
             exact zL C2 [32,123,10] (by show C2.length + 3 ≤ _; omega)
            obtain ⟨C4,hC4⟩:∃ C:List UInt8,C = C3 ++ TB:=⟨_,rfl⟩
            have hl4:C4.length = C3.length + TB.length:=by rw [hC4,List.length_append] <;> rfl
            have hc4:∀ w':World,(Op.stringOp .add (cbs C3) (cbs TB)).run Tryd.prog w' = .ok (.string (cbs C4)) w':=by
             rw [hC4]
             exact zL C3 TB (by show C3.length + TB.length ≤ _; omega)
            obtain ⟨C5,hC5⟩:∃ C:List UInt8,C = C4 ++ (pad j):=⟨_,rfl⟩
            have hl5:C5.length = C4.length + (pad j).length:=by rw [hC5,List.length_append] <;> rfl
            have hc5:∀ w':World,(Op.stringOp .add (cbs C4) (cbs (pad j))).run Tryd.prog w' = .ok (.string (cbs C5)) w':=by
             rw [hC5]
             exact zL C4 (pad j) (by show C4.length + (pad j).length ≤ _; omega)
            obtain ⟨C6,hC6⟩:∃ C:List UInt8,C = C5 ++ [125]:=⟨_,rfl⟩
            have hl6:C6.length = C5.length + 1:=by rw [hC6,List.length_append] <;> rfl
            have hc6:∀ w':World,(Op.stringOp .add (cbs C5) (⟨#[125]⟩:ByteArray)).run Tryd.prog w' = .ok (.string (cbs C6)) w':=by
             rw [hC6]
             exact zL C5 [125] (by show C5.length + 1 ≤ _; omega)
            have hz9:(cbs C6).size + (⟨#[10]⟩:ByteArray).size ≤ 9223372036854775807:=by rw [zB]; show C6.length + 1 ≤ _; omega
            have HC1:=vH hC1
            have HC2:=vH hC2
            have HC3:=vH hC3
            have HC4:=vH hC4
            have HC5:=vH hC5
            have HC6:=vH hC6
            have HN3:=vH hn3
            clear hn3 hst hst2 HN2 h1 hl0 hl6 hl5 hl4 hl3 hl2 hl1 hC6 hC5 hC4 hC3 hC2 hC1 hC0 hpl hm1 hm2 hm7 hkd HBE HQE HSL hk0 hTB HBB HQB hxk hxi hT hb2 HP
            have hwr2:wrap64 ((j:Int) + 1) = (j:Int) + 1:=by have:=HD.out; simp [wrap64]; omega
            have hwr:IntKind.i64.wrap ((j:Int) + 1) = (j:Int) + 1:=IntWalk.i64_in _ (by have:=HD.out; clear hwr2; omega)
            go_wp2_with fail
            rw [HCAT.out]
            clear s0 s1 s2 s3 s4 s5 s6 s7 s8
            generalize wr.alloc (.cells #[.int .i64 5,.string (cbs nm),.string (cbs ot),.int .i64 (D:Int),.slice (some ⟨b2,b2o,none⟩) 1 c0,.slice qb body.length cb,.slice qe 0 ce,.int .i64 a,.int .i64 r] 65) = W at X K ⊢
            replace X:=vH X.out.drew
            replace K:=vH (K.out.go (zAI W))
            go_region_held3 (fun w' => w'.cell? ⟨wr.heap.size,4,none⟩ = some (.slice (some ⟨b2,b2o,none⟩) 1 c0) ∧ w'.cell? ⟨wr.heap.size,5,none⟩ = some (.slice qb body.length cb) ∧ w'.cell? ⟨b2,b2o,none⟩ = some (.int .i64 xk) ∧ w'.cell? ⟨b2,b2o + 1,none⟩ = some (.int .i64 xn) ∧ w'.cell? ⟨b2,b2o + 2,none⟩ = some (.string (cbs xs)) ∧ w'.cell? ⟨b2,b2o + 3,none⟩ = some (.string (cbs xo)) ∧ w'.cell? ⟨b2,b2o + 4,none⟩ = some (.int .i64 xd) ∧ w'.cell? ⟨b2,b2o + 5,none⟩ = some (.slice xp xq.length xc) ∧ w'.cell? ⟨b2,b2o + 6,none⟩ = some (.int .i64 xa) ∧ w'.cell? ⟨b2,b2o + 7,none⟩ = some (.int .i64 xb) ∧ w'.cell? ⟨b2,b2o + 8,none⟩ = some (.int .i64 xr) ∧ w'.cell? ⟨b2,b2o + 9,none⟩ = some (.int .i64 xe) ∧ w'.cell? ⟨b2,b2o + 10,none⟩ = some (.int .i64 xf)) (first | exact ⟨(zAj X.out.h).2.2.2.2.1,(zAj X.out.h).2.2.2.2.2.1,K.out⟩)
             (first
             | (go_at_call 45; (with_reducible refine Calls.mono (HE.out _ X.out.b) ?_); rintro e u ⟨rfl,hb⟩; have X2:=vH (X.out.go hb); have X:=X2; have K2:=vH (K.out.go hb); have K:=K2)
             | (go_at_call 28; (with_reducible refine Calls.mono (HTB.out _ X.out.b) ?_); rintro e u ⟨rfl,hb⟩; have X2:=vH (X.out.go hb); have X:=X2; have K2:=vH (K.out.go hb); have K:=K2))
            all_goals
             obtain ⟨n0,n1,n2,n3,n4,n5,n6,n7,n8⟩:=zAj X.out.h
             go_wp2_with fail
             clear hwr hwr2
             go_roundg m
             case measure => omega
             case rel => exact ⟨i + 1,by have:=HI.out; omega,by first | rfl | simp [hdw],⟨C6 ++ [10],congrArg Value.string (zAo C6 [10]),by rw [← HN3.out,HC6.out,HC5.out,HC4.out,HC3.out,HC2.out,HC1.out,HC0.out]; simp⟩,zH Y.out X.out.b Y.out.size⟩
           ·have hps : 0 < els.length:=List.length_pos_iff.2 hel
            have hie:els.isEmpty = false:=by cases els with | nil => exact absurd rfl hel | cons y ys => rfl
            have hpI:decide ((0:Int) < (els.length:Int)) = true:=decide_eq_true (by omega)
            have hpN:decide (0 < els.length) = true:=decide_eq_true hps
            clear hel
            obtain ⟨e,rfl⟩:=zAi (hm1 (by omega))
            obtain ⟨b2,b2o,rfl,hb2,xk,xn,xs,xo,xd,xq,xp,xc,xa,xb,xr,xe,xf,rfl,hxi,hxk⟩:=zAH HP.out (j:=0) rfl 0 rfl
            rw [zG] at hst HN2
            obtain ⟨T,hT⟩:∃ T,T = prE (.mk xk xn xs xo xd xq xa xb xr xe xf):=⟨_,rfl⟩
            have hst2:t.length + (2 * j + (stOf j 5 nm ot D [(lvl xk,T)] (prB body (j + 1)) els.isEmpty (prB els (j + 1))).length) ≤ 1000000000000:=by rw [hT]; exact hst
            have hn3:t ++ (pad j ++ (stOf j 5 nm ot D [(lvl xk,T)] (prB body (j + 1)) els.isEmpty (prB els (j + 1)) ++ [10]) ++ prB (List.drop (i + 1) zs) j) = prB zs j:=by rw [hT]; exact HN2.out
            have h1:(stOf j 5 nm ot D [(lvl xk,T)] (prB body (j + 1)) els.isEmpty (prB els (j + 1))) = [105,102] ++ 32 :: (T ++ 32 :: (blT j (prB body (j + 1)) ++ (32 :: ([101,108,115,101] ++ 32 :: blT j (prB els (j + 1)))))):=by rw [hie]; rfl
            rw [h1] at hst2 hn3
            unfold blT at hst2 hn3
            obtain ⟨TB,hTB⟩:∃ T,T = prB body (j + 1):=⟨_,rfl⟩
            obtain ⟨TE,hTE⟩:∃ T,T = prB els (j + 1):=⟨_,rfl⟩
            simp only [List.length_append,List.length_cons,List.length_nil,pad_len] at hst2
            rw [← hTB] at hst2 hn3
            have HTB:Hid (Gives wr 28 #[.slice qb body.length cb,.int .i64 ((j:Int) + 1)] TB):=vH (fun w1 hb => by rw [hTB]; exact HBB.out w1 qb cb ((show SsAt wr 0 qb body from HQB.out).below hb) (by rw [← hTB]; omega))
            rw [← hTE] at hst2 hn3
            have HTE:Hid (Gives wr 28 #[.slice qe els.length ce,.int .i64 ((j:Int) + 1)] TE):=vH (fun w1 hb => by rw [hTE]; exact HBE.out w1 qe ce ((show SsAt wr 0 qe els from HQE.out).below hb) (by rw [← hTE]; omega))
            have HE:Hid (Gives wr 45 #[.agg #[.int .i64 xk,.int .i64 xn,.string (cbs xs),.string (cbs xo),.int .i64 xd,.slice xp xq.length xc,.int .i64 xa,.int .i64 xb,.int .i64 xr,.int .i64 xe,.int .i64 xf]] T):=vH (by rw [hT]; exact zAW (zAF (zAw HSL.out (List.mem_singleton.2 rfl))) hxi (by rw [← hT]; omega))
            have K:=vH (hxk.go X.out.b)
            obtain ⟨C0,hC0⟩:∃ C:List UInt8,C = t ++ pad j:=⟨_,rfl⟩
            have hl0:C0.length = t.length + 2 * j:=by rw [hC0,List.length_append,pad_len]
            have hcat:cbs t ++ cbs (pad j) = cbs C0:=by rw [hC0]; exact zAo _ _
            have HC0:=vH hC0
            have HCAT:=vH hcat
            clear hcat
            obtain ⟨C1,hC1⟩:∃ C:List UInt8,C = C0 ++ [105,102,32]:=⟨_,rfl⟩
            have hl1:C1.length = C0.length + 3:=by rw [hC1,List.length_append] <;> rfl
            have hc1:∀ w':World,(Op.stringOp .add (cbs C0) (⟨#[105,102,32]⟩:ByteArray)).run Tryd.prog w' = .ok (.string (cbs C1)) w':=by
             rw [hC1]
             exact zL C0 [105,102,32] (by show C0.length + 3 ≤ _; omega)
            obtain ⟨C2,hC2⟩:∃ C:List UInt8,C = C1 ++ T:=⟨_,rfl⟩
            have hl2:C2.length = C1.length + T.length:=by rw [hC2,List.length_append] <;> rfl
            have hc2:∀ w':World,(Op.stringOp .add (cbs C1) (cbs T)).run Tryd.prog w' = .ok (.string (cbs C2)) w':=by
             rw [hC2]
             exact zL C1 T (by show C1.length + T.length ≤ _; omega)
            obtain ⟨C3,hC3⟩:∃ C:List UInt8,C = C2 ++ [32,123,10]:=⟨_,rfl⟩
            have hl3:C3.length = C2.length + 3:=by rw [hC3,List.length_append] <;> rfl
            have hc3:∀ w':World,(Op.stringOp .add (cbs C2) (⟨#[32,123,10]⟩:ByteArray)).run Tryd.prog w' = .ok (.string (cbs C3)) w':=by
             rw [hC3]
             exact zL C2 [32,123,10] (by show C2.length + 3 ≤ _; omega)
            obtain ⟨C4,hC4⟩:∃ C:List UInt8,C = C3 ++ TB:=⟨_,rfl⟩
            have hl4:C4.length = C3.length + TB.length:=by rw [hC4,List.length_append] <;> rfl
            have hc4:∀ w':World,(Op.stringOp .add (cbs C3) (cbs TB)).run Tryd.prog w' = .ok (.string (cbs C4)) w':=by
             rw [hC4]
             exact zL C3 TB (by show C3.length + TB.length ≤ _; omega)
            obtain ⟨C5,hC5⟩:∃ C:List UInt8,C = C4 ++ (pad j):=⟨_,rfl⟩
            have hl5:C5.length = C4.length + (pad j).length:=by rw [hC5,List.length_append] <;> rfl
            have hc5:∀ w':World,(Op.stringOp .add (cbs C4) (cbs (pad j))).run Tryd.prog w' = .ok (.string (cbs C5)) w':=by
             rw [hC5]
             exact zL C4 (pad j) (by show C4.length + (pad j).length ≤ _; omega)
            obtain ⟨C6,hC6⟩:∃ C:List UInt8,C = C5 ++ [125]:=⟨_,rfl⟩
            have hl6:C6.length = C5.length + 1:=by rw [hC6,List.length_append] <;> rfl
            have hc6:∀ w':World,(Op.stringOp .add (cbs C5) (⟨#[125]⟩:ByteArray)).run Tryd.prog w' = .ok (.string (cbs C6)) w':=by
             rw [hC6]
             exact zL C5 [125] (by show C5.length + 1 ≤ _; omega)
            have hz11:(cbs C6).size + (⟨#[32,101,108,115,101,32,123,10]⟩:ByteArray).size ≤ 9223372036854775807:=by simp only [zB]; show C6.length + 8 ≤ _; omega
            have hz12:(cbs C6 ++ (⟨#[32,101,108,115,101,32,123,10]⟩:ByteArray)).size + (cbs TE).size ≤ 9223372036854775807:=by simp only [ByteArray.size_append,zB]; show C6.length + 8 + TE.length ≤ _; omega
            have hz13:(cbs C6 ++ (⟨#[32,101,108,115,101,32,123,10]⟩:ByteArray) ++ cbs TE).size + (cbs (pad j)).size ≤ 9223372036854775807:=by simp only [ByteArray.size_append,zB,pad_len]; show C6.length + 8 + TE.length + 2 * j ≤ _; omega
            have hz14:(cbs C6 ++ (⟨#[32,101,108,115,101,32,123,10]⟩:ByteArray) ++ cbs TE ++ cbs (pad j)).size + (⟨#[125]⟩:ByteArray).size ≤ 9223372036854775807:=by simp only [ByteArray.size_append,zB,pad_len]; show C6.length + 8 + TE.length + 2 * j + 1 ≤ _; omega
            have hz15:(cbs C6 ++ (⟨#[32,101,108,115,101,32,123,10]⟩:ByteArray) ++ cbs TE ++ cbs (pad j) ++ (⟨#[125]⟩:ByteArray)).size + (⟨#[10]⟩:ByteArray).size ≤ 9223372036854775807:=by simp only [ByteArray.size_append,zB,pad_len]; show C6.length + 8 + TE.length + 2 * j + 1 + 1 ≤ _; omega
            have HC1:=vH hC1
            have HC2:=vH hC2
            have HC3:=vH hC3
            have HC4:=vH hC4
            have HC5:=vH hC5
            have HC6:=vH hC6
            have HN3:=vH hn3
            clear hn3 hst hst2 HN2 h1 hl0 hl6 hl5 hl4 hl3 hl2 hl1 hC6 hC5 hC4 hC3 hC2 hC1 hC0 hpl hm1 hm2 hm7 hkd HBE HQE HSL hk0 hTB HBB HQB hTE hxk hxi hT hb2 HP
            have hwr2:wrap64 ((j:Int) + 1) = (j:Int) + 1:=by have:=HD.out; simp [wrap64]; omega
            have hwr:IntKind.i64.wrap ((j:Int) + 1) = (j:Int) + 1:=IntWalk.i64_in _ (by have:=HD.out; clear hwr2; omega)
            go_wp2_with fail
            rw [HCAT.out]
            clear s0 s1 s2 s3 s4 s5 s6 s7 s8
            generalize wr.alloc (.cells #[.int .i64 5,.string (cbs nm),.string (cbs ot),.int .i64 (D:Int),.slice (some ⟨b2,b2o,none⟩) 1 c0,.slice qb body.length cb,.slice qe els.length ce,.int .i64 a,.int .i64 r] 65) = W at X K ⊢
            replace X:=vH X.out.drew
            replace K:=vH (K.out.go (zAI W))
            go_region_held3 (fun w' => w'.cell? ⟨wr.heap.size,4,none⟩ = some (.slice (some ⟨b2,b2o,none⟩) 1 c0) ∧ w'.cell? ⟨wr.heap.size,5,none⟩ = some (.slice qb body.length cb) ∧ w'.cell? ⟨b2,b2o,none⟩ = some (.int .i64 xk) ∧ w'.cell? ⟨b2,b2o + 1,none⟩ = some (.int .i64 xn) ∧ w'.cell? ⟨b2,b2o + 2,none⟩ = some (.string (cbs xs)) ∧ w'.cell? ⟨b2,b2o + 3,none⟩ = some (.string (cbs xo)) ∧ w'.cell? ⟨b2,b2o + 4,none⟩ = some (.int .i64 xd) ∧ w'.cell? ⟨b2,b2o + 5,none⟩ = some (.slice xp xq.length xc) ∧ w'.cell? ⟨b2,b2o + 6,none⟩ = some (.int .i64 xa) ∧ w'.cell? ⟨b2,b2o + 7,none⟩ = some (.int .i64 xb) ∧ w'.cell? ⟨b2,b2o + 8,none⟩ = some (.int .i64 xr) ∧ w'.cell? ⟨b2,b2o + 9,none⟩ = some (.int .i64 xe) ∧ w'.cell? ⟨b2,b2o + 10,none⟩ = some (.int .i64 xf)) (first | exact ⟨(zAj X.out.h).2.2.2.2.1,(zAj X.out.h).2.2.2.2.2.1,K.out⟩)
             (first
             | (go_at_call 45; (with_reducible refine Calls.mono (HE.out _ X.out.b) ?_); rintro e u ⟨rfl,hb⟩; have X2:=vH (X.out.go hb); have X:=X2; have K2:=vH (K.out.go hb); have K:=K2)
             | (go_at_call 28; (with_reducible refine Calls.mono (HTB.out _ X.out.b) ?_); rintro e u ⟨rfl,hb⟩; have X2:=vH (X.out.go hb); have X:=X2; have K2:=vH (K.out.go hb); have K:=K2))
            all_goals
             obtain ⟨n0,n1,n2,n3,n4,n5,n6,n7,n8⟩:=zAj X.out.h
             go_wp2_with fail
             refine (HTE.out _ X.out.b).mono ?_
             rintro e1 u2 ⟨rfl,hb⟩
             have X2:=vH (X.out.go hb)
             clear X
             have X:=X2
             clear X2 hb n0 n1 n2 n3 n4 n5 n6 n7 n8
             go_wp2_with fail
             clear hwr hwr2
             go_roundg m
             case measure => omega
             case rel => exact ⟨i + 1,by have:=HI.out; omega,by first | rfl | simp [hdw],⟨C6 ++ [32,101,108,115,101,32,123,10] ++ TE ++ pad j ++ [125] ++ [10],congrArg Value.string (by show cbs C6 ++ cbs [32,101,108,115,101,32,123,10] ++ cbs TE ++ cbs (pad j) ++ cbs [125] ++ cbs [10] = _; simp only [zAo]),by rw [← HN3.out,HC6.out,HC5.out,HC4.out,HC3.out,HC2.out,HC1.out,HC0.out]; simp⟩,zH Y.out X.out.b Y.out.size⟩
          ·as_aux_lemma =>
           obtain ⟨e,rfl⟩:=zAi (hm1 (by omega))
           obtain ⟨b2,b2o,rfl,hb2,xk,xn,xs,xo,xd,xq,xp,xc,xa,xb,xr,xe,xf,rfl,hxi,hxk⟩:=zAH HP.out (j:=0) rfl 0 rfl
           rw [zG] at hst HN2
           obtain ⟨T,hT⟩:∃ T,T = prE (.mk xk xn xs xo xd xq xa xb xr xe xf):=⟨_,rfl⟩
           have hst2:t.length + (2 * j + (stOf j 6 nm ot D [(lvl xk,T)] (prB body (j + 1)) els.isEmpty (prB els (j + 1))).length) ≤ 1000000000000:=by rw [hT]; exact hst
           have hn3:t ++ (pad j ++ (stOf j 6 nm ot D [(lvl xk,T)] (prB body (j + 1)) els.isEmpty (prB els (j + 1)) ++ [10]) ++ prB (List.drop (i + 1) zs) j) = prB zs j:=by rw [hT]; exact HN2.out
           have h1:(stOf j 6 nm ot D [(lvl xk,T)] (prB body (j + 1)) els.isEmpty (prB els (j + 1))) = [119,104,105,108,101] ++ 32 :: (T ++ 32 :: blT j (prB body (j + 1))):=rfl
           rw [h1] at hst2 hn3
           unfold blT at hst2 hn3
           obtain ⟨TB,hTB⟩:∃ T,T = prB body (j + 1):=⟨_,rfl⟩
           simp only [List.length_append,List.length_cons,List.length_nil,pad_len] at hst2
           rw [← hTB] at hst2 hn3
           have HTB:Hid (Gives wr 28 #[.slice qb body.length cb,.int .i64 ((j:Int) + 1)] TB):=vH (fun w1 hb => by rw [hTB]; exact HBB.out w1 qb cb ((show SsAt wr 0 qb body from HQB.out).below hb) (by rw [← hTB]; omega))
           have HE:Hid (Gives wr 45 #[.agg #[.int .i64 xk,.int .i64 xn,.string (cbs xs),.string (cbs xo),.int .i64 xd,.slice xp xq.length xc,.int .i64 xa,.int .i64 xb,.int .i64 xr,.int .i64 xe,.int .i64 xf]] T):=vH (by rw [hT]; exact zAW (zAF (zAw HSL.out (List.mem_singleton.2 rfl))) hxi (by rw [← hT]; omega))
           have K:=vH (hxk.go X.out.b)
           obtain ⟨C0,hC0⟩:∃ C:List UInt8,C = t ++ pad j:=⟨_,rfl⟩
           have hl0:C0.length = t.length + 2 * j:=by rw [hC0,List.length_append,pad_len]
           have hcat:cbs t ++ cbs (pad j) = cbs C0:=by rw [hC0]; exact zAo _ _
           have HC0:=vH hC0
           have HCAT:=vH hcat
           clear hcat
           obtain ⟨C1,hC1⟩:∃ C:List UInt8,C = C0 ++ [119,104,105,108,101,32]:=⟨_,rfl⟩
           have hl1:C1.length = C0.length + 6:=by rw [hC1,List.length_append] <;> rfl
           have hc1:∀ w':World,(Op.stringOp .add (cbs C0) (⟨#[119,104,105,108,101,32]⟩:ByteArray)).run Tryd.prog w' = .ok (.string (cbs C1)) w':=by
            rw [hC1]
            exact zL C0 [119,104,105,108,101,32] (by show C0.length + 6 ≤ _; omega)
           obtain ⟨C2,hC2⟩:∃ C:List UInt8,C = C1 ++ T:=⟨_,rfl⟩
           have hl2:C2.length = C1.length + T.length:=by rw [hC2,List.length_append] <;> rfl
           have hc2:∀ w':World,(Op.stringOp .add (cbs C1) (cbs T)).run Tryd.prog w' = .ok (.string (cbs C2)) w':=by
            rw [hC2]
            exact zL C1 T (by show C1.length + T.length ≤ _; omega)
           obtain ⟨C3,hC3⟩:∃ C:List UInt8,C = C2 ++ [32,123,10]:=⟨_,rfl⟩
           have hl3:C3.length = C2.length + 3:=by rw [hC3,List.length_append] <;> rfl
           have hc3:∀ w':World,(Op.stringOp .add (cbs C2) (⟨#[32,123,10]⟩:ByteArray)).run Tryd.prog w' = .ok (.string (cbs C3)) w':=by
            rw [hC3]
            exact zL C2 [32,123,10] (by show C2.length + 3 ≤ _; omega)
           obtain ⟨C4,hC4⟩:∃ C:List UInt8,C = C3 ++ TB:=⟨_,rfl⟩
           have hl4:C4.length = C3.length + TB.length:=by rw [hC4,List.length_append] <;> rfl
           have hc4:∀ w':World,(Op.stringOp .add (cbs C3) (cbs TB)).run Tryd.prog w' = .ok (.string (cbs C4)) w':=by
            rw [hC4]
            exact zL C3 TB (by show C3.length + TB.length ≤ _; omega)
           obtain ⟨C5,hC5⟩:∃ C:List UInt8,C = C4 ++ (pad j):=⟨_,rfl⟩
           have hl5:C5.length = C4.length + (pad j).length:=by rw [hC5,List.length_append] <;> rfl
           have hc5:∀ w':World,(Op.stringOp .add (cbs C4) (cbs (pad j))).run Tryd.prog w' = .ok (.string (cbs C5)) w':=by
            rw [hC5]
            exact zL C4 (pad j) (by show C4.length + (pad j).length ≤ _; omega)
           obtain ⟨C6,hC6⟩:∃ C:List UInt8,C = C5 ++ [125]:=⟨_,rfl⟩
           have hl6:C6.length = C5.length + 1:=by rw [hC6,List.length_append] <;> rfl
           have hc6:∀ w':World,(Op.stringOp .add (cbs C5) (⟨#[125]⟩:ByteArray)).run Tryd.prog w' = .ok (.string (cbs C6)) w':=by
            rw [hC6]
            exact zL C5 [125] (by show C5.length + 1 ≤ _; omega)
           have hz9:(cbs C6).size + (⟨#[10]⟩:ByteArray).size ≤ 9223372036854775807:=by rw [zB]; show C6.length + 1 ≤ _; omega
           have HC1:=vH hC1
           have HC2:=vH hC2
           have HC3:=vH hC3
           have HC4:=vH hC4
           have HC5:=vH hC5
           have HC6:=vH hC6
           have HN3:=vH hn3
           clear hn3 hst hst2 HN2 h1 hl0 hl6 hl5 hl4 hl3 hl2 hl1 hC6 hC5 hC4 hC3 hC2 hC1 hC0 hpl hm1 hm2 hm7 hkd HBE HQE HSL hk0 hTB HBB HQB hxk hxi hT hb2 HP
           have hwr2:wrap64 ((j:Int) + 1) = (j:Int) + 1:=by have:=HD.out; simp [wrap64]; omega
           have hwr:IntKind.i64.wrap ((j:Int) + 1) = (j:Int) + 1:=IntWalk.i64_in _ (by have:=HD.out; clear hwr2; omega)
           go_wp2_with fail
           rw [HCAT.out]
           clear s0 s1 s2 s3 s4 s5 s6 s7 s8
           generalize wr.alloc (.cells #[.int .i64 6,.string (cbs nm),.string (cbs ot),.int .i64 (D:Int),.slice (some ⟨b2,b2o,none⟩) 1 c0,.slice qb body.length cb,.slice qe els.length ce,.int .i64 a,.int .i64 r] 65) = W at X K ⊢
           replace X:=vH X.out.drew
           replace K:=vH (K.out.go (zAI W))
           go_region_held3 (fun w' => w'.cell? ⟨wr.heap.size,4,none⟩ = some (.slice (some ⟨b2,b2o,none⟩) 1 c0) ∧ w'.cell? ⟨wr.heap.size,5,none⟩ = some (.slice qb body.length cb) ∧ w'.cell? ⟨b2,b2o,none⟩ = some (.int .i64 xk) ∧ w'.cell? ⟨b2,b2o + 1,none⟩ = some (.int .i64 xn) ∧ w'.cell? ⟨b2,b2o + 2,none⟩ = some (.string (cbs xs)) ∧ w'.cell? ⟨b2,b2o + 3,none⟩ = some (.string (cbs xo)) ∧ w'.cell? ⟨b2,b2o + 4,none⟩ = some (.int .i64 xd) ∧ w'.cell? ⟨b2,b2o + 5,none⟩ = some (.slice xp xq.length xc) ∧ w'.cell? ⟨b2,b2o + 6,none⟩ = some (.int .i64 xa) ∧ w'.cell? ⟨b2,b2o + 7,none⟩ = some (.int .i64 xb) ∧ w'.cell? ⟨b2,b2o + 8,none⟩ = some (.int .i64 xr) ∧ w'.cell? ⟨b2,b2o + 9,none⟩ = some (.int .i64 xe) ∧ w'.cell? ⟨b2,b2o + 10,none⟩ = some (.int .i64 xf)) (first | exact ⟨(zAj X.out.h).2.2.2.2.1,(zAj X.out.h).2.2.2.2.2.1,K.out⟩)
            (first
            | (go_at_call 45; (with_reducible refine Calls.mono (HE.out _ X.out.b) ?_); rintro e u ⟨rfl,hb⟩; have X2:=vH (X.out.go hb); have X:=X2; have K2:=vH (K.out.go hb); have K:=K2)
            | (go_at_call 28; (with_reducible refine Calls.mono (HTB.out _ X.out.b) ?_); rintro e u ⟨rfl,hb⟩; have X2:=vH (X.out.go hb); have X:=X2; have K2:=vH (K.out.go hb); have K:=K2))
           all_goals
            go_wp2_with fail
            clear hwr hwr2
            go_roundg m
            case measure => omega
            case rel => exact ⟨i + 1,by have:=HI.out; omega,by first | rfl | simp [hdw],⟨C6 ++ [10],congrArg Value.string (zAo C6 [10]),by rw [← HN3.out,HC6.out,HC5.out,HC4.out,HC3.out,HC2.out,HC1.out,HC0.out]; simp⟩,zH Y.out X.out.b Y.out.size⟩
          ·as_aux_lemma =>
           have h7:=hm7 rfl
           rcases es with _ | ⟨e,_ | ⟨e2,es⟩⟩
           ·clear h7
            rw [prL] at hst HN2
            have hst2:t.length + (2 * j + (stOf j 7 nm ot D [] (prB body (j + 1)) els.isEmpty (prB els (j + 1))).length) ≤ 1000000000000:=by exact hst
            have hn3:t ++ (pad j ++ (stOf j 7 nm ot D [] (prB body (j + 1)) els.isEmpty (prB els (j + 1)) ++ [10]) ++ prB (List.drop (i + 1) zs) j) = prB zs j:=by exact HN2.out
            have h1:(stOf j 7 nm ot D [] (prB body (j + 1)) els.isEmpty (prB els (j + 1))) = [114,101,116,117,114,110] ++ ([] ++ [59]):=rfl
            rw [h1] at hst2 hn3
            simp only [List.length_append,List.length_cons,List.length_nil] at hst2
            have hz12:(cbs t ++ cbs (pad j)).size + (⟨#[114,101,116,117,114,110]⟩:ByteArray).size ≤ 9223372036854775807:=by simp only [ByteArray.size_append,zB,pad_len]; show t.length + 2 * j + 6 ≤ _; omega
            have hz13:(cbs t ++ cbs (pad j) ++ (⟨#[114,101,116,117,114,110]⟩:ByteArray)).size + (⟨#[59]⟩:ByteArray).size ≤ 9223372036854775807:=by simp only [ByteArray.size_append,zB,pad_len]; show t.length + 2 * j + 6 + 1 ≤ _; omega
            have hz14:(cbs t ++ cbs (pad j) ++ (⟨#[114,101,116,117,114,110]⟩:ByteArray) ++ (⟨#[59]⟩:ByteArray)).size + (⟨#[10]⟩:ByteArray).size ≤ 9223372036854775807:=by simp only [ByteArray.size_append,zB,pad_len]; show t.length + 2 * j + 6 + 1 + 1 ≤ _; omega
            have HN3:=vH hn3
            clear hn3 hst hst2 HN2 h1 hpl hm1 hm2 hm7 hkd HBB HQB HBE HQE HSL HP hk0
            go_wp2_with fail
            go_roundg m
            case measure => omega
            case rel => exact ⟨i + 1,by have:=HI.out; omega,by first | rfl | simp [hdw],⟨t ++ pad j ++ [114,101,116,117,114,110] ++ [59] ++ [10],congrArg Value.string (by show cbs t ++ cbs (pad j) ++ cbs [114,101,116,117,114,110] ++ cbs [59] ++ cbs [10] = _; simp only [zAo]),by rw [← HN3.out]; simp⟩,zH Y.out X.out.b Y.out.size⟩
           ·clear h7
            obtain ⟨b2,b2o,rfl,hb2,xk,xn,xs,xo,xd,xq,xp,xc,xa,xb,xr,xe,xf,rfl,hxi,hxk⟩:=zAH HP.out (j:=0) rfl 0 rfl
            rw [zG] at hst HN2
            obtain ⟨T,hT⟩:∃ T,T = prE (.mk xk xn xs xo xd xq xa xb xr xe xf):=⟨_,rfl⟩
            have hst2:t.length + (2 * j + (stOf j 7 nm ot D [(lvl xk,T)] (prB body (j + 1)) els.isEmpty (prB els (j + 1))).length) ≤ 1000000000000:=by rw [hT]; exact hst
            have hn3:t ++ (pad j ++ (stOf j 7 nm ot D [(lvl xk,T)] (prB body (j + 1)) els.isEmpty (prB els (j + 1)) ++ [10]) ++ prB (List.drop (i + 1) zs) j) = prB zs j:=by rw [hT]; exact HN2.out
            have h1:(stOf j 7 nm ot D [(lvl xk,T)] (prB body (j + 1)) els.isEmpty (prB els (j + 1))) = [114,101,116,117,114,110] ++ ((32 :: T) ++ [59]):=rfl
            rw [h1] at hst2 hn3
            simp only [List.length_append,List.length_cons,List.length_nil] at hst2
            have X2:Hid (Bxp wr (wr.alloc (.cells #[.int .i64 7,.string (cbs nm),.string (cbs ot),.int .i64 (D:Int),.slice (some ⟨b2,b2o,none⟩) 1 c0,.slice qb body.length cb,.slice qe els.length ce,.int .i64 a,.int .i64 r] 65)) 65 #[.int .i64 7,.string (cbs nm),.string (cbs ot),.int .i64 (D:Int),.slice (some ⟨b2,b2o,none⟩) 1 c0,.slice qb body.length cb,.slice qe els.length ce,.int .i64 a,.int .i64 r]):=X
            clear X
            have X:=X2
            clear X2
            have HE:Hid (Gives wr 45 #[.agg #[.int .i64 xk,.int .i64 xn,.string (cbs xs),.string (cbs xo),.int .i64 xd,.slice xp xq.length xc,.int .i64 xa,.int .i64 xb,.int .i64 xr,.int .i64 xe,.int .i64 xf]] T):=vH (by rw [hT]; exact zAW (zAF (zAw HSL.out (List.mem_singleton.2 rfl))) hxi (by rw [← hT]; omega))
            have K:=vH (hxk.go X.out.b)
            have hz12:(cbs t ++ cbs (pad j)).size + (⟨#[114,101,116,117,114,110]⟩:ByteArray).size ≤ 9223372036854775807:=by simp only [ByteArray.size_append,zB,pad_len]; show t.length + 2 * j + 6 ≤ _; omega
            have hz13:(cbs t ++ cbs (pad j) ++ (⟨#[114,101,116,117,114,110]⟩:ByteArray)).size + (⟨#[32]⟩:ByteArray).size ≤ 9223372036854775807:=by simp only [ByteArray.size_append,zB,pad_len]; show t.length + 2 * j + 6 + 1 ≤ _; omega
            have hz14:(cbs t ++ cbs (pad j) ++ (⟨#[114,101,116,117,114,110]⟩:ByteArray) ++ (⟨#[32]⟩:ByteArray)).size + (cbs T).size ≤ 9223372036854775807:=by simp only [ByteArray.size_append,zB,pad_len]; show t.length + 2 * j + 6 + 1 + T.length ≤ _; omega
            have hz15:(cbs t ++ cbs (pad j) ++ (⟨#[114,101,116,117,114,110]⟩:ByteArray) ++ (⟨#[32]⟩:ByteArray) ++ cbs T).size + (⟨#[59]⟩:ByteArray).size ≤ 9223372036854775807:=by simp only [ByteArray.size_append,zB,pad_len]; show t.length + 2 * j + 6 + 1 + T.length + 1 ≤ _; omega
            have hz16:(cbs t ++ cbs (pad j) ++ (⟨#[114,101,116,117,114,110]⟩:ByteArray) ++ (⟨#[32]⟩:ByteArray) ++ cbs T ++ (⟨#[59]⟩:ByteArray)).size + (⟨#[10]⟩:ByteArray).size ≤ 9223372036854775807:=by simp only [ByteArray.size_append,zB,pad_len]; show t.length + 2 * j + 6 + 1 + T.length + 1 + 1 ≤ _; omega
            have HN3:=vH hn3
            have hne:b2 ≠ wr.heap.size:=Nat.ne_of_lt hb2
            obtain ⟨x0,x1,x2,x3,x4,x5,x6,x7,x8,x9,xX⟩:Kd _ b2 b2o xk xn xs xo xd (.slice xp xq.length xc) xa xb xr xe xf:=K.out
            clear hn3 hst hst2 HN2 h1 hpl hm1 hm2 hm7 hkd HBB HQB HBE HQE HSL HP hk0 hxk hxi hT hb2
            go_wp2_with fail
            refine (HE.out _ X.out.b).mono ?_
            rintro e1 u ⟨rfl,hb⟩
            have X2:=vH (X.out.go hb)
            clear X
            have X:=X2
            clear X2 hb x0 x1 x2 x3 x4 x5 x6 x7 x8 x9 xX s0 s1 s2 s3 s4 s5 s6 s7 s8
            go_wp2_with fail
            go_roundg m
            case measure => omega
            case rel => exact ⟨i + 1,by have:=HI.out; omega,by first | rfl | simp [hdw],⟨t ++ pad j ++ [114,101,116,117,114,110] ++ [32] ++ T ++ [59] ++ [10],congrArg Value.string (by show cbs t ++ cbs (pad j) ++ cbs [114,101,116,117,114,110] ++ cbs [32] ++ cbs T ++ cbs [59] ++ cbs [10] = _; simp only [zAo]),by rw [← HN3.out]; simp⟩,zH Y.out X.out.b Y.out.size⟩
           ·simp at h7
          ·as_aux_lemma =>
           obtain ⟨e,rfl⟩:=zAi (hm1 (by omega))
           obtain ⟨b2,b2o,rfl,hb2,xk,xn,xs,xo,xd,xq,xp,xc,xa,xb,xr,xe,xf,rfl,hxi,hxk⟩:=zAH HP.out (j:=0) rfl 0 rfl
           rw [zG] at hst HN2
           obtain ⟨T,hT⟩:∃ T,T = prE (.mk xk xn xs xo xd xq xa xb xr xe xf):=⟨_,rfl⟩
           have hst2:t.length + (2 * j + (stOf j 8 nm ot D [(lvl xk,T)] (prB body (j + 1)) els.isEmpty (prB els (j + 1))).length) ≤ 1000000000000:=by rw [hT]; exact hst
           have hn3:t ++ (pad j ++ (stOf j 8 nm ot D [(lvl xk,T)] (prB body (j + 1)) els.isEmpty (prB els (j + 1)) ++ [10]) ++ prB (List.drop (i + 1) zs) j) = prB zs j:=by rw [hT]; exact HN2.out
           have h1:(stOf j 8 nm ot D [(lvl xk,T)] (prB body (j + 1)) els.isEmpty (prB els (j + 1))) = [112,114,105,110,116] ++ 32 :: (T ++ [59]):=rfl
           rw [h1] at hst2 hn3
           simp only [List.length_append,List.length_cons,List.length_nil] at hst2
           have X2:Hid (Bxp wr (wr.alloc (.cells #[.int .i64 8,.string (cbs nm),.string (cbs ot),.int .i64 (D:Int),.slice (some ⟨b2,b2o,none⟩) 1 c0,.slice qb body.length cb,.slice qe els.length ce,.int .i64 a,.int .i64 r] 65)) 65 #[.int .i64 8,.string (cbs nm),.string (cbs ot),.int .i64 (D:Int),.slice (some ⟨b2,b2o,none⟩) 1 c0,.slice qb body.length cb,.slice qe els.length ce,.int .i64 a,.int .i64 r]):=X
           clear X
           have X:=X2
           clear X2
           have HE:Hid (Gives wr 45 #[.agg #[.int .i64 xk,.int .i64 xn,.string (cbs xs),.string (cbs xo),.int .i64 xd,.slice xp xq.length xc,.int .i64 xa,.int .i64 xb,.int .i64 xr,.int .i64 xe,.int .i64 xf]] T):=vH (by rw [hT]; exact zAW (zAF (zAw HSL.out (List.mem_singleton.2 rfl))) hxi (by rw [← hT]; omega))
           have K:=vH (hxk.go X.out.b)
           have hz12:(cbs t ++ cbs (pad j)).size + (⟨#[112,114,105,110,116,32]⟩:ByteArray).size ≤ 9223372036854775807:=by simp only [ByteArray.size_append,zB,pad_len]; show t.length + 2 * j + 6 ≤ _; omega
           have hz13:(cbs t ++ cbs (pad j) ++ (⟨#[112,114,105,110,116,32]⟩:ByteArray)).size + (cbs T).size ≤ 9223372036854775807:=by simp only [ByteArray.size_append,zB,pad_len]; show t.length + 2 * j + 6 + T.length ≤ _; omega
           have hz14:(cbs t ++ cbs (pad j) ++ (⟨#[112,114,105,110,116,32]⟩:ByteArray) ++ cbs T).size + (⟨#[59]⟩:ByteArray).size ≤ 9223372036854775807:=by simp only [ByteArray.size_append,zB,pad_len]; show t.length + 2 * j + 6 + T.length + 1 ≤ _; omega
           have hz15:(cbs t ++ cbs (pad j) ++ (⟨#[112,114,105,110,116,32]⟩:ByteArray) ++ cbs T ++ (⟨#[59]⟩:ByteArray)).size + (⟨#[10]⟩:ByteArray).size ≤ 9223372036854775807:=by simp only [ByteArray.size_append,zB,pad_len]; show t.length + 2 * j + 6 + T.length + 1 + 1 ≤ _; omega
           have HN3:=vH hn3
           have hne:b2 ≠ wr.heap.size:=Nat.ne_of_lt hb2
           obtain ⟨x0,x1,x2,x3,x4,x5,x6,x7,x8,x9,xX⟩:Kd _ b2 b2o xk xn xs xo xd (.slice xp xq.length xc) xa xb xr xe xf:=K.out
           clear hn3 hst hst2 HN2 h1 hpl hm1 hm2 hm7 hkd HBB HQB HBE HQE HSL HP hk0 hxk hxi hT hb2
           go_wp2_with fail
           refine (HE.out _ X.out.b).mono ?_
           rintro e1 u ⟨rfl,hb⟩
           have X2:=vH (X.out.go hb)
           clear X
           have X:=X2
           clear X2 hb x0 x1 x2 x3 x4 x5 x6 x7 x8 x9 xX s0 s1 s2 s3 s4 s5 s6 s7 s8
           go_wp2_with fail
           go_roundg m
           case measure => omega
           case rel => exact ⟨i + 1,by have:=HI.out; omega,by first | rfl | simp [hdw],⟨t ++ pad j ++ [112,114,105,110,116,32] ++ T ++ [59] ++ [10],congrArg Value.string (by show cbs t ++ cbs (pad j) ++ cbs [112,114,105,110,116,32] ++ cbs T ++ cbs [59] ++ cbs [10] = _; simp only [zAo]),by rw [← HN3.out]; simp⟩,zH Y.out X.out.b Y.out.size⟩
          ·as_aux_lemma =>
           obtain ⟨e,rfl⟩:=zAi (hm1 (by omega))
           obtain ⟨b2,b2o,rfl,hb2,xk,xn,xs,xo,xd,xq,xp,xc,xa,xb,xr,xe,xf,rfl,hxi,hxk⟩:=zAH HP.out (j:=0) rfl 0 rfl
           rw [zG] at hst HN2
           obtain ⟨T,hT⟩:∃ T,T = prE (.mk xk xn xs xo xd xq xa xb xr xe xf):=⟨_,rfl⟩
           have hst2:t.length + (2 * j + (stOf j 9 nm ot D [(lvl xk,T)] (prB body (j + 1)) els.isEmpty (prB els (j + 1))).length) ≤ 1000000000000:=by rw [hT]; exact hst
           have hn3:t ++ (pad j ++ (stOf j 9 nm ot D [(lvl xk,T)] (prB body (j + 1)) els.isEmpty (prB els (j + 1)) ++ [10]) ++ prB (List.drop (i + 1) zs) j) = prB zs j:=by rw [hT]; exact HN2.out
           have h1:(stOf j 9 nm ot D [(lvl xk,T)] (prB body (j + 1)) els.isEmpty (prB els (j + 1))) = T ++ [59]:=rfl
           rw [h1] at hst2 hn3
           simp only [List.length_append,List.length_cons,List.length_nil] at hst2
           have X2:Hid (Bxp wr (wr.alloc (.cells #[.int .i64 9,.string (cbs nm),.string (cbs ot),.int .i64 (D:Int),.slice (some ⟨b2,b2o,none⟩) 1 c0,.slice qb body.length cb,.slice qe els.length ce,.int .i64 a,.int .i64 r] 65)) 65 #[.int .i64 9,.string (cbs nm),.string (cbs ot),.int .i64 (D:Int),.slice (some ⟨b2,b2o,none⟩) 1 c0,.slice qb body.length cb,.slice qe els.length ce,.int .i64 a,.int .i64 r]):=X
           clear X
           have X:=X2
           clear X2
           have HE:Hid (Gives wr 45 #[.agg #[.int .i64 xk,.int .i64 xn,.string (cbs xs),.string (cbs xo),.int .i64 xd,.slice xp xq.length xc,.int .i64 xa,.int .i64 xb,.int .i64 xr,.int .i64 xe,.int .i64 xf]] T):=vH (by rw [hT]; exact zAW (zAF (zAw HSL.out (List.mem_singleton.2 rfl))) hxi (by rw [← hT]; omega))
           have K:=vH (hxk.go X.out.b)
           have hz12:(cbs t ++ cbs (pad j)).size + (cbs T).size ≤ 9223372036854775807:=by simp only [ByteArray.size_append,zB,pad_len]; show t.length + 2 * j + T.length ≤ _; omega
           have hz13:(cbs t ++ cbs (pad j) ++ cbs T).size + (⟨#[59]⟩:ByteArray).size ≤ 9223372036854775807:=by simp only [ByteArray.size_append,zB,pad_len]; show t.length + 2 * j + T.length + 1 ≤ _; omega
           have hz14:(cbs t ++ cbs (pad j) ++ cbs T ++ (⟨#[59]⟩:ByteArray)).size + (⟨#[10]⟩:ByteArray).size ≤ 9223372036854775807:=by simp only [ByteArray.size_append,zB,pad_len]; show t.length + 2 * j + T.length + 1 + 1 ≤ _; omega
           have HN3:=vH hn3
           have hne:b2 ≠ wr.heap.size:=Nat.ne_of_lt hb2
           obtain ⟨x0,x1,x2,x3,x4,x5,x6,x7,x8,x9,xX⟩:Kd _ b2 b2o xk xn xs xo xd (.slice xp xq.length xc) xa xb xr xe xf:=K.out
           clear hn3 hst hst2 HN2 h1 hpl hm1 hm2 hm7 hkd HBB HQB HBE HQE HSL HP hk0 hxk hxi hT hb2
           go_wp2_with fail
           refine (HE.out _ X.out.b).mono ?_
           rintro e1 u ⟨rfl,hb⟩
           have X2:=vH (X.out.go hb)
           clear X
           have X:=X2
           clear X2 hb x0 x1 x2 x3 x4 x5 x6 x7 x8 x9 xX s0 s1 s2 s3 s4 s5 s6 s7 s8
           go_wp2_with fail
           go_roundg m
           case measure => omega
           case rel => exact ⟨i + 1,by have:=HI.out; omega,by first | rfl | simp [hdw],⟨t ++ pad j ++ T ++ [59] ++ [10],congrArg Value.string (by show cbs t ++ cbs (pad j) ++ cbs T ++ cbs [59] ++ cbs [10] = _; simp only [zAo]),by rw [← HN3.out]; simp⟩,zH Y.out X.out.b Y.out.size⟩
end Go.Proofs.YteadgahhchlgeaaDoor
