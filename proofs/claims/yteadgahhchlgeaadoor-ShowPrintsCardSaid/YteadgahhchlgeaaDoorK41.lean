/-
  The project's writer of expressions: calls; the whole; Expr.
-/
import Derived.Test.YteadgahhchlgeaaDoorK02
import Derived.Test.YteadgahhchlgeaaDoorK23
import Derived.Test.YteadgahhchlgeaaDoorK40
set_option maxRecDepth 8000
set_option maxHeartbeats 8000000
namespace Go.Proofs.YteadgahhchlgeaaDoor
open Go.RowKit
open Pe (Ex)
open Ps (kindOf)
open Go.Lib (decDigits)
open Rt (tyB lvl opT prW prE prL prOf prM prA shE shL shK kd zAw zG zAC)
theorem zME {b:Nat}{n:Int}{w0 w1:World}(hS:Sta b w0 w1){bl off:Nat}{ek en:Int}{es eo:List UInt8}{ed:Int}{p:Option Addr}{c:Nat}{ea eb er ee ef:Int}{ks:List Ex}(hk:Kd w0 bl off ek en es eo ed (.slice p ks.length c) ea eb er ee ef)(hn:ks.length ≤ 100000000000000)
 (hO:∀ (j:Nat) (x:Ex),ks[j]? = some x → GivW b n w1 59 #[.pointer (some ⟨b,0,none⟩),.pointer (some ⟨bl,off,none⟩),.int .i64 (j:Int),.int .i64 1] (prE x)) :
 GivW b n w1 60 #[.pointer (some ⟨b,0,none⟩),.pointer (some ⟨bl,off,none⟩)] (es ++ 40 :: (prA (prL ks) ++ [41])):=by
 intro l w hW hlen
 have hlen2:=hlen
 simp only [List.length_cons,List.length_append,List.length_nil] at hlen2
 have HL:=vH hlen2
 have h1:l.length + (es.length + ([40]:List UInt8).length) ≤ 70368744177664:=by
  simp only [List.length_cons,List.length_nil]
  omega
 have H1:=vH h1
 have HO:=vH hO
 have HN:=vH hn
 have F:=vH hW
 have K:=vH hk
 have S:=vH hS
 obtain ⟨x0,x1,x2,x3,x4,x5,x6,x7,x8,x9,xX⟩:=K.out.go (S.out.up F.out)
 clear hW hlen hlen2 hk hS h1 hO hn
 go_in
 go_wp2_with fail
 refine (zRk es [40] F.out H1.out).mono ?_
 rintro e u ⟨rfl,hW2⟩
 have F2:=vH hW2
 clear hW2 F x0 x1 x2 x3 x4 x5 x6 x7 x8 x9 xX
 obtain ⟨x0,x1,x2,x3,x4,x5,x6,x7,x8,x9,xX⟩:=K.out.go (S.out.up F2.out)
 go_wp2_with fail
 go_loopg [17] ks.length (fun g v wr => ∃ j:Nat,g + j = ks.length ∧ v = .int .i64 (j:Int) ∧ ∃ t:List UInt8,Ws b t n w1 wr ∧ t ++ restC ks j = l ++ (es ++ 40 :: prA (prL ks)))
 case atStart => exact ⟨0,rfl,rfl,_,F2.out,by show l ++ (es ++ [40]) ++ prA (prL ks) = _; simp⟩
 case round =>
  obtain ⟨j,hj,rfl,t,hF,ht⟩:=hrel
  clear x0 x1 x2 x3 x4 x5 x6 x7 x8 x9 xX
  have F3:=vH hF
  have HT:=vH ht
  have HJ:=vH hj
  cases gk with
  | zero =>
    obtain rfl:j = ks.length:=by omega
    have h9:=ht
    rw [zHi,List.append_nil] at h9
    have h2:t.length + ([41]:List UInt8).length ≤ 70368744177664:=by
        rw [h9]
        have:=HL.out
        simp only [List.length_cons,List.length_append,List.length_nil]
        omega
    have H2:=vH h2
    have H9:=vH h9
    have hd1:decide ((ks.length:Int) < (ks.length:Int)) = false:=decide_eq_false (by omega)
    clear hF ht hj h2 h9
    go_wp2_with fail
    refine (zBG [41] F3.out H2.out).mono ?_
    rintro e u ⟨rfl,hW2⟩
    have F4:=vH hW2
    clear hW2
    go_wp2_with fail
    go_end0
    exact ⟨rfl,F4.out.cast (by rw [H9.out]; simp)⟩
  | succ m =>
    have hjl:j < ks.length:=by omega
    have hd1:decide ((j:Int) < (ks.length:Int)) = true:=decide_eq_true (by omega)
    have hdw:wrap64 ((j:Int) + 1) = ((j + 1:Nat):Int):=by have:=HN.out; simp [wrap64]; omega
    have hd4:ks.drop j = ks[j] :: ks.drop (j + 1):=List.drop_eq_getElem_cons hjl
    have HE:=vH (HO.out j _ (List.getElem?_eq_getElem hjl))
    generalize ks[j] = e1 at hd4 HE
    have HD:=vH hd4
    by_cases hj0:j = 0
    ·subst hj0
     have hn2:=ht
     rw [zFL hd4] at hn2
     have h2:t.length + (prE e1).length ≤ 70368744177664:=by
      have h3:=congrArg List.length hn2
      simp only [List.length_append,List.length_cons] at h3
      have:=HL.out
      omega
     have H2:=vH h2
     have HN2:=vH hn2
     clear hF ht hj h2 hd4 hn2
     go_wp2_with fail
     refine (HE.out _ _ F3.out H2.out).mono ?_
     rintro e u ⟨rfl,hW2⟩
     have F4:=vH hW2
     clear hW2
     go_wp2_with fail
     go_roundg m
     case measure => omega
     case rel => exact ⟨1,by have:=HJ.out; omega,by first | rfl | simp [hdw],_,F4.out,by rw [← HN2.out]; simp⟩
    ·have hn2:=ht
     rw [zFM hj0 hd4] at hn2
     have h3:=congrArg List.length hn2
     simp only [List.length_append,List.length_cons,List.length_nil] at h3
     have h2:t.length + ([44,32]:List UInt8).length ≤ 70368744177664:=by
      simp only [List.length_cons,List.length_nil]
      have:=HL.out
      omega
     have h4:(t ++ [44,32]).length + (prE e1).length ≤ 70368744177664:=by
      simp only [List.length_append,List.length_cons,List.length_nil]
      have:=HL.out
      omega
     have H2:=vH h2
     have H4:=vH h4
     have HN2:=vH hn2
     have hd5:decide (0 < j) = true:=decide_eq_true (by omega)
     have hd6:decide ((0:Int) < (j:Int)) = true:=decide_eq_true (by omega)
     clear hF ht hj h2 h3 h4 hd4 hn2 hj0
     go_wp2_with fail
     refine (zBG [44,32] F3.out H2.out).mono ?_
     rintro e u ⟨rfl,hW2⟩
     have F4:=vH hW2
     clear hW2
     go_wp2_with fail
     refine (HE.out _ _ F4.out H4.out).mono ?_
     rintro e u ⟨rfl,hW2⟩
     have F5:=vH hW2
     clear hW2
     go_wp2_with fail
     go_roundg m
     case measure => omega
     case rel => exact ⟨j + 1,by have:=HJ.out; omega,by first | rfl | simp [hdw],_,F5.out,by rw [← HN2.out]; simp⟩
theorem zK1 (k:Int)(t:List UInt8):prW 1 (lvl k,t) = t:=by
 have:¬ lvl k < 1:=by
  unfold lvl
  repeat' split
  all_goals decide
 unfold prW
 rw [if_neg this]
theorem zRO:∀ (m:Nat)(x:Ex),SizeOf.sizeOf x ≤ m → shE x → XOk x:=by
 intro m
 induction m with
 | zero => intro x h; cases x; simp at h
 | succ m ih =>
   intro x hs hsh b n w0 w1 bl off hS hA
   obtain ⟨ek,en,es,eo,ed,ks,ea,eb,er,ee,ef⟩:=x
   obtain ⟨hbl,vs,hi,hc⟩:=hA
   obtain ⟨p,c,rfl,hp⟩:=hi.kids
   have hk:Kd w0 bl off ek en es eo ed (.slice p ks.length c) ea eb er ee ef:=zB4 hc
   rw [shE] at hsh
   obtain ⟨⟨hk0,hk1,hk2,hkd,hk8,hm1,hm2⟩,hsl⟩:=hsh
   have hr:∀ x ∈ ks,XOk x:=fun x hx => ih x (by have:=zFF hx ek en es eo ed ea eb er ee ef; omega) (zAw hsl hx)
   clear hi hc hs ih
   have ho:∀ (hl:ks.length ≤ 100000000000000) (j:Nat) (x:Ex),ks[j]? = some x → ∀ (q:Nat),GivW b n w1 59 #[.pointer (some ⟨b,0,none⟩),.pointer (some ⟨bl,off,none⟩),.int .i64 (j:Int),.int .i64 (q:Int)] (prW q (lvl (kindOf x),prE x)):=
    fun hl j x hx q => zGE hS c p hp hk hl j hx (hr _ (List.mem_of_getElem? hx)) q
   have h1l:(1:Nat) ≤ 100000000000000:=by decide
   have h2l:(2:Nat) ≤ 100000000000000:=by decide
   rw [prE]
   have hcs:ek = 1 ∨ ek = 2 ∨ ek = 3 ∨ ek = 4 ∨ ek = 5 ∨ ek = 6 ∨ ek = 7 ∨ ek = 8 ∨ ek = 9 ∨ ek = 10 ∨ ek = 11 ∨ ek = 12 ∨ ek = 13 ∨ 14 ≤ ek:=by omega
   rcases hcs with rfl | rfl | rfl | rfl | rfl | rfl | rfl | rfl | rfl | rfl | rfl | rfl | rfl | hk14
   ·obtain ⟨N,rfl⟩:=Int.eq_ofNat_of_zero_le (hk1 rfl).1
    exact zRR hS N (by have:=(hk1 rfl).2; omega) hk
   ·rcases hk2 rfl with rfl | rfl
    ·exact zRW hS hk
    ·exact zRQ hS hk
   ·obtain ⟨D,rfl⟩:=Int.eq_ofNat_of_zero_le hkd.1
    exact zPq hS (tyB eo D) (zOr eo D (by omega)) hk
   ·exact zRP hS hk
   ·obtain ⟨x,rfl⟩:=zAi (hm1 (by omega))
    rw [zG]
    exact zNk hS _ (ho h1l 0 x rfl 7) hk
   ·obtain ⟨x,y,rfl⟩:=zCa (hm2 (by omega))
    rw [zAC]
    exact zPs hS _ _ (ho h2l 0 x rfl 7) (by have:=ho h2l 1 y rfl 1; rw [zK1] at this; exact this) hk
   ·by_cases hl:ks.length ≤ 100000000000000
    ·exact zPt hS _ (zME hS hk hl fun j x hx => by have:=ho hl j x hx 1; rw [zK1] at this; exact this) hk
    ·intro l w hW hlen
     exact absurd hl (by
      have h2:(es ++ 40 :: (prA (prL ks) ++ [41])).length ≤ 70368744177664:=by
       have h3:l.length + (es ++ 40 :: (prA (prL ks) ++ [41])).length ≤ 70368744177664:=hlen
       omega
      have h4:=zMX (prL ks)
      rw [zCW] at h4
      simp only [List.length_append,List.length_cons,List.length_nil] at h2
      omega)
   ·obtain rfl:=hk8 rfl
    exact zRT hS eo (by have:=zOr (b:=b) (n:=n) (w1:=w1) eo 0 (by decide); rw [show tyB eo 0 = eo by unfold tyB; simp] at this; exact this) hk
   ·obtain ⟨D,rfl⟩:=Int.eq_ofNat_of_zero_le hkd.1
    obtain ⟨x,rfl⟩:=zAi (hm1 (by omega))
    rw [zG]
    exact zPr hS _ (tyB eo D) (zOr eo D (by omega)) (by have:=ho h1l 0 x rfl 1; rw [zK1] at this; exact this) hk
   ·obtain ⟨x,rfl⟩:=zAi (hm1 (by omega))
    rw [zG]
    exact zRV hS _ (by have:=ho h1l 0 x rfl 1; rw [zK1] at this; exact this) hk
   ·exact zPp hS hk
   ·obtain ⟨x,rfl⟩:=zAi (hm1 (by omega))
    rw [zG]
    exact zRU hS _ (zSs hS _ (ho h1l 0 x rfl 6) hk) hk
   ·obtain ⟨x,rfl⟩:=zAi (hm1 (by omega))
    rw [zG]
    exact zRS hS _ (zSr hS _ (ho h1l 0 x rfl 6) hk) hk
   ·obtain ⟨x,y,rfl⟩:=zCa (hm2 (by omega))
    rw [zAC]
    obtain ⟨j,rfl⟩:=Int.eq_ofNat_of_zero_le (show 0 ≤ ek by omega)
    have hpr:prOf (j:Int) en es eo ed [(lvl (kindOf x),prE x),(lvl (kindOf y),prE y)] = prW (lvl j) (lvl (kindOf x),prE x) ++ 32 :: (opT j ++ 32 :: prW (lvl j + 1) (lvl (kindOf y),prE y)):=by
        unfold prOf
        rw [if_neg (by omega),if_neg (by omega),if_neg (by omega),if_neg (by omega),if_neg (by omega),if_neg (by omega),if_neg (by omega),if_neg (by omega),if_neg (by omega),if_neg (by omega),if_neg (by omega),if_neg (by omega),if_neg (by omega)]
        rfl
    rw [hpr]
    exact zRX hS j hk14 (by omega) _ (zTf hS j (by omega) (lvl j) _ _ (opT j) (zFV j) (fun w => zCG w j) (by have:=zPN hk14 (by omega); rw [Int.toNat_natCast] at this; exact this) (ho h2l 0 x rfl (lvl j)) (ho h2l 1 y rfl (lvl j + 1)) hk) hk
theorem zNj {x:Ex}(h:shE x):XOk x:=zRO _ x (Nat.le_refl _) h
theorem zPJ {w:World}(he:EnvS w)(A:Array Value)(T:TypeId):Sta (w.heap.size + 1) (w.alloc (.cells A T)) ((w.alloc (.cells A T)).alloc (.cells #[.pointer none,.slice none 0 0,.int .i64 0] 89)):=
 ⟨by rw [zC]; omega,(Below.refl _ _).alloc (Nat.le_refl _) _,he.below ((Below.refl _ _).alloc (Nat.le_refl _) _)⟩
theorem zKK (w:World)(xk xn:Int)(xs xo:List UInt8)(xd:Int)(xv:Value)(xa xb xr xe xf:Int)(T:List UInt8)(hl:T.length ≤ 70368744177664)
 (hG:GivW (w.heap.size + 1) 0 ((w.alloc (.cells #[.int .i64 xk,.int .i64 xn,.string (cbs xs),.string (cbs xo),.int .i64 xd,xv,.int .i64 xa,.int .i64 xb,.int .i64 xr,.int .i64 xe,.int .i64 xf] 45)).alloc (.cells #[.pointer none,.slice none 0 0,.int .i64 0] 89)) 33 #[.pointer (some ⟨w.heap.size + 1,0,none⟩),.pointer (some ⟨w.heap.size,0,none⟩)] T) :
 Calls Tryd.prog 13 #[.agg #[.int .i64 xk,.int .i64 xn,.string (cbs xs),.string (cbs xo),.int .i64 xd,xv,.int .i64 xa,.int .i64 xb,.int .i64 xr,.int .i64 xe,.int .i64 xf]] w fun e w' => e = .returned (.string (cbs T)) ∧ Below w.heap.size w w':=by
 have hf:=Ws.fresh1 w (.cells #[.int .i64 xk,.int .i64 xn,.string (cbs xs),.string (cbs xo),.int .i64 xd,xv,.int .i64 xa,.int .i64 xb,.int .i64 xr,.int .i64 xe,.int .i64 xf] 45)
 have HX:=vH (hG [] _ hf (by simp; omega))
 have HB:=vH ((Below.refl w.heap.size w).alloc (Nat.le_refl _) (.cells #[.int .i64 xk,.int .i64 xn,.string (cbs xs),.string (cbs xo),.int .i64 xd,xv,.int .i64 xa,.int .i64 xb,.int .i64 xr,.int .i64 xe,.int .i64 xf] 45))
 clear hG hf hl
 go_in
 go_wp2_with fail
 refine HX.out.mono ?_
 rintro e w1 ⟨rfl,h1⟩
 have H1:=vH h1
 clear h1 HX
 go_wp2_with fail
 refine (zCM _ _ _ _ H1.out.is).mono ?_
 rintro e w2 ⟨rfl,hb⟩
 have HB2:=vH (HB.out.trans ((((Below.refl _ _).alloc (Nat.le_refl _) _).trans ((H1.out.k.below.trans hb).mono (by rw [zC]; omega))).mono (by rw [zC]; omega)))
 clear hb
 go_wp2_with fail
 go_ret
 exact ⟨rfl,HB2.out⟩
theorem zHE {x:Ex}(hx:shE x){w:World}{vs:List Value}(hi:Is w 0 x vs)(he:EnvS w)(hl:(prE x).length ≤ 70368744177664) :
 Calls Tryd.prog 13 #[.agg ⟨vs⟩] w fun e w' => e = .returned (.string (cbs (prE x))) ∧ Below w.heap.size w w':=by
 obtain ⟨xk,xn,xs,xo,xd,ks,xa,xb,xr,xe,xf⟩:=x
 obtain ⟨p,c,rfl,hp⟩:=hi.kids
 refine zKK w xk xn xs xo xd (.slice p ks.length c) xa xb xr xe xf _ hl (zNj hx (zPJ he _ _) ⟨by rw [zC]; omega,_,hi.alloc _,fun i v hv => ?_⟩)
 rw [cell_of_row _ _ _ _ _ _ (heap_alloc_new w _),Nat.zero_add]
 simpa [exCells] using hv
end Go.Proofs.YteadgahhchlgeaaDoor
namespace Go.Proofs.YteadgahhchlgeaaDoor
open Go.RowKit
open Pe (Ex)
open Ps (Sm kindOf)
open Rt (tyB lvl prE prL pad)
theorem zEj:∀ d:Nat,Lib.repeatL [32,32] d = pad d
 | 0 => rfl
 | d + 1 => by
   rw [Lib.repeatL,zEj d]
   unfold pad
   rw [show 2 * (d + 1) = 2 * d + 1 + 1 by omega,List.replicate_succ,List.replicate_succ]
   rfl
theorem zFa (d:Nat):(pad d).length = 2 * d:=by unfold pad; rw [List.length_replicate]
theorem zId (d:Nat)(w:World)(hd:d ≤ 1000) :
 Calls Tryd.prog 74 #[.string ⟨#[32,32]⟩,.int .i64 (d:Int)] w fun e w' => e = .returned (.string (cbs (pad d))) ∧ Below w.heap.size w w':=by
 have h:=zEl ⟨#[32,32]⟩ d w (by omega) (by show 2 * d ≤ _; omega)
 rw [show (⟨#[32,32]⟩:ByteArray).data.toList = [32,32] from rfl,zEj] at h
 exact h
theorem IsW.cell2 {b:Nat}{bs:List Value}{n:Int}{w:World}(h:IsW b bs n w):w.cell? ⟨b,2,none⟩ = some (.int .i64 n):=by
 obtain ⟨p,-,v,hb,-⟩:=h
 rw [Lib.cell_of_heap hb]
 rfl
theorem IsW.froz2 {b:Nat}{bs:List Value}{n:Int}{w:World}(h:IsW b bs n w):w.frozen? ⟨b,2,none⟩ = false:=by
 obtain ⟨p,-,v,hb,-⟩:=h
 exact Lib.frozen_of_heap hb 2
theorem Ws.blocks {b:Nat}{l:List UInt8}{n:Int}{w0 w:World}(h:Ws b l n w0 w)(m:Int):Ws b l m w0 (w.setCell ⟨b,2,none⟩ (.int .i64 m)):=by
 obtain ⟨⟨p,hp,v,hb,hown,hne,hnil⟩,hk⟩:=h
 refine ⟨⟨p,hp,v,by simp [World.setCell,Array.getElem?_modify,hb],?_,hne,hnil⟩,⟨hk.below.setCell (p:=⟨b,2,none⟩) (Nat.le_refl _) _,hk.kept.setCell ⟨b,2,none⟩ rfl _⟩⟩
 exact hown.kept (row:=some b) ⟨rfl,rfl,rfl,by simp [World.setCell],fun k _ hk => Below.heap_setCell _ _ _ _ (fun e => hk (by simp [e]))⟩ (Or.inr hne)
theorem zLT {b:Nat}{l:List UInt8}{d:Nat}{w1 w:World}(h:Ws b l (d:Int) w1 w)(xs:List ByteArray)(bk c:Nat)(hx:Txs w bk xs)(hb:bk ≠ b)(hd:d ≤ 50)(hlen:l.length + (catB xs).length ≤ 100000000000000)(hxl:xs.length ≤ 1000) :
 Calls Tryd.prog 42 #[.pointer (some ⟨b,0,none⟩),.slice (some ⟨bk,0,none⟩) xs.length c] w fun e w' => e = .returned (.tuple #[]) ∧ Ws b (l ++ (pad d ++ (catB xs ++ [10]))) (d:Int) w1 w':=by
 have HX:=vH hx
 have H0:=vH h
 have F:=vH (Ws.start h.is)
 have hc:=h.is.cell2
 have hm:min (d:Int) 50 = (d:Int):=by omega
 have HR:=vH (fun w2 => zId d w2 (by omega))
 have h1:l.length + (cbs (pad d)).size ≤ 140737488355328:=by rw [zB,zFa]; omega
 have h2:(l ++ (cbs (pad d)).data.toList).length + (catB xs).length ≤ 140737488355328:=by rw [List.length_append]; show l.length + (pad d).length + _ ≤ _; rw [zFa]; omega
 have h3:(l ++ (cbs (pad d)).data.toList ++ catB xs).length + (⟨#[10]⟩:ByteArray).size ≤ 140737488355328:=by rw [List.length_append,List.length_append]; show l.length + (pad d).length + _ + 1 ≤ _; rw [zFa]; omega
 have H1:=vH h1
 have H2:=vH h2
 have H3:=vH h3
 have HXL:=vH hxl
 have HB:=vH hb
 clear hx h hlen h1 h2 h3 hd hxl hb
 go_in
 go_wp2_with fail
 refine (HR.out _).mono ?_
 rintro e u ⟨rfl,hbu⟩
 have F2:=vH (F.out.go hbu)
 clear hbu F hm hc
 go_wp2_with fail
 refine (add1 F2.out (cbs (pad d)) H1.out).mono ?_
 rintro e u ⟨rfl,hW⟩
 have F3:=vH hW
 clear hW F2
 go_wp2_with fail
 refine (zFt b _ _ xs bk c _ F3.out.is (HX.out.kept F3.out.k HB.out) HB.out H2.out HXL.out).mono ?_
 rintro e u ⟨rfl,hW,hk⟩
 have F4:=vH (F3.out.step hW hk)
 clear hW hk F3
 go_wp2_with fail
 refine (add1 F4.out ⟨#[10]⟩ H3.out).mono ?_
 rintro e u ⟨rfl,hW⟩
 have F5:=vH hW
 clear hW F4
 go_wp2_with fail
 go_end0
 exact ⟨rfl,(H0.out.join F5.out).cast (by show l ++ pad d ++ catB xs ++ [10] = _; simp)⟩
theorem zFs:∀ (ss:List (List UInt8)),catB (ss.map cbs) = ss.flatten
 | [] => rfl
 | s :: ss => by rw [List.map_cons,zAp,zFs ss]; rfl
theorem zBi {b:Nat}{l:List UInt8}{d:Nat}{w1 w:World}(ss:List (List UInt8))(h:Ws b l (d:Int) w1 w)(hd:d ≤ 50)(hlen:l.length + (pad d ++ (ss.flatten ++ [10])).length ≤ 70368744177664)(hs:ss.length ≤ 1000)(A:Array Value)(hA:A = (ss.map fun s => Value.string (cbs s)).toArray)(k:Nat)(hk:k = ss.length) :
 Calls Tryd.prog 42 #[.pointer (some ⟨b,0,none⟩),.slice (some ⟨w.heap.size,0,none⟩) k k] (w.alloc (.cells A 9)) fun e w' => e = .returned (.tuple #[]) ∧ Ws b (l ++ (pad d ++ (ss.flatten ++ [10]))) (d:Int) w1 w':=by
 subst hA hk
 have hg:=h.go (w':=w.alloc (.cells (ss.map fun s => Value.string (cbs s)).toArray 9)) ((Below.refl _ _).alloc (Nat.le_refl _) _)
 have h2:=zLT hg (ss.map cbs) w.heap.size ss.length (zEQ w _ _ (by rw [List.map_map]; rfl)) (Nat.ne_of_gt h.is.lt) hd (by rw [zFs]; simp only [List.length_append] at hlen; omega) (by rw [List.length_map]; exact hs)
 rw [zFs,List.length_map] at h2
 exact h2
theorem zKv {w1:World}{B:Nat}{T:TypeId}{a b c d:Value}(h:w1.heap[B]? = some (.cells #[a,b,c,d] T (0,0))):w1.cell? ⟨B,0,none⟩ = some a ∧ w1.cell? ⟨B,1,none⟩ = some b ∧ w1.cell? ⟨B,2,none⟩ = some c:=
 ⟨by rw [cell_of_row _ _ _ _ _ _ h]; rfl,by rw [cell_of_row _ _ _ _ _ _ h]; rfl,by rw [cell_of_row _ _ _ _ _ _ h]; rfl⟩
theorem zFp (w:World)(s o:List UInt8)(D:Nat)(a:Int)(hD:D ≤ 3)(hs:s.length ≤ 70368744177664)(ho:o.length ≤ 70368744177664)
 (hT:∀ w1,Calls Tryd.prog 29 #[.agg #[.string (cbs o),.int .i64 (D:Int)]] w1 fun e w' => e = .returned (.string (cbs (tyB o D))) ∧ Below w1.heap.size w1 w') :
 Calls Tryd.prog 43 #[.agg #[.string (cbs s),.string (cbs o),.int .i64 (D:Int),.int .i64 a]] w fun e w' => e = .returned (.string (cbs (s ++ 58 :: 32 :: tyB o D))) ∧ Below w.heap.size w w':=by
 have X:=vH (Bxp.start w 78 #[.string (cbs s),.string (cbs o),.int .i64 (D:Int),.int .i64 a])
 have HT:=vH hT
 have hty:=zAg o D
 obtain ⟨C1,hC1⟩:∃ C:List UInt8,C = s ++ [58,32]:=⟨_,rfl⟩
 have hl1:C1.length = s.length + 2:=by rw [hC1,List.length_append]; rfl
 have hc1:∀ w':World,(Op.stringOp .add (cbs s) ⟨#[58,32]⟩).run Tryd.prog w' = .ok (.string (cbs C1)) w':=by
  rw [hC1]
  exact zL s [58,32] (by show s.length + 2 ≤ _; omega)
 obtain ⟨C2,hC2⟩:∃ C:List UInt8,C = C1 ++ tyB o D:=⟨_,rfl⟩
 have hc2:∀ w':World,(Op.stringOp .add (cbs C1) (cbs (tyB o D))).run Tryd.prog w' = .ok (.string (cbs C2)) w':=by
  rw [hC2]
  exact zL C1 (tyB o D) (by rw [hty]; omega)
 generalize tyB o D = TY at HT hC2 hc2 ⊢
 have HC1:=vH hC1
 have HC2:=vH hC2
 clear hT hty hD hs ho hl1 hC2 hC1
 go_in
 go_wp2_with fail
 generalize w.alloc (.cells #[.string (cbs s),.string (cbs o),.int .i64 (D:Int),.int .i64 a] 78) = W at X ⊢
 replace X:=vH X.out.drew
 go_region_held3 (fun w' => w'.cell? ⟨w.heap.size,0,none⟩ = some (.string (cbs s)) ∧ w'.cell? ⟨w.heap.size,1,none⟩ = some (.string (cbs o)) ∧ w'.cell? ⟨w.heap.size,2,none⟩ = some (.int .i64 (D:Int))) (first | exact zKv X.out.h)
  (first
  | (go_at_call 29; (with_reducible refine Calls.mono (HT.out _) ?_); rintro e u ⟨rfl,hb⟩; have X2:=vH (X.out.go hb); have X:=X2))
 all_goals
  go_wp2_with fail
  go_ret
  exact ⟨zBV (congrArg cbs (by rw [HC2.out,HC1.out]; simp)),X.out.b⟩
def Ks (w:World)(bl o:Nat)(k:Int)(nm ot:List UInt8)(d:Int)(ev bv lv:Value)(a r:Int):Prop:=
 w.cell? ⟨bl,o,none⟩ = some (.int .i64 k) ∧ w.cell? ⟨bl,o + 1,none⟩ = some (.string (cbs nm)) ∧ w.cell? ⟨bl,o + 2,none⟩ = some (.string (cbs ot)) ∧ w.cell? ⟨bl,o + 3,none⟩ = some (.int .i64 d) ∧ w.cell? ⟨bl,o + 4,none⟩ = some ev ∧ w.cell? ⟨bl,o + 5,none⟩ = some bv ∧ w.cell? ⟨bl,o + 6,none⟩ = some lv ∧ w.cell? ⟨bl,o + 7,none⟩ = some (.int .i64 a) ∧ w.cell? ⟨bl,o + 8,none⟩ = some (.int .i64 r)
theorem Ks.go {w w':World}{bl o:Nat}{k:Int}{nm ot:List UInt8}{d:Int}{ev bv lv:Value}{a r:Int}(h:Ks w bl o k nm ot d ev bv lv a r)(hb:Below w.heap.size w w'):Ks w' bl o k nm ot d ev bv lv a r:=by
 obtain ⟨h0,h1,h2,h3,h4,h5,h6,h7,h8⟩:=h
 exact ⟨zD hb h0,zD hb h1,zD hb h2,zD hb h3,zD hb h4,zD hb h5,zD hb h6,zD hb h7,zD hb h8⟩
theorem zHX {w0:World}(he:EnvS w0){bl off:Nat}{k:Int}{nm ot:List UInt8}{d:Int}{p:Option Addr}{c:Nat}{bv lv:Value}{a r:Int}{es:List Ex}(hp:KidsAt w0 0 p es)(hk:Ks w0 bl off k nm ot d (.slice p es.length c) bv lv a r)(j j11:Nat)(_hj:j * 11 = j11){x:Ex}(hx:es[j]? = some x)(hsh:Rt.shE x)(_hn:es.length ≤ 100000000000000)(hl:(prE x).length ≤ 70368744177664) :
 Gives w0 127 #[.pointer (some ⟨bl,off,none⟩),.int .i64 (j:Int)] (prE x):=by
 intro w hb
 have hjl:j < es.length:=(List.getElem?_eq_some_iff.1 hx).1
 have hd1:decide ((es.length:Int) ≤ (j:Int)) = false:=decide_eq_false (by omega)
 have hd2:decide (es.length ≤ j) = false:=decide_eq_false (by omega)
 have hi1:(j:Int) < (es.length:Int):=by omega
 have hi3:(0:Int) ≤ (j:Int):=by omega
 subst _hj
 obtain ⟨kb,ko,rfl,hkb,xk,xn,xs,xo,xd,q,xp,xc,xa,xb,xr,xe,xf,rfl,hi,hkk⟩:=zAH hp hx (j * 11) rfl
 have HX:=vH (zHE hsh (hi.below hb) (he.below hb) hl)
 obtain ⟨x0,x1,x2,x3,x4,x5,x6,x7,x8,x9,xX⟩:=hkk.go hb
 have hK:=(hk.go hb).2.2.2.2.1
 generalize prE (.mk xk xn xs xo xd q xa xb xr xe xf) = T at HX ⊢
 clear hp hx hi hkk hk he hsh hl _hn
 go_in
 go_wp2_with fail
 refine HX.out.mono ?_
 rintro e w2 ⟨rfl,hb2⟩
 have HB:=vH hb2
 clear hb2
 go_wp2_with fail
 go_ret
 exact ⟨rfl,HB.out⟩
end Go.Proofs.YteadgahhchlgeaaDoor
