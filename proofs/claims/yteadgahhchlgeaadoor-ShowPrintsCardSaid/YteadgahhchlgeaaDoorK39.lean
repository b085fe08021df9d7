/-
  The project's writer: a type is added; Type.
-/
import Derived.Test.YteadgahhchlgeaaDoorK07
import Derived.Test.YteadgahhchlgeaaDoorK02
import Derived.Test.YteadgahhchlgeaaDoorK16
import Derived.Test.YteadgahhchlgeaaDoorK23
import Derived.Test.YteadgahhchlgeaaDoorK37
import Derived.Test.YteadgahhchlgeaaDoorK38
import Derived.Test.YteadgahhchlgeaaDoorShelf
import Derived.Test.YteadgahhchlgeaaDoorShelfB
import Derived.Shelf.Strings.Repeat
import Derived.Deep.RegionHeld3
import Derived.Shelf.Strconv.Itoa3
import Derived.Shelf.Small.Wraps
import Derived.Lib.AppendIntMem
import Derived.Test.YteadgahhchlgeaaDoorRows
set_option maxRecDepth 8000
set_option maxHeartbeats 8000000
namespace Go.Proofs.YteadgahhchlgeaaDoor
open Go.RowKit
open Rt (tyB)
theorem zGg:Builder.Extra Tryd.prog Tryd.lays105_ren where
 sizeBuilder:=by kernel_rfl
 liesBuilder:=by kernel_rfl
 t5:=Tryd.underlying5
 a5:=Tryd.isAgg5
 z5:=Tryd.sizeOf5
 v5:=Tryd.zeroValue5
 infoByte:=by kernel_rfl
 cellsByte:=by kernel_rfl
 sizeByte:=by kernel_rfl
 neB5:=by decide
theorem zEl (s:ByteArray)(c:Nat)(w:World)(hc:c ≤ 9223372036854775807)(hlen:s.size * c ≤ 140737488355328) :
 Calls Tryd.prog 74 #[.string s,.int .i64 c] w fun e w' => e = .returned (.string (cbs (Lib.repeatL s.data.toList c))) ∧ Below w.heap.size w w':=Any.strings_Repeat Tryd.lays105 zGg s c w hc hlen
theorem zEk (x:UInt8):∀ d:Nat,Lib.repeatL [x] d = List.replicate d x
 | 0 => rfl
 | d + 1 => by rw [Lib.repeatL,zEk x d]; rfl
theorem zLi (x:UInt8)(d:Nat)(w:World)(hd:d ≤ 1000) :
 Calls Tryd.prog 74 #[.string ⟨#[x]⟩,.int .i64 (d:Int)] w fun e w' => e = .returned (.string (cbs (List.replicate d x))) ∧ Below w.heap.size w w':=by
 have h:=zEl ⟨#[x]⟩ d w (by omega) (by show 1 * d ≤ _; omega)
 rw [show (⟨#[x]⟩:ByteArray).data.toList = [x] from rfl,zEk] at h
 exact h
theorem zAX {w w':World}(hb:Below w.heap.size w w'){a:Addr}{v:Value}(h:w.cell? a = some v):w'.cell? a = some v:=
 (hb.cell (World.block_lt_of_cell? _ _ h)).trans h
theorem IsW.below {b:Nat}{bs:List Value}{n:Int}{w w':World}(h:IsW b bs n w)(hb:Below w.heap.size w w'):IsW b bs n w':=by
 have hlt:=h.lt
 obtain ⟨p,hp,v,hbk,hown,hne,hnil⟩:=h
 exact ⟨p,hp,v,(hb.block _ hlt).trans hbk,hown.kept (row:=none) ⟨hb.os,hb.tape,hb.output,hb.size,fun k hk _ => hb.block k hk⟩ (by cases hv:v.ownBlock <;> simp),hne,hnil⟩
theorem Wk.new {b:Nat}{w w1 w2:World}(h:Wk b w w1)(hb:Below w1.heap.size w1 w2)(hlt:b ≤ w1.heap.size):Wk b w w2:=
 ⟨h.below.trans (hb.mono hlt),h.kept.trans fun k _ hk _ _ => (hb.block k (Array.getElem?_eq_some_iff.1 hk).1).trans hk⟩
structure Ws (b:Nat) (l:List UInt8) (n:Int) (w0 w:World):Prop where
 is:IsW b (Lib.byteCells l) n w
 k:Wk b w0 w
theorem Ws.start {b:Nat}{l:List UInt8}{n:Int}{w:World}(h:IsW b (Lib.byteCells l) n w):Ws b l n w w:=⟨h,Wk.refl _ _⟩
theorem Ws.go {b:Nat}{l:List UInt8}{n:Int}{w0 w w':World}(h:Ws b l n w0 w)(hb:Below w.heap.size w w'):Ws b l n w0 w':=⟨h.is.below hb,h.k.new hb (Nat.le_of_lt h.is.lt)⟩
theorem Ws.step {b:Nat}{l l':List UInt8}{n:Int}{w0 w w':World}(h:Ws b l n w0 w)(hw:IsW b (Lib.byteCells l') n w')(hk:Wk b w w'):Ws b l' n w0 w':=⟨hw,h.k.trans hk⟩
theorem Ws.cast {b:Nat}{l l':List UInt8}{n:Int}{w0 w:World}(h:Ws b l n w0 w)(hl:l = l'):Ws b l' n w0 w:=hl ▸ h
theorem zEQ (w:World)(xs:List ByteArray)(A:Array Value)(hA:A = (xs.map Value.string).toArray):Txs (w.alloc (.cells A 9)) w.heap.size xs:=by
 subst hA
 exact heap_alloc_new w _
theorem add1 {b:Nat}{l:List UInt8}{n:Int}{w0 w:World}(h:Ws b l n w0 w)(s:ByteArray)(hlen:l.length + s.size ≤ 140737488355328) :
 Calls Tryd.prog 56 #[.pointer (some ⟨b,0,none⟩),.slice (some ⟨w.heap.size,0,none⟩) 1 1] (w.alloc (.cells #[.string s] 9)) fun e w' => e = .returned (.tuple #[]) ∧ Ws b (l ++ s.data.toList) n w0 w':=by
 have hg:=h.go (w':=w.alloc (.cells #[.string s] 9)) ((Below.refl _ _).alloc (Nat.le_refl _) _)
 refine (zFt b l n [s] w.heap.size 1 _ hg.is (zEQ w [s] _ rfl) (Nat.ne_of_gt h.is.lt) (by rw [zAp,List.length_append,← Lib.size_eq]; show l.length + (s.size + 0) ≤ _; omega) (by simp)).mono ?_
 rintro e w' ⟨rfl,hw,hk⟩
 exact ⟨rfl,(hg.step hw hk).cast (by rw [zAp]; show l ++ (s.data.toList ++ []) = _; rw [List.append_nil])⟩
theorem add2 {b:Nat}{l:List UInt8}{n:Int}{w0 w:World}(h:Ws b l n w0 w)(s t:ByteArray)(hlen:l.length + (s.size + t.size) ≤ 140737488355328) :
 Calls Tryd.prog 56 #[.pointer (some ⟨b,0,none⟩),.slice (some ⟨w.heap.size,0,none⟩) 2 2] (w.alloc (.cells #[.string s,.string t] 9)) fun e w' => e = .returned (.tuple #[]) ∧ Ws b (l ++ (s.data.toList ++ t.data.toList)) n w0 w':=by
 have hg:=h.go (w':=w.alloc (.cells #[.string s,.string t] 9)) ((Below.refl _ _).alloc (Nat.le_refl _) _)
 refine (zFt b l n [s,t] w.heap.size 2 _ hg.is (zEQ w [s,t] _ rfl) (Nat.ne_of_gt h.is.lt) (by rw [zAp,zAp,List.length_append,List.length_append,← Lib.size_eq,← Lib.size_eq]; show l.length + (s.size + (t.size + 0)) ≤ _; omega) (by simp)).mono ?_
 rintro e w' ⟨rfl,hw,hk⟩
 exact ⟨rfl,(hg.step hw hk).cast (by rw [zAp,zAp]; show l ++ (s.data.toList ++ (t.data.toList ++ [])) = _; rw [List.append_nil])⟩
theorem add3 {b:Nat}{l:List UInt8}{n:Int}{w0 w:World}(h:Ws b l n w0 w)(s t u:ByteArray)(hlen:l.length + (s.size + (t.size + u.size)) ≤ 140737488355328) :
 Calls Tryd.prog 56 #[.pointer (some ⟨b,0,none⟩),.slice (some ⟨w.heap.size,0,none⟩) 3 3] (w.alloc (.cells #[.string s,.string t,.string u] 9)) fun e w' => e = .returned (.tuple #[]) ∧ Ws b (l ++ (s.data.toList ++ (t.data.toList ++ u.data.toList))) n w0 w':=by
 have hg:=h.go (w':=w.alloc (.cells #[.string s,.string t,.string u] 9)) ((Below.refl _ _).alloc (Nat.le_refl _) _)
 refine (zFt b l n [s,t,u] w.heap.size 3 _ hg.is (zEQ w [s,t,u] _ rfl) (Nat.ne_of_gt h.is.lt) (by rw [zAp,zAp,zAp,List.length_append,List.length_append,List.length_append,← Lib.size_eq,← Lib.size_eq,← Lib.size_eq]; show l.length + (s.size + (t.size + (u.size + 0))) ≤ _; omega) (by simp)).mono ?_
 rintro e w' ⟨rfl,hw,hk⟩
 exact ⟨rfl,(hg.step hw hk).cast (by rw [zAp,zAp,zAp]; show l ++ (s.data.toList ++ (t.data.toList ++ (u.data.toList ++ []))) = _; rw [List.append_nil])⟩
theorem Ws.box {b:Nat}{l:List UInt8}{n:Int}{w0 w:World}(h:Ws b l n w0 w){bx:Nat}{A:Array Value}{T:TypeId}(hb:w0.heap[bx]? = some (.cells A T (0,0)))(hne:bx ≠ b)(hT:T ≠ 5):w.heap[bx]? = some (.cells A T (0,0)):=
 h.k.kept bx _ hb (by simpa using hne) (fun c fz hc => by injection hc with _ h2 _; exact hT h2)
theorem Ws.join {b:Nat}{l l':List UInt8}{n:Int}{w0 w1 w:World}(h:Ws b l n w0 w1)(g:Ws b l' n w1 w):Ws b l' n w0 w:=⟨g.is,h.k.trans g.k⟩
theorem zEb {b:Nat}{l:List UInt8}{n:Int}{w0 w:World}(h:Ws b l n w0 w)(o:List UInt8)(d:Nat)(hd:d ≤ 3)(hlen:l.length + (o.length + 6) ≤ 140737488355328) :
 Calls Tryd.prog 46 #[.pointer (some ⟨b,0,none⟩),.agg #[.string (cbs o),.int .i64 (d:Int)]] w fun e w' => e = .returned (.tuple #[]) ∧ Ws b (l ++ tyB o d) n w0 w':=by
 have H0:=vH (h.go (w':=(w.alloc (.cells #[.string (cbs o),.int .i64 (d:Int)] 40)).drew) ((Below.refl _ _).alloc (Nat.le_refl _) _).drew)
 have HC:=vH (show (w.alloc (.cells #[.string (cbs o),.int .i64 (d:Int)] 40)).drew.heap[w.heap.size]? = _ from heap_alloc_new w (.cells #[.string (cbs o),.int .i64 (d:Int)] 40))
 have HN:=vH (Nat.ne_of_gt h.is.lt)
 have hm:min (d:Int) 3 = (d:Int):=by omega
 have HR:=vH (fun (x:UInt8) (w1:World) => zLi x d w1 (by omega))
 have HL:=vH (show l.length + ((cbs (List.replicate d 91)).size + ((cbs o).size + (cbs (List.replicate d 93)).size)) ≤ 140737488355328 by rw [zB,zB,zB,List.length_replicate,List.length_replicate]; omega)
 clear h hlen hd
 go_in
 go_wp2_with fail
 clear hm
 generalize w.alloc (.cells #[.string (cbs o),.int .i64 (d:Int)] 40) = u0 at H0 HC ⊢
 generalize w.heap.size = bx at HC HN ⊢
 have F:=vH (Ws.start H0.out.is)
 go_region_held3 (fun w' => w'.cell? ⟨bx,0,none⟩ = some (.string (cbs o))) (with_reducible first | exact (duo HC.out).1.1 | exact (duo (F.out.box HC.out HN.out (by decide))).1.1 | exact (duo ((F.out.go ((Below.refl _ _).alloc (Nat.le_refl _) _)).box HC.out HN.out (by decide))).1.1)
  (first
  | (go_at_call 74; (with_reducible refine Calls.mono (HR.out _ _) ?_); rintro e u ⟨rfl,hb⟩; have F2:=vH (F.out.go hb); have F:=F2)
  | (go_at_call 56; (with_reducible refine Calls.mono (add3 F.out _ _ _ HL.out) ?_); rintro e u ⟨rfl,hb⟩; have F2:=vH hb; have F:=F2))
 all_goals
  go_wp2_with fail
  go_end0
  exact ⟨rfl,(H0.out.join F.out).cast rfl⟩
theorem IsW.fresh (w:World):IsW w.heap.size (Lib.byteCells []) 0 (w.alloc (.cells #[.pointer none,.slice none 0 0,.int .i64 0] 89)):=
 ⟨_,.inl rfl,_,heap_alloc_new w _,⟨rfl,.inl ⟨rfl,rfl⟩⟩,by simp [Value.ownBlock],fun _ => rfl⟩
theorem Ws.fresh1 (w:World)(o:Obj):Ws (w.heap.size + 1) [] 0 ((w.alloc o).alloc (.cells #[.pointer none,.slice none 0 0,.int .i64 0] 89)) ((w.alloc o).alloc (.cells #[.pointer none,.slice none 0 0,.int .i64 0] 89)):=by
 have h:=IsW.fresh (w.alloc o)
 rw [zC] at h
 exact Ws.start h
theorem Ws.fresh (w:World):Ws w.heap.size [] 0 (w.alloc (.cells #[.pointer none,.slice none 0 0,.int .i64 0] 89)) (w.alloc (.cells #[.pointer none,.slice none 0 0,.int .i64 0] 89)):=Ws.start (IsW.fresh w)
theorem zCz (w:World)(o:List UInt8)(d:Nat)(hd:d ≤ 3)(hlen:o.length ≤ 70368744177664) :
 Calls Tryd.prog 29 #[.agg #[.string (cbs o),.int .i64 (d:Int)]] w fun e w' => e = .returned (.string (cbs (tyB o d))) ∧ Below w.heap.size w w':=by
 have HB:=vH ((Below.refl w.heap.size w).alloc (Nat.le_refl _) (.cells #[.string (cbs o),.int .i64 (d:Int)] 40))
 have HL:=vH (show ([]:List UInt8).length + (o.length + 6) ≤ 140737488355328 by simp; omega)
 have HF:=vH (Ws.fresh1 w (.cells #[.string (cbs o),.int .i64 (d:Int)] 40))
 have HD:=vH hd
 clear hlen hd
 go_in
 go_wp2_with fail
 refine (zEb HF.out o d HD.out HL.out).mono ?_
 rintro e w1 ⟨rfl,h1⟩
 have H1:=vH h1
 clear h1
 go_wp2_with fail
 refine (zCM _ _ _ _ H1.out.is).mono ?_
 rintro e w2 ⟨rfl,hb⟩
 have HB2:=vH (HB.out.trans ((((Below.refl _ _).alloc (Nat.le_refl _) _).trans ((H1.out.k.below.trans hb).mono (by rw [zC]; omega))).mono (by rw [zC]; omega)))
 clear hb
 go_wp2_with fail
 go_ret
 exact ⟨rfl,HB2.out⟩
end Go.Proofs.YteadgahhchlgeaaDoor
namespace Go.Proofs.YteadgahhchlgeaaDoor
open Go.RowKit
open Pe (Ex)
open Ps (kindOf)
open Go.Lib (decDigits)
open Rt (tyB lvl opT prW prE prL prOf prM prA shE shL shK kd zAw zG zAC)
theorem zNK {k:Ex}{ks:List Ex}(j:Nat)(h:ks.drop j = k :: ks.drop (j + 1)):prL (ks.drop j) = (lvl (kindOf k),prE k) :: prL (ks.drop (j + 1)):=by rw [h,prL]
def restC (ks:List Ex)(j:Nat):List UInt8:=if j = 0 then prA (prL ks) else prM (prL (ks.drop j))
theorem zHi {ks:List Ex}:restC ks ks.length = []:=by
 unfold restC
 split
 ·rename_i h
  rw [List.eq_nil_of_length_eq_zero h,prL]; rfl
 ·rw [List.drop_of_length_le (Nat.le_refl _),prL]; rfl
theorem zFL {k:Ex}{ks:List Ex}(h:ks.drop 0 = k :: ks.drop 1):restC ks 0 = prE k ++ restC ks 1:=by
 have h1:ks = k :: ks.drop 1:=h
 show prA (prL ks) = prE k ++ prM (prL (ks.drop 1))
 rw [h1,prL]
 rfl
theorem zFM {k:Ex}{ks:List Ex}{j:Nat}(h0:j ≠ 0)(h:ks.drop j = k :: ks.drop (j + 1)):restC ks j = [44,32] ++ (prE k ++ restC ks (j + 1)):=by
 unfold restC
 rw [if_neg h0,if_neg (by omega),zNK j h]
 rfl
theorem zNR (w:World)(en:Int)(es eo:List UInt8)(ed:Int)(p:Option Addr)(c:Nat)(ea eb er ee ef:Int)(ks:List Ex)(hp:KidsAt w 0 p ks)(hr:∀ x ∈ ks,RXp x)(hl:es.length + (prA (prL ks)).length ≤ 999999999999)(hn:ks.length ≤ 1000000000000) :
 Calls Tryd.prog 45 #[.agg #[.int .i64 7,.int .i64 en,.string (cbs es),.string (cbs eo),.int .i64 ed,.slice p ks.length c,.int .i64 ea,.int .i64 eb,.int .i64 er,.int .i64 ee,.int .i64 ef]] w fun e w' => e = .returned (.string (cbs (es ++ 40 :: (prA (prL ks) ++ [41])))) ∧ Below w.heap.size w w':=by
 have X:=vH (Bxp.start w 45 #[.int .i64 7,.int .i64 en,.string (cbs es),.string (cbs eo),.int .i64 ed,.slice p ks.length c,.int .i64 ea,.int .i64 eb,.int .i64 er,.int .i64 ee,.int .i64 ef])
 have HP:=vH hp
 have HR:=vH hr
 have HL:=vH hl
 have HN:=vH hn
 have hz1:(cbs es).size + (⟨#[40]⟩:ByteArray).size ≤ 9223372036854775807:=by rw [zB]; show es.length + 1 ≤ _; omega
 clear hp hr hl hn
 go_in
 go_wp2_with fail
 go_loopg [3,4] ks.length (fun g s v wr => ∃ j:Nat,g + j = ks.length ∧ v = .int .i64 (j:Int) ∧ (∃ t:List UInt8,s = .string (cbs t) ∧ t ++ restC ks j = es ++ 40 :: prA (prL ks)) ∧ Bxp w wr 45 #[.int .i64 7,.int .i64 en,.string (cbs es),.string (cbs eo),.int .i64 ed,.slice p ks.length c,.int .i64 ea,.int .i64 eb,.int .i64 er,.int .i64 ee,.int .i64 ef])
 case atStart => exact ⟨0,rfl,rfl,⟨es ++ [40],congrArg Value.string (zAo es [40]),by rw [List.append_assoc]; rfl⟩,X.out⟩
 case round =>
  obtain ⟨j,hj,rfl,⟨t,rfl,ht⟩,hx⟩:=hrel
  have HJ:=vH hj
  have HT:=vH ht
  have Y:=vH hx
  have hlt:=congrArg List.length ht
  rw [List.length_append,List.length_append,List.length_cons] at hlt
  obtain ⟨⟨d0,d1,d2,d3,d4,d5,d6,d7,d8,d9,dX⟩,-⟩:=hen hx.h
  cases gk with
  | zero =>
    obtain rfl:j = ks.length:=by omega
    have hd1:decide ((ks.length:Int) < (ks.length:Int)) = false:=decide_eq_false (by omega)
    have hz2:(cbs t).size + (⟨#[41]⟩:ByteArray).size ≤ 9223372036854775807:=by rw [zB]; have:=HL.out; show t.length + 1 ≤ _; omega
    clear hj ht hx hlt
    go_wp2_with fail
    go_ret
    have h9:=HT.out
    rw [zHi,List.append_nil] at h9
    exact ⟨zBV (by show cbs t ++ cbs [41] = _; rw [zAo,h9]; exact congrArg cbs (by simp)),Y.out.b⟩
  | succ m =>
    have hjl:j < ks.length:=by omega
    have hd1:decide ((j:Int) < (ks.length:Int)) = true:=decide_eq_true (by omega)
    have hi1:(j:Int) < (ks.length:Int):=by omega
    have hi3:(0:Int) ≤ (j:Int):=by omega
    have hd2:decide (ks.length ≤ j) = false:=decide_eq_false (by omega)
    have hdw:wrap64 ((j:Int) + 1) = ((j + 1:Nat):Int):=by have:=HN.out; simp [wrap64]; omega
    have he1:=List.getElem?_eq_getElem hjl
    have hd4:ks.drop j = ks[j] :: ks.drop (j + 1):=List.drop_eq_getElem_cons hjl
    have HE:=vH (HR.out _ (List.getElem_mem hjl))
    generalize ks[j] = e1 at he1 hd4 HE
    have HD:=vH hd4
    obtain ⟨bl,off,vs,rfl,hbl,hi,hc⟩:=(HP.out.below (X.out.b)).get he1
    clear hi hc
    obtain ⟨bl',off',vs,hbo,hbl',hi,hc⟩:=(HP.out.below Y.out.b).get he1
    injection hbo with hbo
    injection hbo with hb1 ho1
    subst hb1 ho1
    obtain ⟨xk,xn,xs,xo,xd,xp,xl,xc,xa,xb,xr,xe,xf,rfl⟩:=hi.out
    have HC:=vH hc
    have HI:=vH hi
    clear hc hi he1 hd4 hj ht hx
    by_cases hj0:j = 0
    ·subst hj0
     obtain ⟨x0,x1,x2,x3,x4,x5,x6,x7,x8,x9,xX⟩:=zB4 (o:=off) (fun i v hv => by have:=HC.out i v hv; rw [Nat.zero_mul,Nat.add_zero] at this; exact this)
     have hn2:=HT.out
     rw [zFL HD.out] at hn2
     have HN2:=vH hn2
     have hle:=congrArg List.length hn2
     simp only [List.length_append,List.length_cons] at hle
     have hll:=HL.out
     have hle2:(prE e1).length ≤ 1000000000000:=by omega
     have hz3:(cbs t).size + (cbs (prE e1)).size ≤ 9223372036854775807:=by rw [zB,zB]; omega
     have HE2:=vH (HE.out wr _ HI.out hle2)
     clear hn2 hle hll hle2 HT HI HE hlt
     go_wp2_with fail
     refine HE2.out.mono ?_
     rintro e w2 ⟨rfl,hb⟩
     have Y2:=vH (Y.out.go hb)
     clear hb d0 d1 d2 d3 d4 d5 d6 d7 d8 d9 dX x0 x1 x2 x3 x4 x5 x6 x7 x8 x9 xX HE2
     obtain ⟨⟨d0,d1,d2,d3,d4,d5,d6,d7,d8,d9,dX⟩,-⟩:=hen Y2.out.h
     go_wp2_with fail
     go_roundg m
     case measure => omega
     case rel => exact ⟨1,by have:=HJ.out; omega,by first | rfl | simp [hdw],⟨t ++ prE e1,congrArg Value.string (zAo _ _),by rw [← HN2.out]; simp⟩,Y2.out⟩
    ·obtain ⟨x0,x1,x2,x3,x4,x5,x6,x7,x8,x9,xX⟩:=zB4 HC.out
     have hn2:=HT.out
     rw [zFM hj0 HD.out] at hn2
     have HN2:=vH hn2
     have hle:=congrArg List.length hn2
     simp only [List.length_append,List.length_cons,List.length_nil] at hle
     have hll:=HL.out
     have hle2:(prE e1).length ≤ 1000000000000:=by omega
     have hz4:(cbs t).size + (⟨#[44,32]⟩:ByteArray).size ≤ 9223372036854775807:=by rw [zB]; show t.length + 2 ≤ _; omega
     have hz3:((cbs t) ++ (⟨#[44,32]⟩:ByteArray)).size + (cbs (prE e1)).size ≤ 9223372036854775807:=by rw [ByteArray.size_append,zB,zB]; show t.length + 2 + _ ≤ _; omega
     have HE2:=vH (HE.out wr _ HI.out hle2)
     have hd5:decide (0 < j) = true:=decide_eq_true (by omega)
     have hd6:decide ((0:Int) < (j:Int)) = true:=decide_eq_true (by omega)
     clear hn2 hle hll hle2 HT HI HE hlt hj0
     go_wp2_with fail
     refine HE2.out.mono ?_
     rintro e w2 ⟨rfl,hb⟩
     have Y2:=vH (Y.out.go hb)
     clear hb d0 d1 d2 d3 d4 d5 d6 d7 d8 d9 dX x0 x1 x2 x3 x4 x5 x6 x7 x8 x9 xX HE2
     obtain ⟨⟨d0,d1,d2,d3,d4,d5,d6,d7,d8,d9,dX⟩,-⟩:=hen Y2.out.h
     go_wp2_with fail
     go_roundg m
     case measure => omega
     case rel => exact ⟨j + 1,by have:=HJ.out; omega,by first | rfl | simp [hdw],⟨t ++ [44,32] ++ prE e1,congrArg Value.string (by show cbs t ++ cbs [44,32] ++ cbs (prE e1) = _; rw [zAo,zAo]),by rw [← HN2.out]; simp⟩,Y2.out⟩
theorem zFV (k:Int):lvl k ≤ 7:=by
 unfold lvl
 repeat' split
 all_goals decide
theorem zLO (k:Int):(opT k).length ≤ 100:=by
 unfold opT
 rcases Nat.lt_or_ge (k - 14).toNat 11 with h | h
 ·generalize (k - 14).toNat = j at h ⊢
  have key:∀ j,j < 11 → ((([[43],[45],[42],[47],[37],[60],[60,61],[61,61],[33,61],[38,38],[124,124]]:List (List UInt8))[j]?).getD []).length ≤ 100:=by decide
  exact key j h
 ·rw [List.getElem?_eq_none (by simpa using h)]
  exact Nat.zero_le _
theorem w_ge (n:Nat)(x:Nat × List UInt8):x.2.length ≤ (prW n x).length:=by
 unfold prW
 split
 ·simp; omega
 ·exact Nat.le_refl _
theorem zMW:∀ (l:List (Nat × List UInt8)),l.length ≤ (prM l).length
 | [] => Nat.le_refl _
 | x :: l => by
   have:=zMW l
   simp only [prM,List.length_cons,List.length_append]
   omega
theorem zMX (l:List (Nat × List UInt8)):l.length ≤ (prA l).length + 1:=by
 cases l with
 | nil => exact Nat.zero_le _
 | cons x l =>
   have:=zMW l
   simp only [prA,List.length_cons,List.length_append]
   omega
theorem zCW:∀ (l:List Ex),(prL l).length = l.length
 | [] => by rw [prL]; rfl
 | x :: l => by rw [prL,List.length_cons,List.length_cons,zCW l]
theorem zAW {w:World}{x:Ex}{vs:List Value}(hx:RXp x)(hi:Is w 0 x vs)(hl:(prE x).length ≤ 1000000000000):Gives w 45 #[.agg ⟨vs⟩] (prE x):=
 fun w1 hb => hx w1 vs (hi.below hb) hl
theorem zCZ {w:World}{xk xn:Int}{xs xo:List UInt8}{xd:Int}{ks:List Ex}{xv:Value}{xa xb xr xe xf:Int}(hx:RXp (.mk xk xn xs xo xd ks xa xb xr xe xf))(hi:Is w 0 (.mk xk xn xs xo xd ks xa xb xr xe xf) (exCells xk xn xs xo xd xv xa xb xr xe xf))(hl:(prE (.mk xk xn xs xo xd ks xa xb xr xe xf)).length ≤ 1000000000000)(m:Nat) :
 Gives w 78 #[.agg #[.int .i64 xk,.int .i64 xn,.string (cbs xs),.string (cbs xo),.int .i64 xd,xv,.int .i64 xa,.int .i64 xb,.int .i64 xr,.int .i64 xe,.int .i64 xf],.int .i64 (m:Int)] (prW m (lvl xk,prE (.mk xk xn xs xo xd ks xa xb xr xe xf))):=
 fun w1 hb => zGi w1 xk xn xs xo xd xv xa xb xr xe xf _ hl m (zAW hx (hi.below hb) hl)
theorem zAH {w:World}{p:Option Addr}{ks:List Ex}(hp:KidsAt w 0 p ks){j:Nat}{x:Ex}(h:ks[j]? = some x)(j11:Nat)(hj:j * 11 = j11):∃ bl off,p = some ⟨bl,off,none⟩ ∧ bl < w.heap.size ∧ ∃ xk xn xs xo xd q xp xc xa xb xr xe xf,x = .mk xk xn xs xo xd q xa xb xr xe xf ∧ Is w 0 x (exCells xk xn xs xo xd (.slice xp q.length xc) xa xb xr xe xf) ∧ Kd w bl (off + j11) xk xn xs xo xd (.slice xp q.length xc) xa xb xr xe xf:=by
 subst hj
 obtain ⟨bl,off,vs,h1,h2,h3,h4⟩:=hp.get h
 obtain ⟨xk,xn,xs,xo,xd,q,xa,xb,xr,xe,xf⟩:=x
 obtain ⟨xp,xc,rfl,-⟩:=h3.kids
 exact ⟨bl,off,h1,h2,xk,xn,xs,xo,xd,q,xp,xc,xa,xb,xr,xe,xf,rfl,h3,zB4 h4⟩
theorem zAi {ks:List Ex}(h:ks.length = 1):∃ x,ks = [x]:=List.length_eq_one_iff.1 h
theorem zCa {ks:List Ex}(h:ks.length = 2):∃ x y,ks = [x,y]:=by
 match ks,h with
 | [x,y],_ => exact ⟨x,y,rfl⟩
theorem rx_n:∀ (n:Nat)(x:Ex),SizeOf.sizeOf x ≤ n → shE x → RXp x:=by
 intro n
 induction n with
 | zero => intro x h; cases x; simp at h
 | succ n ih =>
   intro x hs hsh w vs hi hl
   obtain ⟨ek,en,es,eo,ed,ks,ea,eb,er,ee,ef⟩:=x
   obtain ⟨p,c,rfl,hp⟩:=hi.kids
   rw [shE] at hsh
   obtain ⟨⟨hk0,hk1,hk2,hkd,hk8,hm1,hm2⟩,hsl⟩:=hsh
   have hr:∀ x ∈ ks,RXp x:=fun x hx => ih x (by have:=zFF hx ek en es eo ed ea eb er ee ef; omega) (zAw hsl hx)
   rw [prE] at hl ⊢
   have hc:ek = 1 ∨ ek = 2 ∨ ek = 3 ∨ ek = 4 ∨ ek = 5 ∨ ek = 6 ∨ ek = 7 ∨ ek = 8 ∨ ek = 9 ∨ ek = 10 ∨ ek = 11 ∨ ek = 12 ∨ ek = 13 ∨ 14 ≤ ek:=by omega
   clear hi hs ih
   rcases hc with rfl | rfl | rfl | rfl | rfl | rfl | rfl | rfl | rfl | rfl | rfl | rfl | rfl | hk14
   ·obtain ⟨N,rfl⟩:=Int.eq_ofNat_of_zero_le (hk1 rfl).1
    exact zP2 w N (by have:=(hk1 rfl).2; omega) es eo ed _ ea eb er ee ef
   ·rcases hk2 rfl with rfl | rfl
    ·exact zP7 w es eo ed _ ea eb er ee ef
    ·exact zP1 w es eo ed _ ea eb er ee ef
   ·obtain ⟨D,rfl⟩:=Int.eq_ofNat_of_zero_le hkd.1
    have hl2:([110,117,108,108] ++ 32 :: tyB eo D:List UInt8).length ≤ 1000000000000:=hl
    simp only [List.length_append,List.length_cons,List.length_nil,zAg] at hl2
    exact zNO w D (by omega) en es eo (by omega) _ ea eb er ee ef
   ·exact zP0 w en es eo ed _ ea eb er ee ef
   ·obtain ⟨x,rfl⟩:=zAi (hm1 (by omega))
    obtain ⟨bl,off,rfl,hb,xk,xn,xs,xo,xd,q,xp,xc,xa,xb,xr,xe,xf,rfl,hi,hk⟩:=zAH hp (j:=0) rfl 0 rfl
    rw [zG] at hl ⊢
    have hl2:(prW 7 (lvl xk,prE (.mk xk xn xs xo xd q xa xb xr xe xf)) ++ 46 :: es).length ≤ 1000000000000:=hl
    simp only [List.length_append,List.length_cons] at hl2
    have h3:=w_ge 7 (lvl xk,prE (.mk xk xn xs xo xd q xa xb xr xe xf))
    dsimp only at h3
    exact zLk w en es eo ed c ea eb er ee ef bl off xk xn xs xo xd _ xa xb xr xe xf (prW 7 (lvl xk,prE (.mk xk xn xs xo xd q xa xb xr xe xf))) (by omega) (by omega) (zCZ (hr _ (List.mem_singleton.2 rfl)) hi (by omega) 7) hk
   ·obtain ⟨x,y,rfl⟩:=zCa (hm2 (by omega))
    obtain ⟨bl,off,rfl,hb,xk,xn,xs,xo,xd,q,xp,xc,xa,xb,xr,xe,xf,rfl,hi,hk⟩:=zAH hp (j:=0) rfl 0 rfl
    obtain ⟨bl',off',hbo,-,yk,yn,ys,yo,yd,q2,yp,yc,ya,yb,yr,ye,yf,rfl,hi2,hk2'⟩:=zAH hp (j:=1) rfl 11 rfl
    injection hbo with hbo
    injection hbo with hb1 ho1
    subst hb1 ho1
    rw [zAC] at hl ⊢
    have hl2:(prW 7 (lvl xk,prE (.mk xk xn xs xo xd q xa xb xr xe xf)) ++ 91 :: (prE (.mk yk yn ys yo yd q2 ya yb yr ye yf) ++ [93])).length ≤ 1000000000000:=hl
    simp only [List.length_append,List.length_cons,List.length_nil] at hl2
    have h3:=w_ge 7 (lvl xk,prE (.mk xk xn xs xo xd q xa xb xr xe xf))
    dsimp only at h3
    exact zNQ w en es eo ed c ea eb er ee ef bl off xk xn xs xo xd _ xa xb xr xe xf yk yn ys yo yd _ ya yb yr ye yf (prW 7 (lvl xk,prE (.mk xk xn xs xo xd q xa xb xr xe xf))) (prE (.mk yk yn ys yo yd q2 ya yb yr ye yf)) (by omega) (by omega) (zCZ (hr _ (List.mem_cons_self ..)) hi (by omega) 7) (zAW (hr _ (List.mem_cons_of_mem _ (List.mem_singleton.2 rfl))) hi2 (by omega)) hk hk2'
   ·have hl2:(es ++ 40 :: (prA (prL ks) ++ [41])).length ≤ 1000000000000:=hl
    simp only [List.length_append,List.length_cons,List.length_nil] at hl2
    have h3:=zMX (prL ks)
    rw [zCW] at h3
    exact zNR w en es eo ed p c ea eb er ee ef ks hp hr (by omega) (by omega)
   ·have hl2:([110,101,119] ++ 32 :: eo:List UInt8).length ≤ 1000000000000:=hl
    simp only [List.length_append,List.length_cons,List.length_nil] at hl2
    exact zP4 w en es eo ed _ ea eb er ee ef (by omega)
   ·obtain ⟨D,rfl⟩:=Int.eq_ofNat_of_zero_le hkd.1
    obtain ⟨x,rfl⟩:=zAi (hm1 (by omega))
    obtain ⟨bl,off,rfl,hb,xk,xn,xs,xo,xd,q,xp,xc,xa,xb,xr,xe,xf,rfl,hi,hk⟩:=zAH hp (j:=0) rfl 0 rfl
    rw [zG] at hl ⊢
    have hl2:([110,101,119] ++ 32 :: 91 :: (tyB eo D ++ 93 :: 40 :: (prE (.mk xk xn xs xo xd q xa xb xr xe xf) ++ [41])):List UInt8).length ≤ 1000000000000:=hl
    simp only [List.length_append,List.length_cons,List.length_nil,zAg] at hl2
    exact zNP w en es eo c ea eb er ee ef bl off xk xn xs xo xd _ xa xb xr xe xf D (prE (.mk xk xn xs xo xd q xa xb xr xe xf)) (tyB eo D) (by omega) (by rw [zAg]; omega) (zAW (hr _ (List.mem_singleton.2 rfl)) hi (by omega)) (fun w1 => zBv eo D w1 (by omega) (by omega)) hk
   ·obtain ⟨x,rfl⟩:=zAi (hm1 (by omega))
    obtain ⟨bl,off,rfl,hb,xk,xn,xs,xo,xd,q,xp,xc,xa,xb,xr,xe,xf,rfl,hi,hk⟩:=zAH hp (j:=0) rfl 0 rfl
    rw [zG] at hl ⊢
    have hl2:([108,101,110] ++ 40 :: (prE (.mk xk xn xs xo xd q xa xb xr xe xf) ++ [41]):List UInt8).length ≤ 1000000000000:=hl
    simp only [List.length_append,List.length_cons,List.length_nil] at hl2
    exact zP6 w en es eo ed c ea eb er ee ef bl off xk xn xs xo xd _ xa xb xr xe xf (prE (.mk xk xn xs xo xd q xa xb xr xe xf)) (by omega) hk hb (zAW (hr _ (List.mem_singleton.2 rfl)) hi (by omega))
   ·exact zNN w en es eo ed _ ea eb er ee ef
   ·obtain ⟨x,rfl⟩:=zAi (hm1 (by omega))
    obtain ⟨bl,off,rfl,hb,xk,xn,xs,xo,xd,q,xp,xc,xa,xb,xr,xe,xf,rfl,hi,hk⟩:=zAH hp (j:=0) rfl 0 rfl
    rw [zG] at hl ⊢
    have hl2:(45 :: prW 6 (lvl xk,prE (.mk xk xn xs xo xd q xa xb xr xe xf))).length ≤ 1000000000000:=hl
    simp only [List.length_cons] at hl2
    have h3:=w_ge 6 (lvl xk,prE (.mk xk xn xs xo xd q xa xb xr xe xf))
    dsimp only at h3
    exact zP5 w en es eo ed c ea eb er ee ef bl off xk xn xs xo xd _ xa xb xr xe xf (prW 6 (lvl xk,prE (.mk xk xn xs xo xd q xa xb xr xe xf))) (by omega) hk hb (zCZ (hr _ (List.mem_singleton.2 rfl)) hi (by omega) 6)
   ·obtain ⟨x,rfl⟩:=zAi (hm1 (by omega))
    obtain ⟨bl,off,rfl,hb,xk,xn,xs,xo,xd,q,xp,xc,xa,xb,xr,xe,xf,rfl,hi,hk⟩:=zAH hp (j:=0) rfl 0 rfl
    rw [zG] at hl ⊢
    have hl2:(33 :: prW 6 (lvl xk,prE (.mk xk xn xs xo xd q xa xb xr xe xf))).length ≤ 1000000000000:=hl
    simp only [List.length_cons] at hl2
    have h3:=w_ge 6 (lvl xk,prE (.mk xk xn xs xo xd q xa xb xr xe xf))
    dsimp only at h3
    exact zP3 w en es eo ed c ea eb er ee ef bl off xk xn xs xo xd _ xa xb xr xe xf (prW 6 (lvl xk,prE (.mk xk xn xs xo xd q xa xb xr xe xf))) (by omega) hk hb (zCZ (hr _ (List.mem_singleton.2 rfl)) hi (by omega) 6)
   ·obtain ⟨x,y,rfl⟩:=zCa (hm2 (by omega))
    obtain ⟨bl,off,rfl,hb,xk,xn,xs,xo,xd,q,xp,xc,xa,xb,xr,xe,xf,rfl,hi,hk⟩:=zAH hp (j:=0) rfl 0 rfl
    obtain ⟨bl',off',hbo,-,yk,yn,ys,yo,yd,q2,yp,yc,ya,yb,yr,ye,yf,rfl,hi2,hk2'⟩:=zAH hp (j:=1) rfl 11 rfl
    injection hbo with hbo
    injection hbo with hb1 ho1
    subst hb1 ho1
    rw [zAC] at hl ⊢
    have hpr:prOf ek en es eo ed [(lvl (kindOf (.mk xk xn xs xo xd q xa xb xr xe xf)),prE (.mk xk xn xs xo xd q xa xb xr xe xf)),(lvl (kindOf (.mk yk yn ys yo yd q2 ya yb yr ye yf)),prE (.mk yk yn ys yo yd q2 ya yb yr ye yf))] = prW (lvl ek) (lvl xk,prE (.mk xk xn xs xo xd q xa xb xr xe xf)) ++ 32 :: (opT ek ++ 32 :: prW (lvl ek + 1) (lvl yk,prE (.mk yk yn ys yo yd q2 ya yb yr ye yf))):=by
        unfold prOf
        rw [if_neg (by omega),if_neg (by omega),if_neg (by omega),if_neg (by omega),if_neg (by omega),if_neg (by omega),if_neg (by omega),if_neg (by omega),if_neg (by omega),if_neg (by omega),if_neg (by omega),if_neg (by omega),if_neg (by omega)]
        rfl
    rw [hpr] at hl ⊢
    simp only [List.length_append,List.length_cons] at hl
    have h3:=w_ge (lvl ek) (lvl xk,prE (.mk xk xn xs xo xd q xa xb xr xe xf))
    have h4:=w_ge (lvl ek + 1) (lvl yk,prE (.mk yk yn ys yo yd q2 ya yb yr ye yf))
    dsimp only at h3 h4
    exact zP8 w ek hk14 (by omega) en es eo ed c ea eb er ee ef bl off xk xn xs xo xd _ xa xb xr xe xf yk yn ys yo yd _ ya yb yr ye yf (lvl ek) (prW (lvl ek) (lvl xk,prE (.mk xk xn xs xo xd q xa xb xr xe xf))) (prW (lvl ek + 1) (lvl yk,prE (.mk yk yn ys yo yd q2 ya yb yr ye yf))) (opT ek) (by omega) (by omega) (zLO ek) (zFV ek) (fun w1 => zEm w1 ek en (cbs es) (cbs eo) ed _ ea eb er ee ef) (fun w1 => zJA w1 ek hk14 (by omega)) (zCZ (hr _ (List.mem_cons_self ..)) hi (by omega) (lvl ek)) (zCZ (hr _ (List.mem_cons_of_mem _ (List.mem_singleton.2 rfl))) hi2 (by omega) (lvl ek + 1)) hk hk2'
theorem zAF {x:Ex}(h:shE x):RXp x:=rx_n _ x (Nat.le_refl _) h
end Go.Proofs.YteadgahhchlgeaaDoor
namespace Go.Proofs.YteadgahhchlgeaaDoor
open Go.RowKit
open Pe (Ex)
open Ps (kindOf)
open Go.Lib (decDigits)
open Rt (tyB lvl opT prW prE prL)
def sgL:List (List UInt8):=[[],[],[],[],[],[],[],[],[],[],[],[],[45],[33],[43],[45],[42],[47],[37],[60],[60,61],[61,61],[33,61],[38,38],[124,124]]
def sgT (j:Nat):List UInt8:=sgL.getD j []
structure EnvS (w:World):Prop where
 tab : Lib.TabIs Tryd.prog w "internal/strconv.uint64pow10" .u64 Lib.pow10Tab
 sg:∃ t fr,w.heap[0]? = some (.cells (sgL.map fun z => Value.string (cbs z)).toArray t fr)
theorem EnvS.below {w w':World}(h:EnvS w)(hb:Below w.heap.size w w'):EnvS w':=
 ⟨Lib.tabBelow_of_tabIs h.tab w' hb,by obtain ⟨t,fr,ho⟩:=h.sg; exact ⟨t,fr,(hb.block _ (zA ho)).trans ho⟩⟩
theorem EnvS.sign {w:World}(h:EnvS w)(j:Nat)(hj:j < 25):w.cell? ⟨0,j,none⟩ = some (.string (cbs (sgT j))):=by
 obtain ⟨t,fr,ho⟩:=h.sg
 have key:(sgL.map fun z => Value.string (cbs z)).toArray[j]? = some (.string (cbs (sgT j))):=by
  rw [List.getElem?_toArray,List.getElem?_map]
  have:sgL[j]? = some (sgT j):=by
   unfold sgT
   rw [List.getD_eq_getElem?_getD,List.getElem?_eq_getElem (show j < sgL.length from hj)]
   rfl
  rw [this]
  rfl
 simp only [World.cell?,ho,key]
 rfl
theorem zPN {k:Int}(h : 14 ≤ k)(h2:k ≤ 24):sgT k.toNat = opT k:=by
 have key:∀ j,j < 11 → sgT (14 + j) = opT (((14 + j:Nat):Int)):=by decide
 have:=key (k - 14).toNat (by omega)
 rw [show 14 + (k - 14).toNat = k.toNat by omega,show ((k.toNat:Nat):Int) = k by omega] at this
 exact this
theorem zL4 (N:Nat)(hN:N ≤ 9223372036854775807)(w:World)(he:EnvS w) :
 Calls Tryd.prog 57 #[.int .i64 (N:Int)] w fun e w' => e = .returned (.string (cbs (decDigits N))) ∧ Below w.heap.size w w':=
 (Any.strconv_Itoa Tryd.laysM171 (N:Int) (by omega) (by omega) w he.tab).mono fun _ _ ⟨h,_,_,hw⟩ => ⟨by rw [h]; unfold Lib.itoa; rw [if_neg (by omega),Int.toNat_natCast]; rfl,hw ▸ Lib.below_grow _ _ (Nat.le_refl _) _ _⟩
theorem zCo (v:Bool)(w:World) :
 Calls Tryd.prog 58 #[.bool v] w fun e w' => e = .returned (.string (cbs (if v = true then [116,114,117,101] else [102,97,108,115,101]))) ∧ w = w':=
 (Any.strconv_FormatBool Tryd.lays121 v w).mono fun _ _ ⟨h,hw⟩ => ⟨by rw [h]; cases v <;> rfl,hw.symm⟩
theorem zCG (w:World)(k:Int) :
 Calls Tryd.prog 87 #[.int .i64 k] w fun x w' => x = .returned (.int .i64 ((lvl k:Nat):Int)) ∧ w = w':=by
 go_in
 go_wp2_with fail
 all_goals
  go_ret
  refine ⟨zPR ?_,rfl⟩
  unfold lvl
  simp_all
  try (split <;> first | omega | (split <;> first | omega | rfl))
structure Sta (b:Nat) (w0 w1:World):Prop where
 size:w0.heap.size ≤ b
 below:Below w0.heap.size w0 w1
 env:EnvS w0
theorem Sta.up {b:Nat}{w0 w1 w:World}{l:List UInt8}{n:Int}(h:Sta b w0 w1)(hW:Ws b l n w1 w):Below w0.heap.size w0 w:=h.below.trans (hW.k.below.mono h.size)
abbrev GivW (b:Nat)(n:Int)(w1:World)(F:Nat)(vs:Array Value)(T:List UInt8):Prop:=∀ (l:List UInt8)(w:World),Ws b l n w1 w → l.length + T.length ≤ 70368744177664 →
 Calls Tryd.prog F vs w fun e w' => e = .returned (.tuple #[]) ∧ Ws b (l ++ T) n w1 w'
def At1 (w0:World)(bl off:Nat)(x:Ex):Prop:=bl < w0.heap.size ∧ ∃ vs,Is w0 0 x vs ∧ ∀ (i:Nat)(v:Value),vs[i]? = some v → w0.cell? ⟨bl,off + i,none⟩ = some v
def XOk (x:Ex):Prop:=∀ {b:Nat}{n:Int}{w0 w1:World}{bl off:Nat},Sta b w0 w1 → At1 w0 bl off x → GivW b n w1 33 #[.pointer (some ⟨b,0,none⟩),.pointer (some ⟨bl,off,none⟩)] (prE x)
theorem zBG {b:Nat}{l:List UInt8}{n:Int}{w0 w:World}(s:List UInt8)(h:Ws b l n w0 w)(hlen:l.length + s.length ≤ 70368744177664) :
 Calls Tryd.prog 56 #[.pointer (some ⟨b,0,none⟩),.slice (some ⟨w.heap.size,0,none⟩) 1 1] (w.alloc (.cells #[.string (cbs s)] 9)) fun e w' => e = .returned (.tuple #[]) ∧ Ws b (l ++ s) n w0 w':=
 add1 h (cbs s) (by rw [zB]; omega)
theorem zRk {b:Nat}{l:List UInt8}{n:Int}{w0 w:World}(s t:List UInt8)(h:Ws b l n w0 w)(hlen:l.length + (s.length + t.length) ≤ 70368744177664) :
 Calls Tryd.prog 56 #[.pointer (some ⟨b,0,none⟩),.slice (some ⟨w.heap.size,0,none⟩) 2 2] (w.alloc (.cells #[.string (cbs s),.string (cbs t)] 9)) fun e w' => e = .returned (.tuple #[]) ∧ Ws b (l ++ (s ++ t)) n w0 w':=
 add2 h (cbs s) (cbs t) (by rw [zB,zB]; omega)
theorem zTg {b:Nat}{l:List UInt8}{n:Int}{w0 w:World}(s t u:List UInt8)(h:Ws b l n w0 w)(hlen:l.length + (s.length + (t.length + u.length)) ≤ 70368744177664) :
 Calls Tryd.prog 56 #[.pointer (some ⟨b,0,none⟩),.slice (some ⟨w.heap.size,0,none⟩) 3 3] (w.alloc (.cells #[.string (cbs s),.string (cbs t),.string (cbs u)] 9)) fun e w' => e = .returned (.tuple #[]) ∧ Ws b (l ++ (s ++ (t ++ u))) n w0 w':=
 add3 h (cbs s) (cbs t) (cbs u) (by rw [zB,zB,zB]; omega)
theorem zGE {b:Nat}{n:Int}{w0 w1:World}(hS:Sta b w0 w1){bl off:Nat}{ek en:Int}{es eo:List UInt8}{ed:Int}{ea eb er ee ef:Int}{ks:List Ex}(c:Nat)(p:Option Addr)(hp:KidsAt w0 0 p ks)(hk:Kd w0 bl off ek en es eo ed (.slice p ks.length c) ea eb er ee ef)
 (_hn:ks.length ≤ 100000000000000) (j:Nat) {x:Ex} (hx:ks[j]? = some x) (hX:XOk x) (m:Nat) :
 GivW b n w1 59 #[.pointer (some ⟨b,0,none⟩),.pointer (some ⟨bl,off,none⟩),.int .i64 (j:Int),.int .i64 (m:Int)] (prW m (lvl (kindOf x),prE x)):=by
 intro l w hW hlen
 have hjl:j < ks.length:=(List.getElem?_eq_some_iff.1 hx).1
 have hd1:decide ((ks.length:Int) ≤ (j:Int)) = false:=decide_eq_false (by omega)
 have hd2:decide (ks.length ≤ j) = false:=decide_eq_false (by omega)
 have hi1:(j:Int) < (ks.length:Int):=by omega
 have hi3:(0:Int) ≤ (j:Int):=by omega
 obtain ⟨kb,ko,rfl,hkb,xk,xn,xs,xo,xd,q,xp,xc,xa,xb,xr,xe,xf,rfl,hi,hkk⟩:=zAH hp hx (j * 11) rfl
 have hA:At1 w0 kb (ko + j * 11) (.mk xk xn xs xo xd q xa xb xr xe xf):=by
  obtain ⟨b2,o2,vs,h1,h2,h3,h4⟩:=hp.get hx
  injection h1 with h1
  injection h1 with h5 h6
  subst h5 h6
  exact ⟨h2,vs,h3,h4⟩
 have HX:=vH (hX (n:=n) hS hA)
 have F:=vH hW
 have hC:=(hkk.go (hS.up hW)).1
 have hK:=(hk.go (hS.up hW)).2.2.2.2.2.1
 have hLV:=fun w2 => zCG w2 xk
 dsimp only [kindOf] at hlen ⊢
 generalize prE (.mk xk xn xs xo xd q xa xb xr xe xf) = T at HX hlen ⊢
 generalize lvl xk = L at hLV hlen ⊢
 have HV:=vH hLV
 clear hp hX hA hx hi hkk hk hW hLV
 by_cases hlt:L < m
 ·have hp:prW m (L,T) = 40 :: (T ++ [41]):=if_pos hlt
  rw [hp] at hlen ⊢
  simp only [List.length_cons,List.length_append,List.length_nil] at hlen
  have h1:l.length + ([40]:List UInt8).length ≤ 70368744177664:=by simp only [List.length_cons,List.length_nil]; omega
  have h2:(l ++ [40]).length + T.length ≤ 70368744177664:=by simp only [List.length_append,List.length_cons,List.length_nil]; omega
  have h3:(l ++ [40] ++ T).length + ([41]:List UInt8).length ≤ 70368744177664:=by simp only [List.length_append,List.length_cons,List.length_nil]; omega
  have H1:=vH h1
  have H2:=vH h2
  have H3:=vH h3
  have hd3:decide (m ≤ L) = false:=decide_eq_false (by omega)
  clear h1 h2 h3 hlen hp hlt
  go_in
  go_wp2_with fail
  refine (HV.out _).mono ?_
  rintro e w2 ⟨rfl,rfl⟩
  go_wp2_with fail
  refine (zBG [40] F.out H1.out).mono ?_
  rintro e w2 ⟨rfl,hW2⟩
  have F2:=vH hW2
  clear hW2 hC hK
  go_wp2_with fail
  refine (HX.out _ _ F2.out H2.out).mono ?_
  rintro e w3 ⟨rfl,hW3⟩
  have F3:=vH hW3
  clear hW3
  go_wp2_with fail
  refine (zBG [41] F3.out H3.out).mono ?_
  rintro e w4 ⟨rfl,hW4⟩
  have F4:=vH hW4
  clear hW4
  go_wp2_with fail
  go_end0
  exact ⟨rfl,F4.out.cast (by simp)⟩
 ·have hp:prW m (L,T) = T:=if_neg hlt
  rw [hp] at hlen ⊢
  have H1:=vH hlen
  have hd3:decide (m ≤ L) = true:=decide_eq_true (by omega)
  clear hlen hp hlt
  go_in
  go_wp2_with fail
  refine (HV.out _).mono ?_
  rintro e w2 ⟨rfl,rfl⟩
  go_wp2_with fail
  refine (HX.out _ _ F.out H1.out).mono ?_
  rintro e w3 ⟨rfl,hW3⟩
  have F3:=vH hW3
  clear hW3
  go_wp2_with fail
  refine bodyPost_ret (results_none rfl _ _ _) rfl ?_
  exact ⟨rfl,F3.out⟩
end Go.Proofs.YteadgahhchlgeaaDoor
namespace Go.Proofs.YteadgahhchlgeaaDoor
open Ln (zCn textData)
open Go.ChangeShapes Go.WideShapes Go.ChangeAt Go.WideMaps Go.WideElems Go.RowKit
def laidAll : List (String × DataW Unit) := [("math/bits.deBruijn32tab", Rows.laid_math_bits_deBruijn32tab), ("math/bits.deBruijn64tab", Rows.laid_math_bits_deBruijn64tab), ("internal/strconv.uint64pow10", Rows.laid_internal_strconv_uint64pow10), ("runrig/show.signs", Rows.laid_runrig_show_signs)]
theorem zQd:(Rows.laid_internal_strconv_uint64pow10:DataW Unit) = Lib.tabData .u64 Lib.pow10Tab:=by kernel_rfl
theorem zSd:(Rows.laid_runrig_show_signs:DataW Unit) = textData sgL:=by kernel_rfl
theorem env_of {W:World}(h:laidMetH Tryd.prog laidAll W):EnvS W:=by
 rw [MakeChecks.laidMetH_plain _ _ _ (by kernel_rfl)] at h
 have h2:=h.tail.tail
 have h3:=h2.tail
 rw [show (("internal/strconv.uint64pow10", Rows.laid_internal_strconv_uint64pow10) : String × DataW Unit) = ("internal/strconv.uint64pow10", Lib.tabData .u64 Lib.pow10Tab) by rw [zQd]] at h2
 rw [show (("runrig/show.signs", Rows.laid_runrig_show_signs) : String × DataW Unit) = ("runrig/show.signs", textData sgL) by rw [zSd]] at h3
 have ht := Lib.tabIs_of_head (by kernel_rfl : Tryd.prog.globalNamed "internal/strconv.uint64pow10" = some 4) (by kernel_rfl : (Tryd.prog.globals[4]?).map (·.type) = some 220) Tryd.underlying220 Tryd.underlying202 (by kernel_rfl) (by kernel_rfl) h2
 obtain ⟨t, fr, hs⟩ := zCn (by kernel_rfl : Tryd.prog.globalNamed "runrig/show.signs" = some 0) (by kernel_rfl : (Tryd.prog.globals[0]?).map (·.type) = some 167) Tryd.underlying167 Tryd.underlying9 (by kernel_rfl) (by kernel_rfl) h3
 exact ⟨ht,t,fr,hs⟩
end Go.Proofs.YteadgahhchlgeaaDoor
