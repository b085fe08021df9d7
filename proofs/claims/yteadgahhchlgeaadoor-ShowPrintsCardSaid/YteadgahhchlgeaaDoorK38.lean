/-
  The given printer of expressions, kind by kind.
-/
import Derived.Test.YteadgahhchlgeaaDoorK02
import Derived.Test.YteadgahhchlgeaaDoorK37
set_option maxRecDepth 8000
set_option maxHeartbeats 8000000
namespace Go.Proofs.YteadgahhchlgeaaDoor
open Go.RowKit
open Pe (Ex)
open Ps (kindOf)
open Go.Lib (decDigits)
open Rt (tyB lvl opT prW prE prL prOf)
theorem zD {w w':World}(hb:Below w.heap.size w w'){a:Addr}{v:Value}(h:w.cell? a = some v):w'.cell? a = some v:=
 (hb.cell (World.block_lt_of_cell? _ _ h)).trans h
theorem zON (a b:ByteArray)(h:a.size + b.size ≤ 9223372036854775807)(w':World):(binOp .add 9 (.string a) (.string b)).run Tryd.prog w' = .ok (.string (a ++ b)) w':=by
 have:=h
 simp [go_sem,this]
theorem zL (a b:List UInt8)(h:a.length + b.length ≤ 9000000000000000000)(w':World):(Op.stringOp .add (cbs a) (cbs b)).run Tryd.prog w' = .ok (.string (cbs (a ++ b))) w':=by
 rw [← zAo]
 exact zON (cbs a) (cbs b) (by rw [zB,zB]; omega) w'
def Kd (w:World)(bl o:Nat)(xk xn:Int)(xs xo:List UInt8)(xd:Int)(xv:Value)(xa xb xr xe xf:Int):Prop:=
 w.cell? ⟨bl,o,none⟩ = some (.int .i64 xk) ∧ w.cell? ⟨bl,o + 1,none⟩ = some (.int .i64 xn) ∧ w.cell? ⟨bl,o + 2,none⟩ = some (.string (cbs xs)) ∧ w.cell? ⟨bl,o + 3,none⟩ = some (.string (cbs xo)) ∧ w.cell? ⟨bl,o + 4,none⟩ = some (.int .i64 xd) ∧ w.cell? ⟨bl,o + 5,none⟩ = some xv ∧ w.cell? ⟨bl,o + 6,none⟩ = some (.int .i64 xa) ∧ w.cell? ⟨bl,o + 7,none⟩ = some (.int .i64 xb) ∧ w.cell? ⟨bl,o + 8,none⟩ = some (.int .i64 xr) ∧ w.cell? ⟨bl,o + 9,none⟩ = some (.int .i64 xe) ∧ w.cell? ⟨bl,o + 10,none⟩ = some (.int .i64 xf)
theorem Kd.go {w w':World}{bl o:Nat}{xk xn:Int}{xs xo:List UInt8}{xd:Int}{xv:Value}{xa xb xr xe xf:Int}(h:Kd w bl o xk xn xs xo xd xv xa xb xr xe xf)(hb:Below w.heap.size w w'):Kd w' bl o xk xn xs xo xd xv xa xb xr xe xf:=by
 obtain ⟨h0,h1,h2,h3,h4,h5,h6,h7,h8,h9,hX⟩:=h
 exact ⟨zD hb h0,zD hb h1,zD hb h2,zD hb h3,zD hb h4,zD hb h5,zD hb h6,zD hb h7,zD hb h8,zD hb h9,zD hb hX⟩
structure Bxp (w W:World) (T:TypeId) (A:Array Value):Prop where
 b:Below w.heap.size w W
 h:W.heap[w.heap.size]? = some (.cells A T (0,0))
theorem Bxp.start (w:World)(T:TypeId)(A:Array Value):Bxp w (w.alloc (.cells A T)) T A:=⟨(Below.refl _ _).alloc (Nat.le_refl _) _,heap_alloc_new w _⟩
theorem Bxp.go {w W W':World}{T:TypeId}{A:Array Value}(h:Bxp w W T A)(hb:Below W.heap.size W W'):Bxp w W' T A:=⟨zH h.b hb h.b.size,(hb.block _ (zA h.h)).trans h.h⟩
theorem Bxp.drew {w W:World}{T:TypeId}{A:Array Value}(h:Bxp w W T A):Bxp w W.drew T A:=h.go (Below.refl _ _).drew
theorem zAI (w:World):Below w.heap.size w w.drew:=(Below.refl _ _).drew
def RXp (x:Ex):Prop:=∀ (w:World)(vs:List Value),Is w 0 x vs → (prE x).length ≤ 1000000000000 →
 Calls Tryd.prog 45 #[.agg ⟨vs⟩] w fun e w' => e = .returned (.string (cbs (prE x))) ∧ Below w.heap.size w w'
abbrev Gives (w:World)(F:Nat)(vs:Array Value)(T:List UInt8):Prop:=∀ w1,Below w.heap.size w w1 → Calls Tryd.prog F vs w1 fun e w' => e = .returned (.string (cbs T)) ∧ Below w1.heap.size w1 w'
theorem zGi (w:World)(xk xn:Int)(xs xo:List UInt8)(xd:Int)(xv:Value)(xa xb xr xe xf:Int)(T:List UInt8)(hl:T.length ≤ 1000000000000)(m:Nat)(hE:Gives w 45 #[.agg #[.int .i64 xk,.int .i64 xn,.string (cbs xs),.string (cbs xo),.int .i64 xd,xv,.int .i64 xa,.int .i64 xb,.int .i64 xr,.int .i64 xe,.int .i64 xf]] T) :
 Calls Tryd.prog 78 #[.agg #[.int .i64 xk,.int .i64 xn,.string (cbs xs),.string (cbs xo),.int .i64 xd,xv,.int .i64 xa,.int .i64 xb,.int .i64 xr,.int .i64 xe,.int .i64 xf],.int .i64 (m:Int)] w fun e w' => e = .returned (.string (cbs (prW m (lvl xk,T)))) ∧ Below w.heap.size w w':=by
 have X:=vH (Bxp.start w 45 #[.int .i64 xk,.int .i64 xn,.string (cbs xs),.string (cbs xo),.int .i64 xd,xv,.int .i64 xa,.int .i64 xb,.int .i64 xr,.int .i64 xe,.int .i64 xf])
 have HE:=vH hE
 have hlv:=fun w1 => zEm w1 xk xn (cbs xs) (cbs xo) xd xv xa xb xr xe xf
 have HL:=vH hlv
 clear hE hlv
 have hz1:((⟨#[40]⟩:ByteArray)).size + (cbs T).size ≤ 9223372036854775807:=by simp only [zB]; show 1 + (T).length ≤ _; omega
 have hz2:((⟨#[40]⟩:ByteArray) ++ cbs T).size + (⟨#[41]⟩:ByteArray).size ≤ 9223372036854775807:=by simp only [ByteArray.size_append,zB]; show 1 + (T).length + 1 ≤ _; omega
 generalize lvl xk = L at HL ⊢
 by_cases hlt:L < m
 ·have hd:decide (L < m) = true:=decide_eq_true hlt
  have hp:prW m (L,T) = 40 :: (T ++ [41]):=if_pos hlt
  have HP:=vH hp
  clear hp hlt
  go_in
  go_wp2_with fail
  refine (HL.out _).mono ?_
  rintro e w1 ⟨rfl,hb⟩
  have X2:=vH (X.out.go hb)
  clear hb X
  obtain ⟨⟨d0,d1,d2,d3,d4,d5,d6,d7,d8,d9,dX⟩,-⟩:=hen X2.out.h
  go_wp2_with fail
  refine (HE.out _ X2.out.b).mono ?_
  rintro e w2 ⟨rfl,hb⟩
  have X3:=vH (X2.out.go hb)
  clear hb d0 d1 d2 d3 d4 d5 d6 d7 d8 d9 dX
  go_wp2_with fail
  go_ret
  exact ⟨zBV (by rw [HP.out]; show cbs [40] ++ cbs T ++ cbs [41] = _; simp only [zAo]; exact congrArg cbs (by simp)),X3.out.b⟩
 ·have hd:decide (L < m) = false:=decide_eq_false hlt
  have hp:prW m (L,T) = T:=if_neg hlt
  have HP:=vH hp
  clear hp hlt
  go_in
  go_wp2_with fail
  refine (HL.out _).mono ?_
  rintro e w1 ⟨rfl,hb⟩
  have X2:=vH (X.out.go hb)
  clear hb X
  obtain ⟨⟨d0,d1,d2,d3,d4,d5,d6,d7,d8,d9,dX⟩,-⟩:=hen X2.out.h
  go_wp2_with fail
  refine (HE.out _ X2.out.b).mono ?_
  rintro e w2 ⟨rfl,hb⟩
  have X3:=vH (X2.out.go hb)
  clear hb d0 d1 d2 d3 d4 d5 d6 d7 d8 d9 dX
  go_wp2_with fail
  go_ret
  exact ⟨zBV (by rw [HP.out]),X3.out.b⟩
theorem zP2 (w:World)(N:Nat)(hN:N ≤ 9223372036854775807)(es eo:List UInt8)(ed:Int)(ev:Value)(ea eb er ee ef:Int) :
 Calls Tryd.prog 45 #[.agg #[.int .i64 1,.int .i64 (N:Int),.string (cbs es),.string (cbs eo),.int .i64 ed,ev,.int .i64 ea,.int .i64 eb,.int .i64 er,.int .i64 ee,.int .i64 ef]] w fun e w' => e = .returned (.string (cbs (decDigits N))) ∧ Below w.heap.size w w':=by
 have X:=vH (Bxp.start w 45 #[.int .i64 1,.int .i64 (N:Int),.string (cbs es),.string (cbs eo),.int .i64 ed,ev,.int .i64 ea,.int .i64 eb,.int .i64 er,.int .i64 ee,.int .i64 ef])
 have HN:=vH hN
 clear hN
 go_in
 go_wp2_with fail
 refine (zJz N HN.out _).mono ?_
 rintro e w1 ⟨rfl,hb⟩
 have X2:=vH (X.out.go hb)
 clear hb
 go_wp2_with fail
 go_ret
 exact ⟨rfl,X2.out.b⟩
theorem zP1 (w:World)(es eo:List UInt8)(ed:Int)(ev:Value)(ea eb er ee ef:Int) :
 Calls Tryd.prog 45 #[.agg #[.int .i64 2,.int .i64 1,.string (cbs es),.string (cbs eo),.int .i64 ed,ev,.int .i64 ea,.int .i64 eb,.int .i64 er,.int .i64 ee,.int .i64 ef]] w fun e w' => e = .returned (.string (cbs ([116,114,117,101]))) ∧ Below w.heap.size w w':=by
 have X:=vH (Bxp.start w 45 #[.int .i64 2,.int .i64 1,.string (cbs es),.string (cbs eo),.int .i64 ed,ev,.int .i64 ea,.int .i64 eb,.int .i64 er,.int .i64 ee,.int .i64 ef])
 go_in
 go_wp2_with fail
 go_ret
 exact ⟨rfl,X.out.b⟩
theorem zP7 (w:World)(es eo:List UInt8)(ed:Int)(ev:Value)(ea eb er ee ef:Int) :
 Calls Tryd.prog 45 #[.agg #[.int .i64 2,.int .i64 0,.string (cbs es),.string (cbs eo),.int .i64 ed,ev,.int .i64 ea,.int .i64 eb,.int .i64 er,.int .i64 ee,.int .i64 ef]] w fun e w' => e = .returned (.string (cbs ([102,97,108,115,101]))) ∧ Below w.heap.size w w':=by
 have X:=vH (Bxp.start w 45 #[.int .i64 2,.int .i64 0,.string (cbs es),.string (cbs eo),.int .i64 ed,ev,.int .i64 ea,.int .i64 eb,.int .i64 er,.int .i64 ee,.int .i64 ef])
 go_in
 go_wp2_with fail
 go_ret
 exact ⟨rfl,X.out.b⟩
theorem zNO (w:World)(D:Nat)(hD:D ≤ 3)(en:Int)(es eo:List UInt8)(hl:eo.length ≤ 1000000000000)(ev:Value)(ea eb er ee ef:Int) :
 Calls Tryd.prog 45 #[.agg #[.int .i64 3,.int .i64 en,.string (cbs es),.string (cbs eo),.int .i64 (D:Int),ev,.int .i64 ea,.int .i64 eb,.int .i64 er,.int .i64 ee,.int .i64 ef]] w fun e w' => e = .returned (.string (cbs ([110,117,108,108] ++ 32 :: tyB eo D))) ∧ Below w.heap.size w w':=by
 have X:=vH (Bxp.start w 45 #[.int .i64 3,.int .i64 en,.string (cbs es),.string (cbs eo),.int .i64 (D:Int),ev,.int .i64 ea,.int .i64 eb,.int .i64 er,.int .i64 ee,.int .i64 ef])
 have HT:=vH (fun w1 => zBv eo D w1 hD hl)
 have hty:=zAg eo D
 have hz1:((⟨#[110,117,108,108,32]⟩:ByteArray)).size + (cbs (tyB eo D)).size ≤ 9223372036854775807:=by simp only [zB]; show 5 + (tyB eo D).length ≤ _; omega
 clear hty hD hl
 generalize tyB eo D = TY at HT hz1 ⊢
 go_in
 go_wp2_with fail
 refine (HT.out _).mono ?_
 rintro e w1 ⟨rfl,hb⟩
 have X2:=vH (X.out.go hb)
 clear hb
 go_wp2_with fail
 go_ret
 exact ⟨zBV (by show cbs [110,117,108,108,32] ++ cbs TY = _; simp only [zAo]; exact congrArg cbs (by simp)),X2.out.b⟩
theorem zP0 (w:World)(en:Int)(es eo:List UInt8)(ed:Int)(ev:Value)(ea eb er ee ef:Int) :
 Calls Tryd.prog 45 #[.agg #[.int .i64 4,.int .i64 en,.string (cbs es),.string (cbs eo),.int .i64 ed,ev,.int .i64 ea,.int .i64 eb,.int .i64 er,.int .i64 ee,.int .i64 ef]] w fun e w' => e = .returned (.string (cbs (es))) ∧ Below w.heap.size w w':=by
 have X:=vH (Bxp.start w 45 #[.int .i64 4,.int .i64 en,.string (cbs es),.string (cbs eo),.int .i64 ed,ev,.int .i64 ea,.int .i64 eb,.int .i64 er,.int .i64 ee,.int .i64 ef])
 go_in
 go_wp2_with fail
 go_ret
 exact ⟨rfl,X.out.b⟩
theorem zP4 (w:World)(en:Int)(es eo:List UInt8)(ed:Int)(ev:Value)(ea eb er ee ef:Int)(hl:eo.length ≤ 1000000000000) :
 Calls Tryd.prog 45 #[.agg #[.int .i64 8,.int .i64 en,.string (cbs es),.string (cbs eo),.int .i64 ed,ev,.int .i64 ea,.int .i64 eb,.int .i64 er,.int .i64 ee,.int .i64 ef]] w fun e w' => e = .returned (.string (cbs ([110,101,119] ++ 32 :: eo))) ∧ Below w.heap.size w w':=by
 have X:=vH (Bxp.start w 45 #[.int .i64 8,.int .i64 en,.string (cbs es),.string (cbs eo),.int .i64 ed,ev,.int .i64 ea,.int .i64 eb,.int .i64 er,.int .i64 ee,.int .i64 ef])
 have hz1:((⟨#[110,101,119,32]⟩:ByteArray)).size + (cbs eo).size ≤ 9223372036854775807:=by simp only [zB]; show 4 + (eo).length ≤ _; omega
 clear hl
 go_in
 go_wp2_with fail
 go_ret
 exact ⟨zBV (by show cbs [110,101,119,32] ++ cbs eo = _; simp only [zAo]; exact congrArg cbs (by simp)),X.out.b⟩
theorem zNN (w:World)(en:Int)(es eo:List UInt8)(ed:Int)(ev:Value)(ea eb er ee ef:Int) :
 Calls Tryd.prog 45 #[.agg #[.int .i64 11,.int .i64 en,.string (cbs es),.string (cbs eo),.int .i64 ed,ev,.int .i64 ea,.int .i64 eb,.int .i64 er,.int .i64 ee,.int .i64 ef]] w fun e w' => e = .returned (.string (cbs ([114,101,97,100] ++ [40,41]))) ∧ Below w.heap.size w w':=by
 have X:=vH (Bxp.start w 45 #[.int .i64 11,.int .i64 en,.string (cbs es),.string (cbs eo),.int .i64 ed,ev,.int .i64 ea,.int .i64 eb,.int .i64 er,.int .i64 ee,.int .i64 ef])
 go_in
 go_wp2_with fail
 go_ret
 exact ⟨rfl,X.out.b⟩
theorem zP6 (w:World)(en:Int)(es eo:List UInt8)(ed:Int)(c:Nat)(ea eb er ee ef:Int)(bl off:Nat)(xk xn:Int)(xs xo:List UInt8)(xd:Int)(xv:Value)(xa xb xr xe xf:Int)(T:List UInt8)(hl:T.length ≤ 2000000000000)(hk:Kd w bl off xk xn xs xo xd xv xa xb xr xe xf)(hlt:bl < w.heap.size)(hW:Gives w 45 #[.agg #[.int .i64 xk,.int .i64 xn,.string (cbs xs),.string (cbs xo),.int .i64 xd,xv,.int .i64 xa,.int .i64 xb,.int .i64 xr,.int .i64 xe,.int .i64 xf]] T) :
 Calls Tryd.prog 45 #[.agg #[.int .i64 10,.int .i64 en,.string (cbs es),.string (cbs eo),.int .i64 ed,.slice (some ⟨bl,off,none⟩) 1 c,.int .i64 ea,.int .i64 eb,.int .i64 er,.int .i64 ee,.int .i64 ef]] w fun e w' => e = .returned (.string (cbs ([108,101,110,40] ++ T ++ [41]))) ∧ Below w.heap.size w w':=by
 have X:=vH (Bxp.start w 45 #[.int .i64 10,.int .i64 en,.string (cbs es),.string (cbs eo),.int .i64 ed,.slice (some ⟨bl,off,none⟩) 1 c,.int .i64 ea,.int .i64 eb,.int .i64 er,.int .i64 ee,.int .i64 ef])
 have hz1:((⟨#[108,101,110,40]⟩:ByteArray)).size + (cbs T).size ≤ 9223372036854775807:=by simp only [zB]; show 4 + (T).length ≤ _; omega
 have hz2:((⟨#[108,101,110,40]⟩:ByteArray) ++ cbs T).size + (⟨#[41]⟩:ByteArray).size ≤ 9223372036854775807:=by simp only [ByteArray.size_append,zB]; show 4 + (T).length + 1 ≤ _; omega
 have K:=vH (hk.go X.out.b)
 have HW:=vH hW
 have hne:bl ≠ w.heap.size:=Nat.ne_of_lt hlt
 clear hk hlt hW
 obtain ⟨x0,x1,x2,x3,x4,x5,x6,x7,x8,x9,xX⟩:=K.out
 go_in
 go_wp2_with fail
 refine (HW.out _ X.out.b).mono ?_
 rintro e w1 ⟨rfl,hb⟩
 have X2:=vH (X.out.go hb)
 clear hb x0 x1 x2 x3 x4 x5 x6 x7 x8 x9 xX
 go_wp2_with fail
 go_ret
 exact ⟨zBV (by show cbs [108,101,110,40] ++ cbs T ++ cbs [41] = _; simp only [zAo]; exact congrArg cbs (by simp)),X2.out.b⟩
theorem zP5 (w:World)(en:Int)(es eo:List UInt8)(ed:Int)(c:Nat)(ea eb er ee ef:Int)(bl off:Nat)(xk xn:Int)(xs xo:List UInt8)(xd:Int)(xv:Value)(xa xb xr xe xf:Int)(T:List UInt8)(hl:T.length ≤ 2000000000000)(hk:Kd w bl off xk xn xs xo xd xv xa xb xr xe xf)(hlt:bl < w.heap.size)(hW:Gives w 78 #[.agg #[.int .i64 xk,.int .i64 xn,.string (cbs xs),.string (cbs xo),.int .i64 xd,xv,.int .i64 xa,.int .i64 xb,.int .i64 xr,.int .i64 xe,.int .i64 xf],.int .i64 6] T) :
 Calls Tryd.prog 45 #[.agg #[.int .i64 12,.int .i64 en,.string (cbs es),.string (cbs eo),.int .i64 ed,.slice (some ⟨bl,off,none⟩) 1 c,.int .i64 ea,.int .i64 eb,.int .i64 er,.int .i64 ee,.int .i64 ef]] w fun e w' => e = .returned (.string (cbs ([45] ++ T))) ∧ Below w.heap.size w w':=by
 have X:=vH (Bxp.start w 45 #[.int .i64 12,.int .i64 en,.string (cbs es),.string (cbs eo),.int .i64 ed,.slice (some ⟨bl,off,none⟩) 1 c,.int .i64 ea,.int .i64 eb,.int .i64 er,.int .i64 ee,.int .i64 ef])
 have hz1:((⟨#[45]⟩:ByteArray)).size + (cbs T).size ≤ 9223372036854775807:=by simp only [zB]; show 1 + (T).length ≤ _; omega
 have K:=vH (hk.go X.out.b)
 have HW:=vH hW
 have hne:bl ≠ w.heap.size:=Nat.ne_of_lt hlt
 clear hk hlt hW
 obtain ⟨x0,x1,x2,x3,x4,x5,x6,x7,x8,x9,xX⟩:=K.out
 go_in
 go_wp2_with fail
 refine (HW.out _ X.out.b).mono ?_
 rintro e w1 ⟨rfl,hb⟩
 have X2:=vH (X.out.go hb)
 clear hb x0 x1 x2 x3 x4 x5 x6 x7 x8 x9 xX
 go_wp2_with fail
 go_ret
 exact ⟨zBV (by show cbs [45] ++ cbs T = _; simp only [zAo]; exact congrArg cbs (by simp)),X2.out.b⟩
theorem zP3 (w:World)(en:Int)(es eo:List UInt8)(ed:Int)(c:Nat)(ea eb er ee ef:Int)(bl off:Nat)(xk xn:Int)(xs xo:List UInt8)(xd:Int)(xv:Value)(xa xb xr xe xf:Int)(T:List UInt8)(hl:T.length ≤ 2000000000000)(hk:Kd w bl off xk xn xs xo xd xv xa xb xr xe xf)(hlt:bl < w.heap.size)(hW:Gives w 78 #[.agg #[.int .i64 xk,.int .i64 xn,.string (cbs xs),.string (cbs xo),.int .i64 xd,xv,.int .i64 xa,.int .i64 xb,.int .i64 xr,.int .i64 xe,.int .i64 xf],.int .i64 6] T) :
 Calls Tryd.prog 45 #[.agg #[.int .i64 13,.int .i64 en,.string (cbs es),.string (cbs eo),.int .i64 ed,.slice (some ⟨bl,off,none⟩) 1 c,.int .i64 ea,.int .i64 eb,.int .i64 er,.int .i64 ee,.int .i64 ef]] w fun e w' => e = .returned (.string (cbs ([33] ++ T))) ∧ Below w.heap.size w w':=by
 have X:=vH (Bxp.start w 45 #[.int .i64 13,.int .i64 en,.string (cbs es),.string (cbs eo),.int .i64 ed,.slice (some ⟨bl,off,none⟩) 1 c,.int .i64 ea,.int .i64 eb,.int .i64 er,.int .i64 ee,.int .i64 ef])
 have hz1:((⟨#[33]⟩:ByteArray)).size + (cbs T).size ≤ 9223372036854775807:=by simp only [zB]; show 1 + (T).length ≤ _; omega
 have K:=vH (hk.go X.out.b)
 have HW:=vH hW
 have hne:bl ≠ w.heap.size:=Nat.ne_of_lt hlt
 clear hk hlt hW
 obtain ⟨x0,x1,x2,x3,x4,x5,x6,x7,x8,x9,xX⟩:=K.out
 go_in
 go_wp2_with fail
 refine (HW.out _ X.out.b).mono ?_
 rintro e w1 ⟨rfl,hb⟩
 have X2:=vH (X.out.go hb)
 clear hb x0 x1 x2 x3 x4 x5 x6 x7 x8 x9 xX
 go_wp2_with fail
 go_ret
 exact ⟨zBV (by show cbs [33] ++ cbs T = _; simp only [zAo]; exact congrArg cbs (by simp)),X2.out.b⟩
theorem zLk (w:World)(en:Int)(es eo:List UInt8)(ed:Int)(c:Nat)(ea eb er ee ef:Int)(bl off:Nat)(xk xn:Int)(xs xo:List UInt8)(xd:Int)(xv:Value)(xa xb xr xe xf:Int)(T:List UInt8)(hl:T.length ≤ 2000000000000)(hs:es.length ≤ 1000000000000)(hW:Gives w 78 #[.agg #[.int .i64 xk,.int .i64 xn,.string (cbs xs),.string (cbs xo),.int .i64 xd,xv,.int .i64 xa,.int .i64 xb,.int .i64 xr,.int .i64 xe,.int .i64 xf],.int .i64 7] T)(hk:Kd w bl off xk xn xs xo xd xv xa xb xr xe xf) :
 Calls Tryd.prog 45 #[.agg #[.int .i64 5,.int .i64 en,.string (cbs es),.string (cbs eo),.int .i64 ed,.slice (some ⟨bl,off,none⟩) 1 c,.int .i64 ea,.int .i64 eb,.int .i64 er,.int .i64 ee,.int .i64 ef]] w fun e w' => e = .returned (.string (cbs (T ++ 46 :: es))) ∧ Below w.heap.size w w':=by
 have X:=vH (Bxp.start w 45 #[.int .i64 5,.int .i64 en,.string (cbs es),.string (cbs eo),.int .i64 ed,.slice (some ⟨bl,off,none⟩) 1 c,.int .i64 ea,.int .i64 eb,.int .i64 er,.int .i64 ee,.int .i64 ef])
 obtain ⟨C1,hC1⟩:∃ C:List UInt8,C = T ++ [46]:=⟨_,rfl⟩
 have hl1:C1.length = T.length + 1:=by rw [hC1,List.length_append] <;> rfl
 have hc1:∀ w':World,(Op.stringOp .add (cbs T) (⟨#[46]⟩:ByteArray)).run Tryd.prog w' = .ok (.string (cbs C1)) w':=by
  rw [hC1]
  exact zL T [46] (by show T.length + 1 ≤ _; omega)
 obtain ⟨C2,hC2⟩:∃ C:List UInt8,C = C1 ++ es:=⟨_,rfl⟩
 have hl2:C2.length = C1.length + (es).length:=by rw [hC2,List.length_append] <;> rfl
 have hc2:∀ w':World,(Op.stringOp .add (cbs C1) (cbs es)).run Tryd.prog w' = .ok (.string (cbs C2)) w':=by
  rw [hC2]
  exact zL C1 es (by show C1.length + (es).length ≤ _; omega)
 have HC1:=vH hC1
 have HC2:=vH hC2
 clear hl1 hl2 hC2 hC1
 have K:=vH (hk.go X.out.b)
 have L:=vH (hk.go X.out.b)
 have HW:=vH hW
 clear hW hl hs hk
 go_in
 go_wp2_with fail
 generalize w.alloc (.cells #[.int .i64 5,.int .i64 en,.string (cbs es),.string (cbs eo),.int .i64 ed,.slice (some ⟨bl,off,none⟩) 1 c,.int .i64 ea,.int .i64 eb,.int .i64 er,.int .i64 ee,.int .i64 ef] 45) = W at X K L ⊢
 have X2:=vH X.out.drew
 have K2:=vH (K.out.go (zAI W))
 have L2:=vH (L.out.go (zAI W))
 clear X K L
 have X:=X2
 have K:=K2
 have L:=L2
 clear X2 K2 L2
 go_region_held3 (fun w' => w'.cell? ⟨w.heap.size,2,none⟩ = some (.string (cbs es)) ∧ w'.cell? ⟨w.heap.size,5,none⟩ = some (.slice (some ⟨bl,off,none⟩) 1 c) ∧ w'.cell? ⟨bl,off,none⟩ = some (.int .i64 xk) ∧ w'.cell? ⟨bl,off + 1,none⟩ = some (.int .i64 xn) ∧ w'.cell? ⟨bl,off + 2,none⟩ = some (.string (cbs xs)) ∧ w'.cell? ⟨bl,off + 3,none⟩ = some (.string (cbs xo)) ∧ w'.cell? ⟨bl,off + 4,none⟩ = some (.int .i64 xd) ∧ w'.cell? ⟨bl,off + 5,none⟩ = some (xv) ∧ w'.cell? ⟨bl,off + 6,none⟩ = some (.int .i64 xa) ∧ w'.cell? ⟨bl,off + 7,none⟩ = some (.int .i64 xb) ∧ w'.cell? ⟨bl,off + 8,none⟩ = some (.int .i64 xr) ∧ w'.cell? ⟨bl,off + 9,none⟩ = some (.int .i64 xe) ∧ w'.cell? ⟨bl,off + 10,none⟩ = some (.int .i64 xf)) (first | exact ⟨(hen X.out.h).1.2.2.1,(hen X.out.h).1.2.2.2.2.2.1,K.out⟩)
  (first
  | (go_at_call 78; (with_reducible refine Calls.mono (HW.out _ X.out.b) ?_); rintro e u ⟨rfl,hb⟩; have X2:=vH (X.out.go hb); have X:=X2; have K2:=vH (K.out.go hb); have K:=K2; have L2:=vH (L.out.go hb); have L:=L2))
 all_goals
  go_wp2_with fail
  go_ret
  exact ⟨zBV (congrArg cbs (by first | (rw [HC2.out,HC1.out]; done) | (rw [HC2.out,HC1.out]; simp))),X.out.b⟩
theorem zNQ (w:World)(en:Int)(es eo:List UInt8)(ed:Int)(c:Nat)(ea eb er ee ef:Int)(bl off:Nat)(xk xn:Int)(xs xo:List UInt8)(xd:Int)(xv:Value)(xa xb xr xe xf:Int)(yk yn:Int)(ys yo:List UInt8)(yd:Int)(yv:Value)(ya yb yr ye yf:Int)(T T2:List UInt8)(hl:T.length ≤ 2000000000000)(hl2:T2.length ≤ 2000000000000)(hW:Gives w 78 #[.agg #[.int .i64 xk,.int .i64 xn,.string (cbs xs),.string (cbs xo),.int .i64 xd,xv,.int .i64 xa,.int .i64 xb,.int .i64 xr,.int .i64 xe,.int .i64 xf],.int .i64 7] T)(hW2:Gives w 45 #[.agg #[.int .i64 yk,.int .i64 yn,.string (cbs ys),.string (cbs yo),.int .i64 yd,yv,.int .i64 ya,.int .i64 yb,.int .i64 yr,.int .i64 ye,.int .i64 yf]] T2)(hk:Kd w bl off xk xn xs xo xd xv xa xb xr xe xf)(hk2:Kd w bl (off + 11) yk yn ys yo yd yv ya yb yr ye yf) :
 Calls Tryd.prog 45 #[.agg #[.int .i64 6,.int .i64 en,.string (cbs es),.string (cbs eo),.int .i64 ed,.slice (some ⟨bl,off,none⟩) 2 c,.int .i64 ea,.int .i64 eb,.int .i64 er,.int .i64 ee,.int .i64 ef]] w fun e w' => e = .returned (.string (cbs (T ++ 91 :: (T2 ++ [93])))) ∧ Below w.heap.size w w':=by
 have X:=vH (Bxp.start w 45 #[.int .i64 6,.int .i64 en,.string (cbs es),.string (cbs eo),.int .i64 ed,.slice (some ⟨bl,off,none⟩) 2 c,.int .i64 ea,.int .i64 eb,.int .i64 er,.int .i64 ee,.int .i64 ef])
 obtain ⟨C1,hC1⟩:∃ C:List UInt8,C = T ++ [91]:=⟨_,rfl⟩
 have hl1:C1.length = T.length + 1:=by rw [hC1,List.length_append] <;> rfl
 have hc1:∀ w':World,(Op.stringOp .add (cbs T) (⟨#[91]⟩:ByteArray)).run Tryd.prog w' = .ok (.string (cbs C1)) w':=by
  rw [hC1]
  exact zL T [91] (by show T.length + 1 ≤ _; omega)
 obtain ⟨C2,hC2⟩:∃ C:List UInt8,C = C1 ++ T2:=⟨_,rfl⟩
 have hl2:C2.length = C1.length + (T2).length:=by rw [hC2,List.length_append] <;> rfl
 have hc2:∀ w':World,(Op.stringOp .add (cbs C1) (cbs T2)).run Tryd.prog w' = .ok (.string (cbs C2)) w':=by
  rw [hC2]
  exact zL C1 T2 (by show C1.length + (T2).length ≤ _; omega)
 obtain ⟨C3,hC3⟩:∃ C:List UInt8,C = C2 ++ [93]:=⟨_,rfl⟩
 have hl3:C3.length = C2.length + 1:=by rw [hC3,List.length_append] <;> rfl
 have hc3:∀ w':World,(Op.stringOp .add (cbs C2) (⟨#[93]⟩:ByteArray)).run Tryd.prog w' = .ok (.string (cbs C3)) w':=by
  rw [hC3]
  exact zL C2 [93] (by show C2.length + 1 ≤ _; omega)
 have HC1:=vH hC1
 have HC2:=vH hC2
 have HC3:=vH hC3
 clear hl1 hl2 hl3 hC3 hC2 hC1
 have K:=vH (hk.go X.out.b)
 have L:=vH (hk2.go X.out.b)
 have HW:=vH hW
 have HW2:=vH hW2
 clear hW hW2 hl hl2 hk hk2
 go_in
 go_wp2_with fail
 generalize w.alloc (.cells #[.int .i64 6,.int .i64 en,.string (cbs es),.string (cbs eo),.int .i64 ed,.slice (some ⟨bl,off,none⟩) 2 c,.int .i64 ea,.int .i64 eb,.int .i64 er,.int .i64 ee,.int .i64 ef] 45) = W at X K L ⊢
 have X2:=vH X.out.drew
 have K2:=vH (K.out.go (zAI W))
 have L2:=vH (L.out.go (zAI W))
 clear X K L
 have X:=X2
 have K:=K2
 have L:=L2
 clear X2 K2 L2
 go_region_held3 (fun w' => w'.cell? ⟨w.heap.size,5,none⟩ = some (.slice (some ⟨bl,off,none⟩) 2 c) ∧ w'.cell? ⟨bl,off,none⟩ = some (.int .i64 xk) ∧ w'.cell? ⟨bl,off + 1,none⟩ = some (.int .i64 xn) ∧ w'.cell? ⟨bl,off + 2,none⟩ = some (.string (cbs xs)) ∧ w'.cell? ⟨bl,off + 3,none⟩ = some (.string (cbs xo)) ∧ w'.cell? ⟨bl,off + 4,none⟩ = some (.int .i64 xd) ∧ w'.cell? ⟨bl,off + 5,none⟩ = some (xv) ∧ w'.cell? ⟨bl,off + 6,none⟩ = some (.int .i64 xa) ∧ w'.cell? ⟨bl,off + 7,none⟩ = some (.int .i64 xb) ∧ w'.cell? ⟨bl,off + 8,none⟩ = some (.int .i64 xr) ∧ w'.cell? ⟨bl,off + 9,none⟩ = some (.int .i64 xe) ∧ w'.cell? ⟨bl,off + 10,none⟩ = some (.int .i64 xf) ∧ w'.cell? ⟨bl,off + 11,none⟩ = some (.int .i64 yk) ∧ w'.cell? ⟨bl,off + 12,none⟩ = some (.int .i64 yn) ∧ w'.cell? ⟨bl,off + 13,none⟩ = some (.string (cbs ys)) ∧ w'.cell? ⟨bl,off + 14,none⟩ = some (.string (cbs yo)) ∧ w'.cell? ⟨bl,off + 15,none⟩ = some (.int .i64 yd) ∧ w'.cell? ⟨bl,off + 16,none⟩ = some (yv) ∧ w'.cell? ⟨bl,off + 17,none⟩ = some (.int .i64 ya) ∧ w'.cell? ⟨bl,off + 18,none⟩ = some (.int .i64 yb) ∧ w'.cell? ⟨bl,off + 19,none⟩ = some (.int .i64 yr) ∧ w'.cell? ⟨bl,off + 20,none⟩ = some (.int .i64 ye) ∧ w'.cell? ⟨bl,off + 21,none⟩ = some (.int .i64 yf)) (first | exact ⟨(hen X.out.h).1.2.2.2.2.2.1,K.out.1,K.out.2.1,K.out.2.2.1,K.out.2.2.2.1,K.out.2.2.2.2.1,K.out.2.2.2.2.2.1,K.out.2.2.2.2.2.2.1,K.out.2.2.2.2.2.2.2.1,K.out.2.2.2.2.2.2.2.2.1,K.out.2.2.2.2.2.2.2.2.2.1,K.out.2.2.2.2.2.2.2.2.2.2,L.out⟩)
  (first
  | (go_at_call 78; (with_reducible refine Calls.mono (HW.out _ X.out.b) ?_); rintro e u ⟨rfl,hb⟩; have X2:=vH (X.out.go hb); have X:=X2; have K2:=vH (K.out.go hb); have K:=K2; have L2:=vH (L.out.go hb); have L:=L2)
  | (go_at_call 45; (with_reducible refine Calls.mono (HW2.out _ X.out.b) ?_); rintro e u ⟨rfl,hb⟩; have X2:=vH (X.out.go hb); have X:=X2; have K2:=vH (K.out.go hb); have K:=K2; have L2:=vH (L.out.go hb); have L:=L2))
 all_goals
  go_wp2_with fail
  go_ret
  exact ⟨zBV (congrArg cbs (by first | (rw [HC3.out,HC2.out,HC1.out]; done) | (rw [HC3.out,HC2.out,HC1.out]; simp))),X.out.b⟩
theorem zNP (w:World)(en:Int)(es eo:List UInt8)(c:Nat)(ea eb er ee ef:Int)(bl off:Nat)(xk xn:Int)(xs xo:List UInt8)(xd:Int)(xv:Value)(xa xb xr xe xf:Int)(D:Nat)(T TY:List UInt8)(hl:T.length ≤ 2000000000000)(hy:TY.length ≤ 2000000000000)(hW:Gives w 45 #[.agg #[.int .i64 xk,.int .i64 xn,.string (cbs xs),.string (cbs xo),.int .i64 xd,xv,.int .i64 xa,.int .i64 xb,.int .i64 xr,.int .i64 xe,.int .i64 xf]] T)(hT:∀ w1,Calls Tryd.prog 27 #[.agg #[.string (cbs eo),.int .i64 (D:Int)]] w1 fun e w' => e = .returned (.string (cbs TY)) ∧ Below w1.heap.size w1 w')(hk:Kd w bl off xk xn xs xo xd xv xa xb xr xe xf) :
 Calls Tryd.prog 45 #[.agg #[.int .i64 9,.int .i64 en,.string (cbs es),.string (cbs eo),.int .i64 (D:Int),.slice (some ⟨bl,off,none⟩) 1 c,.int .i64 ea,.int .i64 eb,.int .i64 er,.int .i64 ee,.int .i64 ef]] w fun e w' => e = .returned (.string (cbs ([110,101,119] ++ 32 :: 91 :: (TY ++ 93 :: 40 :: (T ++ [41]))))) ∧ Below w.heap.size w w':=by
 have X:=vH (Bxp.start w 45 #[.int .i64 9,.int .i64 en,.string (cbs es),.string (cbs eo),.int .i64 (D:Int),.slice (some ⟨bl,off,none⟩) 1 c,.int .i64 ea,.int .i64 eb,.int .i64 er,.int .i64 ee,.int .i64 ef])
 obtain ⟨C1,hC1⟩:∃ C:List UInt8,C = [110,101,119,32,91] ++ TY:=⟨_,rfl⟩
 have hl1:C1.length = 5 + (TY).length:=by rw [hC1,List.length_append] <;> rfl
 have hc1:∀ w':World,(Op.stringOp .add (⟨#[110,101,119,32,91]⟩:ByteArray) (cbs TY)).run Tryd.prog w' = .ok (.string (cbs C1)) w':=by
  rw [hC1]
  exact zL [110,101,119,32,91] TY (by show [110,101,119,32,91].length + (TY).length ≤ _; have : [110,101,119,32,91].length = 5:=rfl; omega)
 obtain ⟨C2,hC2⟩:∃ C:List UInt8,C = C1 ++ [93,40]:=⟨_,rfl⟩
 have hl2:C2.length = C1.length + 2:=by rw [hC2,List.length_append] <;> rfl
 have hc2:∀ w':World,(Op.stringOp .add (cbs C1) (⟨#[93,40]⟩:ByteArray)).run Tryd.prog w' = .ok (.string (cbs C2)) w':=by
  rw [hC2]
  exact zL C1 [93,40] (by show C1.length + 2 ≤ _; omega)
 obtain ⟨C3,hC3⟩:∃ C:List UInt8,C = C2 ++ T:=⟨_,rfl⟩
 have hl3:C3.length = C2.length + (T).length:=by rw [hC3,List.length_append] <;> rfl
 have hc3:∀ w':World,(Op.stringOp .add (cbs C2) (cbs T)).run Tryd.prog w' = .ok (.string (cbs C3)) w':=by
  rw [hC3]
  exact zL C2 T (by show C2.length + (T).length ≤ _; omega)
 obtain ⟨C4,hC4⟩:∃ C:List UInt8,C = C3 ++ [41]:=⟨_,rfl⟩
 have hl4:C4.length = C3.length + 1:=by rw [hC4,List.length_append] <;> rfl
 have hc4:∀ w':World,(Op.stringOp .add (cbs C3) (⟨#[41]⟩:ByteArray)).run Tryd.prog w' = .ok (.string (cbs C4)) w':=by
  rw [hC4]
  exact zL C3 [41] (by show C3.length + 1 ≤ _; omega)
 have HC1:=vH hC1
 have HC2:=vH hC2
 have HC3:=vH hC3
 have HC4:=vH hC4
 clear hl1 hl2 hl3 hl4 hC4 hC3 hC2 hC1
 have K:=vH (hk.go X.out.b)
 have L:=vH (hk.go X.out.b)
 have HW:=vH hW
 have HT:=vH hT
 clear hW hT hl hy hk
 go_in
 go_wp2_with fail
 generalize w.alloc (.cells #[.int .i64 9,.int .i64 en,.string (cbs es),.string (cbs eo),.int .i64 (D:Int),.slice (some ⟨bl,off,none⟩) 1 c,.int .i64 ea,.int .i64 eb,.int .i64 er,.int .i64 ee,.int .i64 ef] 45) = W at X K L ⊢
 have X2:=vH X.out.drew
 have K2:=vH (K.out.go (zAI W))
 have L2:=vH (L.out.go (zAI W))
 clear X K L
 have X:=X2
 have K:=K2
 have L:=L2
 clear X2 K2 L2
 go_region_held3 (fun w' => w'.cell? ⟨w.heap.size,3,none⟩ = some (.string (cbs eo)) ∧ w'.cell? ⟨w.heap.size,4,none⟩ = some (.int .i64 (D:Int)) ∧ w'.cell? ⟨w.heap.size,5,none⟩ = some (.slice (some ⟨bl,off,none⟩) 1 c) ∧ w'.cell? ⟨bl,off,none⟩ = some (.int .i64 xk) ∧ w'.cell? ⟨bl,off + 1,none⟩ = some (.int .i64 xn) ∧ w'.cell? ⟨bl,off + 2,none⟩ = some (.string (cbs xs)) ∧ w'.cell? ⟨bl,off + 3,none⟩ = some (.string (cbs xo)) ∧ w'.cell? ⟨bl,off + 4,none⟩ = some (.int .i64 xd) ∧ w'.cell? ⟨bl,off + 5,none⟩ = some (xv) ∧ w'.cell? ⟨bl,off + 6,none⟩ = some (.int .i64 xa) ∧ w'.cell? ⟨bl,off + 7,none⟩ = some (.int .i64 xb) ∧ w'.cell? ⟨bl,off + 8,none⟩ = some (.int .i64 xr) ∧ w'.cell? ⟨bl,off + 9,none⟩ = some (.int .i64 xe) ∧ w'.cell? ⟨bl,off + 10,none⟩ = some (.int .i64 xf)) (first | exact ⟨(hen X.out.h).1.2.2.2.1,(hen X.out.h).1.2.2.2.2.1,(hen X.out.h).1.2.2.2.2.2.1,K.out⟩)
  (first
  | (go_at_call 27; (with_reducible refine Calls.mono (HT.out _) ?_); rintro e u ⟨rfl,hb⟩; have X2:=vH (X.out.go hb); have X:=X2; have K2:=vH (K.out.go hb); have K:=K2; have L2:=vH (L.out.go hb); have L:=L2)
  | (go_at_call 45; (with_reducible refine Calls.mono (HW.out _ X.out.b) ?_); rintro e u ⟨rfl,hb⟩; have X2:=vH (X.out.go hb); have X:=X2; have K2:=vH (K.out.go hb); have K:=K2; have L2:=vH (L.out.go hb); have L:=L2))
 all_goals
  go_wp2_with fail
  go_ret
  exact ⟨zBV (congrArg cbs (by first | (rw [HC4.out,HC3.out,HC2.out,HC1.out]; done) | (rw [HC4.out,HC3.out,HC2.out,HC1.out]; simp))),X.out.b⟩
theorem zP8 (w:World)(k:Int)(h1 : 14 ≤ k)(h2:k ≤ 24)(en:Int)(es eo:List UInt8)(ed:Int)(c:Nat)(ea eb er ee ef:Int)(bl off:Nat)(xk xn:Int)(xs xo:List UInt8)(xd:Int)(xv:Value)(xa xb xr xe xf:Int)(yk yn:Int)(ys yo:List UInt8)(yd:Int)(yv:Value)(ya yb yr ye yf:Int)(M:Nat)(T T2 OP:List UInt8)(hl:T.length ≤ 2000000000000)(hl2:T2.length ≤ 2000000000000)(hop:OP.length ≤ 100)(hM:M ≤ 7)(hV:∀ w1,Calls Tryd.prog 79 #[.agg #[.int .i64 k,.int .i64 en,.string (cbs es),.string (cbs eo),.int .i64 ed,.slice (some ⟨bl,off,none⟩) 2 c,.int .i64 ea,.int .i64 eb,.int .i64 er,.int .i64 ee,.int .i64 ef]] w1 fun e w' => e = .returned (.int .i64 (M:Int)) ∧ Below w1.heap.size w1 w')(hO:∀ w1,Calls Tryd.prog 80 #[.int .i64 k] w1 fun e w' => e = .returned (.string (cbs OP)) ∧ Below w1.heap.size w1 w')(hW:Gives w 78 #[.agg #[.int .i64 xk,.int .i64 xn,.string (cbs xs),.string (cbs xo),.int .i64 xd,xv,.int .i64 xa,.int .i64 xb,.int .i64 xr,.int .i64 xe,.int .i64 xf],.int .i64 (M:Int)] T)(hW2:Gives w 78 #[.agg #[.int .i64 yk,.int .i64 yn,.string (cbs ys),.string (cbs yo),.int .i64 yd,yv,.int .i64 ya,.int .i64 yb,.int .i64 yr,.int .i64 ye,.int .i64 yf],.int .i64 ((M:Int) + 1)] T2)(hk:Kd w bl off xk xn xs xo xd xv xa xb xr xe xf)(hk2:Kd w bl (off + 11) yk yn ys yo yd yv ya yb yr ye yf) :
 Calls Tryd.prog 45 #[.agg #[.int .i64 k,.int .i64 en,.string (cbs es),.string (cbs eo),.int .i64 ed,.slice (some ⟨bl,off,none⟩) 2 c,.int .i64 ea,.int .i64 eb,.int .i64 er,.int .i64 ee,.int .i64 ef]] w fun e w' => e = .returned (.string (cbs (T ++ 32 :: (OP ++ 32 :: T2)))) ∧ Below w.heap.size w w':=by
 have X:=vH (Bxp.start w 45 #[.int .i64 k,.int .i64 en,.string (cbs es),.string (cbs eo),.int .i64 ed,.slice (some ⟨bl,off,none⟩) 2 c,.int .i64 ea,.int .i64 eb,.int .i64 er,.int .i64 ee,.int .i64 ef])
 obtain ⟨C1,hC1⟩:∃ C:List UInt8,C = T ++ [32]:=⟨_,rfl⟩
 have hl1:C1.length = T.length + 1:=by rw [hC1,List.length_append] <;> rfl
 have hc1:∀ w':World,(Op.stringOp .add (cbs T) (⟨#[32]⟩:ByteArray)).run Tryd.prog w' = .ok (.string (cbs C1)) w':=by
  rw [hC1]
  exact zL T [32] (by show T.length + 1 ≤ _; omega)
 obtain ⟨C2,hC2⟩:∃ C:List UInt8,C = C1 ++ OP:=⟨_,rfl⟩
 have hl2:C2.length = C1.length + (OP).length:=by rw [hC2,List.length_append] <;> rfl
 have hc2:∀ w':World,(Op.stringOp .add (cbs C1) (cbs OP)).run Tryd.prog w' = .ok (.string (cbs C2)) w':=by
  rw [hC2]
  exact zL C1 OP (by show C1.length + (OP).length ≤ _; omega)
 obtain ⟨C3,hC3⟩:∃ C:List UInt8,C = C2 ++ [32]:=⟨_,rfl⟩
 have hl3:C3.length = C2.length + 1:=by rw [hC3,List.length_append] <;> rfl
 have hc3:∀ w':World,(Op.stringOp .add (cbs C2) (⟨#[32]⟩:ByteArray)).run Tryd.prog w' = .ok (.string (cbs C3)) w':=by
  rw [hC3]
  exact zL C2 [32] (by show C2.length + 1 ≤ _; omega)
 obtain ⟨C4,hC4⟩:∃ C:List UInt8,C = C3 ++ T2:=⟨_,rfl⟩
 have hl4:C4.length = C3.length + (T2).length:=by rw [hC4,List.length_append] <;> rfl
 have hc4:∀ w':World,(Op.stringOp .add (cbs C3) (cbs T2)).run Tryd.prog w' = .ok (.string (cbs C4)) w':=by
  rw [hC4]
  exact zL C3 T2 (by show C3.length + (T2).length ≤ _; omega)
 have HC1:=vH hC1
 have HC2:=vH hC2
 have HC3:=vH hC3
 have HC4:=vH hC4
 clear hl1 hl2 hl3 hl4 hC4 hC3 hC2 hC1
 have K:=vH (hk.go X.out.b)
 have L:=vH (hk2.go X.out.b)
 have HW:=vH hW
 have HW2:=vH hW2
 have HO:=vH hO
 have HV:=vH hV
 have hwr:IntKind.i64.wrap ((M:Int) + 1) = (M:Int) + 1:=IntWalk.i64_in _ (by omega)
 have hq1:(k == 1) = false:=beq_eq_false_iff_ne.2 (by omega)
 have hq2:(k == 2) = false:=beq_eq_false_iff_ne.2 (by omega)
 have hq3:(k == 3) = false:=beq_eq_false_iff_ne.2 (by omega)
 have hq4:(k == 4) = false:=beq_eq_false_iff_ne.2 (by omega)
 have hq5:(k == 5) = false:=beq_eq_false_iff_ne.2 (by omega)
 have hq6:(k == 6) = false:=beq_eq_false_iff_ne.2 (by omega)
 have hq7:(k == 7) = false:=beq_eq_false_iff_ne.2 (by omega)
 have hq8:(k == 8) = false:=beq_eq_false_iff_ne.2 (by omega)
 have hq9:(k == 9) = false:=beq_eq_false_iff_ne.2 (by omega)
 have hq10:(k == 10) = false:=beq_eq_false_iff_ne.2 (by omega)
 have hq11:(k == 11) = false:=beq_eq_false_iff_ne.2 (by omega)
 have hq12:(k == 12) = false:=beq_eq_false_iff_ne.2 (by omega)
 have hq13:(k == 13) = false:=beq_eq_false_iff_ne.2 (by omega)
 clear hW hW2 hO hV hl hl2 hop hM h1 h2 hk hk2
 go_in
 go_wp2_with fail
 refine (HV.out _).mono ?_
 rintro e W ⟨rfl,hbv⟩
 have X2:=vH (X.out.go hbv)
 have K2:=vH (K.out.go hbv)
 have L2:=vH (L.out.go hbv)
 clear X K L hbv
 have X:=X2
 have K:=K2
 have L:=L2
 clear X2 K2 L2
 go_wp2_with fail
 have X2:=vH X.out.drew
 have K2:=vH (K.out.go (zAI W))
 have L2:=vH (L.out.go (zAI W))
 clear X K L
 have X:=X2
 have K:=K2
 have L:=L2
 clear X2 K2 L2
 go_region_held3 (fun w' => w'.cell? ⟨w.heap.size,0,none⟩ = some (.int .i64 k) ∧ w'.cell? ⟨w.heap.size,5,none⟩ = some (.slice (some ⟨bl,off,none⟩) 2 c) ∧ w'.cell? ⟨bl,off,none⟩ = some (.int .i64 xk) ∧ w'.cell? ⟨bl,off + 1,none⟩ = some (.int .i64 xn) ∧ w'.cell? ⟨bl,off + 2,none⟩ = some (.string (cbs xs)) ∧ w'.cell? ⟨bl,off + 3,none⟩ = some (.string (cbs xo)) ∧ w'.cell? ⟨bl,off + 4,none⟩ = some (.int .i64 xd) ∧ w'.cell? ⟨bl,off + 5,none⟩ = some (xv) ∧ w'.cell? ⟨bl,off + 6,none⟩ = some (.int .i64 xa) ∧ w'.cell? ⟨bl,off + 7,none⟩ = some (.int .i64 xb) ∧ w'.cell? ⟨bl,off + 8,none⟩ = some (.int .i64 xr) ∧ w'.cell? ⟨bl,off + 9,none⟩ = some (.int .i64 xe) ∧ w'.cell? ⟨bl,off + 10,none⟩ = some (.int .i64 xf) ∧ w'.cell? ⟨bl,off + 11,none⟩ = some (.int .i64 yk) ∧ w'.cell? ⟨bl,off + 12,none⟩ = some (.int .i64 yn) ∧ w'.cell? ⟨bl,off + 13,none⟩ = some (.string (cbs ys)) ∧ w'.cell? ⟨bl,off + 14,none⟩ = some (.string (cbs yo)) ∧ w'.cell? ⟨bl,off + 15,none⟩ = some (.int .i64 yd) ∧ w'.cell? ⟨bl,off + 16,none⟩ = some (yv) ∧ w'.cell? ⟨bl,off + 17,none⟩ = some (.int .i64 ya) ∧ w'.cell? ⟨bl,off + 18,none⟩ = some (.int .i64 yb) ∧ w'.cell? ⟨bl,off + 19,none⟩ = some (.int .i64 yr) ∧ w'.cell? ⟨bl,off + 20,none⟩ = some (.int .i64 ye) ∧ w'.cell? ⟨bl,off + 21,none⟩ = some (.int .i64 yf)) (first | exact ⟨(hen X.out.h).1.1,(hen X.out.h).1.2.2.2.2.2.1,K.out.1,K.out.2.1,K.out.2.2.1,K.out.2.2.2.1,K.out.2.2.2.2.1,K.out.2.2.2.2.2.1,K.out.2.2.2.2.2.2.1,K.out.2.2.2.2.2.2.2.1,K.out.2.2.2.2.2.2.2.2.1,K.out.2.2.2.2.2.2.2.2.2.1,K.out.2.2.2.2.2.2.2.2.2.2,L.out⟩)
  (first
  | (go_at_call 78; (with_reducible refine Calls.mono (HW.out _ X.out.b) ?_); rintro e u ⟨rfl,hb⟩; have X2:=vH (X.out.go hb); have X:=X2; have K2:=vH (K.out.go hb); have K:=K2; have L2:=vH (L.out.go hb); have L:=L2)
  | (go_at_call 80; (with_reducible refine Calls.mono (HO.out _) ?_); rintro e u ⟨rfl,hb⟩; have X2:=vH (X.out.go hb); have X:=X2; have K2:=vH (K.out.go hb); have K:=K2; have L2:=vH (L.out.go hb); have L:=L2)
  | (go_at_call 78; (with_reducible refine Calls.mono (HW2.out _ X.out.b) ?_); rintro e u ⟨rfl,hb⟩; have X2:=vH (X.out.go hb); have X:=X2; have K2:=vH (K.out.go hb); have K:=K2; have L2:=vH (L.out.go hb); have L:=L2))
 all_goals
  go_wp2_with fail
  go_ret
  exact ⟨zBV (congrArg cbs (by first | (rw [HC4.out,HC3.out,HC2.out,HC1.out]; done) | (rw [HC4.out,HC3.out,HC2.out,HC1.out]; simp))),X.out.b⟩
end Go.Proofs.YteadgahhchlgeaaDoor
