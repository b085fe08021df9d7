/-
  The project's writer of expressions, kind by kind.
-/
import Derived.Test.YteadgahhchlgeaaDoorK02
import Derived.Test.YteadgahhchlgeaaDoorK39
set_option maxRecDepth 8000
set_option maxHeartbeats 8000000
namespace Go.Proofs.YteadgahhchlgeaaDoor
open Go.RowKit
open Pe (Ex)
open Ps (kindOf)
open Go.Lib (decDigits)
open Rt (tyB lvl opT prW prE prL prOf prM prA shE shL shK kd)
theorem zOr {b:Nat}{n:Int}{w1:World}(o:List UInt8)(d:Nat)(hd:d ≤ 3):GivW b n w1 46 #[.pointer (some ⟨b,0,none⟩),.agg #[.string (cbs o),.int .i64 (d:Int)]] (tyB o d):=
 fun l w hW hlen => zEb hW o d hd (by rw [zAg] at hlen; omega)
theorem zRR {b:Nat}{n:Int}{w0 w1:World}(hS:Sta b w0 w1){bl off:Nat}(N:Nat)(hN:N ≤ 9223372036854775807){es eo:List UInt8}{ed:Int}{ev:Value}{ea eb er ee ef:Int}(hk:Kd w0 bl off 1 (N:Int) es eo ed ev ea eb er ee ef) :
 GivW b n w1 33 #[.pointer (some ⟨b,0,none⟩),.pointer (some ⟨bl,off,none⟩)] (decDigits N):=by
 intro l w hW hlen
 have hlen2:=hlen
 try simp only [List.length_cons,List.length_append,List.length_nil] at hlen2
 have h1:(l).length + (decDigits N).length ≤ 70368744177664:=by
  try simp only [List.length_cons,List.length_append,List.length_nil]
  omega
 have H1:=vH h1
 have HN:=vH hN
 have F:=vH hW
 have K:=vH hk
 have S:=vH hS
 obtain ⟨x0,x1,x2,x3,x4,x5,x6,x7,x8,x9,xX⟩:=K.out.go (S.out.up F.out)
 clear hW hlen hlen2 hk hS h1 hN
 go_in
 go_wp2_with fail
 refine (zL4 N HN.out _ (S.out.env.below (S.out.up F.out))).mono ?_
 rintro e u ⟨rfl,hb⟩
 have F2:=vH (F.out.go hb)
 clear hb F
 have F:=F2
 clear F2 x0 x1 x2 x3 x4 x5 x6 x7 x8 x9 xX
 obtain ⟨x0,x1,x2,x3,x4,x5,x6,x7,x8,x9,xX⟩:=K.out.go (S.out.up F.out)
 go_wp2_with fail
 refine (zBG ((decDigits N)) F.out H1.out).mono ?_
 rintro e u ⟨rfl,hW2⟩
 have F2:=vH hW2
 clear hW2 F
 have F:=F2
 clear F2 x0 x1 x2 x3 x4 x5 x6 x7 x8 x9 xX
 obtain ⟨x0,x1,x2,x3,x4,x5,x6,x7,x8,x9,xX⟩:=K.out.go (S.out.up F.out)
 go_wp2_with fail
 go_end0
 exact ⟨rfl,F.out.cast (by simp)⟩
theorem zRQ {b:Nat}{n:Int}{w0 w1:World}(hS:Sta b w0 w1){bl off:Nat}{es eo:List UInt8}{ed:Int}{ev:Value}{ea eb er ee ef:Int}(hk:Kd w0 bl off 2 1 es eo ed ev ea eb er ee ef) :
 GivW b n w1 33 #[.pointer (some ⟨b,0,none⟩),.pointer (some ⟨bl,off,none⟩)] ([116,114,117,101]):=by
 intro l w hW hlen
 have hlen2:=hlen
 try simp only [List.length_cons,List.length_nil] at hlen2
 have h1:(l).length + ([116,114,117,101]:List UInt8).length ≤ 70368744177664:=by
  try simp only [List.length_cons,List.length_nil]
  omega
 have H1:=vH h1
 have F:=vH hW
 have K:=vH hk
 have S:=vH hS
 obtain ⟨x0,x1,x2,x3,x4,x5,x6,x7,x8,x9,xX⟩:=K.out.go (S.out.up F.out)
 clear hW hlen hlen2 hk hS h1
 go_in
 go_wp2_with fail
 refine (zCo _ _).mono ?_
 rintro e u ⟨rfl,rfl⟩
 go_wp2_with fail
 refine (zBG [116,114,117,101] F.out H1.out).mono ?_
 rintro e u ⟨rfl,hW2⟩
 have F2:=vH hW2
 clear hW2 F
 have F:=F2
 clear F2 x0 x1 x2 x3 x4 x5 x6 x7 x8 x9 xX
 obtain ⟨x0,x1,x2,x3,x4,x5,x6,x7,x8,x9,xX⟩:=K.out.go (S.out.up F.out)
 go_wp2_with fail
 go_end0
 exact ⟨rfl,F.out.cast (by simp)⟩
theorem zRW {b:Nat}{n:Int}{w0 w1:World}(hS:Sta b w0 w1){bl off:Nat}{es eo:List UInt8}{ed:Int}{ev:Value}{ea eb er ee ef:Int}(hk:Kd w0 bl off 2 0 es eo ed ev ea eb er ee ef) :
 GivW b n w1 33 #[.pointer (some ⟨b,0,none⟩),.pointer (some ⟨bl,off,none⟩)] ([102,97,108,115,101]):=by
 intro l w hW hlen
 have hlen2:=hlen
 try simp only [List.length_cons,List.length_nil] at hlen2
 have h1:(l).length + ([102,97,108,115,101]:List UInt8).length ≤ 70368744177664:=by
  try simp only [List.length_cons,List.length_nil]
  omega
 have H1:=vH h1
 have F:=vH hW
 have K:=vH hk
 have S:=vH hS
 obtain ⟨x0,x1,x2,x3,x4,x5,x6,x7,x8,x9,xX⟩:=K.out.go (S.out.up F.out)
 clear hW hlen hlen2 hk hS h1
 go_in
 go_wp2_with fail
 refine (zCo _ _).mono ?_
 rintro e u ⟨rfl,rfl⟩
 go_wp2_with fail
 refine (zBG [102,97,108,115,101] F.out H1.out).mono ?_
 rintro e u ⟨rfl,hW2⟩
 have F2:=vH hW2
 clear hW2 F
 have F:=F2
 clear F2 x0 x1 x2 x3 x4 x5 x6 x7 x8 x9 xX
 obtain ⟨x0,x1,x2,x3,x4,x5,x6,x7,x8,x9,xX⟩:=K.out.go (S.out.up F.out)
 go_wp2_with fail
 go_end0
 exact ⟨rfl,F.out.cast (by simp)⟩
theorem zPq {b:Nat}{n:Int}{w0 w1:World}(hS:Sta b w0 w1){bl off:Nat}{en:Int}{es eo:List UInt8}{ed:Int}{ev:Value}{ea eb er ee ef:Int}(TY:List UInt8)(hT:GivW b n w1 46 #[.pointer (some ⟨b,0,none⟩),.agg #[.string (cbs eo),.int .i64 ed]] TY)(hk:Kd w0 bl off 3 en es eo ed ev ea eb er ee ef) :
 GivW b n w1 33 #[.pointer (some ⟨b,0,none⟩),.pointer (some ⟨bl,off,none⟩)] ([110,117,108,108] ++ 32 :: TY):=by
 intro l w hW hlen
 have hlen2:=hlen
 try simp only [List.length_cons,List.length_append,List.length_nil] at hlen2
 have h1:(l).length + ([110,117,108,108,32]:List UInt8).length ≤ 70368744177664:=by
  try simp only [List.length_cons,List.length_nil]
  omega
 have h2:(l ++ [110,117,108,108,32]).length + (TY).length ≤ 70368744177664:=by
  try simp only [List.length_cons,List.length_append,List.length_nil]
  omega
 have H1:=vH h1
 have H2:=vH h2
 have HT:=vH hT
 have F:=vH hW
 have K:=vH hk
 have S:=vH hS
 obtain ⟨x0,x1,x2,x3,x4,x5,x6,x7,x8,x9,xX⟩:=K.out.go (S.out.up F.out)
 clear hW hlen hlen2 hk hS h1 h2 hT
 go_in
 go_wp2_with fail
 refine (zBG [110,117,108,108,32] F.out H1.out).mono ?_
 rintro e u ⟨rfl,hW2⟩
 have F2:=vH hW2
 clear hW2 F
 have F:=F2
 clear F2 x0 x1 x2 x3 x4 x5 x6 x7 x8 x9 xX
 obtain ⟨x0,x1,x2,x3,x4,x5,x6,x7,x8,x9,xX⟩:=K.out.go (S.out.up F.out)
 go_wp2_with fail
 refine (HT.out _ _ F.out H2.out).mono ?_
 rintro e u ⟨rfl,hW2⟩
 have F2:=vH hW2
 clear hW2 F
 have F:=F2
 clear F2 x0 x1 x2 x3 x4 x5 x6 x7 x8 x9 xX
 obtain ⟨x0,x1,x2,x3,x4,x5,x6,x7,x8,x9,xX⟩:=K.out.go (S.out.up F.out)
 go_wp2_with fail
 go_end0
 exact ⟨rfl,F.out.cast (by simp)⟩
theorem zRP {b:Nat}{n:Int}{w0 w1:World}(hS:Sta b w0 w1){bl off:Nat}{en:Int}{es eo:List UInt8}{ed:Int}{ev:Value}{ea eb er ee ef:Int}(hk:Kd w0 bl off 4 en es eo ed ev ea eb er ee ef) :
 GivW b n w1 33 #[.pointer (some ⟨b,0,none⟩),.pointer (some ⟨bl,off,none⟩)] (es):=by
 intro l w hW hlen
 have hlen2:=hlen
 try simp only [List.length_cons,List.length_append,List.length_nil] at hlen2
 have h1:(l).length + es.length ≤ 70368744177664:=by
  try simp only [List.length_cons,List.length_append,List.length_nil]
  omega
 have H1:=vH h1
 have F:=vH hW
 have K:=vH hk
 have S:=vH hS
 obtain ⟨x0,x1,x2,x3,x4,x5,x6,x7,x8,x9,xX⟩:=K.out.go (S.out.up F.out)
 clear hW hlen hlen2 hk hS h1
 go_in
 go_wp2_with fail
 refine (zBG es F.out H1.out).mono ?_
 rintro e u ⟨rfl,hW2⟩
 have F2:=vH hW2
 clear hW2 F
 have F:=F2
 clear F2 x0 x1 x2 x3 x4 x5 x6 x7 x8 x9 xX
 obtain ⟨x0,x1,x2,x3,x4,x5,x6,x7,x8,x9,xX⟩:=K.out.go (S.out.up F.out)
 go_wp2_with fail
 go_end0
 exact ⟨rfl,F.out.cast (by simp)⟩
theorem zNk {b:Nat}{n:Int}{w0 w1:World}(hS:Sta b w0 w1){bl off:Nat}{en:Int}{es eo:List UInt8}{ed:Int}{ev:Value}{ea eb er ee ef:Int}(T:List UInt8)(hO:GivW b n w1 59 #[.pointer (some ⟨b,0,none⟩),.pointer (some ⟨bl,off,none⟩),.int .i64 0,.int .i64 7] T)(hk:Kd w0 bl off 5 en es eo ed ev ea eb er ee ef) :
 GivW b n w1 33 #[.pointer (some ⟨b,0,none⟩),.pointer (some ⟨bl,off,none⟩)] (T ++ 46 :: es):=by
 intro l w hW hlen
 have hlen2:=hlen
 try simp only [List.length_cons,List.length_append] at hlen2
 have h1:(l).length + (T).length ≤ 70368744177664:=by
  try simp only [List.length_cons,List.length_append,List.length_nil]
  omega
 have h2:(l ++ T).length + (([46]:List UInt8).length + es.length) ≤ 70368744177664:=by
  try simp only [List.length_cons,List.length_append,List.length_nil]
  omega
 have H1:=vH h1
 have H2:=vH h2
 have HO:=vH hO
 have F:=vH hW
 have K:=vH hk
 have S:=vH hS
 obtain ⟨x0,x1,x2,x3,x4,x5,x6,x7,x8,x9,xX⟩:=K.out.go (S.out.up F.out)
 clear hW hlen hlen2 hk hS h1 h2 hO
 go_in
 go_wp2_with fail
 refine (HO.out _ _ F.out H1.out).mono ?_
 rintro e u ⟨rfl,hW2⟩
 have F2:=vH hW2
 clear hW2 F
 have F:=F2
 clear F2 x0 x1 x2 x3 x4 x5 x6 x7 x8 x9 xX
 obtain ⟨x0,x1,x2,x3,x4,x5,x6,x7,x8,x9,xX⟩:=K.out.go (S.out.up F.out)
 go_wp2_with fail
 refine (zRk [46] es F.out H2.out).mono ?_
 rintro e u ⟨rfl,hW2⟩
 have F2:=vH hW2
 clear hW2 F
 have F:=F2
 clear F2 x0 x1 x2 x3 x4 x5 x6 x7 x8 x9 xX
 obtain ⟨x0,x1,x2,x3,x4,x5,x6,x7,x8,x9,xX⟩:=K.out.go (S.out.up F.out)
 go_wp2_with fail
 go_end0
 exact ⟨rfl,F.out.cast (by simp)⟩
theorem zPs {b:Nat}{n:Int}{w0 w1:World}(hS:Sta b w0 w1){bl off:Nat}{en:Int}{es eo:List UInt8}{ed:Int}{ev:Value}{ea eb er ee ef:Int}(T T2:List UInt8)(hO:GivW b n w1 59 #[.pointer (some ⟨b,0,none⟩),.pointer (some ⟨bl,off,none⟩),.int .i64 0,.int .i64 7] T)(hQ:GivW b n w1 59 #[.pointer (some ⟨b,0,none⟩),.pointer (some ⟨bl,off,none⟩),.int .i64 1,.int .i64 1] T2)(hk:Kd w0 bl off 6 en es eo ed ev ea eb er ee ef) :
 GivW b n w1 33 #[.pointer (some ⟨b,0,none⟩),.pointer (some ⟨bl,off,none⟩)] (T ++ 91 :: (T2 ++ [93])):=by
 intro l w hW hlen
 have hlen2:=hlen
 try simp only [List.length_cons,List.length_append,List.length_nil] at hlen2
 have h1:(l).length + (T).length ≤ 70368744177664:=by
  try simp only [List.length_cons,List.length_append,List.length_nil]
  omega
 have h2:(l ++ T).length + ([91]:List UInt8).length ≤ 70368744177664:=by
  try simp only [List.length_cons,List.length_append,List.length_nil]
  omega
 have h3:(l ++ T ++ [91]).length + (T2).length ≤ 70368744177664:=by
  try simp only [List.length_cons,List.length_append,List.length_nil]
  omega
 have h4:(l ++ T ++ [91] ++ T2).length + ([93]:List UInt8).length ≤ 70368744177664:=by
  try simp only [List.length_cons,List.length_append,List.length_nil]
  omega
 have H1:=vH h1
 have H2:=vH h2
 have H3:=vH h3
 have H4:=vH h4
 have HO:=vH hO
 have HQ:=vH hQ
 have F:=vH hW
 have K:=vH hk
 have S:=vH hS
 obtain ⟨x0,x1,x2,x3,x4,x5,x6,x7,x8,x9,xX⟩:=K.out.go (S.out.up F.out)
 clear hW hlen hlen2 hk hS h1 h2 h3 h4 hO hQ
 go_in
 go_wp2_with fail
 refine (HO.out _ _ F.out H1.out).mono ?_
 rintro e u ⟨rfl,hW2⟩
 have F2:=vH hW2
 clear hW2 F
 have F:=F2
 clear F2 x0 x1 x2 x3 x4 x5 x6 x7 x8 x9 xX
 obtain ⟨x0,x1,x2,x3,x4,x5,x6,x7,x8,x9,xX⟩:=K.out.go (S.out.up F.out)
 go_wp2_with fail
 refine (zBG [91] F.out H2.out).mono ?_
 rintro e u ⟨rfl,hW2⟩
 have F2:=vH hW2
 clear hW2 F
 have F:=F2
 clear F2 x0 x1 x2 x3 x4 x5 x6 x7 x8 x9 xX
 obtain ⟨x0,x1,x2,x3,x4,x5,x6,x7,x8,x9,xX⟩:=K.out.go (S.out.up F.out)
 go_wp2_with fail
 refine (HQ.out _ _ F.out H3.out).mono ?_
 rintro e u ⟨rfl,hW2⟩
 have F2:=vH hW2
 clear hW2 F
 have F:=F2
 clear F2 x0 x1 x2 x3 x4 x5 x6 x7 x8 x9 xX
 obtain ⟨x0,x1,x2,x3,x4,x5,x6,x7,x8,x9,xX⟩:=K.out.go (S.out.up F.out)
 go_wp2_with fail
 refine (zBG [93] F.out H4.out).mono ?_
 rintro e u ⟨rfl,hW2⟩
 have F2:=vH hW2
 clear hW2 F
 have F:=F2
 clear F2 x0 x1 x2 x3 x4 x5 x6 x7 x8 x9 xX
 obtain ⟨x0,x1,x2,x3,x4,x5,x6,x7,x8,x9,xX⟩:=K.out.go (S.out.up F.out)
 go_wp2_with fail
 go_end0
 exact ⟨rfl,F.out.cast (by simp)⟩
theorem zPt {b:Nat}{n:Int}{w0 w1:World}(hS:Sta b w0 w1){bl off:Nat}{en:Int}{es eo:List UInt8}{ed:Int}{ev:Value}{ea eb er ee ef:Int}(T:List UInt8)(hO:GivW b n w1 60 #[.pointer (some ⟨b,0,none⟩),.pointer (some ⟨bl,off,none⟩)] T)(hk:Kd w0 bl off 7 en es eo ed ev ea eb er ee ef) :
 GivW b n w1 33 #[.pointer (some ⟨b,0,none⟩),.pointer (some ⟨bl,off,none⟩)] (T):=by
 intro l w hW hlen
 have hlen2:=hlen
 try simp only [List.length_cons,List.length_append,List.length_nil] at hlen2
 have h1:(l).length + (T).length ≤ 70368744177664:=by
  try simp only [List.length_cons,List.length_append,List.length_nil]
  omega
 have H1:=vH h1
 have HO:=vH hO
 have F:=vH hW
 have K:=vH hk
 have S:=vH hS
 obtain ⟨x0,x1,x2,x3,x4,x5,x6,x7,x8,x9,xX⟩:=K.out.go (S.out.up F.out)
 clear hW hlen hlen2 hk hS h1 hO
 go_in
 go_wp2_with fail
 refine (HO.out _ _ F.out H1.out).mono ?_
 rintro e u ⟨rfl,hW2⟩
 have F2:=vH hW2
 clear hW2 F
 have F:=F2
 clear F2 x0 x1 x2 x3 x4 x5 x6 x7 x8 x9 xX
 obtain ⟨x0,x1,x2,x3,x4,x5,x6,x7,x8,x9,xX⟩:=K.out.go (S.out.up F.out)
 go_wp2_with fail
 go_end0
 exact ⟨rfl,F.out.cast (by simp)⟩
theorem zRT {b:Nat}{n:Int}{w0 w1:World}(hS:Sta b w0 w1){bl off:Nat}{en:Int}{es eo:List UInt8}{ed:Int}{ev:Value}{ea eb er ee ef:Int}(TY:List UInt8)(hT:GivW b n w1 46 #[.pointer (some ⟨b,0,none⟩),.agg #[.string (cbs eo),.int .i64 ed]] TY)(hk:Kd w0 bl off 8 en es eo ed ev ea eb er ee ef) :
 GivW b n w1 33 #[.pointer (some ⟨b,0,none⟩),.pointer (some ⟨bl,off,none⟩)] ([110,101,119] ++ 32 :: TY):=by
 intro l w hW hlen
 have hlen2:=hlen
 try simp only [List.length_cons,List.length_append,List.length_nil] at hlen2
 have h1:(l).length + ([110,101,119,32]:List UInt8).length ≤ 70368744177664:=by
  try simp only [List.length_cons,List.length_nil]
  omega
 have h2:(l ++ [110,101,119,32]).length + (TY).length ≤ 70368744177664:=by
  try simp only [List.length_cons,List.length_append,List.length_nil]
  omega
 have H1:=vH h1
 have H2:=vH h2
 have HT:=vH hT
 have F:=vH hW
 have K:=vH hk
 have S:=vH hS
 obtain ⟨x0,x1,x2,x3,x4,x5,x6,x7,x8,x9,xX⟩:=K.out.go (S.out.up F.out)
 clear hW hlen hlen2 hk hS h1 h2 hT
 go_in
 go_wp2_with fail
 refine (zBG [110,101,119,32] F.out H1.out).mono ?_
 rintro e u ⟨rfl,hW2⟩
 have F2:=vH hW2
 clear hW2 F
 have F:=F2
 clear F2 x0 x1 x2 x3 x4 x5 x6 x7 x8 x9 xX
 obtain ⟨x0,x1,x2,x3,x4,x5,x6,x7,x8,x9,xX⟩:=K.out.go (S.out.up F.out)
 go_wp2_with fail
 refine (HT.out _ _ F.out H2.out).mono ?_
 rintro e u ⟨rfl,hW2⟩
 have F2:=vH hW2
 clear hW2 F
 have F:=F2
 clear F2 x0 x1 x2 x3 x4 x5 x6 x7 x8 x9 xX
 obtain ⟨x0,x1,x2,x3,x4,x5,x6,x7,x8,x9,xX⟩:=K.out.go (S.out.up F.out)
 go_wp2_with fail
 go_end0
 exact ⟨rfl,F.out.cast (by simp)⟩
theorem zPr {b:Nat}{n:Int}{w0 w1:World}(hS:Sta b w0 w1){bl off:Nat}{en:Int}{es eo:List UInt8}{ed:Int}{ev:Value}{ea eb er ee ef:Int}(T TY:List UInt8)(hT:GivW b n w1 46 #[.pointer (some ⟨b,0,none⟩),.agg #[.string (cbs eo),.int .i64 ed]] TY)(hO:GivW b n w1 59 #[.pointer (some ⟨b,0,none⟩),.pointer (some ⟨bl,off,none⟩),.int .i64 0,.int .i64 1] T)(hk:Kd w0 bl off 9 en es eo ed ev ea eb er ee ef) :
 GivW b n w1 33 #[.pointer (some ⟨b,0,none⟩),.pointer (some ⟨bl,off,none⟩)] ([110,101,119] ++ 32 :: 91 :: (TY ++ 93 :: 40 :: (T ++ [41]))):=by
 intro l w hW hlen
 have hlen2:=hlen
 try simp only [List.length_cons,List.length_append,List.length_nil] at hlen2
 have h1:(l).length + ([110,101,119,32,91]:List UInt8).length ≤ 70368744177664:=by
  try simp only [List.length_cons,List.length_nil]
  omega
 have h2:(l ++ [110,101,119,32,91]).length + (TY).length ≤ 70368744177664:=by
  try simp only [List.length_cons,List.length_append,List.length_nil]
  omega
 have h3:(l ++ [110,101,119,32,91] ++ TY).length + ([93,40]:List UInt8).length ≤ 70368744177664:=by
  try simp only [List.length_cons,List.length_append,List.length_nil]
  omega
 have h4:(l ++ [110,101,119,32,91] ++ TY ++ [93,40]).length + (T).length ≤ 70368744177664:=by
  try simp only [List.length_cons,List.length_append,List.length_nil]
  omega
 have h5:(l ++ [110,101,119,32,91] ++ TY ++ [93,40] ++ T).length + ([41]:List UInt8).length ≤ 70368744177664:=by
  try simp only [List.length_cons,List.length_append,List.length_nil]
  omega
 have H1:=vH h1
 have H2:=vH h2
 have H3:=vH h3
 have H4:=vH h4
 have H5:=vH h5
 have HT:=vH hT
 have HO:=vH hO
 have F:=vH hW
 have K:=vH hk
 have S:=vH hS
 obtain ⟨x0,x1,x2,x3,x4,x5,x6,x7,x8,x9,xX⟩:=K.out.go (S.out.up F.out)
 clear hW hlen hlen2 hk hS h1 h2 h3 h4 h5 hT hO
 go_in
 go_wp2_with fail
 refine (zBG [110,101,119,32,91] F.out H1.out).mono ?_
 rintro e u ⟨rfl,hW2⟩
 have F2:=vH hW2
 clear hW2 F
 have F:=F2
 clear F2 x0 x1 x2 x3 x4 x5 x6 x7 x8 x9 xX
 obtain ⟨x0,x1,x2,x3,x4,x5,x6,x7,x8,x9,xX⟩:=K.out.go (S.out.up F.out)
 go_wp2_with fail
 refine (HT.out _ _ F.out H2.out).mono ?_
 rintro e u ⟨rfl,hW2⟩
 have F2:=vH hW2
 clear hW2 F
 have F:=F2
 clear F2 x0 x1 x2 x3 x4 x5 x6 x7 x8 x9 xX
 obtain ⟨x0,x1,x2,x3,x4,x5,x6,x7,x8,x9,xX⟩:=K.out.go (S.out.up F.out)
 go_wp2_with fail
 refine (zBG [93,40] F.out H3.out).mono ?_
 rintro e u ⟨rfl,hW2⟩
 have F2:=vH hW2
 clear hW2 F
 have F:=F2
 clear F2 x0 x1 x2 x3 x4 x5 x6 x7 x8 x9 xX
 obtain ⟨x0,x1,x2,x3,x4,x5,x6,x7,x8,x9,xX⟩:=K.out.go (S.out.up F.out)
 go_wp2_with fail
 refine (HO.out _ _ F.out H4.out).mono ?_
 rintro e u ⟨rfl,hW2⟩
 have F2:=vH hW2
 clear hW2 F
 have F:=F2
 clear F2 x0 x1 x2 x3 x4 x5 x6 x7 x8 x9 xX
 obtain ⟨x0,x1,x2,x3,x4,x5,x6,x7,x8,x9,xX⟩:=K.out.go (S.out.up F.out)
 go_wp2_with fail
 refine (zBG [41] F.out H5.out).mono ?_
 rintro e u ⟨rfl,hW2⟩
 have F2:=vH hW2
 clear hW2 F
 have F:=F2
 clear F2 x0 x1 x2 x3 x4 x5 x6 x7 x8 x9 xX
 obtain ⟨x0,x1,x2,x3,x4,x5,x6,x7,x8,x9,xX⟩:=K.out.go (S.out.up F.out)
 go_wp2_with fail
 go_end0
 exact ⟨rfl,F.out.cast (by simp)⟩
theorem zRV {b:Nat}{n:Int}{w0 w1:World}(hS:Sta b w0 w1){bl off:Nat}{en:Int}{es eo:List UInt8}{ed:Int}{ev:Value}{ea eb er ee ef:Int}(T:List UInt8)(hO:GivW b n w1 59 #[.pointer (some ⟨b,0,none⟩),.pointer (some ⟨bl,off,none⟩),.int .i64 0,.int .i64 1] T)(hk:Kd w0 bl off 10 en es eo ed ev ea eb er ee ef) :
 GivW b n w1 33 #[.pointer (some ⟨b,0,none⟩),.pointer (some ⟨bl,off,none⟩)] ([108,101,110] ++ 40 :: (T ++ [41])):=by
 intro l w hW hlen
 have hlen2:=hlen
 try simp only [List.length_cons,List.length_append,List.length_nil] at hlen2
 have h1:(l).length + ([108,101,110,40]:List UInt8).length ≤ 70368744177664:=by
  try simp only [List.length_cons,List.length_nil]
  omega
 have h2:(l ++ [108,101,110,40]).length + (T).length ≤ 70368744177664:=by
  try simp only [List.length_cons,List.length_append,List.length_nil]
  omega
 have h3:(l ++ [108,101,110,40] ++ T).length + ([41]:List UInt8).length ≤ 70368744177664:=by
  try simp only [List.length_cons,List.length_append,List.length_nil]
  omega
 have H1:=vH h1
 have H2:=vH h2
 have H3:=vH h3
 have HO:=vH hO
 have F:=vH hW
 have K:=vH hk
 have S:=vH hS
 obtain ⟨x0,x1,x2,x3,x4,x5,x6,x7,x8,x9,xX⟩:=K.out.go (S.out.up F.out)
 clear hW hlen hlen2 hk hS h1 h2 h3 hO
 go_in
 go_wp2_with fail
 refine (zBG [108,101,110,40] F.out H1.out).mono ?_
 rintro e u ⟨rfl,hW2⟩
 have F2:=vH hW2
 clear hW2 F
 have F:=F2
 clear F2 x0 x1 x2 x3 x4 x5 x6 x7 x8 x9 xX
 obtain ⟨x0,x1,x2,x3,x4,x5,x6,x7,x8,x9,xX⟩:=K.out.go (S.out.up F.out)
 go_wp2_with fail
 refine (HO.out _ _ F.out H2.out).mono ?_
 rintro e u ⟨rfl,hW2⟩
 have F2:=vH hW2
 clear hW2 F
 have F:=F2
 clear F2 x0 x1 x2 x3 x4 x5 x6 x7 x8 x9 xX
 obtain ⟨x0,x1,x2,x3,x4,x5,x6,x7,x8,x9,xX⟩:=K.out.go (S.out.up F.out)
 go_wp2_with fail
 refine (zBG [41] F.out H3.out).mono ?_
 rintro e u ⟨rfl,hW2⟩
 have F2:=vH hW2
 clear hW2 F
 have F:=F2
 clear F2 x0 x1 x2 x3 x4 x5 x6 x7 x8 x9 xX
 obtain ⟨x0,x1,x2,x3,x4,x5,x6,x7,x8,x9,xX⟩:=K.out.go (S.out.up F.out)
 go_wp2_with fail
 go_end0
 exact ⟨rfl,F.out.cast (by simp)⟩
theorem zPp {b:Nat}{n:Int}{w0 w1:World}(hS:Sta b w0 w1){bl off:Nat}{en:Int}{es eo:List UInt8}{ed:Int}{ev:Value}{ea eb er ee ef:Int}(hk:Kd w0 bl off 11 en es eo ed ev ea eb er ee ef) :
 GivW b n w1 33 #[.pointer (some ⟨b,0,none⟩),.pointer (some ⟨bl,off,none⟩)] ([114,101,97,100] ++ [40,41]):=by
 intro l w hW hlen
 have hlen2:=hlen
 try simp only [List.length_cons,List.length_append,List.length_nil] at hlen2
 have h1:(l).length + ([114,101,97,100,40,41]:List UInt8).length ≤ 70368744177664:=by
  try simp only [List.length_cons,List.length_nil]
  omega
 have H1:=vH h1
 have F:=vH hW
 have K:=vH hk
 have S:=vH hS
 obtain ⟨x0,x1,x2,x3,x4,x5,x6,x7,x8,x9,xX⟩:=K.out.go (S.out.up F.out)
 clear hW hlen hlen2 hk hS h1
 go_in
 go_wp2_with fail
 refine (zBG [114,101,97,100,40,41] F.out H1.out).mono ?_
 rintro e u ⟨rfl,hW2⟩
 have F2:=vH hW2
 clear hW2 F
 have F:=F2
 clear F2 x0 x1 x2 x3 x4 x5 x6 x7 x8 x9 xX
 obtain ⟨x0,x1,x2,x3,x4,x5,x6,x7,x8,x9,xX⟩:=K.out.go (S.out.up F.out)
 go_wp2_with fail
 go_end0
 exact ⟨rfl,F.out.cast (by simp)⟩
theorem zRU {b:Nat}{n:Int}{w0 w1:World}(hS:Sta b w0 w1){bl off:Nat}{en:Int}{es eo:List UInt8}{ed:Int}{ev:Value}{ea eb er ee ef:Int}(T:List UInt8)(hO:GivW b n w1 61 #[.pointer (some ⟨b,0,none⟩),.pointer (some ⟨bl,off,none⟩)] T)(hk:Kd w0 bl off 12 en es eo ed ev ea eb er ee ef) :
 GivW b n w1 33 #[.pointer (some ⟨b,0,none⟩),.pointer (some ⟨bl,off,none⟩)] (T):=by
 intro l w hW hlen
 have hlen2:=hlen
 try simp only [List.length_cons,List.length_append,List.length_nil] at hlen2
 have h1:(l).length + (T).length ≤ 70368744177664:=by
  try simp only [List.length_cons,List.length_append,List.length_nil]
  omega
 have H1:=vH h1
 have HO:=vH hO
 have F:=vH hW
 have K:=vH hk
 have S:=vH hS
 obtain ⟨x0,x1,x2,x3,x4,x5,x6,x7,x8,x9,xX⟩:=K.out.go (S.out.up F.out)
 clear hW hlen hlen2 hk hS h1 hO
 go_in
 go_wp2_with fail
 refine (HO.out _ _ F.out H1.out).mono ?_
 rintro e u ⟨rfl,hW2⟩
 have F2:=vH hW2
 clear hW2 F
 have F:=F2
 clear F2 x0 x1 x2 x3 x4 x5 x6 x7 x8 x9 xX
 obtain ⟨x0,x1,x2,x3,x4,x5,x6,x7,x8,x9,xX⟩:=K.out.go (S.out.up F.out)
 go_wp2_with fail
 go_end0
 exact ⟨rfl,F.out.cast (by simp)⟩
theorem zRS {b:Nat}{n:Int}{w0 w1:World}(hS:Sta b w0 w1){bl off:Nat}{en:Int}{es eo:List UInt8}{ed:Int}{ev:Value}{ea eb er ee ef:Int}(T:List UInt8)(hO:GivW b n w1 61 #[.pointer (some ⟨b,0,none⟩),.pointer (some ⟨bl,off,none⟩)] T)(hk:Kd w0 bl off 13 en es eo ed ev ea eb er ee ef) :
 GivW b n w1 33 #[.pointer (some ⟨b,0,none⟩),.pointer (some ⟨bl,off,none⟩)] (T):=by
 intro l w hW hlen
 have hlen2:=hlen
 try simp only [List.length_cons,List.length_append,List.length_nil] at hlen2
 have h1:(l).length + (T).length ≤ 70368744177664:=by
  try simp only [List.length_cons,List.length_append,List.length_nil]
  omega
 have H1:=vH h1
 have HO:=vH hO
 have F:=vH hW
 have K:=vH hk
 have S:=vH hS
 obtain ⟨x0,x1,x2,x3,x4,x5,x6,x7,x8,x9,xX⟩:=K.out.go (S.out.up F.out)
 clear hW hlen hlen2 hk hS h1 hO
 go_in
 go_wp2_with fail
 refine (HO.out _ _ F.out H1.out).mono ?_
 rintro e u ⟨rfl,hW2⟩
 have F2:=vH hW2
 clear hW2 F
 have F:=F2
 clear F2 x0 x1 x2 x3 x4 x5 x6 x7 x8 x9 xX
 obtain ⟨x0,x1,x2,x3,x4,x5,x6,x7,x8,x9,xX⟩:=K.out.go (S.out.up F.out)
 go_wp2_with fail
 go_end0
 exact ⟨rfl,F.out.cast (by simp)⟩
theorem zSs {b:Nat}{n:Int}{w0 w1:World}(hS:Sta b w0 w1){bl off:Nat}{en:Int}{es eo:List UInt8}{ed:Int}{ev:Value}{ea eb er ee ef:Int}(T:List UInt8)(hO:GivW b n w1 59 #[.pointer (some ⟨b,0,none⟩),.pointer (some ⟨bl,off,none⟩),.int .i64 0,.int .i64 6] T)(hk:Kd w0 bl off 12 en es eo ed ev ea eb er ee ef) :
 GivW b n w1 61 #[.pointer (some ⟨b,0,none⟩),.pointer (some ⟨bl,off,none⟩)] (45 :: T):=by
 intro l w hW hlen
 have hlen2:=hlen
 try simp only [List.length_cons] at hlen2
 have h1:(l).length + ([45]:List UInt8).length ≤ 70368744177664:=by
  try simp only [List.length_cons,List.length_nil]
  omega
 have h2:(l ++ [45]).length + (T).length ≤ 70368744177664:=by
  try simp only [List.length_cons,List.length_append,List.length_nil]
  omega
 have H1:=vH h1
 have H2:=vH h2
 have hV:∀ w,Calls Tryd.prog 87 #[.int .i64 12] w fun x w' => x = .returned (.int .i64 6) ∧ w = w':=fun w => zCG w 12
 have HO:=vH hO
 have HV:=vH hV
 have F:=vH hW
 have K:=vH hk
 have S:=vH hS
 obtain ⟨x0,x1,x2,x3,x4,x5,x6,x7,x8,x9,xX⟩:=K.out.go (S.out.up F.out)
 have y0:=(S.out.env.below (S.out.up F.out)).sign 12 (by decide)
 rw [show sgT 12 = [45] from rfl] at y0
 clear hW hlen hlen2 hk hS h1 h2 hO hV
 go_in
 go_wp2_with fail
 refine (zBG [45] F.out H1.out).mono ?_
 rintro e u ⟨rfl,hW2⟩
 have F2:=vH hW2
 clear hW2 F
 have F:=F2
 clear F2 x0 x1 x2 x3 x4 x5 x6 x7 x8 x9 xX y0
 obtain ⟨x0,x1,x2,x3,x4,x5,x6,x7,x8,x9,xX⟩:=K.out.go (S.out.up F.out)
 have y0:=(S.out.env.below (S.out.up F.out)).sign 12 (by decide)
 rw [show sgT 12 = [45] from rfl] at y0
 go_wp2_with fail
 refine (HV.out _).mono ?_
 rintro e u ⟨rfl,rfl⟩
 go_wp2_with fail
 refine (HO.out _ _ F.out H2.out).mono ?_
 rintro e u ⟨rfl,hW2⟩
 have F2:=vH hW2
 clear hW2 F
 have F:=F2
 clear F2 x0 x1 x2 x3 x4 x5 x6 x7 x8 x9 xX y0
 obtain ⟨x0,x1,x2,x3,x4,x5,x6,x7,x8,x9,xX⟩:=K.out.go (S.out.up F.out)
 have y0:=(S.out.env.below (S.out.up F.out)).sign 12 (by decide)
 rw [show sgT 12 = [45] from rfl] at y0
 go_wp2_with fail
 go_end0
 exact ⟨rfl,F.out.cast (by simp)⟩
theorem zSr {b:Nat}{n:Int}{w0 w1:World}(hS:Sta b w0 w1){bl off:Nat}{en:Int}{es eo:List UInt8}{ed:Int}{ev:Value}{ea eb er ee ef:Int}(T:List UInt8)(hO:GivW b n w1 59 #[.pointer (some ⟨b,0,none⟩),.pointer (some ⟨bl,off,none⟩),.int .i64 0,.int .i64 6] T)(hk:Kd w0 bl off 13 en es eo ed ev ea eb er ee ef) :
 GivW b n w1 61 #[.pointer (some ⟨b,0,none⟩),.pointer (some ⟨bl,off,none⟩)] (33 :: T):=by
 intro l w hW hlen
 have hlen2:=hlen
 try simp only [List.length_cons] at hlen2
 have h1:(l).length + ([33]:List UInt8).length ≤ 70368744177664:=by
  try simp only [List.length_cons,List.length_nil]
  omega
 have h2:(l ++ [33]).length + (T).length ≤ 70368744177664:=by
  try simp only [List.length_cons,List.length_append,List.length_nil]
  omega
 have H1:=vH h1
 have H2:=vH h2
 have hV:∀ w,Calls Tryd.prog 87 #[.int .i64 13] w fun x w' => x = .returned (.int .i64 6) ∧ w = w':=fun w => zCG w 13
 have HO:=vH hO
 have HV:=vH hV
 have F:=vH hW
 have K:=vH hk
 have S:=vH hS
 obtain ⟨x0,x1,x2,x3,x4,x5,x6,x7,x8,x9,xX⟩:=K.out.go (S.out.up F.out)
 have y0:=(S.out.env.below (S.out.up F.out)).sign 13 (by decide)
 rw [show sgT 13 = [33] from rfl] at y0
 clear hW hlen hlen2 hk hS h1 h2 hO hV
 go_in
 go_wp2_with fail
 refine (zBG [33] F.out H1.out).mono ?_
 rintro e u ⟨rfl,hW2⟩
 have F2:=vH hW2
 clear hW2 F
 have F:=F2
 clear F2 x0 x1 x2 x3 x4 x5 x6 x7 x8 x9 xX y0
 obtain ⟨x0,x1,x2,x3,x4,x5,x6,x7,x8,x9,xX⟩:=K.out.go (S.out.up F.out)
 have y0:=(S.out.env.below (S.out.up F.out)).sign 13 (by decide)
 rw [show sgT 13 = [33] from rfl] at y0
 go_wp2_with fail
 refine (HV.out _).mono ?_
 rintro e u ⟨rfl,rfl⟩
 go_wp2_with fail
 refine (HO.out _ _ F.out H2.out).mono ?_
 rintro e u ⟨rfl,hW2⟩
 have F2:=vH hW2
 clear hW2 F
 have F:=F2
 clear F2 x0 x1 x2 x3 x4 x5 x6 x7 x8 x9 xX y0
 obtain ⟨x0,x1,x2,x3,x4,x5,x6,x7,x8,x9,xX⟩:=K.out.go (S.out.up F.out)
 have y0:=(S.out.env.below (S.out.up F.out)).sign 13 (by decide)
 rw [show sgT 13 = [33] from rfl] at y0
 go_wp2_with fail
 go_end0
 exact ⟨rfl,F.out.cast (by simp)⟩
theorem zRX {b:Nat}{n:Int}{w0 w1:World}(hS:Sta b w0 w1){bl off:Nat}(k:Int)(hk1 : 14 ≤ k)(hk2:k ≤ 24){en:Int}{es eo:List UInt8}{ed:Int}{ev:Value}{ea eb er ee ef:Int}(T:List UInt8)(hO:GivW b n w1 62 #[.pointer (some ⟨b,0,none⟩),.pointer (some ⟨bl,off,none⟩)] T)(hk:Kd w0 bl off k en es eo ed ev ea eb er ee ef) :
 GivW b n w1 33 #[.pointer (some ⟨b,0,none⟩),.pointer (some ⟨bl,off,none⟩)] (T):=by
 intro l w hW hlen
 have hlen2:=hlen
 try simp only [List.length_cons,List.length_append,List.length_nil] at hlen2
 have h1:(l).length + (T).length ≤ 70368744177664:=by
  try simp only [List.length_cons,List.length_append,List.length_nil]
  omega
 have H1:=vH h1
 have HO:=vH hO
 have F:=vH hW
 have K:=vH hk
 have S:=vH hS
 have hcs:k = 14 ∨ k = 15 ∨ k = 16 ∨ k = 17 ∨ k = 18 ∨ k = 19 ∨ k = 20 ∨ k = 21 ∨ k = 22 ∨ k = 23 ∨ k = 24:=by omega
 obtain ⟨x0,x1,x2,x3,x4,x5,x6,x7,x8,x9,xX⟩:=K.out.go (S.out.up F.out)
 clear hW hlen hlen2 hk hS h1 hO hk1 hk2
 rcases hcs with rfl | rfl | rfl | rfl | rfl | rfl | rfl | rfl | rfl | rfl | rfl
 all_goals
  go_in
  go_wp2_with fail
  refine (HO.out _ _ F.out H1.out).mono ?_
  rintro e u ⟨rfl,hW2⟩
  have F2:=vH hW2
  clear hW2 F
  have F:=F2
  clear F2 x0 x1 x2 x3 x4 x5 x6 x7 x8 x9 xX
  obtain ⟨x0,x1,x2,x3,x4,x5,x6,x7,x8,x9,xX⟩:=K.out.go (S.out.up F.out)
  go_wp2_with fail
  go_end0
  exact ⟨rfl,F.out.cast (by simp)⟩
theorem zTf {b:Nat}{n:Int}{w0 w1:World}(hS:Sta b w0 w1){bl off:Nat}(j:Nat)(hj:j < 25){en:Int}{es eo:List UInt8}{ed:Int}{ev:Value}{ea eb er ee ef:Int}(M:Nat)(T T2 O:List UInt8)(hM:M ≤ 7)(hV:∀ w,Calls Tryd.prog 87 #[.int .i64 (j:Int)] w fun x w' => x = .returned (.int .i64 (M:Int)) ∧ w = w')(hg:sgT j = O)(hO:GivW b n w1 59 #[.pointer (some ⟨b,0,none⟩),.pointer (some ⟨bl,off,none⟩),.int .i64 0,.int .i64 (M:Int)] T)(hQ:GivW b n w1 59 #[.pointer (some ⟨b,0,none⟩),.pointer (some ⟨bl,off,none⟩),.int .i64 1,.int .i64 ((M:Int) + 1)] T2)(hk:Kd w0 bl off (j:Int) en es eo ed ev ea eb er ee ef) :
 GivW b n w1 62 #[.pointer (some ⟨b,0,none⟩),.pointer (some ⟨bl,off,none⟩)] (T ++ 32 :: (O ++ 32 :: T2)):=by
 intro l w hW hlen
 have hlen2:=hlen
 try simp only [List.length_cons,List.length_append] at hlen2
 have h1:(l).length + (T).length ≤ 70368744177664:=by
  try simp only [List.length_cons,List.length_append,List.length_nil]
  omega
 have h2:(l ++ T).length + (([32]:List UInt8).length + (O.length + ([32]:List UInt8).length)) ≤ 70368744177664:=by
  try simp only [List.length_cons,List.length_append,List.length_nil]
  omega
 have h3:(l ++ T ++ ([32] ++ (O ++ [32]))).length + (T2).length ≤ 70368744177664:=by
  try simp only [List.length_cons,List.length_append,List.length_nil]
  omega
 have H1:=vH h1
 have H2:=vH h2
 have H3:=vH h3
 have HO:=vH hO
 have HQ:=vH hQ
 have HV:=vH hV
 have hi0:(0:Int) ≤ (j:Int):=by omega
 have hi1:(j:Int) < 25:=by omega
 have hwr:wrap64 ((M:Int) + 1) = (M:Int) + 1:=by simp [wrap64]; omega
 have F:=vH hW
 have K:=vH hk
 have S:=vH hS
 obtain ⟨x0,x1,x2,x3,x4,x5,x6,x7,x8,x9,xX⟩:=K.out.go (S.out.up F.out)
 have y0:=(S.out.env.below (S.out.up F.out)).sign j hj
 rw [hg] at y0
 clear hW hlen hlen2 hk hS h1 h2 h3 hO hQ hV hM
 go_in
 go_wp2_with fail
 refine (HV.out _).mono ?_
 rintro e u ⟨rfl,rfl⟩
 go_wp2_with fail
 refine (HO.out _ _ F.out H1.out).mono ?_
 rintro e u ⟨rfl,hW2⟩
 have F2:=vH hW2
 clear hW2 F
 have F:=F2
 clear F2 x0 x1 x2 x3 x4 x5 x6 x7 x8 x9 xX y0
 obtain ⟨x0,x1,x2,x3,x4,x5,x6,x7,x8,x9,xX⟩:=K.out.go (S.out.up F.out)
 have y0:=(S.out.env.below (S.out.up F.out)).sign j hj
 rw [hg] at y0
 go_wp2_with fail
 refine (zTg [32] O [32] F.out H2.out).mono ?_
 rintro e u ⟨rfl,hW2⟩
 have F2:=vH hW2
 clear hW2 F
 have F:=F2
 clear F2 x0 x1 x2 x3 x4 x5 x6 x7 x8 x9 xX y0
 obtain ⟨x0,x1,x2,x3,x4,x5,x6,x7,x8,x9,xX⟩:=K.out.go (S.out.up F.out)
 have y0:=(S.out.env.below (S.out.up F.out)).sign j hj
 rw [hg] at y0
 go_wp2_with fail
 refine (HV.out _).mono ?_
 rintro e u ⟨rfl,rfl⟩
 go_wp2_with fail
 refine (HQ.out _ _ F.out H3.out).mono ?_
 rintro e u ⟨rfl,hW2⟩
 have F2:=vH hW2
 clear hW2 F
 have F:=F2
 clear F2 x0 x1 x2 x3 x4 x5 x6 x7 x8 x9 xX y0
 obtain ⟨x0,x1,x2,x3,x4,x5,x6,x7,x8,x9,xX⟩:=K.out.go (S.out.up F.out)
 have y0:=(S.out.env.below (S.out.up F.out)).sign j hj
 rw [hg] at y0
 go_wp2_with fail
 go_end0
 exact ⟨rfl,F.out.cast (by simp)⟩
end Go.Proofs.YteadgahhchlgeaaDoor
