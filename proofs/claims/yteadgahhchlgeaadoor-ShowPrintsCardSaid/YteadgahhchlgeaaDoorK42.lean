/-
  The project's writer of statements, kind by kind; blocks.
-/
import Derived.Test.YteadgahhchlgeaaDoorK02
import Derived.Test.YteadgahhchlgeaaDoorK41
set_option maxRecDepth 8000
set_option maxHeartbeats 8000000
namespace Go.Proofs.YteadgahhchlgeaaDoor
open Go.RowKit
open Pe (Ex)
open Ps (Sm kindOf)
open Rt (tyB lvl prE prL pad prS prB)
theorem zSe {b d:Nat}{w0 w1:World}(hS:Sta b w0 w1)(hd:d ≤ 50){bl off:Nat}(D:Nat){nm ot:List UInt8}{ev bv lv:Value}{a r:Int}(TY:List UInt8)(hT:∀ w1,Calls Tryd.prog 29 #[.agg #[.string (cbs ot),.int .i64 (D:Int)]] w1 fun e w' => e = .returned (.string (cbs TY)) ∧ Below w1.heap.size w1 w')(hk:Ks w0 bl off 1 nm ot (D:Int) ev bv lv a r) :
 GivW b (d:Int) w1 106 #[.pointer (some ⟨b,0,none⟩),.pointer (some ⟨bl,off,none⟩)] ((pad d ++ (([[118,97,114,32],nm,[58,32],TY,[59]]:List (List UInt8)).flatten ++ [10]))):=by
 intro l w hW hlen
 have H1:Hid ((l).length + (pad d ++ (([[118,97,114,32],nm,[58,32],TY,[59]]:List (List UInt8)).flatten ++ [10])).length ≤ 70368744177664):=vH (by
  try simp only [List.length_append] at hlen ⊢
  omega)
 have HT:=vH hT
 have HD:=vH hd
 have F:=vH hW
 have K:=vH hk
 have SS:=vH hS
 obtain ⟨x0,x1,x2,x3,x4,x5,x6,x7,x8⟩:=K.out.go (SS.out.up F.out)
 clear hW hlen hk hS hd hT
 go_in
 go_wp2_with fail
 have F2:=vH (F.out.go (zAI w))
 clear F x0 x1 x2 x3 x4 x5 x6 x7 x8
 have F:=F2
 clear F2
 go_region_held3 (fun w' => w'.cell? ⟨bl,off + 1,none⟩ = some (.string (cbs nm)) ∧ w'.cell? ⟨bl,off + 2,none⟩ = some (.string (cbs ot)) ∧ w'.cell? ⟨bl,off + 3,none⟩ = some (.int .i64 (D:Int))) (first | exact ⟨(K.out.go (SS.out.up (F.out))).2.1,(K.out.go (SS.out.up (F.out))).2.2.1,(K.out.go (SS.out.up (F.out))).2.2.2.1⟩ | exact ⟨(K.out.go (SS.out.up (F.out.go ((Below.refl _ _).alloc (Nat.le_refl _) _)))).2.1,(K.out.go (SS.out.up (F.out.go ((Below.refl _ _).alloc (Nat.le_refl _) _)))).2.2.1,(K.out.go (SS.out.up (F.out.go ((Below.refl _ _).alloc (Nat.le_refl _) _)))).2.2.2.1⟩)
  (first
  | (go_at_call 29; (with_reducible refine Calls.mono (HT.out _) ?_); rintro e u ⟨rfl,hb⟩; have F2:=vH (F.out.go hb); have F:=F2)
  | (go_at_call 42; (refine Calls.mono (zBi [[118,97,114,32],nm,[58,32],TY,[59]] F.out HD.out H1.out (by simp) _ rfl 5 rfl) ?_); rintro e u ⟨rfl,hW2⟩; have F2:=vH hW2; have F:=F2))
 all_goals
  go_wp2_with fail
  go_end0
  exact ⟨rfl,F.out.cast (by simp only)⟩
theorem zSh {b d:Nat}{w0 w1:World}(hS:Sta b w0 w1)(hd:d ≤ 50){bl off:Nat}(D:Nat){nm ot:List UInt8}{ev bv lv:Value}{a r:Int}(TY T:List UInt8)(hT:∀ w1,Calls Tryd.prog 29 #[.agg #[.string (cbs ot),.int .i64 (D:Int)]] w1 fun e w' => e = .returned (.string (cbs TY)) ∧ Below w1.heap.size w1 w')(hX:Gives w0 127 #[.pointer (some ⟨bl,off,none⟩),.int .i64 0] T)(hk:Ks w0 bl off 2 nm ot (D:Int) ev bv lv a r) :
 GivW b (d:Int) w1 106 #[.pointer (some ⟨b,0,none⟩),.pointer (some ⟨bl,off,none⟩)] ((pad d ++ (([[108,101,116,32],nm,[58,32],TY,[32,61,32],T,[59]]:List (List UInt8)).flatten ++ [10]))):=by
 intro l w hW hlen
 have H1:Hid ((l).length + (pad d ++ (([[108,101,116,32],nm,[58,32],TY,[32,61,32],T,[59]]:List (List UInt8)).flatten ++ [10])).length ≤ 70368744177664):=vH (by
  try simp only [List.length_append] at hlen ⊢
  omega)
 have HT:=vH hT
 have HX:=vH hX
 have HD:=vH hd
 have F:=vH hW
 have K:=vH hk
 have SS:=vH hS
 obtain ⟨x0,x1,x2,x3,x4,x5,x6,x7,x8⟩:=K.out.go (SS.out.up F.out)
 clear hW hlen hk hS hd hT hX
 go_in
 go_wp2_with fail
 have F2:=vH (F.out.go (zAI w))
 clear F x0 x1 x2 x3 x4 x5 x6 x7 x8
 have F:=F2
 clear F2
 go_region_held3 (fun w' => w'.cell? ⟨bl,off + 1,none⟩ = some (.string (cbs nm)) ∧ w'.cell? ⟨bl,off + 2,none⟩ = some (.string (cbs ot)) ∧ w'.cell? ⟨bl,off + 3,none⟩ = some (.int .i64 (D:Int))) (first | exact ⟨(K.out.go (SS.out.up (F.out))).2.1,(K.out.go (SS.out.up (F.out))).2.2.1,(K.out.go (SS.out.up (F.out))).2.2.2.1⟩ | exact ⟨(K.out.go (SS.out.up (F.out.go ((Below.refl _ _).alloc (Nat.le_refl _) _)))).2.1,(K.out.go (SS.out.up (F.out.go ((Below.refl _ _).alloc (Nat.le_refl _) _)))).2.2.1,(K.out.go (SS.out.up (F.out.go ((Below.refl _ _).alloc (Nat.le_refl _) _)))).2.2.2.1⟩)
  (first
  | (go_at_call 29; (with_reducible refine Calls.mono (HT.out _) ?_); rintro e u ⟨rfl,hb⟩; have F2:=vH (F.out.go hb); have F:=F2)
  | (go_at_call 127; (with_reducible refine Calls.mono (HX.out _ (SS.out.up F.out)) ?_); rintro e u ⟨rfl,hb⟩; have F2:=vH (F.out.go hb); have F:=F2)
  | (go_at_call 42; (refine Calls.mono (zBi [[108,101,116,32],nm,[58,32],TY,[32,61,32],T,[59]] F.out HD.out H1.out (by simp) _ rfl 7 rfl) ?_); rintro e u ⟨rfl,hW2⟩; have F2:=vH hW2; have F:=F2))
 all_goals
  go_wp2_with fail
  go_end0
  exact ⟨rfl,F.out.cast (by simp only)⟩
theorem zSf {b d:Nat}{w0 w1:World}(hS:Sta b w0 w1)(hd:d ≤ 50){bl off:Nat}{nm ot:List UInt8}{dm:Int}{ev bv lv:Value}{a r:Int}(T:List UInt8)(hX:Gives w0 127 #[.pointer (some ⟨bl,off,none⟩),.int .i64 0] T)(hk:Ks w0 bl off 3 nm ot dm ev bv lv a r) :
 GivW b (d:Int) w1 106 #[.pointer (some ⟨b,0,none⟩),.pointer (some ⟨bl,off,none⟩)] ((pad d ++ (([nm,[32,61,32],T,[59]]:List (List UInt8)).flatten ++ [10]))):=by
 intro l w hW hlen
 have H1:Hid ((l).length + (pad d ++ (([nm,[32,61,32],T,[59]]:List (List UInt8)).flatten ++ [10])).length ≤ 70368744177664):=vH (by
  try simp only [List.length_append] at hlen ⊢
  omega)
 have HX:=vH hX
 have HD:=vH hd
 have F:=vH hW
 have K:=vH hk
 have SS:=vH hS
 obtain ⟨x0,x1,x2,x3,x4,x5,x6,x7,x8⟩:=K.out.go (SS.out.up F.out)
 clear hW hlen hk hS hd hX
 go_in
 go_wp2_with fail
 have F2:=vH (F.out.go (zAI w))
 clear F x0 x1 x2 x3 x4 x5 x6 x7 x8
 have F:=F2
 clear F2
 go_region_held3 (fun w' => w'.cell? ⟨bl,off + 1,none⟩ = some (.string (cbs nm))) (first | exact (K.out.go (SS.out.up (F.out))).2.1 | exact (K.out.go (SS.out.up (F.out.go ((Below.refl _ _).alloc (Nat.le_refl _) _)))).2.1)
  (first
  | (go_at_call 127; (with_reducible refine Calls.mono (HX.out _ (SS.out.up F.out)) ?_); rintro e u ⟨rfl,hb⟩; have F2:=vH (F.out.go hb); have F:=F2)
  | (go_at_call 42; (refine Calls.mono (zBi [nm,[32,61,32],T,[59]] F.out HD.out H1.out (by simp) _ rfl 4 rfl) ?_); rintro e u ⟨rfl,hW2⟩; have F2:=vH hW2; have F:=F2))
 all_goals
  go_wp2_with fail
  go_end0
  exact ⟨rfl,F.out.cast (by simp only)⟩
theorem zSg {b d:Nat}{w0 w1:World}(hS:Sta b w0 w1)(hd:d ≤ 50){bl off:Nat}{nm ot:List UInt8}{dm:Int}{ev bv lv:Value}{a r:Int}(T T2:List UInt8)(hX:Gives w0 127 #[.pointer (some ⟨bl,off,none⟩),.int .i64 0] T)(hY:Gives w0 127 #[.pointer (some ⟨bl,off,none⟩),.int .i64 1] T2)(hk:Ks w0 bl off 4 nm ot dm ev bv lv a r) :
 GivW b (d:Int) w1 106 #[.pointer (some ⟨b,0,none⟩),.pointer (some ⟨bl,off,none⟩)] ((pad d ++ (([T,[32,61,32],T2,[59]]:List (List UInt8)).flatten ++ [10]))):=by
 intro l w hW hlen
 have H1:Hid ((l).length + (pad d ++ (([T,[32,61,32],T2,[59]]:List (List UInt8)).flatten ++ [10])).length ≤ 70368744177664):=vH (by
  try simp only [List.length_append] at hlen ⊢
  omega)
 have HX:=vH hX
 have HY:=vH hY
 have HD:=vH hd
 have F:=vH hW
 have K:=vH hk
 have SS:=vH hS
 obtain ⟨x0,x1,x2,x3,x4,x5,x6,x7,x8⟩:=K.out.go (SS.out.up F.out)
 clear hW hlen hk hS hd hX hY
 go_in
 go_wp2_with fail
 refine (HX.out _ (SS.out.up F.out)).mono ?_
 rintro e u ⟨rfl,hb⟩
 have F2:=vH (F.out.go hb)
 clear hb F x0 x1 x2 x3 x4 x5 x6 x7 x8
 have F:=F2
 clear F2
 obtain ⟨x0,x1,x2,x3,x4,x5,x6,x7,x8⟩:=K.out.go (SS.out.up F.out)
 go_wp2_with fail
 refine (HY.out _ (SS.out.up F.out)).mono ?_
 rintro e u ⟨rfl,hb⟩
 have F2:=vH (F.out.go hb)
 clear hb F x0 x1 x2 x3 x4 x5 x6 x7 x8
 have F:=F2
 clear F2
 obtain ⟨x0,x1,x2,x3,x4,x5,x6,x7,x8⟩:=K.out.go (SS.out.up F.out)
 go_wp2_with fail
 refine (zBi [T,[32,61,32],T2,[59]] F.out HD.out H1.out (by simp) _ rfl 4 rfl).mono ?_
 rintro e u ⟨rfl,hW2⟩
 have F2:=vH hW2
 clear hW2 F
 have F:=F2
 clear F2 x0 x1 x2 x3 x4 x5 x6 x7 x8
 obtain ⟨x0,x1,x2,x3,x4,x5,x6,x7,x8⟩:=K.out.go (SS.out.up F.out)
 go_wp2_with fail
 go_end0
 exact ⟨rfl,F.out.cast (by simp only)⟩
theorem s_if {b d:Nat}{w0 w1:World}(hS:Sta b w0 w1)(hd:d ≤ 50){bl off:Nat}{nm ot:List UInt8}{dm:Int}{ev bv lv:Value}{a r:Int}(T:List UInt8)(hC:GivW b (d:Int) w1 128 #[.pointer (some ⟨b,0,none⟩),.pointer (some ⟨bl,off,none⟩)] T)(hk:Ks w0 bl off 5 nm ot dm ev bv lv a r) :
 GivW b (d:Int) w1 106 #[.pointer (some ⟨b,0,none⟩),.pointer (some ⟨bl,off,none⟩)] (T):=by
 intro l w hW hlen
 have H1:Hid ((l).length + T.length ≤ 70368744177664):=vH (by
  try simp only [List.length_append] at hlen ⊢
  omega)
 have HC:=vH hC
 have HD:=vH hd
 have F:=vH hW
 have K:=vH hk
 have SS:=vH hS
 obtain ⟨x0,x1,x2,x3,x4,x5,x6,x7,x8⟩:=K.out.go (SS.out.up F.out)
 clear hW hlen hk hS hd hC
 go_in
 go_wp2_with fail
 refine (HC.out _ _ F.out H1.out).mono ?_
 rintro e u ⟨rfl,hW2⟩
 have F2:=vH hW2
 clear hW2 F
 have F:=F2
 clear F2 x0 x1 x2 x3 x4 x5 x6 x7 x8
 obtain ⟨x0,x1,x2,x3,x4,x5,x6,x7,x8⟩:=K.out.go (SS.out.up F.out)
 go_wp2_with fail
 go_end0
 exact ⟨rfl,F.out.cast (by simp only)⟩
theorem zNH {b d:Nat}{w0 w1:World}(hS:Sta b w0 w1)(hd:d ≤ 50){bl off:Nat}{nm ot:List UInt8}{dm:Int}{ev bv lv:Value}{a r:Int}(T B:List UInt8)(hX:Gives w0 127 #[.pointer (some ⟨bl,off,none⟩),.int .i64 0] T)(hB:GivW b (d:Int) w1 76 #[.pointer (some ⟨b,0,none⟩),bv] B)(hk:Ks w0 bl off 6 nm ot dm ev bv lv a r) :
 GivW b (d:Int) w1 106 #[.pointer (some ⟨b,0,none⟩),.pointer (some ⟨bl,off,none⟩)] ((pad d ++ (([[119,104,105,108,101,32],T,[32,123]]:List (List UInt8)).flatten ++ [10])) ++ (B ++ (pad d ++ (([[125]]:List (List UInt8)).flatten ++ [10])))):=by
 intro l w hW hlen
 have H1:Hid ((l).length + (pad d ++ (([[119,104,105,108,101,32],T,[32,123]]:List (List UInt8)).flatten ++ [10])).length ≤ 70368744177664):=vH (by
  try simp only [List.length_append] at hlen ⊢
  omega)
 have H2:Hid ((l ++ (pad d ++ (([[119,104,105,108,101,32],T,[32,123]]:List (List UInt8)).flatten ++ [10]))).length + B.length ≤ 70368744177664):=vH (by
  try simp only [List.length_append] at hlen ⊢
  omega)
 have H3:Hid ((l ++ (pad d ++ (([[119,104,105,108,101,32],T,[32,123]]:List (List UInt8)).flatten ++ [10])) ++ B).length + (pad d ++ (([[125]]:List (List UInt8)).flatten ++ [10])).length ≤ 70368744177664):=vH (by
  try simp only [List.length_append] at hlen ⊢
  omega)
 have HX:=vH hX
 have HB:=vH hB
 have HD:=vH hd
 have F:=vH hW
 have K:=vH hk
 have SS:=vH hS
 obtain ⟨x0,x1,x2,x3,x4,x5,x6,x7,x8⟩:=K.out.go (SS.out.up F.out)
 clear hW hlen hk hS hd hX hB
 go_in
 go_wp2_with fail
 refine (HX.out _ (SS.out.up F.out)).mono ?_
 rintro e u ⟨rfl,hb⟩
 have F2:=vH (F.out.go hb)
 clear hb F x0 x1 x2 x3 x4 x5 x6 x7 x8
 have F:=F2
 clear F2
 obtain ⟨x0,x1,x2,x3,x4,x5,x6,x7,x8⟩:=K.out.go (SS.out.up F.out)
 go_wp2_with fail
 refine (zBi [[119,104,105,108,101,32],T,[32,123]] F.out HD.out H1.out (by simp) _ rfl 3 rfl).mono ?_
 rintro e u ⟨rfl,hW2⟩
 have F2:=vH hW2
 clear hW2 F
 have F:=F2
 clear F2 x0 x1 x2 x3 x4 x5 x6 x7 x8
 obtain ⟨x0,x1,x2,x3,x4,x5,x6,x7,x8⟩:=K.out.go (SS.out.up F.out)
 go_wp2_with fail
 refine (HB.out _ _ F.out H2.out).mono ?_
 rintro e u ⟨rfl,hW2⟩
 have F2:=vH hW2
 clear hW2 F
 have F:=F2
 clear F2 x0 x1 x2 x3 x4 x5 x6 x7 x8
 obtain ⟨x0,x1,x2,x3,x4,x5,x6,x7,x8⟩:=K.out.go (SS.out.up F.out)
 go_wp2_with fail
 refine (zBi [[125]] F.out HD.out H3.out (by simp) _ rfl 1 rfl).mono ?_
 rintro e u ⟨rfl,hW2⟩
 have F2:=vH hW2
 clear hW2 F
 have F:=F2
 clear F2 x0 x1 x2 x3 x4 x5 x6 x7 x8
 obtain ⟨x0,x1,x2,x3,x4,x5,x6,x7,x8⟩:=K.out.go (SS.out.up F.out)
 go_wp2_with fail
 go_end0
 exact ⟨rfl,F.out.cast (by simp only [List.append_assoc])⟩
theorem zPP {b d:Nat}{w0 w1:World}(hS:Sta b w0 w1)(hd:d ≤ 50){bl off:Nat}{nm ot:List UInt8}{dm:Int}{ev bv lv:Value}{a r:Int}(T:List UInt8)(hC:GivW b (d:Int) w1 129 #[.pointer (some ⟨b,0,none⟩),.pointer (some ⟨bl,off,none⟩)] T)(hk:Ks w0 bl off 7 nm ot dm ev bv lv a r) :
 GivW b (d:Int) w1 106 #[.pointer (some ⟨b,0,none⟩),.pointer (some ⟨bl,off,none⟩)] (T):=by
 intro l w hW hlen
 have H1:Hid ((l).length + T.length ≤ 70368744177664):=vH (by
  try simp only [List.length_append] at hlen ⊢
  omega)
 have HC:=vH hC
 have HD:=vH hd
 have F:=vH hW
 have K:=vH hk
 have SS:=vH hS
 obtain ⟨x0,x1,x2,x3,x4,x5,x6,x7,x8⟩:=K.out.go (SS.out.up F.out)
 clear hW hlen hk hS hd hC
 go_in
 go_wp2_with fail
 refine (HC.out _ _ F.out H1.out).mono ?_
 rintro e u ⟨rfl,hW2⟩
 have F2:=vH hW2
 clear hW2 F
 have F:=F2
 clear F2 x0 x1 x2 x3 x4 x5 x6 x7 x8
 obtain ⟨x0,x1,x2,x3,x4,x5,x6,x7,x8⟩:=K.out.go (SS.out.up F.out)
 go_wp2_with fail
 go_end0
 exact ⟨rfl,F.out.cast (by simp only)⟩
theorem zNI {b d:Nat}{w0 w1:World}(hS:Sta b w0 w1)(hd:d ≤ 50){bl off:Nat}{nm ot:List UInt8}{dm:Int}{ev bv lv:Value}{a r:Int}(T:List UInt8)(hX:Gives w0 127 #[.pointer (some ⟨bl,off,none⟩),.int .i64 0] T)(hk:Ks w0 bl off 8 nm ot dm ev bv lv a r) :
 GivW b (d:Int) w1 106 #[.pointer (some ⟨b,0,none⟩),.pointer (some ⟨bl,off,none⟩)] ((pad d ++ (([[112,114,105,110,116,32],T,[59]]:List (List UInt8)).flatten ++ [10]))):=by
 intro l w hW hlen
 have H1:Hid ((l).length + (pad d ++ (([[112,114,105,110,116,32],T,[59]]:List (List UInt8)).flatten ++ [10])).length ≤ 70368744177664):=vH (by
  try simp only [List.length_append] at hlen ⊢
  omega)
 have HX:=vH hX
 have HD:=vH hd
 have F:=vH hW
 have K:=vH hk
 have SS:=vH hS
 obtain ⟨x0,x1,x2,x3,x4,x5,x6,x7,x8⟩:=K.out.go (SS.out.up F.out)
 clear hW hlen hk hS hd hX
 go_in
 go_wp2_with fail
 refine (HX.out _ (SS.out.up F.out)).mono ?_
 rintro e u ⟨rfl,hb⟩
 have F2:=vH (F.out.go hb)
 clear hb F x0 x1 x2 x3 x4 x5 x6 x7 x8
 have F:=F2
 clear F2
 obtain ⟨x0,x1,x2,x3,x4,x5,x6,x7,x8⟩:=K.out.go (SS.out.up F.out)
 go_wp2_with fail
 refine (zBi [[112,114,105,110,116,32],T,[59]] F.out HD.out H1.out (by simp) _ rfl 3 rfl).mono ?_
 rintro e u ⟨rfl,hW2⟩
 have F2:=vH hW2
 clear hW2 F
 have F:=F2
 clear F2 x0 x1 x2 x3 x4 x5 x6 x7 x8
 obtain ⟨x0,x1,x2,x3,x4,x5,x6,x7,x8⟩:=K.out.go (SS.out.up F.out)
 go_wp2_with fail
 go_end0
 exact ⟨rfl,F.out.cast (by simp only)⟩
theorem s_do {b d:Nat}{w0 w1:World}(hS:Sta b w0 w1)(hd:d ≤ 50){bl off:Nat}{nm ot:List UInt8}{dm:Int}{ev bv lv:Value}{a r:Int}(T:List UInt8)(hX:Gives w0 127 #[.pointer (some ⟨bl,off,none⟩),.int .i64 0] T)(hk:Ks w0 bl off 9 nm ot dm ev bv lv a r) :
 GivW b (d:Int) w1 106 #[.pointer (some ⟨b,0,none⟩),.pointer (some ⟨bl,off,none⟩)] ((pad d ++ (([T,[59]]:List (List UInt8)).flatten ++ [10]))):=by
 intro l w hW hlen
 have H1:Hid ((l).length + (pad d ++ (([T,[59]]:List (List UInt8)).flatten ++ [10])).length ≤ 70368744177664):=vH (by
  try simp only [List.length_append] at hlen ⊢
  omega)
 have HX:=vH hX
 have HD:=vH hd
 have F:=vH hW
 have K:=vH hk
 have SS:=vH hS
 obtain ⟨x0,x1,x2,x3,x4,x5,x6,x7,x8⟩:=K.out.go (SS.out.up F.out)
 clear hW hlen hk hS hd hX
 go_in
 go_wp2_with fail
 refine (HX.out _ (SS.out.up F.out)).mono ?_
 rintro e u ⟨rfl,hb⟩
 have F2:=vH (F.out.go hb)
 clear hb F x0 x1 x2 x3 x4 x5 x6 x7 x8
 have F:=F2
 clear F2
 obtain ⟨x0,x1,x2,x3,x4,x5,x6,x7,x8⟩:=K.out.go (SS.out.up F.out)
 go_wp2_with fail
 refine (zBi [T,[59]] F.out HD.out H1.out (by simp) _ rfl 2 rfl).mono ?_
 rintro e u ⟨rfl,hW2⟩
 have F2:=vH hW2
 clear hW2 F
 have F:=F2
 clear F2 x0 x1 x2 x3 x4 x5 x6 x7 x8
 obtain ⟨x0,x1,x2,x3,x4,x5,x6,x7,x8⟩:=K.out.go (SS.out.up F.out)
 go_wp2_with fail
 go_end0
 exact ⟨rfl,F.out.cast (by simp only)⟩
theorem zPZ {b d:Nat}{w0 w1:World}(hS:Sta b w0 w1)(hd:d ≤ 50){bl off:Nat}{k:Int}{nm ot:List UInt8}{dm:Int}{bv lv:Value}{a r:Int}(p:Option Addr)(c:Nat)(hk:Ks w0 bl off k nm ot dm (.slice p 0 c) bv lv a r) :
 GivW b (d:Int) w1 129 #[.pointer (some ⟨b,0,none⟩),.pointer (some ⟨bl,off,none⟩)] ((pad d ++ (([[114,101,116,117,114,110,59]]:List (List UInt8)).flatten ++ [10]))):=by
 intro l w hW hlen
 have H1:Hid ((l).length + (pad d ++ (([[114,101,116,117,114,110,59]]:List (List UInt8)).flatten ++ [10])).length ≤ 70368744177664):=vH (by
  try simp only [List.length_append] at hlen ⊢
  omega)
 have HD:=vH hd
 have F:=vH hW
 have K:=vH hk
 have SS:=vH hS
 obtain ⟨x0,x1,x2,x3,x4,x5,x6,x7,x8⟩:=K.out.go (SS.out.up F.out)
 clear hW hlen hk hS hd
 go_in
 go_wp2_with fail
 refine (zBi [[114,101,116,117,114,110,59]] F.out HD.out H1.out (by simp) _ rfl 1 rfl).mono ?_
 rintro e u ⟨rfl,hW2⟩
 have F2:=vH hW2
 clear hW2 F
 have F:=F2
 clear F2 x0 x1 x2 x3 x4 x5 x6 x7 x8
 obtain ⟨x0,x1,x2,x3,x4,x5,x6,x7,x8⟩:=K.out.go (SS.out.up F.out)
 go_wp2_with fail
 go_end0
 exact ⟨rfl,F.out.cast (by simp only)⟩
theorem zSn {b d:Nat}{w0 w1:World}(hS:Sta b w0 w1)(hd:d ≤ 50){bl off:Nat}{k:Int}{nm ot:List UInt8}{dm:Int}{bv lv:Value}{a r:Int}(p:Option Addr)(c:Nat)(T:List UInt8)(hX:Gives w0 127 #[.pointer (some ⟨bl,off,none⟩),.int .i64 0] T)(hk:Ks w0 bl off k nm ot dm (.slice p 1 c) bv lv a r) :
 GivW b (d:Int) w1 129 #[.pointer (some ⟨b,0,none⟩),.pointer (some ⟨bl,off,none⟩)] ((pad d ++ (([[114,101,116,117,114,110,32],T,[59]]:List (List UInt8)).flatten ++ [10]))):=by
 intro l w hW hlen
 have H1:Hid ((l).length + (pad d ++ (([[114,101,116,117,114,110,32],T,[59]]:List (List UInt8)).flatten ++ [10])).length ≤ 70368744177664):=vH (by
  try simp only [List.length_append] at hlen ⊢
  omega)
 have HX:=vH hX
 have HD:=vH hd
 have F:=vH hW
 have K:=vH hk
 have SS:=vH hS
 obtain ⟨x0,x1,x2,x3,x4,x5,x6,x7,x8⟩:=K.out.go (SS.out.up F.out)
 clear hW hlen hk hS hd hX
 go_in
 go_wp2_with fail
 refine (HX.out _ (SS.out.up F.out)).mono ?_
 rintro e u ⟨rfl,hb⟩
 have F2:=vH (F.out.go hb)
 clear hb F x0 x1 x2 x3 x4 x5 x6 x7 x8
 have F:=F2
 clear F2
 obtain ⟨x0,x1,x2,x3,x4,x5,x6,x7,x8⟩:=K.out.go (SS.out.up F.out)
 go_wp2_with fail
 refine (zBi [[114,101,116,117,114,110,32],T,[59]] F.out HD.out H1.out (by simp) _ rfl 3 rfl).mono ?_
 rintro e u ⟨rfl,hW2⟩
 have F2:=vH hW2
 clear hW2 F
 have F:=F2
 clear F2 x0 x1 x2 x3 x4 x5 x6 x7 x8
 obtain ⟨x0,x1,x2,x3,x4,x5,x6,x7,x8⟩:=K.out.go (SS.out.up F.out)
 go_wp2_with fail
 go_end0
 exact ⟨rfl,F.out.cast (by simp only)⟩
theorem zS6 {b d:Nat}{w0 w1:World}(hS:Sta b w0 w1)(hd:d ≤ 50){bl off:Nat}{k:Int}{nm ot:List UInt8}{dm:Int}{ev bv:Value}{a r:Int}(p:Option Addr)(c:Nat)(T B:List UInt8)(hX:Gives w0 127 #[.pointer (some ⟨bl,off,none⟩),.int .i64 0] T)(hB:GivW b (d:Int) w1 76 #[.pointer (some ⟨b,0,none⟩),bv] B)(hk:Ks w0 bl off k nm ot dm ev bv (.slice p 0 c) a r) :
 GivW b (d:Int) w1 128 #[.pointer (some ⟨b,0,none⟩),.pointer (some ⟨bl,off,none⟩)] ((pad d ++ (([[105,102,32],T,[32,123]]:List (List UInt8)).flatten ++ [10])) ++ (B ++ (pad d ++ (([[125]]:List (List UInt8)).flatten ++ [10])))):=by
 intro l w hW hlen
 have H1:Hid ((l).length + (pad d ++ (([[105,102,32],T,[32,123]]:List (List UInt8)).flatten ++ [10])).length ≤ 70368744177664):=vH (by
  try simp only [List.length_append] at hlen ⊢
  omega)
 have H2:Hid ((l ++ (pad d ++ (([[105,102,32],T,[32,123]]:List (List UInt8)).flatten ++ [10]))).length + B.length ≤ 70368744177664):=vH (by
  try simp only [List.length_append] at hlen ⊢
  omega)
 have H3:Hid ((l ++ (pad d ++ (([[105,102,32],T,[32,123]]:List (List UInt8)).flatten ++ [10])) ++ B).length + (pad d ++ (([[125]]:List (List UInt8)).flatten ++ [10])).length ≤ 70368744177664):=vH (by
  try simp only [List.length_append] at hlen ⊢
  omega)
 have HX:=vH hX
 have HB:=vH hB
 have HD:=vH hd
 have F:=vH hW
 have K:=vH hk
 have SS:=vH hS
 obtain ⟨x0,x1,x2,x3,x4,x5,x6,x7,x8⟩:=K.out.go (SS.out.up F.out)
 clear hW hlen hk hS hd hX hB
 go_in
 go_wp2_with fail
 refine (HX.out _ (SS.out.up F.out)).mono ?_
 rintro e u ⟨rfl,hb⟩
 have F2:=vH (F.out.go hb)
 clear hb F x0 x1 x2 x3 x4 x5 x6 x7 x8
 have F:=F2
 clear F2
 obtain ⟨x0,x1,x2,x3,x4,x5,x6,x7,x8⟩:=K.out.go (SS.out.up F.out)
 go_wp2_with fail
 refine (zBi [[105,102,32],T,[32,123]] F.out HD.out H1.out (by simp) _ rfl 3 rfl).mono ?_
 rintro e u ⟨rfl,hW2⟩
 have F2:=vH hW2
 clear hW2 F
 have F:=F2
 clear F2 x0 x1 x2 x3 x4 x5 x6 x7 x8
 obtain ⟨x0,x1,x2,x3,x4,x5,x6,x7,x8⟩:=K.out.go (SS.out.up F.out)
 go_wp2_with fail
 refine (HB.out _ _ F.out H2.out).mono ?_
 rintro e u ⟨rfl,hW2⟩
 have F2:=vH hW2
 clear hW2 F
 have F:=F2
 clear F2 x0 x1 x2 x3 x4 x5 x6 x7 x8
 obtain ⟨x0,x1,x2,x3,x4,x5,x6,x7,x8⟩:=K.out.go (SS.out.up F.out)
 go_wp2_with fail
 refine (zBi [[125]] F.out HD.out H3.out (by simp) _ rfl 1 rfl).mono ?_
 rintro e u ⟨rfl,hW2⟩
 have F2:=vH hW2
 clear hW2 F
 have F:=F2
 clear F2 x0 x1 x2 x3 x4 x5 x6 x7 x8
 obtain ⟨x0,x1,x2,x3,x4,x5,x6,x7,x8⟩:=K.out.go (SS.out.up F.out)
 go_wp2_with fail
 go_end0
 exact ⟨rfl,F.out.cast (by simp only [List.append_assoc])⟩
theorem zS7 {b d:Nat}{w0 w1:World}(hS:Sta b w0 w1)(hd:d ≤ 50){bl off:Nat}{k:Int}{nm ot:List UInt8}{dm:Int}{ev bv:Value}{a r:Int}(p:Option Addr)(n c:Nat)(hn : 0 < n)(T B B2:List UInt8)(hX:Gives w0 127 #[.pointer (some ⟨bl,off,none⟩),.int .i64 0] T)(hB:GivW b (d:Int) w1 76 #[.pointer (some ⟨b,0,none⟩),bv] B)(hE:GivW b (d:Int) w1 76 #[.pointer (some ⟨b,0,none⟩),.slice p n c] B2)(hk:Ks w0 bl off k nm ot dm ev bv (.slice p n c) a r) :
 GivW b (d:Int) w1 128 #[.pointer (some ⟨b,0,none⟩),.pointer (some ⟨bl,off,none⟩)] ((pad d ++ (([[105,102,32],T,[32,123]]:List (List UInt8)).flatten ++ [10])) ++ (B ++ ((pad d ++ (([[125,32,101,108,115,101,32,123]]:List (List UInt8)).flatten ++ [10])) ++ (B2 ++ (pad d ++ (([[125]]:List (List UInt8)).flatten ++ [10])))))):=by
 intro l w hW hlen
 have H1:Hid ((l).length + (pad d ++ (([[105,102,32],T,[32,123]]:List (List UInt8)).flatten ++ [10])).length ≤ 70368744177664):=vH (by
  try simp only [List.length_append] at hlen ⊢
  omega)
 have H2:Hid ((l ++ (pad d ++ (([[105,102,32],T,[32,123]]:List (List UInt8)).flatten ++ [10]))).length + B.length ≤ 70368744177664):=vH (by
  try simp only [List.length_append] at hlen ⊢
  omega)
 have H3:Hid ((l ++ (pad d ++ (([[105,102,32],T,[32,123]]:List (List UInt8)).flatten ++ [10])) ++ B).length + (pad d ++ (([[125,32,101,108,115,101,32,123]]:List (List UInt8)).flatten ++ [10])).length ≤ 70368744177664):=vH (by
  try simp only [List.length_append] at hlen ⊢
  omega)
 have H4:Hid ((l ++ (pad d ++ (([[105,102,32],T,[32,123]]:List (List UInt8)).flatten ++ [10])) ++ B ++ (pad d ++ (([[125,32,101,108,115,101,32,123]]:List (List UInt8)).flatten ++ [10]))).length + B2.length ≤ 70368744177664):=vH (by
  try simp only [List.length_append] at hlen ⊢
  omega)
 have H5:Hid ((l ++ (pad d ++ (([[105,102,32],T,[32,123]]:List (List UInt8)).flatten ++ [10])) ++ B ++ (pad d ++ (([[125,32,101,108,115,101,32,123]]:List (List UInt8)).flatten ++ [10])) ++ B2).length + (pad d ++ (([[125]]:List (List UInt8)).flatten ++ [10])).length ≤ 70368744177664):=vH (by
  try simp only [List.length_append] at hlen ⊢
  omega)
 have HX:=vH hX
 have HB:=vH hB
 have HE:=vH hE
 have hn1:decide (0 < n) = true:=decide_eq_true hn
 have hn2:decide ((0:Int) < (n:Int)) = true:=decide_eq_true (by omega)
 have HD:=vH hd
 have F:=vH hW
 have K:=vH hk
 have SS:=vH hS
 obtain ⟨x0,x1,x2,x3,x4,x5,x6,x7,x8⟩:=K.out.go (SS.out.up F.out)
 clear hW hlen hk hS hd hX hB hE hn
 go_in
 go_wp2_with fail
 refine (HX.out _ (SS.out.up F.out)).mono ?_
 rintro e u ⟨rfl,hb⟩
 have F2:=vH (F.out.go hb)
 clear hb F x0 x1 x2 x3 x4 x5 x6 x7 x8
 have F:=F2
 clear F2
 obtain ⟨x0,x1,x2,x3,x4,x5,x6,x7,x8⟩:=K.out.go (SS.out.up F.out)
 go_wp2_with fail
 refine (zBi [[105,102,32],T,[32,123]] F.out HD.out H1.out (by simp) _ rfl 3 rfl).mono ?_
 rintro e u ⟨rfl,hW2⟩
 have F2:=vH hW2
 clear hW2 F
 have F:=F2
 clear F2 x0 x1 x2 x3 x4 x5 x6 x7 x8
 obtain ⟨x0,x1,x2,x3,x4,x5,x6,x7,x8⟩:=K.out.go (SS.out.up F.out)
 go_wp2_with fail
 refine (HB.out _ _ F.out H2.out).mono ?_
 rintro e u ⟨rfl,hW2⟩
 have F2:=vH hW2
 clear hW2 F
 have F:=F2
 clear F2 x0 x1 x2 x3 x4 x5 x6 x7 x8
 obtain ⟨x0,x1,x2,x3,x4,x5,x6,x7,x8⟩:=K.out.go (SS.out.up F.out)
 go_wp2_with fail
 refine (zBi [[125,32,101,108,115,101,32,123]] F.out HD.out H3.out (by simp) _ rfl 1 rfl).mono ?_
 rintro e u ⟨rfl,hW2⟩
 have F2:=vH hW2
 clear hW2 F
 have F:=F2
 clear F2 x0 x1 x2 x3 x4 x5 x6 x7 x8
 obtain ⟨x0,x1,x2,x3,x4,x5,x6,x7,x8⟩:=K.out.go (SS.out.up F.out)
 go_wp2_with fail
 refine (HE.out _ _ F.out H4.out).mono ?_
 rintro e u ⟨rfl,hW2⟩
 have F2:=vH hW2
 clear hW2 F
 have F:=F2
 clear F2 x0 x1 x2 x3 x4 x5 x6 x7 x8
 obtain ⟨x0,x1,x2,x3,x4,x5,x6,x7,x8⟩:=K.out.go (SS.out.up F.out)
 go_wp2_with fail
 refine (zBi [[125]] F.out HD.out H5.out (by simp) _ rfl 1 rfl).mono ?_
 rintro e u ⟨rfl,hW2⟩
 have F2:=vH hW2
 clear hW2 F
 have F:=F2
 clear F2 x0 x1 x2 x3 x4 x5 x6 x7 x8
 obtain ⟨x0,x1,x2,x3,x4,x5,x6,x7,x8⟩:=K.out.go (SS.out.up F.out)
 go_wp2_with fail
 go_end0
 exact ⟨rfl,F.out.cast (by simp only [List.append_assoc])⟩
def St1 (w0:World)(bl off:Nat)(x:Sm):Prop:=bl < w0.heap.size ∧ ∃ vs,SIs w0 0 x vs ∧ ∀ (i:Nat)(v:Value),vs[i]? = some v → w0.cell? ⟨bl,off + i,none⟩ = some v
theorem zCK {b d:Nat}{w0 w1:World}(_hS:Sta b w0 w1)(hd:d ≤ 50)(q:Option Addr)(c:Nat)(xs:List Sm)(hq:SsAt w0 0 q xs)(hn:xs.length ≤ 100000000000000)
 (hX:∀ x ∈ xs,∀ bl off,St1 w0 bl off x → GivW b ((d + 1:Nat):Int) w1 106 #[.pointer (some ⟨b,0,none⟩),.pointer (some ⟨bl,off,none⟩)] (prS x (d + 1))) :
 GivW b (d:Int) w1 76 #[.pointer (some ⟨b,0,none⟩),.slice q xs.length c] (prB xs (d + 1)):=by
 intro l w hW hlen
 have hc:=hW.is.cell2
 have hf:=hW.is.froz2
 have hw1:wrap64 ((d:Int) + 1) = ((d + 1:Nat):Int):=by simp [wrap64]; omega
 have hw2:wrap64 (((d + 1:Nat):Int) - 1) = (d:Int):=by simp [wrap64]; omega
 have F:=vH (hW.blocks ((d + 1:Nat):Int))
 have HQ:=vH hq
 have HX:=vH hX
 have HL:=vH hlen
 have HN:=vH hn
 have hw3:wrap64 (d:Int) = (d:Int):=by simp [wrap64]; omega
 have HW2:=vH hw2
 have HW3:=vH hw3
 clear hw3 hq hX hlen hn hW hw2 hd
 go_in
 go_wp2_with fail
 clear hc hf hw1
 go_loopg [14] xs.length (fun g v wr => ∃ j:Nat,g + j = xs.length ∧ v = .int .i64 (j:Int) ∧ ∃ t:List UInt8,Ws b t ((d + 1:Nat):Int) w1 wr ∧ t ++ prB (xs.drop j) (d + 1) = l ++ prB xs (d + 1))
 case atStart => exact ⟨0,rfl,rfl,_,F.out,rfl⟩
 case round =>
  obtain ⟨j,hj,rfl,t,hF,ht⟩:=hrel
  have F3:=vH hF
  have HT:=vH ht
  have HJ:=vH hj
  cases gk with
  | zero =>
    obtain rfl:j = xs.length:=by omega
    have hd1:decide ((xs.length:Int) < (xs.length:Int)) = false:=decide_eq_false (by omega)
    have hc:=hF.is.cell2
    have hf:=hF.is.froz2
    have hw2:=HW2.out
    have hw3:=HW3.out
    clear hF ht hj
    go_wp2_with fail
    go_end0
    have h9:=HT.out
    rw [List.drop_of_length_le (Nat.le_refl _),prB,List.append_nil] at h9
    exact ⟨rfl,(F3.out.blocks (d:Int)).cast h9⟩
  | succ m =>
    have hjl:j < xs.length:=by omega
    have hd1:decide ((j:Int) < (xs.length:Int)) = true:=decide_eq_true (by omega)
    have hd2:decide (xs.length ≤ j) = false:=decide_eq_false (by omega)
    have hi1:(j:Int) < (xs.length:Int):=by omega
    have hi3:(0:Int) ≤ (j:Int):=by omega
    have hdw:wrap64 ((j:Int) + 1) = ((j + 1:Nat):Int):=by have:=HN.out; simp [wrap64]; omega
    have he:=List.getElem?_eq_getElem hjl
    have hd4:xs.drop j = xs[j] :: xs.drop (j + 1):=List.drop_eq_getElem_cons hjl
    have hm:=List.getElem_mem hjl
    generalize xs[j] = x at he hd4 hm
    obtain ⟨kb,ko,vs,rfl,hkb,hi,hcl⟩:=HQ.out.get he
    have HE:=vH (HX.out x hm kb (ko + j * 9) ⟨hkb,vs,hi,hcl⟩)
    have hn2:=ht
    rw [hd4,prB] at hn2
    have h2:t.length + (prS x (d + 1)).length ≤ 70368744177664:=by
        have h3:=congrArg List.length hn2
        simp only [List.length_append] at h3
        have:=HL.out
        omega
    have H2:=vH h2
    have HN2:=vH hn2
    clear hF ht hj he hd4 hm hi hcl hn2 h2
    go_wp2_with fail
    refine (HE.out _ _ F3.out H2.out).mono ?_
    rintro e u ⟨rfl,hW2⟩
    have F4:=vH hW2
    clear hW2
    go_wp2_with fail
    go_roundg m
    case measure => omega
    case rel => exact ⟨j + 1,by have:=HJ.out; omega,by first | rfl | simp [hdw],_,F4.out,by rw [← HN2.out,List.append_assoc]⟩
end Go.Proofs.YteadgahhchlgeaaDoor
