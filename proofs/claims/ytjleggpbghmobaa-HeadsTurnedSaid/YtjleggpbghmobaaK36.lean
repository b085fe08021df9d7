/-
  HeadsOdd: programs by hand whose declarations do not fit.
-/
import Derived.Test.YtjleggpbghmobaaK01
import Derived.Test.YtjleggpbghmobaaK30
import Derived.Test.YtjleggpbghmobaaK34
import Derived.Deep.RegionHeld3
set_option maxRecDepth 8000
set_option maxHeartbeats 8000000
namespace Go.Proofs.Ytjleggpbghmobaa
open Go.RowKit
open Pg (Pm Rc Fc Gm)
open Hs (Nm TypH FldH ShpH SigH HdsH make)
def hoT:List (List UInt8):=[[114,101,99,111,114,100,32,65,32,123,32,125,32,114,101,99,111,114,100,32,65,32,123,32,125,32,102,117,110,99,32,109,97,105,110,40,41,32,123,32,125],[114,101,99,111,114,100,32,65,32,123,32,97,58,32,105,110,116,59,32,97,58,32,105,110,116,59,32,125,32,102,117,110,99,32,109,97,105,110,40,41,32,123,32,125],[114,101,99,111,114,100,32,65,32,123,32,97,58,32,66,59,32,125,32,102,117,110,99,32,109,97,105,110,40,41,32,123,32,125],[103,108,111,98,97,108,32,103,58,32,105,110,116,59,32,103,108,111,98,97,108,32,103,58,32,98,111,111,108,59,32,102,117,110,99,32,109,97,105,110,40,41,32,123,32,125],[103,108,111,98,97,108,32,103,58,32,82,59,32,102,117,110,99,32,109,97,105,110,40,41,32,123,32,125],[102,117,110,99,32,102,40,41,32,123,32,125,32,102,117,110,99,32,102,40,41,32,123,32,125,32,102,117,110,99,32,109,97,105,110,40,41,32,123,32,125],[102,117,110,99,32,102,40,97,58,32,105,110,116,44,32,97,58,32,105,110,116,41,32,123,32,125,32,102,117,110,99,32,109,97,105,110,40,41,32,123,32,125],[102,117,110,99,32,102,40,41,58,32,82,32,123,32,125,32,102,117,110,99,32,109,97,105,110,40,41,32,123,32,125],[102,117,110,99,32,109,97,105,110,40,97,58,32,105,110,116,41,32,123,32,125],[102,117,110,99,32,109,97,105,110,40,41,58,32,105,110,116,32,123,32,125],[102,117,110,99,32,102,40,41,32,123,32,125],[114,101,99,111,114,100,32,105,110,116,50,32,123,32,97,58,32,105,110,116,120,59,32,125,32,102,117,110,99,32,109,97,105,110,40,41,32,123,32,125],[103,108,111,98,97,108,32,103,58,32,66,59,32,114,101,99,111,114,100,32,65,32,123,32,97,58,32,67,59,32,125,32,102,117,110,99,32,109,97,105,110,40,41,32,123,32,125]]
def hoA:List Nat:=[20,19,11,22,7,18,15,5,0,0,0,14,24]
def hoB (l:List UInt8)(a:Int):Bool:=(answer l).2.1 == 0 && (make (answer l).1).1.recs.isEmpty && (make (answer l).1).1.globals.isEmpty && (make (answer l).1).1.sigs.isEmpty && (make (answer l).1).1.main == 0 && (make (answer l).1).2.1 == 3 && (make (answer l).1).2.2 == a
theorem zIE {l:List UInt8}{a:Int}(h:hoB l a = true):(answer l).2.1 = 0 ∧ make (answer l).1 = (HdsH.zero,3,a):=by
 unfold hoB at h
 generalize answer l = x at h ⊢
 generalize make x.1 = y at h ⊢
 obtain ⟨⟨r,g,s,m⟩,e,f⟩:=y
 simp only [Bool.and_eq_true,List.isEmpty_iff,beq_iff_eq] at h
 obtain ⟨⟨⟨⟨⟨⟨h0,rfl⟩,rfl⟩,rfl⟩,rfl⟩,rfl⟩,rfl⟩:=h
 exact ⟨h0,rfl⟩
set_option maxRecDepth 100000 in
theorem zJR:((List.range 13).all fun k => hoB (hoT.getD k []) (hoA.getD k 0:Nat)) = true:=by kernel_rfl
theorem zK1 {k:Nat}(hk:k < 13):(answer (hoT.getD k [])).2.1 = 0 ∧ make (answer (hoT.getD k [])).1 = (HdsH.zero,3,((hoA.getD k 0:Nat):Int)):=
 zIE (List.all_eq_true.1 zJR k (List.mem_range.2 hk))
theorem zIC {k:Nat}(hk:k < 13):(#[.string (⟨#[114,101,99,111,114,100,32,65,32,123,32,125,32,114,101,99,111,114,100,32,65,32,123,32,125]⟩ ++ ⟨#[32,102,117,110,99,32,109,97,105,110,40,41,32,123,32,125]⟩),.string (⟨#[114,101,99,111,114,100,32,65,32,123,32,97,58,32,105,110,116,59,32,97,58,32,105,110,116,59,32,125]⟩ ++ ⟨#[32,102,117,110,99,32,109,97,105,110,40,41,32,123,32,125]⟩),.string (⟨#[114,101,99,111,114,100,32,65,32,123,32,97,58,32,66,59,32,125]⟩ ++ ⟨#[32,102,117,110,99,32,109,97,105,110,40,41,32,123,32,125]⟩),.string (⟨#[103,108,111,98,97,108,32,103,58,32,105,110,116,59,32,103,108,111,98,97,108,32,103,58,32,98,111,111,108,59]⟩ ++ ⟨#[32,102,117,110,99,32,109,97,105,110,40,41,32,123,32,125]⟩),.string (⟨#[103,108,111,98,97,108,32,103,58,32,82,59]⟩ ++ ⟨#[32,102,117,110,99,32,109,97,105,110,40,41,32,123,32,125]⟩),.string (⟨#[102,117,110,99,32,102,40,41,32,123,32,125,32,102,117,110,99,32,102,40,41,32,123,32,125]⟩ ++ ⟨#[32,102,117,110,99,32,109,97,105,110,40,41,32,123,32,125]⟩),.string (⟨#[102,117,110,99,32,102,40,97,58,32,105,110,116,44,32,97,58,32,105,110,116,41,32,123,32,125]⟩ ++ ⟨#[32,102,117,110,99,32,109,97,105,110,40,41,32,123,32,125]⟩),.string (⟨#[102,117,110,99,32,102,40,41,58,32,82,32,123,32,125]⟩ ++ ⟨#[32,102,117,110,99,32,109,97,105,110,40,41,32,123,32,125]⟩),.string ⟨#[102,117,110,99,32,109,97,105,110,40,97,58,32,105,110,116,41,32,123,32,125]⟩,.string ⟨#[102,117,110,99,32,109,97,105,110,40,41,58,32,105,110,116,32,123,32,125]⟩,.string ⟨#[102,117,110,99,32,102,40,41,32,123,32,125]⟩,.string (⟨#[114,101,99,111,114,100,32,105,110,116,50,32,123,32,97,58,32,105,110,116,120,59,32,125]⟩ ++ ⟨#[32,102,117,110,99,32,109,97,105,110,40,41,32,123,32,125]⟩),.string (⟨#[103,108,111,98,97,108,32,103,58,32,66,59,32,114,101,99,111,114,100,32,65,32,123,32,97,58,32,67,59,32,125]⟩ ++ ⟨#[32,102,117,110,99,32,109,97,105,110,40,41,32,123,32,125]⟩)]:Array Value)[k]? = some (.string (cbs (hoT.getD k []))):=by
 obtain rfl | rfl | rfl | rfl | rfl | rfl | rfl | rfl | rfl | rfl | rfl | rfl | rfl:k = 0 ∨ k = 1 ∨ k = 2 ∨ k = 3 ∨ k = 4 ∨ k = 5 ∨ k = 6 ∨ k = 7 ∨ k = 8 ∨ k = 9 ∨ k = 10 ∨ k = 11 ∨ k = 12:=by omega
 all_goals exact congrArg (fun z => some (Value.string z)) (by decide)
theorem zHi {k:Nat}(hk:k < 13):(#[.int .i64 20,.int .i64 19,.int .i64 11,.int .i64 22,.int .i64 7,.int .i64 18,.int .i64 15,.int .i64 5,.int .i64 0,.int .i64 0,.int .i64 0,.int .i64 14,.int .i64 24]:Array Value)[k]? = some (.int .i64 ((hoA.getD k 0:Nat):Int)):=by
 obtain rfl | rfl | rfl | rfl | rfl | rfl | rfl | rfl | rfl | rfl | rfl | rfl | rfl:k = 0 ∨ k = 1 ∨ k = 2 ∨ k = 3 ∨ k = 4 ∨ k = 5 ∨ k = 6 ∨ k = 7 ∨ k = 8 ∨ k = 9 ∨ k = 10 ∨ k = 11 ∨ k = 12:=by omega
 all_goals rfl
theorem zID {k:Nat}(hk:k < 13):(cbs (hoT.getD k [])).size ≤ maxLen:=by
 obtain rfl | rfl | rfl | rfl | rfl | rfl | rfl | rfl | rfl | rfl | rfl | rfl | rfl:k = 0 ∨ k = 1 ∨ k = 2 ∨ k = 3 ∨ k = 4 ∨ k = 5 ∨ k = 6 ∨ k = 7 ∨ k = 8 ∨ k = 9 ∨ k = 10 ∨ k = 11 ∨ k = 12:=by omega
 all_goals decide
theorem HdIs.zero_out {w:World}{B:Nat}{p q r:Option Addr}{n c m d k f:Nat}{mn:Int}(h:HdIs w B HdsH.zero [.slice p n c,.slice q m d,.slice r k f,.int .i64 mn]):n = 0 ∧ m = 0 ∧ k = 0 ∧ mn = 0:=by
 obtain ⟨q1,d1,q2,d2,q4,d4,hv,-⟩:=h
 have hv1:=(List.cons.inj hv).1
 have hv2:=(List.cons.inj (List.cons.inj hv).2).1
 have hv4:=(List.cons.inj (List.cons.inj (List.cons.inj hv).2).2).1
 have hv5:=(List.cons.inj (List.cons.inj (List.cons.inj (List.cons.inj hv).2).2).2).1
 injection hv1 with a1 a2 a3
 injection hv2 with a4 a5 a6
 injection hv4 with a7 a8 a9
 injection hv5 with b1 b2
 exact ⟨a2,a5,a8,b2⟩
theorem zGD:Try.prog.stoodInHeld 29 = false:=by kernel_rfl
theorem zJX (a b:Int)(w:World):(binOp .eql 29 (.agg #[.int .i64 a,.int .i64 b]) (.agg #[.int .i64 a,.int .i64 b])).run Try.prog w = .ok (.bool true) w:=by
 rw [run_eql_struct,run_equalIn_agg w 9999 _ _ _ (by kernel_rfl) zGD]
 simp [go_sem]
theorem zDU (w:World)(k:Nat)(hk:k < 13) :
 Calls Try.prog 7 #[.int .i64 k] w fun e w' => e = .returned (.bool true) ∧ Below w.heap.size w w':=by
 obtain ⟨wa,hwa⟩:∃ wa,wa = (w.alloc (.cells #[.string (⟨#[114,101,99,111,114,100,32,65,32,123,32,125,32,114,101,99,111,114,100,32,65,32,123,32,125]⟩ ++ ⟨#[32,102,117,110,99,32,109,97,105,110,40,41,32,123,32,125]⟩),.string (⟨#[114,101,99,111,114,100,32,65,32,123,32,97,58,32,105,110,116,59,32,97,58,32,105,110,116,59,32,125]⟩ ++ ⟨#[32,102,117,110,99,32,109,97,105,110,40,41,32,123,32,125]⟩),.string (⟨#[114,101,99,111,114,100,32,65,32,123,32,97,58,32,66,59,32,125]⟩ ++ ⟨#[32,102,117,110,99,32,109,97,105,110,40,41,32,123,32,125]⟩),.string (⟨#[103,108,111,98,97,108,32,103,58,32,105,110,116,59,32,103,108,111,98,97,108,32,103,58,32,98,111,111,108,59]⟩ ++ ⟨#[32,102,117,110,99,32,109,97,105,110,40,41,32,123,32,125]⟩),.string (⟨#[103,108,111,98,97,108,32,103,58,32,82,59]⟩ ++ ⟨#[32,102,117,110,99,32,109,97,105,110,40,41,32,123,32,125]⟩),.string (⟨#[102,117,110,99,32,102,40,41,32,123,32,125,32,102,117,110,99,32,102,40,41,32,123,32,125]⟩ ++ ⟨#[32,102,117,110,99,32,109,97,105,110,40,41,32,123,32,125]⟩),.string (⟨#[102,117,110,99,32,102,40,97,58,32,105,110,116,44,32,97,58,32,105,110,116,41,32,123,32,125]⟩ ++ ⟨#[32,102,117,110,99,32,109,97,105,110,40,41,32,123,32,125]⟩),.string (⟨#[102,117,110,99,32,102,40,41,58,32,82,32,123,32,125]⟩ ++ ⟨#[32,102,117,110,99,32,109,97,105,110,40,41,32,123,32,125]⟩),.string ⟨#[102,117,110,99,32,109,97,105,110,40,97,58,32,105,110,116,41,32,123,32,125]⟩,.string ⟨#[102,117,110,99,32,109,97,105,110,40,41,58,32,105,110,116,32,123,32,125]⟩,.string ⟨#[102,117,110,99,32,102,40,41,32,123,32,125]⟩,.string (⟨#[114,101,99,111,114,100,32,105,110,116,50,32,123,32,97,58,32,105,110,116,120,59,32,125]⟩ ++ ⟨#[32,102,117,110,99,32,109,97,105,110,40,41,32,123,32,125]⟩),.string (⟨#[103,108,111,98,97,108,32,103,58,32,66,59,32,114,101,99,111,114,100,32,65,32,123,32,97,58,32,67,59,32,125]⟩ ++ ⟨#[32,102,117,110,99,32,109,97,105,110,40,41,32,123,32,125]⟩)] 9)).alloc (.cells #[.int .i64 20,.int .i64 19,.int .i64 11,.int .i64 22,.int .i64 7,.int .i64 18,.int .i64 15,.int .i64 5,.int .i64 0,.int .i64 0,.int .i64 0,.int .i64 14,.int .i64 24] 3):=⟨_,rfl⟩
 have hba:Below w.heap.size w wa:=by rw [hwa]; exact zC (zC (Below.refl _ _))
 have hrS:wa.heap[w.heap.size]? = some (.cells #[.string (⟨#[114,101,99,111,114,100,32,65,32,123,32,125,32,114,101,99,111,114,100,32,65,32,123,32,125]⟩ ++ ⟨#[32,102,117,110,99,32,109,97,105,110,40,41,32,123,32,125]⟩),.string (⟨#[114,101,99,111,114,100,32,65,32,123,32,97,58,32,105,110,116,59,32,97,58,32,105,110,116,59,32,125]⟩ ++ ⟨#[32,102,117,110,99,32,109,97,105,110,40,41,32,123,32,125]⟩),.string (⟨#[114,101,99,111,114,100,32,65,32,123,32,97,58,32,66,59,32,125]⟩ ++ ⟨#[32,102,117,110,99,32,109,97,105,110,40,41,32,123,32,125]⟩),.string (⟨#[103,108,111,98,97,108,32,103,58,32,105,110,116,59,32,103,108,111,98,97,108,32,103,58,32,98,111,111,108,59]⟩ ++ ⟨#[32,102,117,110,99,32,109,97,105,110,40,41,32,123,32,125]⟩),.string (⟨#[103,108,111,98,97,108,32,103,58,32,82,59]⟩ ++ ⟨#[32,102,117,110,99,32,109,97,105,110,40,41,32,123,32,125]⟩),.string (⟨#[102,117,110,99,32,102,40,41,32,123,32,125,32,102,117,110,99,32,102,40,41,32,123,32,125]⟩ ++ ⟨#[32,102,117,110,99,32,109,97,105,110,40,41,32,123,32,125]⟩),.string (⟨#[102,117,110,99,32,102,40,97,58,32,105,110,116,44,32,97,58,32,105,110,116,41,32,123,32,125]⟩ ++ ⟨#[32,102,117,110,99,32,109,97,105,110,40,41,32,123,32,125]⟩),.string (⟨#[102,117,110,99,32,102,40,41,58,32,82,32,123,32,125]⟩ ++ ⟨#[32,102,117,110,99,32,109,97,105,110,40,41,32,123,32,125]⟩),.string ⟨#[102,117,110,99,32,109,97,105,110,40,97,58,32,105,110,116,41,32,123,32,125]⟩,.string ⟨#[102,117,110,99,32,109,97,105,110,40,41,58,32,105,110,116,32,123,32,125]⟩,.string ⟨#[102,117,110,99,32,102,40,41,32,123,32,125]⟩,.string (⟨#[114,101,99,111,114,100,32,105,110,116,50,32,123,32,97,58,32,105,110,116,120,59,32,125]⟩ ++ ⟨#[32,102,117,110,99,32,109,97,105,110,40,41,32,123,32,125]⟩),.string (⟨#[103,108,111,98,97,108,32,103,58,32,66,59,32,114,101,99,111,114,100,32,65,32,123,32,97,58,32,67,59,32,125]⟩ ++ ⟨#[32,102,117,110,99,32,109,97,105,110,40,41,32,123,32,125]⟩)] 9 (0,0)):=by rw [hwa]; exact zD _ (heap_alloc_new w _)
 have hrI:wa.heap[w.heap.size + 1]? = some (.cells #[.int .i64 20,.int .i64 19,.int .i64 11,.int .i64 22,.int .i64 7,.int .i64 18,.int .i64 15,.int .i64 5,.int .i64 0,.int .i64 0,.int .i64 0,.int .i64 14,.int .i64 24] 3 (0,0)):=by rw [hwa]; have:=heap_alloc_new (w.alloc (.cells #[.string (⟨#[114,101,99,111,114,100,32,65,32,123,32,125,32,114,101,99,111,114,100,32,65,32,123,32,125]⟩ ++ ⟨#[32,102,117,110,99,32,109,97,105,110,40,41,32,123,32,125]⟩),.string (⟨#[114,101,99,111,114,100,32,65,32,123,32,97,58,32,105,110,116,59,32,97,58,32,105,110,116,59,32,125]⟩ ++ ⟨#[32,102,117,110,99,32,109,97,105,110,40,41,32,123,32,125]⟩),.string (⟨#[114,101,99,111,114,100,32,65,32,123,32,97,58,32,66,59,32,125]⟩ ++ ⟨#[32,102,117,110,99,32,109,97,105,110,40,41,32,123,32,125]⟩),.string (⟨#[103,108,111,98,97,108,32,103,58,32,105,110,116,59,32,103,108,111,98,97,108,32,103,58,32,98,111,111,108,59]⟩ ++ ⟨#[32,102,117,110,99,32,109,97,105,110,40,41,32,123,32,125]⟩),.string (⟨#[103,108,111,98,97,108,32,103,58,32,82,59]⟩ ++ ⟨#[32,102,117,110,99,32,109,97,105,110,40,41,32,123,32,125]⟩),.string (⟨#[102,117,110,99,32,102,40,41,32,123,32,125,32,102,117,110,99,32,102,40,41,32,123,32,125]⟩ ++ ⟨#[32,102,117,110,99,32,109,97,105,110,40,41,32,123,32,125]⟩),.string (⟨#[102,117,110,99,32,102,40,97,58,32,105,110,116,44,32,97,58,32,105,110,116,41,32,123,32,125]⟩ ++ ⟨#[32,102,117,110,99,32,109,97,105,110,40,41,32,123,32,125]⟩),.string (⟨#[102,117,110,99,32,102,40,41,58,32,82,32,123,32,125]⟩ ++ ⟨#[32,102,117,110,99,32,109,97,105,110,40,41,32,123,32,125]⟩),.string ⟨#[102,117,110,99,32,109,97,105,110,40,97,58,32,105,110,116,41,32,123,32,125]⟩,.string ⟨#[102,117,110,99,32,109,97,105,110,40,41,58,32,105,110,116,32,123,32,125]⟩,.string ⟨#[102,117,110,99,32,102,40,41,32,123,32,125]⟩,.string (⟨#[114,101,99,111,114,100,32,105,110,116,50,32,123,32,97,58,32,105,110,116,120,59,32,125]⟩ ++ ⟨#[32,102,117,110,99,32,109,97,105,110,40,41,32,123,32,125]⟩),.string (⟨#[103,108,111,98,97,108,32,103,58,32,66,59,32,114,101,99,111,114,100,32,65,32,123,32,97,58,32,67,59,32,125]⟩ ++ ⟨#[32,102,117,110,99,32,109,97,105,110,40,41,32,123,32,125]⟩)] 9)) (.cells #[.int .i64 20,.int .i64 19,.int .i64 11,.int .i64 22,.int .i64 7,.int .i64 18,.int .i64 15,.int .i64 5,.int .i64 0,.int .i64 0,.int .i64 0,.int .i64 14,.int .i64 24] 3); rw [zB] at this; exact this
 have hcT:wa.cell? ⟨w.heap.size,k,none⟩ = some (.string (cbs (hoT.getD k []))):=by rw [cell_of_row _ _ _ _ _ _ hrS]; exact zIC hk
 have HRI:=vH hrI
 have HBA:=vH hba
 have hq:=zDh (cbs (hoT.getD k [])) (zID hk) wa
 rw [show (cbs (hoT.getD k [])).data.toList = hoT.getD k [] from rfl] at hq
 obtain ⟨h0,hmk⟩:=zK1 hk
 have hsm:=zDx (hoT.getD k [])
 have hpl:=zHi hk
 generalize answer (hoT.getD k []) = y at hq h0 hmk hsm
 obtain ⟨g,E,K⟩:=y
 dsimp only at h0 hmk hsm
 subst h0
 have hcm:=fun w2 p1 p2 p3 n1 n2 n3 c1 c2 c3 h => zDo w2 g p1 p2 p3 n1 n2 n3 c1 c2 c3 h hsm
 rw [hmk] at hcm
 have HQ:=vH hq
 have HCM:=vH hcm
 have HPL:=vH hpl
 have hd1:decide ((k:Int) < 0) = false:=decide_eq_false (by omega)
 have hd2:decide ((13:Int) ≤ (k:Int)) = false:=decide_eq_false (by omega)
 have hd3:decide (13 ≤ k) = false:=decide_eq_false (by omega)
 have hi1:(k:Int) < (13:Int):=by omega
 have hi2:k < 13:=hk
 clear hq hcm hmk hsm hba hrS hrI hpl
 go_in
 go_upto_region 4 with fail
 rw [← hwa]
 clear hwa
 go_wp2_with fail
 refine HQ.out.mono ?_
 rintro e w1 ⟨p1,n1,c1,p2,n2,c2,p3,n3,c3,rfl,hgi,hb⟩
 have HG1:=vH (hgi.lower (Nat.zero_le _)).gm
 have HB1:=vH (zE HBA.out hb HBA.out.size)
 have HR1:=vH ((hb.block _ (zA HRI.out)).trans HRI.out)
 clear hgi hb HQ hcT
 go_wp2_with fail
 have hba:Below w1.heap.size w1 ((w1.alloc (.cells #[.slice p1 n1 c1,.slice p2 n2 c2,.slice p3 n3 c3] 26)).alloc (.cells #[.int .i64 (0),.int .i64 K] 29)):=zC (zC (Below.refl _ _))
 have hkf:((w1.alloc (.cells #[.slice p1 n1 c1,.slice p2 n2 c2,.slice p3 n3 c3] 26)).alloc (.cells #[.int .i64 (0),.int .i64 K] 29)).heap[w1.heap.size + 1]? = some (.cells #[.int .i64 (0),.int .i64 K] 29 (0,0)):=by have:=heap_alloc_new (w1.alloc (.cells #[.slice p1 n1 c1,.slice p2 n2 c2,.slice p3 n3 c3] 26)) (.cells #[.int .i64 (0),.int .i64 K] 29); rw [zB] at this; exact this
 have HB2:=vH (zE HB1.out hba HB1.out.size)
 have HR2:=vH ((hba.block _ (zA HR1.out)).trans HR1.out)
 obtain ⟨a,ha⟩:∃ a,((hoA.getD k 0:Nat):Int) = a:=⟨_,rfl⟩
 rw [ha] at HCM HPL
 refine (HCM.out _ _ _ _ _ _ _ _ _ _ (HG1.out.ag (Ag.below hba))).mono ?_
 rintro e w2 ⟨q1,m1,e1,q2,m2,e2,q3,m3,e3,mn,rfl,hh,hb⟩
 obtain ⟨rfl,rfl,rfl,rfl⟩:=HdIs.zero_out hh
 have HB3:=vH (zE HB2.out hb HB2.out.size)
 have HR3:=vH ((hb.block _ (zA HR2.out)).trans HR2.out)
 have HF3:=vH ((hb.block _ (zA hkf)).trans hkf)
 clear hb hba hkf hh ha
 go_upto_region 8 with fail
 obtain ⟨wz,hwz⟩:∃ wz,wz = (w2.alloc (.cells #[.slice q1 0 e1,.slice q2 0 e2,.slice q3 0 e3,.int .i64 0] 36)).alloc (.cells #[.int .i64 3,.int .i64 a] 29):=⟨_,rfl⟩
 have hbz:Below w2.heap.size w2 wz:=by rw [hwz]; exact zC (zC (Below.refl _ _))
 have hkh:wz.heap[w2.heap.size]? = some (.cells #[.slice q1 0 e1,.slice q2 0 e2,.slice q3 0 e3,.int .i64 0] 36 (0,0)):=by rw [hwz]; exact zD _ (heap_alloc_new w2 _)
 have hkf:wz.heap[w2.heap.size + 1]? = some (.cells #[.int .i64 3,.int .i64 a] 29 (0,0)):=by rw [hwz]; have:=heap_alloc_new (w2.alloc (.cells #[.slice q1 0 e1,.slice q2 0 e2,.slice q3 0 e3,.int .i64 0] 36)) (.cells #[.int .i64 3,.int .i64 a] 29); rw [zB] at this; exact this
 rw [← hwz]
 clear hwz
 have HB4:=vH (zE HB3.out hbz HB3.out.size)
 have hr4:=(hbz.block _ (zA HR3.out)).trans HR3.out
 have hf4:=(hbz.block _ (zA HF3.out)).trans HF3.out
 have hcs:wz.cell? ⟨w1.heap.size + 1,0,none⟩ = some (.int .i64 0) ∧ wz.cell? ⟨w2.heap.size + 1,0,none⟩ = some (.int .i64 3) ∧ wz.cell? ⟨w2.heap.size + 1,1,none⟩ = some (.int .i64 a) ∧ wz.cell? ⟨w.heap.size + 1,k,none⟩ = some (.int .i64 a) ∧ wz.cell? ⟨w2.heap.size,0,none⟩ = some (.slice q1 0 e1) ∧ wz.cell? ⟨w2.heap.size,1,none⟩ = some (.slice q2 0 e2) ∧ wz.cell? ⟨w2.heap.size,2,none⟩ = some (.slice q3 0 e3) ∧ wz.cell? ⟨w2.heap.size,3,none⟩ = some (.int .i64 0):=⟨(duo hf4).1.1,(duo hkf).1.1,(duo hkf).1.2,by rw [cell_of_row _ _ _ _ _ _ hr4]; exact HPL.out,(quad hkh).1.1,(quad hkh).1.2.1,(quad hkh).1.2.2.1,(quad hkh).1.2.2.2⟩
 have HSB:=vH (show ∀ u,Below wz.heap.size wz u → u.cell? ⟨w1.heap.size + 1,0,none⟩ = some (.int .i64 0) ∧ u.cell? ⟨w2.heap.size + 1,0,none⟩ = some (.int .i64 3) ∧ u.cell? ⟨w2.heap.size + 1,1,none⟩ = some (.int .i64 a) ∧ u.cell? ⟨w.heap.size + 1,k,none⟩ = some (.int .i64 a) ∧ u.cell? ⟨w2.heap.size,0,none⟩ = some (.slice q1 0 e1) ∧ u.cell? ⟨w2.heap.size,1,none⟩ = some (.slice q2 0 e2) ∧ u.cell? ⟨w2.heap.size,2,none⟩ = some (.slice q3 0 e3) ∧ u.cell? ⟨w2.heap.size,3,none⟩ = some (.int .i64 0) from fun u hb => ⟨zK hb hcs.1,zK hb hcs.2.1,zK hb hcs.2.2.1,zK hb hcs.2.2.2.1,zK hb hcs.2.2.2.2.1,zK hb hcs.2.2.2.2.2.1,zK hb hcs.2.2.2.2.2.2.1,zK hb hcs.2.2.2.2.2.2.2⟩)
 have HSH:=vH (fun u => (show Calls Try.prog 12 #[.agg #[.slice q1 0 e1,.slice q2 0 e2,.slice q3 0 e3,.int .i64 0],.agg #[.slice none 0 0,.slice none 0 0,.slice none 0 0,.int .i64 0]] u fun e w' => e = .returned (.bool true) ∧ Below u.heap.size u w' from zDA u HdsH.zero q1 q2 q3 none none none e1 e2 e3 0 0 0 (.inl rfl) (.inl rfl) (.inl rfl) (.inl rfl) (.inl rfl) (.inl rfl) ⟨by decide,by decide,by decide,fun r hr => (by cases hr),fun r hr => (by cases hr)⟩))
 have heq:=fun u => zJX 3 a u
 have HC:=vH (zAc (Below.refl wz.heap.size wz))
 clear hbz hkh hkf hr4 hf4 hcs
 go_wp2_with fail
 go_region_held3 (fun w' => w'.cell? ⟨w1.heap.size + 1,0,none⟩ = some (.int .i64 0) ∧ w'.cell? ⟨w2.heap.size + 1,0,none⟩ = some (.int .i64 3) ∧ w'.cell? ⟨w2.heap.size + 1,1,none⟩ = some (.int .i64 a) ∧ w'.cell? ⟨w.heap.size + 1,k,none⟩ = some (.int .i64 a) ∧ w'.cell? ⟨w2.heap.size,0,none⟩ = some (.slice q1 0 e1) ∧ w'.cell? ⟨w2.heap.size,1,none⟩ = some (.slice q2 0 e2) ∧ w'.cell? ⟨w2.heap.size,2,none⟩ = some (.slice q3 0 e3) ∧ w'.cell? ⟨w2.heap.size,3,none⟩ = some (.int .i64 0)) (with_reducible exact HSB.out _ HC.out)
  (first
  | (go_at_call 12; (with_reducible refine Calls.mono (HSH.out _) ?_); rintro e u1 ⟨rfl,hb⟩; have HCN:=vH (zE HC.out hb HC.out.size); have HC:=HCN; clear hb)
  | (go_at_call 13; (with_reducible refine Calls.mono (zAt _) ?_); rintro e u2 ⟨rfl,hb⟩; have HCN:=vH (zE HC.out hb HC.out.size); have HC:=HCN; clear hb))
 all_goals
  go_wp2_with fail
  go_ret
  exact ⟨rfl,zE HB4.out HC.out HB4.out.size⟩
theorem headsOdd_walk (a:Int)(ha : -9223372036854775808 ≤ a ∧ a ≤ 9223372036854775807)(w:World) :
 Calls Try.prog 7 #[.int .i64 a] w fun e w' => e = .returned (.bool true) ∧ Below w.heap.size w w':=by
 by_cases h : 0 ≤ a ∧ a < 13
 ·obtain ⟨k,rfl⟩:∃ k:Nat,a = (k:Int):=⟨a.toNat,by omega⟩
  exact zDU w k (by omega)
 ·by_cases h0:a < 0
  ·have hd1:decide (a < 0) = true:=decide_eq_true h0
   go_in
   go_wp2_with fail
   go_ret
   exact ⟨rfl,zC (zC (Below.refl _ _))⟩
  ·have hd1:decide (a < 0) = false:=decide_eq_false h0
   have hd2:decide ((13:Int) ≤ a) = true:=decide_eq_true (by omega)
   go_in
   go_wp2_with fail
   go_ret
   exact ⟨rfl,zC (zC (Below.refl _ _))⟩
end Go.Proofs.Ytjleggpbghmobaa
