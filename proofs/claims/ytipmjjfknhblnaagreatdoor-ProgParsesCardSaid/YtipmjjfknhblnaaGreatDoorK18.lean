/-
  The contracts of the project's reader of statements: one tha
-/
import Derived.Test.YtipmjjfknhblnaaGreatDoorK17
import Derived.Test.YtipmjjfknhblnaaGreatDoorK02
import Derived.Deep.RegionHeld3
import Derived.Shelf.Abstract
set_option maxRecDepth 8000
set_option maxHeartbeats 8000000
namespace Go.Proofs.YtipmjjfknhblnaaGreatDoor
open Go.RowKit
open Px (RT tokAt)
open Pe
open Ps (Sm PX)
theorem Rq.maps {w:World}{R M1 M2:Nat}{S:Value}{ts:List RT}{s:St}(h:Rq w R M1 M2 S ts s):w.cell? ⟨R,5,none⟩ = some (.map (some M1)) ∧ w.cell? ⟨R,6,none⟩ = some (.map (some M2)):=by
 have hr:=h.cu.row
 constructor <;> (rw [cell_of_row _ _ _ _ _ _ hr]; simp)
theorem Fr.tail {σ:Type}{w wr:World}{R:Nat}{K : σ → World → Prop}{s : σ}{a:Nat × Obj}{L:List (Nat × Obj)}{T:List (Nat × World)}(h:Fr w R K s (a :: L) T wr):Fr w R K s L T wr:=
 ⟨h.rd,h.gr,h.lt,h.held,fun p hp => h.keep p (List.Mem.tail _ hp),(List.pairwise_cons.1 h.nd).2,h.ag,fun p hp => h.sep p (List.Mem.tail _ hp)⟩
theorem zGg {B:Nat}{w w':World}(h:Ag B w w')(hB:B ≤ w.heap.size):B ≤ w'.heap.size:=Nat.le_trans hB h.size
@[reducible] def PeekOk (R M1 M2:Nat) (S:Value) (ts:List RT) (s:St) (t:RT):Prop:=∀ w1:World,Rq w1 R M1 M2 S ts s →
 Calls Tryz.prog 36 #[.pointer (some ⟨R,0,none⟩)] w1 fun e w' => e = .returned (.agg #[.int .i64 t.kind,.string (cbs t.text),.int .i64 t.num,.int .i64 t.at_]) ∧ Below w1.heap.size w1 w'
theorem zAA (R M1 M2:Nat)(S:Value)(ts:List RT)(s:St){t:RT}(ht:peek ts s.c = t):PeekOk R M1 M2 S ts s t:=by
 intro w1 h
 have:=zU w1 R 137 S _ ts s.c h.cu
 rw [ht] at this
 exact this
def FromOk (R M1 M2:Nat)(S:Value)(ts:List RT)(kf:Nat)(y:Sm × St)(e0:Ex)(s:St):Prop:=∀ (w:World),Rq w R M1 M2 S ts s → ∀ (zk zn:Int)(zs zo:List UInt8)(zd:Int)(zp:Option Addr)(zl zc:Nat)(za zb zr ze zf:Int)(B B0:Nat),R < B0 → B ≤ B0 → B ≤ w.heap.size → Is w B0 e0 (exCells zk zn zs zo zd (.slice zp zl zc) za zb zr ze zf) → Calls Tryz.prog kf #[.pointer (some ⟨R,0,none⟩),.agg #[.int .i64 zk,.int .i64 zn,.string (cbs zs),.string (cbs zo),.int .i64 zd,.slice zp zl zc,.int .i64 za,.int .i64 zb,.int .i64 zr,.int .i64 ze,.int .i64 zf]] w (StPostB B w R M1 M2 S ts y)
theorem zNI (w:World)(R M1 M2:Nat)(S:Value)(ts:List RT)(s:St)(h:Rq w R M1 M2 S ts s)(P:PX)(hP:POk ts P)(hK:(peek ts (Ps.rd P s).2.c).kind = 4){kf:Nat}(hen0:∀ (args:Array Value)(w:World),(callFunc kf args).run Tryz.prog w = .ok (.enter kf args) w)(hL:∀ w1:World,w1.heap[M2]? = some (.map (smapSign R) 2) → (Instr.lookup 135 (.map (some M2)) (.string (cbs (peek ts (Ps.rd P s).2.c).text)) true).run Tryz.prog w1 = .ok (.tuple #[.func (.func kf) #[.pointer (some ⟨R,0,none⟩)] #[],.bool true]) w1){y:Sm × St}(hC:FromOk R M1 M2 S ts kf y (Ps.rd P s).1 (Ps.rd P s).2) :
 Calls Tryz.prog 130 #[.pointer (some ⟨R,0,none⟩)] w (StPost w R M1 M2 S ts y):=by
 obtain ⟨x,s1,hX⟩:∃ x s1,Ps.rd P s = (x,s1):=⟨_,_,rfl⟩
 rw [hX] at hL hC
 rw [hX] at hK
 have HX:=vH hX
 dsimp only at hL hC ⊢
 obtain ⟨t,ht⟩:∃ t,peek ts s1.c = t:=⟨_,rfl⟩
 have HPK:=vH (zAA R M1 M2 S ts s1 ht)
 rw [ht] at hL
 have HL:=vH hL
 have HC:=vH hC
 have HP:=vH hP
 dsimp only at hK
 rw [ht] at hK
 have hkb:(t.kind != 4) = false:=by simp [hK]
 clear hK
 have hfd:∀ w1:World,(Instr.field 52 (.agg #[.int .i64 t.kind,.string (cbs t.text),.int .i64 t.num,.int .i64 t.at_]) 1).run Tryz.prog w1 = .ok (.string (cbs t.text)) w1:=fun _ => by kernel_rfl
 have hfd0:∀ w1:World,(Instr.field 52 (.agg #[.int .i64 t.kind,.string (cbs t.text),.int .i64 t.num,.int .i64 t.at_]) 0).run Tryz.prog w1 = .ok (.int .i64 t.kind) w1:=fun _ => by kernel_rfl
 clear hX hL hC ht hP
 have hlt:=h.lt
 have HH:=vH h
 have F:=vH ((Fr.of h).alloc (.cells vS 90))
 clear h
 go_in
 go_wp2_with fail
 have hex:=zT _ R M1 M2 S ts _ F.out.rq P HP.out
 have hX:Ps.rd P s = (x,s1):=HX.out
 rw [hX] at hex
 clear hX
 have hRB:=F.out.rq.lt
 have hZ0:=zA (F.out.keep _ vA).1
 refine (hex).mono ?_
 rintro e u1 ⟨qk,qn,qs,qo,qd,qp,ql,qc,qa,qb,qr,qe,qf,rfl,hi,hr,hg⟩
 have Hq:=vH hi
 have hqz:=hg.size
 replace F:=vH (F.out.call hr hg)
 clear hi hr hg hex
 go_wp2_with fail
 replace F:=vH (F.out.alloc (.cells #[.int .i64 qk,.int .i64 qn,.string (cbs qs),.string (cbs qo),.int .i64 qd,.slice qp ql qc,.int .i64 qa,.int .i64 qb,.int .i64 qr,.int .i64 qe,.int .i64 qf] 111))
 have hneZ:=Nat.ne_of_gt ((List.pairwise_cons.1 F.out.nd).1 _ vA)
 have hnZe:=Ne.symm hneZ
 dsimp only at hneZ hnZe
 replace F:=vH (F.out.go (Below.refl _ _).drew)
 have o6:=F.out.rq.maps.2
 go_region_held3 (fun w' => w'.cell? ⟨R,6,none⟩ = some (.map (some M2))) (first | exact o6 | exact oo) (first
  | (go_at_call 36; (with_reducible refine Calls.mono (HPK.out _ F.out.rq) ?_); rintro e wp ⟨rfl,hb⟩; have F4:=vH (F.out.go hb); clear hb; have oo:=F4.out.rq.maps.2; have hlk:=HL.out _ F4.out.rq.m2))
 clear F oo o6
 have F:=F4
 clear F4
 go_wp2_with fail
 refine (HPK.out _ F.out.rq).mono ?_
 rintro e u2 ⟨rfl,hb⟩
 replace F:=vH (F.out.go hb)
 clear hb
 have hk:=(F.out.keep _ vA).1
 obtain ⟨⟨x0,x1,x2,x3,x4,x5,x6,x7,x8,x9,xX⟩,y0,y1,y2,y3,y4,y5,y6,y7,y8,y9,yX⟩:=hen hk
 have hlx:=zA hk
 clear hk
 go_wp2_with fail
 have hie:=Hq.out.ag (F.out.ag _ vA).1
 have hB0:=(F.out.ag _ vA).2
 refine (HC.out _ F.out.rq qk qn qs qo qd qp ql qc qa qb qr qe qf _ _ hRB (Nat.le_refl _) (zGg (F.out.ag _ vA).1 hqz) hie).mono ?_
 rintro e w9 ⟨sk,sn,so,sd,sep,sel,sec,sbp,sbl,sbc,slp,sll,slc,sa,sr,rfl,hi,hr,hg⟩
 have Hst:=vH hi
 have F2:=vH (((F.out.tail).step hr hg).tree hB0 (fun p hp => by rw [List.mem_singleton.1 hp]; exact hZ0))
 clear F
 have F:=F2
 clear F2 hi hr hg hie hB0
 have hk:=(F.out.keep _ vA).1
 obtain ⟨⟨d0,d1,d2,d3,d4,d5,d6,d7,d8⟩,g0,g1,g2,g3,g4,g5,g6,g7,g8⟩:=nen hk
 have hld:=zA hk
 clear hk
 go_wp2_with fail
 replace F:=vH (F.out.pw 0 rfl (.int .i64 sk) (.string (cbs sn)) (.string (cbs so)) (.int .i64 sd) (.slice sep sel sec) (.slice sbp sbl sbc) (.slice slp sll slc) (.int .i64 sa) (.int .i64 sr))
 exact bodyPost_ret (v:=.agg #[.int .i64 sk,.string (cbs sn),.string (cbs so),.int .i64 sd,.slice sep sel sec,.slice sbp sbl sbc,.slice slp sll slc,.int .i64 sa,.int .i64 sr]) (by simp [results,Tryz.results130,go_sem,d0,d1,d2,d3,d4,d5,d6,d7,d8]) rfl ⟨sk,sn,so,sd,sep,sel,sec,sbp,sbl,sbc,slp,sll,slc,sa,sr,rfl,SIs.lower (F.out.ag _ vA).2 _ (SIs.ag (F.out.ag _ vA).1 _ Hst.out),F.out.rq,F.out.gr⟩
theorem zNE (w:World)(R M1 M2:Nat)(S:Value)(ts:List RT)(s:St)(h:Rq w R M1 M2 S ts s)(P:PX)(hP:POk ts P)(hK:¬ (peek ts (Ps.rd P s).2.c).kind = 4){kf:Nat}(hL:∀ w1:World,w1.heap[M2]? = some (.map (smapSign R) 2) → (Instr.lookup 135 (.map (some M2)) (.string (cbs (peek ts (Ps.rd P s).2.c).text)) true).run Tryz.prog w1 = .ok (.tuple #[.func (.func kf) #[.pointer (some ⟨R,0,none⟩)] #[],.bool true]) w1) :
 Calls Tryz.prog 130 #[.pointer (some ⟨R,0,none⟩)] w (StPost w R M1 M2 S ts (Ps.refuse ts (Ps.rd P s).2)):=by
 obtain ⟨x,s1,hX⟩:∃ x s1,Ps.rd P s = (x,s1):=⟨_,_,rfl⟩
 rw [hX]
 rw [hX] at hL
 rw [hX] at hK
 have HX:=vH hX
 dsimp only at hL ⊢
 obtain ⟨t,ht⟩:∃ t,peek ts s1.c = t:=⟨_,rfl⟩
 have HPK:=vH (zAA R M1 M2 S ts s1 ht)
 rw [ht] at hL
 have HL:=vH hL
 have HP:=vH hP
 dsimp only at hK
 rw [ht] at hK
 have hkb:(t.kind != 4) = true:=by simpa using hK
 clear hK
 have hfd:∀ w1:World,(Instr.field 52 (.agg #[.int .i64 t.kind,.string (cbs t.text),.int .i64 t.num,.int .i64 t.at_]) 1).run Tryz.prog w1 = .ok (.string (cbs t.text)) w1:=fun _ => by kernel_rfl
 have hfd0:∀ w1:World,(Instr.field 52 (.agg #[.int .i64 t.kind,.string (cbs t.text),.int .i64 t.num,.int .i64 t.at_]) 0).run Tryz.prog w1 = .ok (.int .i64 t.kind) w1:=fun _ => by kernel_rfl
 clear hX hL ht hP
 have hlt:=h.lt
 have HH:=vH h
 have F:=vH ((Fr.of h).alloc (.cells vS 90))
 clear h
 go_in
 go_wp2_with fail
 have hex:=zT _ R M1 M2 S ts _ F.out.rq P HP.out
 have hX:Ps.rd P s = (x,s1):=HX.out
 rw [hX] at hex
 clear hX
 have hRB:=F.out.rq.lt
 have hZ0:=zA (F.out.keep _ vA).1
 refine (hex).mono ?_
 rintro e u1 ⟨qk,qn,qs,qo,qd,qp,ql,qc,qa,qb,qr,qe,qf,rfl,hi,hr,hg⟩
 have Hq:=vH hi
 have hqz:=hg.size
 replace F:=vH (F.out.call hr hg)
 clear hi hr hg hex
 go_wp2_with fail
 replace F:=vH (F.out.alloc (.cells #[.int .i64 qk,.int .i64 qn,.string (cbs qs),.string (cbs qo),.int .i64 qd,.slice qp ql qc,.int .i64 qa,.int .i64 qb,.int .i64 qr,.int .i64 qe,.int .i64 qf] 111))
 have hneZ:=Nat.ne_of_gt ((List.pairwise_cons.1 F.out.nd).1 _ vA)
 have hnZe:=Ne.symm hneZ
 dsimp only at hneZ hnZe
 replace F:=vH (F.out.go (Below.refl _ _).drew)
 have o6:=F.out.rq.maps.2
 go_region_held3 (fun w' => w'.cell? ⟨R,6,none⟩ = some (.map (some M2))) (first | exact o6 | exact oo) (first
  | (go_at_call 36; (with_reducible refine Calls.mono (HPK.out _ F.out.rq) ?_); rintro e wp ⟨rfl,hb⟩; have F4:=vH (F.out.go hb); clear hb; have oo:=F4.out.rq.maps.2; have hlk:=HL.out _ F4.out.rq.m2))
 clear F oo o6
 have F:=F4
 clear F4
 go_wp2_with fail
 refine (HPK.out _ F.out.rq).mono ?_
 rintro e u2 ⟨rfl,hb⟩
 replace F:=vH (F.out.go hb)
 clear hb
 go_wp2_with fail
 refine (zAS _ R M1 M2 S ts _ F.out.rq).mono ?_
 rintro e u3 ⟨sk,sn,so,sd,sep,sel,sec,sbp,sbl,sbc,slp,sll,slc,sa,sr,rfl,hi,hr,hg⟩
 have Hst:=vH hi
 replace F:=vH (F.out.call hr hg)
 clear hi hr hg
 have hk:=(F.out.keep _ vB).1
 obtain ⟨⟨d0,d1,d2,d3,d4,d5,d6,d7,d8⟩,g0,g1,g2,g3,g4,g5,g6,g7,g8⟩:=nen hk
 have hld:=zA hk
 clear hk
 go_wp2_with fail
 replace F:=vH (F.out.pw 1 rfl (.int .i64 sk) (.string (cbs sn)) (.string (cbs so)) (.int .i64 sd) (.slice sep sel sec) (.slice sbp sbl sbc) (.slice slp sll slc) (.int .i64 sa) (.int .i64 sr))
 exact bodyPost_ret (v:=.agg #[.int .i64 sk,.string (cbs sn),.string (cbs so),.int .i64 sd,.slice sep sel sec,.slice sbp sbl sbc,.slice slp sll slc,.int .i64 sa,.int .i64 sr]) (by simp [results,Tryz.results130,go_sem,d0,d1,d2,d3,d4,d5,d6,d7,d8]) rfl ⟨sk,sn,so,sd,sep,sel,sec,sbp,sbl,sbc,slp,sll,slc,sa,sr,rfl,SIs.lower (F.out.ag _ vA).2 _ (SIs.ag (F.out.ag _ vA).1 _ Hst.out),F.out.rq,F.out.gr⟩
theorem zI7 (w:World)(R M1 M2:Nat)(S:Value)(ts:List RT)(s:St)(h:Rq w R M1 M2 S ts s)(P:PX)(hP:POk ts P)(hT:¬ (peek ts (Ps.rd P s).2.c).text = [59])(hT2:¬ (peek ts (Ps.rd P s).2.c).text = [61]) :
 Calls Tryz.prog 130 #[.pointer (some ⟨R,0,none⟩)] w (StPost w R M1 M2 S ts (Ps.refuse ts (Ps.rd P s).2)):=by
 obtain ⟨x,s1,hX⟩:∃ x s1,Ps.rd P s = (x,s1):=⟨_,_,rfl⟩
 rw [hX]
 rw [hX] at hT
 rw [hX] at hT2
 have HX:=vH hX
 dsimp only at hT ⊢
 obtain ⟨t,ht⟩:∃ t,peek ts s1.c = t:=⟨_,rfl⟩
 have HPK:=vH (zAA R M1 M2 S ts s1 ht)
 rw [ht] at hT
 have HT:=vH hT
 have HP:=vH hP
 dsimp only at hT2
 rw [ht] at hT2
 have HT2:=vH hT2
 clear hT2
 have hfd:∀ w1:World,(Instr.field 52 (.agg #[.int .i64 t.kind,.string (cbs t.text),.int .i64 t.num,.int .i64 t.at_]) 1).run Tryz.prog w1 = .ok (.string (cbs t.text)) w1:=fun _ => by kernel_rfl
 have hfd0:∀ w1:World,(Instr.field 52 (.agg #[.int .i64 t.kind,.string (cbs t.text),.int .i64 t.num,.int .i64 t.at_]) 0).run Tryz.prog w1 = .ok (.int .i64 t.kind) w1:=fun _ => by kernel_rfl
 clear hX hT ht hP
 have hlt:=h.lt
 have HH:=vH h
 have F:=vH ((Fr.of h).alloc (.cells vS 90))
 clear h
 go_in
 go_wp2_with fail
 have hex:=zT _ R M1 M2 S ts _ F.out.rq P HP.out
 have hX:Ps.rd P s = (x,s1):=HX.out
 rw [hX] at hex
 clear hX
 have hRB:=F.out.rq.lt
 have hZ0:=zA (F.out.keep _ vA).1
 refine (hex).mono ?_
 rintro e u1 ⟨qk,qn,qs,qo,qd,qp,ql,qc,qa,qb,qr,qe,qf,rfl,hi,hr,hg⟩
 have Hq:=vH hi
 have hqz:=hg.size
 replace F:=vH (F.out.call hr hg)
 clear hi hr hg hex
 go_wp2_with fail
 replace F:=vH (F.out.alloc (.cells #[.int .i64 qk,.int .i64 qn,.string (cbs qs),.string (cbs qo),.int .i64 qd,.slice qp ql qc,.int .i64 qa,.int .i64 qb,.int .i64 qr,.int .i64 qe,.int .i64 qf] 111))
 have hneZ:=Nat.ne_of_gt ((List.pairwise_cons.1 F.out.nd).1 _ vA)
 have hnZe:=Ne.symm hneZ
 dsimp only at hneZ hnZe
 replace F:=vH (F.out.go (Below.refl _ _).drew)
 have o6:=F.out.rq.maps.2
 go_region_held3 (fun w' => w'.cell? ⟨R,6,none⟩ = some (.map (some M2))) (first | exact o6 | exact oo) (first
  | (go_at_call 36; (with_reducible refine Calls.mono (HPK.out _ F.out.rq) ?_); rintro e wp ⟨rfl,hb⟩; have F4:=vH (F.out.go hb); clear hb; have oo:=F4.out.rq.maps.2; have hlk:=zGE HT.out HT2.out F4.out.rq.m2))
 clear F oo o6
 have F:=F4
 clear F4
 go_wp2_with fail
 refine (zAS _ R M1 M2 S ts _ F.out.rq).mono ?_
 rintro e u2 ⟨sk,sn,so,sd,sep,sel,sec,sbp,sbl,sbc,slp,sll,slc,sa,sr,rfl,hi,hr,hg⟩
 have Hst:=vH hi
 replace F:=vH (F.out.call hr hg)
 clear hi hr hg
 have hk:=(F.out.keep _ vB).1
 obtain ⟨⟨d0,d1,d2,d3,d4,d5,d6,d7,d8⟩,g0,g1,g2,g3,g4,g5,g6,g7,g8⟩:=nen hk
 have hld:=zA hk
 clear hk
 go_wp2_with fail
 replace F:=vH (F.out.pw 1 rfl (.int .i64 sk) (.string (cbs sn)) (.string (cbs so)) (.int .i64 sd) (.slice sep sel sec) (.slice sbp sbl sbc) (.slice slp sll slc) (.int .i64 sa) (.int .i64 sr))
 exact bodyPost_ret (v:=.agg #[.int .i64 sk,.string (cbs sn),.string (cbs so),.int .i64 sd,.slice sep sel sec,.slice sbp sbl sbc,.slice slp sll slc,.int .i64 sa,.int .i64 sr]) (by simp [results,Tryz.results130,go_sem,d0,d1,d2,d3,d4,d5,d6,d7,d8]) rfl ⟨sk,sn,so,sd,sep,sel,sec,sbp,sbl,sbc,slp,sll,slc,sa,sr,rfl,SIs.lower (F.out.ag _ vA).2 _ (SIs.ag (F.out.ag _ vA).1 _ Hst.out),F.out.rq,F.out.gr⟩
theorem zKy (w:World)(R M1 M2:Nat)(S:Value)(ts:List RT)(s:St)(h:Rq w R M1 M2 S ts s)(P:PX)(hP:POk ts P) :
 Calls Tryz.prog 130 #[.pointer (some ⟨R,0,none⟩)] w (StPost w R M1 M2 S ts (Ps.fromExpr ts P s)):=by
 by_cases h1:(peek ts (Ps.rd P s).2.c).text = [59]
 ·by_cases hK:(peek ts (Ps.rd P s).2.c).kind = 4
  ·have:=zNI w R M1 M2 S ts s h P hP hK (enters_of Tryz.func128 (by kernel_rfl) rfl) (fun _ hb => zEp h1 hb) (fun w hh zk zn zs zo zd zp zl zc za zb zr ze zf B B0 a b c d => zIg w R M1 M2 S ts _ hh _ zk zn zs zo zd zp zl zc za zb zr ze zf B B0 a b c d)
   rw [show Ps.fromExpr ts P s = Ps.call ts (Ps.rd P s).1 (Ps.rd P s).2 from by simp only [Ps.fromExpr,if_pos hK,if_pos h1]]
   exact this
  ·have:=zNE w R M1 M2 S ts s h P hP hK (fun _ hb => zEp h1 hb)
   rw [show Ps.fromExpr ts P s = Ps.refuse ts (Ps.rd P s).2 from by simp only [Ps.fromExpr,if_neg hK]]
   exact this
 ·by_cases h2:(peek ts (Ps.rd P s).2.c).text = [61]
  ·by_cases hK:(peek ts (Ps.rd P s).2.c).kind = 4
   ·have:=zNI w R M1 M2 S ts s h P hP hK (enters_of Tryz.func129 (by kernel_rfl) rfl) (fun _ hb => zEo h2 hb) (fun w hh zk zn zs zo zd zp zl zc za zb zr ze zf B B0 a b c d => zFh w R M1 M2 S ts _ hh _ zk zn zs zo zd zp zl zc za zb zr ze zf B B0 a b c d P hP)
    rw [show Ps.fromExpr ts P s = Ps.assignment ts P (Ps.rd P s).1 (Ps.rd P s).2 from by simp only [Ps.fromExpr,if_pos hK,if_neg h1,if_pos h2]]
    exact this
   ·have:=zNE w R M1 M2 S ts s h P hP hK (fun _ hb => zEo h2 hb)
    rw [show Ps.fromExpr ts P s = Ps.refuse ts (Ps.rd P s).2 from by simp only [Ps.fromExpr,if_neg hK]]
    exact this
  ·have:=zI7 w R M1 M2 S ts s h P hP h1 h2
   rw [show Ps.fromExpr ts P s = Ps.refuse ts (Ps.rd P s).2 from by
        by_cases hK:(peek ts (Ps.rd P s).2.c).kind = 4
        ·simp only [Ps.fromExpr,if_pos hK,if_neg h1,if_neg h2]
        ·simp only [Ps.fromExpr,if_neg hK]]
   exact this
def WordOk (R M1 M2:Nat)(S:Value)(ts:List RT)(s:St)(kf:Nat)(y:Sm × St):Prop:=∀ w1:World,Rq w1 R M1 M2 S ts s → Calls Tryz.prog kf #[.pointer (some ⟨R,0,none⟩)] w1 (StPost w1 R M1 M2 S ts y)
theorem zND (w:World)(R M1 M2:Nat)(S:Value)(ts:List RT)(s:St)(h:Rq w R M1 M2 S ts s)(y:Sm × St){fv:Value}{fb:Bool}(hL:∀ w1:World,w1.heap[M1]? = some (.map smapWord 6) → (Instr.lookup 134 (.map (some M1)) (.string (cbs (peek ts s.c).text)) true).run Tryz.prog w1 = .ok (.tuple #[fv,.bool fb]) w1)
 (hC:(∃ kf,fv = .func (.func kf) #[] #[] ∧ fb = true ∧ (peek ts s.c).kind = 3 ∧ (∀ (args:Array Value) (w:World),(callFunc kf args).run Tryz.prog w = .ok (.enter kf args) w) ∧ WordOk R M1 M2 S ts s kf y) ∨ (¬ (peek ts s.c).kind = 3 ∨ fb = false) ∧ WordOk R M1 M2 S ts s 130 y) :
 Calls Tryz.prog 115 #[.pointer (some ⟨R,0,none⟩)] w (StPost w R M1 M2 S ts (y.1.put (peek ts s.c).at_,y.2)):=by
 obtain ⟨t,ht⟩:∃ t,peek ts s.c = t:=⟨_,rfl⟩
 have HPK:=vH (zAA R M1 M2 S ts s ht)
 rw [ht] at hL hC ⊢
 have HL:=vH hL
 have hG:∃ kf,(∀ (args:Array Value) (w:World),(callFunc kf args).run Tryz.prog w = .ok (.enter kf args) w) ∧ WordOk R M1 M2 S ts s kf y ∧ ((t.kind != 3) = false ∧ fv = .func (.func kf) #[] #[] ∧ fb = true ∨ (t.kind != 3) = true ∧ kf = 130 ∧ (fb = true ∨ fb = false) ∨ (t.kind != 3) = false ∧ fb = false ∧ kf = 130):=by
  rcases hC with ⟨kf,h1,h2,h3,h4,h5⟩ | ⟨h1,h5⟩
  ·exact ⟨kf,h4,h5,.inl ⟨by rw [h3]; rfl,h1,h2⟩⟩
  ·refine ⟨_,enters_of Tryz.func130 (by kernel_rfl) rfl,h5,.inr ?_⟩
   by_cases hk:t.kind = 3
   ·exact .inr ⟨by rw [hk]; rfl,h1.resolve_left (fun hh => hh hk),rfl⟩
   ·exact .inl ⟨by simpa using hk,rfl,by cases fb <;> simp⟩
 obtain ⟨kf,hen0,hF,hG⟩:=hG
 have HF:=vH hF
 unfold WordOk at HF
 clear ht hL hF hC
 rcases hG with ⟨hkb,rfl,rfl⟩ | ⟨hkb,rfl,rfl | rfl⟩ | ⟨hkb,rfl,rfl⟩
 all_goals
  have hlt:=h.lt
  have HH:=vH h
  have F:=vH ((Fr.of h).alloc (.cells vS 90))
  clear h
  go_in
  go_wp2_with fail
  refine (HPK.out _ F.out.rq).mono ?_
  rintro e u1 ⟨rfl,hb⟩
  replace F:=vH (F.out.go hb)
  clear hb
  go_wp2_with fail
  replace F:=vH (F.out.alloc (.cells (vT t) 52))
  have hntokZ:=Nat.ne_of_gt ((List.pairwise_cons.1 F.out.nd).1 _ vA)
  have hnZtok:=Ne.symm hntokZ
  dsimp only at hntokZ hnZtok
  have hnt:R ≠ u1.heap.size:=Nat.ne_of_lt (Nat.lt_of_lt_of_le hlt (F.out.keep _ vA).2)
  have hnt2:=Ne.symm hnt
  replace F:=vH (F.out.go (Below.refl _ _).drew)
  have o5:=F.out.rq.maps.1
  have hlk:=HL.out _ F.out.rq.m1
  have hk:=(F.out.keep _ vA).1
  obtain ⟨⟨t0,t1,t2,t3⟩,-⟩:=quad hk
  have hlt2:=zA hk
  clear hk
  go_region
  clear o5 hlk t0 t1 t2 t3 hlt2
  have hk:=(F.out.keep _ vA).1
  obtain ⟨⟨t0,t1,t2,t3⟩,-⟩:=quad hk
  have hlt2:=zA hk
  clear hk
  go_wp2_with fail
  clear t0 t1 t2 t3 hlt2
  refine (HF.out _ F.out.rq).mono ?_
  rintro e u2 ⟨sk,sn,so,sd,sep,sel,sec,sbp,sbl,sbc,slp,sll,slc,sa,sr,rfl,hi,hr,hg⟩
  have Hst:=vH hi
  replace F:=vH (F.out.call hr hg)
  clear hi hr hg
  have hk:=(F.out.keep _ vA).1
  obtain ⟨⟨t0,t1,t2,t3⟩,-⟩:=quad hk
  have hlt2:=zA hk
  clear hk
  have hk:=(F.out.keep _ vB).1
  obtain ⟨⟨d0,d1,d2,d3,d4,d5,d6,d7,d8⟩,g0,g1,g2,g3,g4,g5,g6,g7,g8⟩:=nen hk
  have hld:=zA hk
  clear hk
  go_wp2_with fail
  replace F:=vH (F.out.pw 1 rfl (.int .i64 sk) (.string (cbs sn)) (.string (cbs so)) (.int .i64 sd) (.slice sep sel sec) (.slice sbp sbl sbc) (.slice slp sll slc) (.int .i64 t.at_) (.int .i64 sr))
  replace F:=vH (F.out.alloc2 (.cells #[.int .i64 sk,.string (cbs sn),.string (cbs so),.int .i64 sd,.slice sep sel sec,.slice sbp sbl sbc,.slice slp sll slc,.int .i64 t.at_,.int .i64 sr] 90) (b:=u2.heap.size) (by simp only [zI]))
  exact bodyPost_ret (v:=.agg #[.int .i64 sk,.string (cbs sn),.string (cbs so),.int .i64 sd,.slice sep sel sec,.slice sbp sbl sbc,.slice slp sll slc,.int .i64 t.at_,.int .i64 sr]) (by simp [results,Tryz.results115,go_sem,hld,d0,d1,d2,d3,d4,d5,d6,d7,d8]) rfl ⟨sk,sn,so,sd,sep,sel,sec,sbp,sbl,sbc,slp,sll,slc,t.at_,sr,rfl,SIs.put (SIs.lower (F.out.ag _ vA).2 _ (SIs.ag (F.out.ag _ vA).1 _ Hst.out)) t.at_,F.out.rq,F.out.gr⟩
end Go.Proofs.YtipmjjfknhblnaaGreatDoor
