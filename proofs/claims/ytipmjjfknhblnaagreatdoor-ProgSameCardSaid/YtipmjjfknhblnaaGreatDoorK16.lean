/-
  The contracts of the project's reader of statements: what ea
-/
import Derived.Test.YtipmjjfknhblnaaGreatDoorK15
import Derived.Test.YtipmjjfknhblnaaGreatDoorK02
set_option maxRecDepth 8000
set_option maxHeartbeats 8000000
namespace Go.Proofs.YtipmjjfknhblnaaGreatDoor
open Go.RowKit
open Px (RT tokAt)
open Pe
open Ps (Sm PX)
theorem zEe (w:World)(R M1 M2:Nat)(S:Value)(ts:List RT)(s:St)(h:Rq w R M1 M2 S ts s) :
 Calls Tryz.prog 122 #[.pointer (some ⟨R,0,none⟩)] w (StPost w R M1 M2 S ts (Ps.variable_ ts s)):=by
 obtain ⟨nm,on,d,s2,hD⟩:∃ nm on d s2,Ps.decl ts s = (nm,on,d,s2):=⟨_,_,_,_,rfl⟩
 have HD:=vH hD
 have hx:Ps.variable_ ts s = (.mk 1 nm on d [] [] [] 0 0,Ps.sgn ts s2 [59]):=by simp only [Ps.variable_,hD]
 rw [hx]
 clear hD hx
 have hlt:=h.lt
 have HH:=vH h
 have F:=vH ((Fr.of h).alloc (.cells vS 90))
 clear h
 go_in
 go_wp2_with fail
 refine (zGs _ R M1 M2 S ts s F.out.rq 1).mono ?_
 rw [HD.out]
 rintro e u9 ⟨rfl,hr,hg⟩
 replace F:=vH (F.out.step hr hg)
 clear hr hg
 go_wp2_with fail
 replace F:=vH (F.out.alloc (.cells #[.int .i64 1,.string (cbs nm),.string (cbs on),.int .i64 (d:Nat),.slice none 0 0,.slice none 0 0,.slice none 0 0,.int .i64 0,.int .i64 0] 90))
 have hnsZ:=Nat.ne_of_gt ((List.pairwise_cons.1 F.out.nd).1 _ vA)
 have hnZs:=Ne.symm hnsZ
 dsimp only at hnsZ hnZs
 refine (zJ _ R 137 S _ ts _ F.out.rq.cu ⟨#[59]⟩).mono ?_
 rintro e u1 ⟨rfl,hc,hg⟩
 replace F:=vH (F.out.cur hc hg)
 clear hc hg
 have hk:=(F.out.keep _ vA).1
 obtain ⟨⟨a0,a1,a2,a3,a4,a5,a6,a7,a8⟩,b0,b1,b2,b3,b4,b5,b6,b7,b8⟩:=nen hk
 have hla:=zA hk
 clear hk
 have hk:=(F.out.keep _ vB).1
 obtain ⟨⟨d0,d1,d2,d3,d4,d5,d6,d7,d8⟩,g0,g1,g2,g3,g4,g5,g6,g7,g8⟩:=nen hk
 have hld:=zA hk
 clear hk
 go_wp2_with fail
 replace F:=vH (F.out.pw 1 rfl (.int .i64 1) (.string (cbs nm)) (.string (cbs on)) (.int .i64 (d:Nat)) (.slice none 0 0) (.slice none 0 0) (.slice none 0 0) (.int .i64 0) (.int .i64 0))
 exact bodyPost_ret (v:=.agg #[.int .i64 1,.string (cbs nm),.string (cbs on),.int .i64 (d:Nat),.slice none 0 0,.slice none 0 0,.slice none 0 0,.int .i64 0,.int .i64 0]) (by simp [results,Tryz.results122,go_sem,d0,d1,d2,d3,d4,d5,d6,d7,d8]) rfl ⟨1,nm,on,d,none,0,0,none,0,0,none,0,0,0,0,rfl,SIs.mk KidsAt.nil SsAt.nil SsAt.nil 1 nm on d 0 0,F.out.rq,F.out.gr⟩
theorem zDn (w:World)(R M1 M2:Nat)(S:Value)(ts:List RT)(s:St)(h:Rq w R M1 M2 S ts s)(P:PX)(hP:POk ts P) :
 Calls Tryz.prog 123 #[.pointer (some ⟨R,0,none⟩)] w (StPost w R M1 M2 S ts (Ps.definition ts P s)):=by
 obtain ⟨nm,on,d,s2,hD⟩:∃ nm on d s2,Ps.decl ts s = (nm,on,d,s2):=⟨_,_,_,_,rfl⟩
 have HD:=vH hD
 obtain ⟨x,s3,hX⟩:∃ x s3,Ps.rd P (Ps.sgn ts s2 [61]) = (x,s3):=⟨_,_,rfl⟩
 have HX:=vH hX
 have hx:Ps.definition ts P s = (.mk 2 nm on d [x] [] [] 0 0,Ps.sgn ts s3 [59]):=by simp only [Ps.definition,hD,hX]
 rw [hx]
 have HP:=vH hP
 clear hD hx hX hP
 have hlt:=h.lt
 have HH:=vH h
 have F:=vH ((Fr.of h).alloc (.cells vS 90))
 clear h
 go_in
 go_wp2_with fail
 refine (zGs _ R M1 M2 S ts s F.out.rq 2).mono ?_
 rw [HD.out]
 rintro e u9 ⟨rfl,hr,hg⟩
 replace F:=vH (F.out.step hr hg)
 clear hr hg
 go_wp2_with fail
 replace F:=vH (F.out.alloc (.cells #[.int .i64 2,.string (cbs nm),.string (cbs on),.int .i64 (d:Nat),.slice none 0 0,.slice none 0 0,.slice none 0 0,.int .i64 0,.int .i64 0] 90))
 have hnsZ:=Nat.ne_of_gt ((List.pairwise_cons.1 F.out.nd).1 _ vA)
 have hnZs:=Ne.symm hnsZ
 dsimp only at hnsZ hnZs
 refine (zJ _ R 137 S _ ts _ F.out.rq.cu ⟨#[61]⟩).mono ?_
 rintro e u1 ⟨rfl,hc,hg⟩
 replace F:=vH (F.out.cur hc hg)
 clear hc hg
 go_wp2_with fail
 have hX:Ps.rd P ⟨(sign ts s2.c [61]).2,s2.o⟩ = (x,s3):=HX.out
 have hes:=zAe _ R M1 M2 S ts _ F.out.rq P HP.out
 rw [hX] at hes
 clear hX
 refine (hes).mono ?_
 rintro e u2 ⟨ep,ec,rfl,hk,hr,hg⟩
 have Hes:=vH hk
 replace F:=vH (F.out.call hr hg)
 clear hk hr hg hes
 have hk:=(F.out.keep _ vA).1
 obtain ⟨⟨a0,a1,a2,a3,a4,a5,a6,a7,a8⟩,b0,b1,b2,b3,b4,b5,b6,b7,b8⟩:=nen hk
 have hla:=zA hk
 clear hk
 have hk:=(F.out.keep _ vB).1
 obtain ⟨⟨d0,d1,d2,d3,d4,d5,d6,d7,d8⟩,g0,g1,g2,g3,g4,g5,g6,g7,g8⟩:=nen hk
 have hld:=zA hk
 clear hk
 go_wp2_with fail
 clear a0 a1 a2 a3 a4 a5 a6 a7 a8 b0 b1 b2 b3 b4 b5 b6 b7 b8 hla d0 d1 d2 d3 d4 d5 d6 d7 d8 g0 g1 g2 g3 g4 g5 g6 g7 g8 hld
 replace F:=vH (F.out.put1 0 rfl 4 (.slice ep 1 ec) rfl)
 refine (zJ _ R 137 S _ ts _ F.out.rq.cu ⟨#[59]⟩).mono ?_
 rintro e u3 ⟨rfl,hc,hg⟩
 replace F:=vH (F.out.cur hc hg)
 clear hc hg
 have hk:=(F.out.keep _ vA).1
 obtain ⟨⟨a0,a1,a2,a3,a4,a5,a6,a7,a8⟩,b0,b1,b2,b3,b4,b5,b6,b7,b8⟩:=nen hk
 have hla:=zA hk
 clear hk
 have hk:=(F.out.keep _ vB).1
 obtain ⟨⟨d0,d1,d2,d3,d4,d5,d6,d7,d8⟩,g0,g1,g2,g3,g4,g5,g6,g7,g8⟩:=nen hk
 have hld:=zA hk
 clear hk
 go_wp2_with fail
 replace F:=vH (F.out.pw 1 rfl (.int .i64 2) (.string (cbs nm)) (.string (cbs on)) (.int .i64 (d:Nat)) (.slice ep 1 ec) (.slice none 0 0) (.slice none 0 0) (.int .i64 0) (.int .i64 0))
 exact bodyPost_ret (v:=.agg #[.int .i64 2,.string (cbs nm),.string (cbs on),.int .i64 (d:Nat),.slice ep 1 ec,.slice none 0 0,.slice none 0 0,.int .i64 0,.int .i64 0]) (by simp [results,Tryz.results123,go_sem,d0,d1,d2,d3,d4,d5,d6,d7,d8]) rfl ⟨2,nm,on,d,ep,1,ec,none,0,0,none,0,0,0,0,rfl,SIs.mk ((Hes.out.ag (F.out.ag _ vA).1).lower (F.out.ag _ vA).2) SsAt.nil SsAt.nil 2 nm on d 0 0,F.out.rq,F.out.gr⟩
theorem zGU {ts:List RT}{P:PX}{s:St}(h:sees ts (next s.c) 4 [59] = true):Ps.result ts P s = (.mk 7 [] [] 0 [] [] [] 0 0,Ps.sgn ts (Ps.nxt s) [59]):=by rw [Ps.result,if_pos h]
theorem zIk {ts:List RT}{P:PX}{s:St}(h:sees ts (next s.c) 4 [59] = false):Ps.result ts P s = (.mk 7 [] [] 0 [(Ps.rd P (Ps.nxt s)).1] [] [] 0 0,Ps.sgn ts (Ps.rd P (Ps.nxt s)).2 [59]):=by rw [Ps.result,if_neg (by rw [h]; simp)]
theorem zGW (w:World)(R M1 M2:Nat)(S:Value)(ts:List RT)(s:St)(h:Rq w R M1 M2 S ts s)(P:PX)(hP:POk ts P) :
 Calls Tryz.prog 126 #[.pointer (some ⟨R,0,none⟩)] w (StPost w R M1 M2 S ts (Ps.result ts P s)):=by
 have HP:=vH hP
 cases hI:sees ts (next s.c) 4 [59]
 ·obtain ⟨x,s3,hX⟩:∃ x s3,Ps.rd P (Ps.nxt s) = (x,s3):=⟨_,_,rfl⟩
  have HX:=vH hX
  have hx:Ps.result ts P s = (.mk 7 [] [] 0 [x] [] [] 0 0,Ps.sgn ts s3 [59]):=by rw [zIk hI,hX]
  rw [hx]
  clear hx hX
  have HI:=vH hI
  clear hI
  have hlt:=h.lt
  have HH:=vH h
  have F:=vH ((Fr.of h).alloc (.cells vS 90))
  clear h hP
  go_in
  go_wp2_with fail
  refine (zL _ R 137 S _ ts _ F.out.rq.cu ).mono ?_
  rintro e u1 ⟨rfl,hc,hg⟩
  replace F:=vH (F.out.cur hc hg)
  clear hc hg
  go_wp2_with fail
  replace F:=vH (F.out.alloc (.cells #[.int .i64 7,.string ⟨#[]⟩,.string ⟨#[]⟩,.int .i64 0,.slice none 0 0,.slice none 0 0,.slice none 0 0,.int .i64 0,.int .i64 0] 90))
  have hnsZ:=Nat.ne_of_gt ((List.pairwise_cons.1 F.out.nd).1 _ vA)
  have hnZs:=Ne.symm hnsZ
  dsimp only at hnsZ hnZs
  refine (zG _ R 137 S _ ts _ F.out.rq.cu ⟨#[59]⟩).mono ?_
  have hI:sees ts (next s.c) 4 [59] = false:=HI.out
  rw [hI]
  rintro e u7 ⟨rfl,hb⟩
  replace F:=vH (F.out.go hb)
  clear hb hI
  go_wp2_with fail
  have hX:Ps.rd P ⟨next s.c,s.o⟩ = (x,s3):=HX.out
  have hes:=zAe _ R M1 M2 S ts _ F.out.rq P HP.out
  rw [hX] at hes
  clear hX
  refine (hes).mono ?_
  rintro e u2 ⟨ep,ec,rfl,hk,hr,hg⟩
  have Hes:=vH hk
  replace F:=vH (F.out.call hr hg)
  clear hk hr hg hes
  have hk:=(F.out.keep _ vA).1
  obtain ⟨⟨a0,a1,a2,a3,a4,a5,a6,a7,a8⟩,b0,b1,b2,b3,b4,b5,b6,b7,b8⟩:=nen hk
  have hla:=zA hk
  clear hk
  have hk:=(F.out.keep _ vB).1
  obtain ⟨⟨d0,d1,d2,d3,d4,d5,d6,d7,d8⟩,g0,g1,g2,g3,g4,g5,g6,g7,g8⟩:=nen hk
  have hld:=zA hk
  clear hk
  go_wp2_with fail
  clear a0 a1 a2 a3 a4 a5 a6 a7 a8 b0 b1 b2 b3 b4 b5 b6 b7 b8 hla d0 d1 d2 d3 d4 d5 d6 d7 d8 g0 g1 g2 g3 g4 g5 g6 g7 g8 hld
  replace F:=vH (F.out.put1 0 rfl 4 (.slice ep 1 ec) rfl)
  refine (zJ _ R 137 S _ ts _ F.out.rq.cu ⟨#[59]⟩).mono ?_
  rintro e u3 ⟨rfl,hc,hg⟩
  replace F:=vH (F.out.cur hc hg)
  clear hc hg
  have hk:=(F.out.keep _ vA).1
  obtain ⟨⟨a0,a1,a2,a3,a4,a5,a6,a7,a8⟩,b0,b1,b2,b3,b4,b5,b6,b7,b8⟩:=nen hk
  have hla:=zA hk
  clear hk
  have hk:=(F.out.keep _ vB).1
  obtain ⟨⟨d0,d1,d2,d3,d4,d5,d6,d7,d8⟩,g0,g1,g2,g3,g4,g5,g6,g7,g8⟩:=nen hk
  have hld:=zA hk
  clear hk
  go_wp2_with fail
  replace F:=vH (F.out.pw 1 rfl (.int .i64 7) (.string ⟨#[]⟩) (.string ⟨#[]⟩) (.int .i64 0) (.slice ep 1 ec) (.slice none 0 0) (.slice none 0 0) (.int .i64 0) (.int .i64 0))
  exact bodyPost_ret (v:=.agg #[.int .i64 7,.string ⟨#[]⟩,.string ⟨#[]⟩,.int .i64 0,.slice ep 1 ec,.slice none 0 0,.slice none 0 0,.int .i64 0,.int .i64 0]) (by simp [results,Tryz.results126,go_sem,d0,d1,d2,d3,d4,d5,d6,d7,d8]) rfl ⟨7,[],[],0,ep,1,ec,none,0,0,none,0,0,0,0,rfl,SIs.mk ((Hes.out.ag (F.out.ag _ vA).1).lower (F.out.ag _ vA).2) SsAt.nil SsAt.nil 7 [] [] 0 0 0,F.out.rq,F.out.gr⟩
 ·rw [zGU hI]
  have HI:=vH hI
  clear hI
  have hlt:=h.lt
  have HH:=vH h
  have F:=vH ((Fr.of h).alloc (.cells vS 90))
  clear h hP
  go_in
  go_wp2_with fail
  refine (zL _ R 137 S _ ts _ F.out.rq.cu ).mono ?_
  rintro e u11 ⟨rfl,hc,hg⟩
  replace F:=vH (F.out.cur hc hg)
  clear hc hg
  go_wp2_with fail
  replace F:=vH (F.out.alloc (.cells #[.int .i64 7,.string ⟨#[]⟩,.string ⟨#[]⟩,.int .i64 0,.slice none 0 0,.slice none 0 0,.slice none 0 0,.int .i64 0,.int .i64 0] 90))
  have hnsZ:=Nat.ne_of_gt ((List.pairwise_cons.1 F.out.nd).1 _ vA)
  have hnZs:=Ne.symm hnsZ
  dsimp only at hnsZ hnZs
  refine (zG _ R 137 S _ ts _ F.out.rq.cu ⟨#[59]⟩).mono ?_
  have hI:sees ts (next s.c) 4 [59] = true:=HI.out
  rw [hI]
  rintro e u7 ⟨rfl,hb⟩
  replace F:=vH (F.out.go hb)
  clear hb hI
  go_wp2_with fail
  refine (zJ _ R 137 S _ ts _ F.out.rq.cu ⟨#[59]⟩).mono ?_
  rintro e u12 ⟨rfl,hc,hg⟩
  replace F:=vH (F.out.cur hc hg)
  clear hc hg
  have hk:=(F.out.keep _ vA).1
  obtain ⟨⟨a0,a1,a2,a3,a4,a5,a6,a7,a8⟩,b0,b1,b2,b3,b4,b5,b6,b7,b8⟩:=nen hk
  have hla:=zA hk
  clear hk
  have hk:=(F.out.keep _ vB).1
  obtain ⟨⟨d0,d1,d2,d3,d4,d5,d6,d7,d8⟩,g0,g1,g2,g3,g4,g5,g6,g7,g8⟩:=nen hk
  have hld:=zA hk
  clear hk
  go_wp2_with fail
  replace F:=vH (F.out.pw 1 rfl (.int .i64 7) (.string ⟨#[]⟩) (.string ⟨#[]⟩) (.int .i64 0) (.slice none 0 0) (.slice none 0 0) (.slice none 0 0) (.int .i64 0) (.int .i64 0))
  exact bodyPost_ret (v:=.agg #[.int .i64 7,.string ⟨#[]⟩,.string ⟨#[]⟩,.int .i64 0,.slice none 0 0,.slice none 0 0,.slice none 0 0,.int .i64 0,.int .i64 0]) (by simp [results,Tryz.results126,go_sem,d0,d1,d2,d3,d4,d5,d6,d7,d8]) rfl ⟨7,[],[],0,none,0,0,none,0,0,none,0,0,0,0,rfl,SIs.mk KidsAt.nil SsAt.nil SsAt.nil 7 [] [] 0 0 0,F.out.rq,F.out.gr⟩
theorem zHt (w:World)(R M1 M2:Nat)(S:Value)(ts:List RT)(s:St)(h:Rq w R M1 M2 S ts s)(P:PX)(hP:POk ts P) :
 Calls Tryz.prog 127 #[.pointer (some ⟨R,0,none⟩)] w (StPost w R M1 M2 S ts (Ps.output ts P s)):=by
 obtain ⟨x,s3,hX⟩:∃ x s3,Ps.rd P (Ps.nxt s) = (x,s3):=⟨_,_,rfl⟩
 have HX:=vH hX
 have hx:Ps.output ts P s = (.mk 8 [] [] 0 [x] [] [] 0 0,Ps.sgn ts s3 [59]):=by simp only [Ps.output,hX]
 rw [hx]
 have HP:=vH hP
 clear hx hX hP
 have hlt:=h.lt
 have HH:=vH h
 have F:=vH ((Fr.of h).alloc (.cells vS 90))
 clear h
 go_in
 go_wp2_with fail
 refine (zL _ R 137 S _ ts _ F.out.rq.cu ).mono ?_
 rintro e u1 ⟨rfl,hc,hg⟩
 replace F:=vH (F.out.cur hc hg)
 clear hc hg
 go_wp2_with fail
 have hX:Ps.rd P ⟨next s.c,s.o⟩ = (x,s3):=HX.out
 have hes:=zAe _ R M1 M2 S ts _ F.out.rq P HP.out
 rw [hX] at hes
 clear hX
 refine (hes).mono ?_
 rintro e u2 ⟨ep,ec,rfl,hk,hr,hg⟩
 have Hes:=vH hk
 replace F:=vH (F.out.call hr hg)
 clear hk hr hg hes
 go_wp2_with fail
 replace F:=vH (F.out.alloc (.cells #[.int .i64 8,.string ⟨#[]⟩,.string ⟨#[]⟩,.int .i64 0,.slice ep 1 ec,.slice none 0 0,.slice none 0 0,.int .i64 0,.int .i64 0] 90))
 have hnsZ:=Nat.ne_of_gt ((List.pairwise_cons.1 F.out.nd).1 _ vA)
 have hnZs:=Ne.symm hnsZ
 dsimp only at hnsZ hnZs
 refine (zJ _ R 137 S _ ts _ F.out.rq.cu ⟨#[59]⟩).mono ?_
 rintro e u3 ⟨rfl,hc,hg⟩
 replace F:=vH (F.out.cur hc hg)
 clear hc hg
 have hk:=(F.out.keep _ vA).1
 obtain ⟨⟨a0,a1,a2,a3,a4,a5,a6,a7,a8⟩,b0,b1,b2,b3,b4,b5,b6,b7,b8⟩:=nen hk
 have hla:=zA hk
 clear hk
 have hk:=(F.out.keep _ vB).1
 obtain ⟨⟨d0,d1,d2,d3,d4,d5,d6,d7,d8⟩,g0,g1,g2,g3,g4,g5,g6,g7,g8⟩:=nen hk
 have hld:=zA hk
 clear hk
 go_wp2_with fail
 replace F:=vH (F.out.pw 1 rfl (.int .i64 8) (.string ⟨#[]⟩) (.string ⟨#[]⟩) (.int .i64 0) (.slice ep 1 ec) (.slice none 0 0) (.slice none 0 0) (.int .i64 0) (.int .i64 0))
 exact bodyPost_ret (v:=.agg #[.int .i64 8,.string ⟨#[]⟩,.string ⟨#[]⟩,.int .i64 0,.slice ep 1 ec,.slice none 0 0,.slice none 0 0,.int .i64 0,.int .i64 0]) (by simp [results,Tryz.results127,go_sem,d0,d1,d2,d3,d4,d5,d6,d7,d8]) rfl ⟨8,[],[],0,ep,1,ec,none,0,0,none,0,0,0,0,rfl,SIs.mk ((Hes.out.ag (F.out.ag _ vA).1).lower (F.out.ag _ vA).2) SsAt.nil SsAt.nil 8 [] [] 0 0 0,F.out.rq,F.out.gr⟩
theorem zIW {P:PX}{recB:St → Ps.OutB}{s:St}{x:Sm × St}(h:Ps.loop P recB s = some x):∃ b s2,recB (Ps.rd P (Ps.nxt s)).2 = some (b,s2) ∧ x = (.mk 6 [] [] 0 [(Ps.rd P (Ps.nxt s)).1] b [] 0 0,s2):=by
 unfold Ps.loop at h
 dsimp only at h
 split at h
 ·cases h
 ·rename_i b s2 hb
  exact ⟨b,s2,hb,(Option.some.inj h).symm⟩
theorem zFV {ts:List RT}{P:PX}{recB:St → Ps.OutB}{s:St}{x:Sm × St}(h:Ps.choice ts P recB s = some x):∃ b s2,recB (Ps.rd P (Ps.nxt s)).2 = some (b,s2) ∧
 ((sees ts s2.c 3 [101,108,115,101] = true ∧ ∃ l2 s3,recB (Ps.nxt s2) = some (l2,s3) ∧ x = (.mk 5 [] [] 0 [(Ps.rd P (Ps.nxt s)).1] b l2 0 0,s3)) ∨
  (sees ts s2.c 3 [101,108,115,101] = false ∧ x = (.mk 5 [] [] 0 [(Ps.rd P (Ps.nxt s)).1] b [] 0 0,s2))):=by
 unfold Ps.choice at h
 dsimp only at h
 split at h
 ·cases h
 ·rename_i b s2 hb
  refine ⟨b,s2,hb,?_⟩
  cases hv:sees ts s2.c 3 [101,108,115,101] with
  | false =>
    rw [if_neg (by rw [hv]; simp)] at h
    exact .inr ⟨rfl,(Option.some.inj h).symm⟩
  | true =>
    rw [if_pos hv] at h
    split at h
    ·cases h
    ·rename_i l2 s3 hb2
     exact .inl ⟨rfl,l2,s3,hb2,(Option.some.inj h).symm⟩
theorem zKm (w:World)(R M1 M2:Nat)(S:Value)(ts:List RT)(s:St)(h:Rq w R M1 M2 S ts s)(P:PX)(hP:POk ts P)(recB:St → Ps.OutB)(hB:BlOk ts recB)(x:Sm × St)(hx:Ps.loop P recB s = some x) :
 Calls Tryz.prog 125 #[.pointer (some ⟨R,0,none⟩)] w (StPost w R M1 M2 S ts x):=by
 obtain ⟨l0,s2,hb0,rfl⟩:=zIW hx
 obtain ⟨y,s3,hX⟩:∃ y s3,Ps.rd P (Ps.nxt s) = (y,s3):=⟨_,_,rfl⟩
 have HX:=vH hX
 rw [hX] at hb0 ⊢
 have HP:=vH hP
 have HB:=vH (fun w1 R M1 M2 S h => hB s3 (l0,s2) hb0 w1 R M1 M2 S h)
 clear hx hX hP hB hb0
 have hlt:=h.lt
 have HH:=vH h
 have F:=vH ((Fr.of h).alloc (.cells vS 90))
 clear h
 go_in
 go_wp2_with fail
 refine (zL _ R 137 S _ ts _ F.out.rq.cu ).mono ?_
 rintro e u1 ⟨rfl,hc,hg⟩
 replace F:=vH (F.out.cur hc hg)
 clear hc hg
 go_wp2_with fail
 have hX:Ps.rd P ⟨next s.c,s.o⟩ = (y,s3):=HX.out
 have hes:=zAe _ R M1 M2 S ts _ F.out.rq P HP.out
 rw [hX] at hes
 clear hX
 refine (hes).mono ?_
 rintro e u2 ⟨ep,ec,rfl,hk,hr,hg⟩
 have Hes:=vH hk
 replace F:=vH (F.out.call hr hg)
 clear hk hr hg hes
 go_wp2_with fail
 refine (HB.out _ R M1 M2 S F.out.rq).mono ?_
 rintro e u3 ⟨bp,bc,rfl,hk,hr,hg⟩
 have Hbl:=vH hk
 replace F:=vH (F.out.call hr hg)
 clear hk hr hg
 have hk:=(F.out.keep _ vA).1
 obtain ⟨⟨d0,d1,d2,d3,d4,d5,d6,d7,d8⟩,g0,g1,g2,g3,g4,g5,g6,g7,g8⟩:=nen hk
 have hld:=zA hk
 clear hk
 go_wp2_with fail
 replace F:=vH (F.out.pw 0 rfl (.int .i64 6) (.string ⟨#[]⟩) (.string ⟨#[]⟩) (.int .i64 0) (.slice ep 1 ec) (.slice bp l0.length bc) (.slice none 0 0) (.int .i64 0) (.int .i64 0))
 exact bodyPost_ret (v:=.agg #[.int .i64 6,.string ⟨#[]⟩,.string ⟨#[]⟩,.int .i64 0,.slice ep 1 ec,.slice bp l0.length bc,.slice none 0 0,.int .i64 0,.int .i64 0]) (by simp [results,Tryz.results125,go_sem,d0,d1,d2,d3,d4,d5,d6,d7,d8]) rfl ⟨6,[],[],0,ep,1,ec,bp,l0.length,bc,none,0,0,0,0,rfl,SIs.mk ((Hes.out.ag (F.out.ag _ vB).1).lower (F.out.ag _ vB).2) ((Hbl.out.ag (F.out.ag _ vA).1).lower (F.out.ag _ vA).2) SsAt.nil 6 [] [] 0 0 0,F.out.rq,F.out.gr⟩
theorem zHF (w:World)(R M1 M2:Nat)(S:Value)(ts:List RT)(s:St)(h:Rq w R M1 M2 S ts s)(P:PX)(hP:POk ts P)(recB:St → Ps.OutB)(hB:BlOk ts recB)(x:Sm × St)(hx:Ps.choice ts P recB s = some x) :
 Calls Tryz.prog 124 #[.pointer (some ⟨R,0,none⟩)] w (StPost w R M1 M2 S ts x):=by
 obtain ⟨l0,s2,hb0,hx⟩:=zFV hx
 obtain ⟨y,s3,hX⟩:∃ y s3,Ps.rd P (Ps.nxt s) = (y,s3):=⟨_,_,rfl⟩
 have HX:=vH hX
 rw [hX] at hb0 hx
 have HP:=vH hP
 have HB:=vH (fun w1 R M1 M2 S h => hB s3 (l0,s2) hb0 w1 R M1 M2 S h)
 rcases hx with ⟨hI,l2,s4,hb2,rfl⟩ | ⟨hI,rfl⟩
 ·have HB2:=vH (fun w1 R M1 M2 S h => hB (Ps.nxt s2) (l2,s4) hb2 w1 R M1 M2 S h)
  clear hb2
  have HI:=vH hI
  clear hI hX hP hB hb0
  have hlt:=h.lt
  have HH:=vH h
  have F:=vH ((Fr.of h).alloc (.cells vS 90))
  clear h
  go_in
  go_wp2_with fail
  refine (zL _ R 137 S _ ts _ F.out.rq.cu ).mono ?_
  rintro e u1 ⟨rfl,hc,hg⟩
  replace F:=vH (F.out.cur hc hg)
  clear hc hg
  go_wp2_with fail
  have hX:Ps.rd P ⟨next s.c,s.o⟩ = (y,s3):=HX.out
  have hes:=zAe _ R M1 M2 S ts _ F.out.rq P HP.out
  rw [hX] at hes
  clear hX
  refine (hes).mono ?_
  rintro e u2 ⟨ep,ec,rfl,hk,hr,hg⟩
  have Hes:=vH hk
  replace F:=vH (F.out.call hr hg)
  clear hk hr hg hes
  go_wp2_with fail
  refine (HB.out _ R M1 M2 S F.out.rq).mono ?_
  rintro e u3 ⟨bp,bc,rfl,hk,hr,hg⟩
  have Hbl:=vH hk
  replace F:=vH (F.out.call hr hg)
  clear hk hr hg
  go_wp2_with fail
  replace F:=vH (F.out.alloc (.cells #[.int .i64 5,.string ⟨#[]⟩,.string ⟨#[]⟩,.int .i64 0,.slice ep 1 ec,.slice bp l0.length bc,.slice none 0 0,.int .i64 0,.int .i64 0] 90))
  have hnsZ:=Nat.ne_of_gt ((List.pairwise_cons.1 F.out.nd).1 _ vA)
  have hnZs:=Ne.symm hnsZ
  dsimp only at hnsZ hnZs
  refine (zAF _ R 137 S _ ts _ F.out.rq.cu 3 ⟨#[101,108,115,101]⟩).mono ?_
  have hI:sees ts s2.c 3 [101,108,115,101] = true:=HI.out
  rw [hI]
  rintro e u7 ⟨rfl,hb⟩
  replace F:=vH (F.out.go hb)
  clear hb hI
  go_wp2_with fail
  refine (zL _ R 137 S _ ts _ F.out.rq.cu ).mono ?_
  rintro e u4 ⟨rfl,hc,hg⟩
  replace F:=vH (F.out.cur hc hg)
  clear hc hg
  go_wp2_with fail
  refine (HB2.out _ R M1 M2 S F.out.rq).mono ?_
  rintro e u5 ⟨lp,lc,rfl,hk,hr,hg⟩
  have Hel:=vH hk
  replace F:=vH (F.out.call hr hg)
  clear hk hr hg
  have hk:=(F.out.keep _ vA).1
  obtain ⟨⟨a0,a1,a2,a3,a4,a5,a6,a7,a8⟩,b0,b1,b2,b3,b4,b5,b6,b7,b8⟩:=nen hk
  have hla:=zA hk
  clear hk
  have hk:=(F.out.keep _ vB).1
  obtain ⟨⟨d0,d1,d2,d3,d4,d5,d6,d7,d8⟩,g0,g1,g2,g3,g4,g5,g6,g7,g8⟩:=nen hk
  have hld:=zA hk
  clear hk
  go_wp2_with fail
  replace F:=vH (F.out.put1 0 rfl 6 (.slice lp l2.length lc) rfl)
  replace F:=vH (F.out.pw 1 rfl (.int .i64 5) (.string ⟨#[]⟩) (.string ⟨#[]⟩) (.int .i64 0) (.slice ep 1 ec) (.slice bp l0.length bc) (.slice lp l2.length lc) (.int .i64 0) (.int .i64 0))
  exact bodyPost_ret (v:=.agg #[.int .i64 5,.string ⟨#[]⟩,.string ⟨#[]⟩,.int .i64 0,.slice ep 1 ec,.slice bp l0.length bc,.slice lp l2.length lc,.int .i64 0,.int .i64 0]) (by simp [results,Tryz.results124,go_sem,d0,d1,d2,d3,d4,d5,d6,d7,d8]) rfl ⟨5,[],[],0,ep,1,ec,bp,l0.length,bc,lp,l2.length,lc,0,0,rfl,SIs.mk ((Hes.out.ag (F.out.ag _ vC).1).lower (F.out.ag _ vC).2) ((Hbl.out.ag (F.out.ag _ vB).1).lower (F.out.ag _ vB).2) ((Hel.out.ag (F.out.ag _ vA).1).lower (F.out.ag _ vA).2) 5 [] [] 0 0 0,F.out.rq,F.out.gr⟩
 ·have HI:=vH hI
  clear hI hX hP hB hb0
  have hlt:=h.lt
  have HH:=vH h
  have F:=vH ((Fr.of h).alloc (.cells vS 90))
  clear h
  go_in
  go_wp2_with fail
  refine (zL _ R 137 S _ ts _ F.out.rq.cu ).mono ?_
  rintro e u21 ⟨rfl,hc,hg⟩
  replace F:=vH (F.out.cur hc hg)
  clear hc hg
  go_wp2_with fail
  have hX:Ps.rd P ⟨next s.c,s.o⟩ = (y,s3):=HX.out
  have hes:=zAe _ R M1 M2 S ts _ F.out.rq P HP.out
  rw [hX] at hes
  clear hX
  refine (hes).mono ?_
  rintro e u22 ⟨ep,ec,rfl,hk,hr,hg⟩
  have Hes:=vH hk
  replace F:=vH (F.out.call hr hg)
  clear hk hr hg hes
  go_wp2_with fail
  refine (HB.out _ R M1 M2 S F.out.rq).mono ?_
  rintro e u23 ⟨bp,bc,rfl,hk,hr,hg⟩
  have Hbl:=vH hk
  replace F:=vH (F.out.call hr hg)
  clear hk hr hg
  go_wp2_with fail
  replace F:=vH (F.out.alloc (.cells #[.int .i64 5,.string ⟨#[]⟩,.string ⟨#[]⟩,.int .i64 0,.slice ep 1 ec,.slice bp l0.length bc,.slice none 0 0,.int .i64 0,.int .i64 0] 90))
  have hnsZ:=Nat.ne_of_gt ((List.pairwise_cons.1 F.out.nd).1 _ vA)
  have hnZs:=Ne.symm hnsZ
  dsimp only at hnsZ hnZs
  refine (zAF _ R 137 S _ ts _ F.out.rq.cu 3 ⟨#[101,108,115,101]⟩).mono ?_
  have hI:sees ts s2.c 3 [101,108,115,101] = false:=HI.out
  rw [hI]
  rintro e u7 ⟨rfl,hb⟩
  replace F:=vH (F.out.go hb)
  clear hb hI
  have hk:=(F.out.keep _ vA).1
  obtain ⟨⟨a0,a1,a2,a3,a4,a5,a6,a7,a8⟩,b0,b1,b2,b3,b4,b5,b6,b7,b8⟩:=nen hk
  have hla:=zA hk
  clear hk
  have hk:=(F.out.keep _ vB).1
  obtain ⟨⟨d0,d1,d2,d3,d4,d5,d6,d7,d8⟩,g0,g1,g2,g3,g4,g5,g6,g7,g8⟩:=nen hk
  have hld:=zA hk
  clear hk
  go_wp2_with fail
  replace F:=vH (F.out.pw 1 rfl (.int .i64 5) (.string ⟨#[]⟩) (.string ⟨#[]⟩) (.int .i64 0) (.slice ep 1 ec) (.slice bp l0.length bc) (.slice none 0 0) (.int .i64 0) (.int .i64 0))
  exact bodyPost_ret (v:=.agg #[.int .i64 5,.string ⟨#[]⟩,.string ⟨#[]⟩,.int .i64 0,.slice ep 1 ec,.slice bp l0.length bc,.slice none 0 0,.int .i64 0,.int .i64 0]) (by simp [results,Tryz.results124,go_sem,d0,d1,d2,d3,d4,d5,d6,d7,d8]) rfl ⟨5,[],[],0,ep,1,ec,bp,l0.length,bc,none,0,0,0,0,rfl,SIs.mk ((Hes.out.ag (F.out.ag _ vB).1).lower (F.out.ag _ vB).2) ((Hbl.out.ag (F.out.ag _ vA).1).lower (F.out.ag _ vA).2) SsAt.nil 5 [] [] 0 0 0,F.out.rq,F.out.gr⟩
end Go.Proofs.YtipmjjfknhblnaaGreatDoor
