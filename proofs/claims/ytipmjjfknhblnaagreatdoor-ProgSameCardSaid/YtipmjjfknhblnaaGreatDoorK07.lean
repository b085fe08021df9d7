/-
  The contracts of the project's reader: an expression, one in
-/
import Derived.Test.YtipmjjfknhblnaaGreatDoorK06
import Derived.Test.YtipmjjfknhblnaaGreatDoorK02
import Derived.Deep.RegionHeld3
set_option maxHeartbeats 8000000
set_option maxRecDepth 8000
namespace Go.Proofs.YtipmjjfknhblnaaGreatDoor
open Go.RowKit
open Px (RT tokAt)
open Pe
theorem zD7 {ts:List RT}{rec:Nat → St → Out}{s:St}{a b:List UInt8}{x:Ex × St}(h:enclosed ts rec s a b = some x):∃ e s2,rec 1 (enter ts s a).2 = some (e,s2) ∧ x = (e,leave ts s2 b):=by
 unfold enclosed at h
 split at h
 ·cases h
 ·rename_i e s2 he
  exact ⟨e,s2,he,by simpa using h.symm⟩
theorem zFJ {ts:List RT}{rec:Nat → St → Out}{s:St}{x:Ex × St}(h:length ts rec s = some x):∃ e s2,enclosed ts rec ⟨next s.c,s.o⟩ [40] [41] = some (e,s2) ∧ x = (Ex.of 10 0 [] [] 0 [e] (peek ts s.c).at_,s2):=by
 unfold length at h
 split at h
 ·cases h
 ·rename_i e s2 he
  exact ⟨e,s2,he,by simpa using h.symm⟩
theorem zAI (w:World)(R M1 M2 M3:Nat)(S:Value)(ts:List RT)(s:St)(h:Rs w R M1 M2 M3 S ts s)(rec:Nat → St → Out)(hrec:RecOk ts rec)(x:Ex × St)(hx:rec 1 s = some x) :
 Calls Tryz.prog 152 #[.pointer (some ⟨R,0,none⟩)] w (ExPost w.heap.size w R M1 M2 M3 S ts x):=by
 have hp:=fun w1 hh => hrec 1 s x (Nat.le_refl _) (by decide) hx w1 R M1 M2 M3 S hh
 have HP:=vH hp
 clear hp hrec hx
 have hb0:Below w.heap.size w (w.alloc (.cells vE 111)):=(Below.refl w.heap.size w).alloc (Nat.le_refl _) _
 have hlt:=h.lt
 have HH:=vH h
 have HR:=vH (h.go hb0)
 have HG:=vH (Gr.refl R (w.alloc (.cells vE 111)))
 clear h hb0
 go_in
 go_wp2_with fail
 have hRBq:=HR.out.lt
 have hNBq:=Nat.lt_of_lt_of_le (by rw [zB]; exact Nat.lt_succ_self _:w.heap.size < (w.alloc (.cells vE 111)).heap.size) HG.out.size
 refine (HP.out _ HR.out).mono ?_
 rintro e w1 ⟨qk,qn,qs,qo,qd,qp,ql,qc,qa,qb,qr,qe,qf,rfl,hi,hr,hg⟩
 have Hiq:=vH hi
 have HGx:=vH (HG.out.trans hg)
 have HRx:=vH (hr)
 clear HG HR
 have HG:=HGx
 have HR:=HRx
 clear HGx HRx hr hg hi
 have hk:=mine HG.out hlt
 obtain ⟨⟨d0,d1,d2,d3,d4,d5,d6,d7,d8,d9,dX⟩,g0,g1,g2,g3,g4,g5,g6,g7,g8,g9,gX⟩:=hen hk
 have hl:=zA hk
 clear hk
 go_wp2_with fail
 have hn:=(Nw.start ((Gr.alloc (Gr.refl R w) _).trans HG.out)).pv (.int .i64 qk) (.int .i64 qn) (.string (cbs qs)) (.string (cbs qo)) (.int .i64 qd) (.slice qp ql qc) (.int .i64 qa) (.int .i64 qb) (.int .i64 qr) (.int .i64 qe) (.int .i64 qf)
 exact bodyPost_ret (v:=.agg #[.int .i64 qk,.int .i64 qn,.string (cbs qs),.string (cbs qo),.int .i64 qd,.slice qp ql qc,.int .i64 qa,.int .i64 qb,.int .i64 qr,.int .i64 qe,.int .i64 qf]) (by simp [results,Tryz.results152,go_sem,d0,d1,d2,d3,d4,d5,d6,d7,d8,d9,dX]) rfl ⟨_,_,_,_,_,_,_,_,_,_,_,_,_,rfl,Is.lower (Nat.le_of_lt hNBq) _ (Hiq.out.put11 hNBq),HH.out.fin HR.out hn,hn.gr⟩
theorem zA3 (w:World)(R M1 M2 M3:Nat)(S:Value)(ts:List RT)(s:St)(h:Rs w R M1 M2 M3 S ts s)(rec:Nat → St → Out)(hrec:RecOk ts rec)(ta tb:ByteArray)(x:Ex × St)(hx:enclosed ts rec s ta.data.toList tb.data.toList = some x) :
 Calls Tryz.prog 179 #[.pointer (some ⟨R,0,none⟩),.string ta,.string tb] w (ExPost w.heap.size w R M1 M2 M3 S ts x):=by
 obtain ⟨e0,s2,he,rfl⟩:=zD7 hx
 have HP:=vH (fun w1 hh => zAI w1 R M1 M2 M3 S ts (enter ts s ta.data.toList).2 hh rec hrec (e0,s2) he)
 clear hrec hx he
 have hb0:Below w.heap.size w (w.alloc (.cells vE 111)):=(Below.refl w.heap.size w).alloc (Nat.le_refl _) _
 have hlt:=h.lt
 have HH:=vH h
 have HR:=vH (h.go hb0)
 have HG:=vH (Gr.refl R (w.alloc (.cells vE 111)))
 clear h hb0
 go_in
 go_wp2_with fail
 refine (zB4 _ R M1 M2 M3 S ts s HR.out ta).mono ?_
 rintro e w1 ⟨rfl,hr,hg⟩
 have HGx:=vH (HG.out.trans hg)
 have HRx:=vH (hr)
 clear HG HR
 have HG:=HGx
 have HR:=HRx
 clear HGx HRx hr hg
 go_wp2_with fail
 have hRBq:=HR.out.lt
 have hNBq:=Nat.lt_of_lt_of_le (by rw [zB]; exact Nat.lt_succ_self _:w.heap.size < (w.alloc (.cells vE 111)).heap.size) HG.out.size
 refine (HP.out _ HR.out).mono ?_
 rintro e w2 ⟨qk,qn,qs,qo,qd,qp,ql,qc,qa,qb,qr,qe,qf,rfl,hi,hr,hg⟩
 have Hiq:=vH hi
 have HGx:=vH (HG.out.trans hg)
 have HRx:=vH (hr)
 clear HG HR
 have HG:=HGx
 have HR:=HRx
 clear HGx HRx hr hg hi
 go_wp2_with fail
 refine (zB0 _ R M1 M2 M3 S ts s2 (HR.out.go ((Below.refl _ _).alloc (Nat.le_refl _) _)) tb).mono ?_
 rintro e w3 ⟨rfl,hr,hg⟩
 have hkb:=mine hg HR.out.lt
 have Hix:=vH ((Hiq.out.alloc _).gr hRBq hg)
 clear Hiq
 have Hiq:=Hix
 clear Hix
 have HGx:=vH ((HG.out.alloc _).trans hg)
 have HRx:=vH (hr)
 clear HG HR
 have HG:=HGx
 have HR:=HRx
 clear HGx HRx hr hg
 obtain ⟨⟨x0,x1,x2,x3,x4,x5,x6,x7,x8,x9,xX⟩,y0,y1,y2,y3,y4,y5,y6,y7,y8,y9,yX⟩:=hen hkb
 have hlb:=zA hkb
 clear hkb
 have hk:=mine HG.out hlt
 obtain ⟨⟨d0,d1,d2,d3,d4,d5,d6,d7,d8,d9,dX⟩,g0,g1,g2,g3,g4,g5,g6,g7,g8,g9,gX⟩:=hen hk
 have hl:=zA hk
 clear hk
 go_wp2_with fail
 have hn:=(Nw.start ((Gr.alloc (Gr.refl R w) _).trans HG.out)).pv (.int .i64 qk) (.int .i64 qn) (.string (cbs qs)) (.string (cbs qo)) (.int .i64 qd) (.slice qp ql qc) (.int .i64 qa) (.int .i64 qb) (.int .i64 qr) (.int .i64 qe) (.int .i64 qf)
 exact bodyPost_ret (v:=.agg #[.int .i64 qk,.int .i64 qn,.string (cbs qs),.string (cbs qo),.int .i64 qd,.slice qp ql qc,.int .i64 qa,.int .i64 qb,.int .i64 qr,.int .i64 qe,.int .i64 qf]) (by simp [results,Tryz.results179,go_sem,d0,d1,d2,d3,d4,d5,d6,d7,d8,d9,dX]) rfl ⟨_,_,_,_,_,_,_,_,_,_,_,_,_,rfl,Is.lower (Nat.le_of_lt hNBq) _ (Hiq.out.put11 hNBq),HH.out.fin HR.out hn,hn.gr⟩
theorem zIL (w:World)(R M1 M2 M3:Nat)(S:Value)(ts:List RT)(s:St)(h:Rs w R M1 M2 M3 S ts s)(rec:Nat → St → Out)(hrec:RecOk ts rec)(x:Ex × St)(hx:enclosed ts rec s [40] [41] = some x) :
 Calls Tryz.prog 167 #[.pointer (some ⟨R,0,none⟩)] w (ExPost w.heap.size w R M1 M2 M3 S ts x):=by
 have HP:=vH (fun w1 hh => zA3 w1 R M1 M2 M3 S ts s hh rec hrec ⟨#[40]⟩ ⟨#[41]⟩ x hx)
 clear hrec hx
 have hb0:Below w.heap.size w (w.alloc (.cells vE 111)):=(Below.refl w.heap.size w).alloc (Nat.le_refl _) _
 have hlt:=h.lt
 have HH:=vH h
 have HR:=vH (h.go hb0)
 have HG:=vH (Gr.refl R (w.alloc (.cells vE 111)))
 clear h hb0
 go_in
 go_wp2_with fail
 have hRBq:=HR.out.lt
 have hNBq:=Nat.lt_of_lt_of_le (by rw [zB]; exact Nat.lt_succ_self _:w.heap.size < (w.alloc (.cells vE 111)).heap.size) HG.out.size
 refine (HP.out _ HR.out).mono ?_
 rintro e w1 ⟨qk,qn,qs,qo,qd,qp,ql,qc,qa,qb,qr,qe,qf,rfl,hi,hr,hg⟩
 have Hiq:=vH hi
 have HGx:=vH (HG.out.trans hg)
 have HRx:=vH (hr)
 clear HG HR
 have HG:=HGx
 have HR:=HRx
 clear HGx HRx hr hg hi
 have hk:=mine HG.out hlt
 obtain ⟨⟨d0,d1,d2,d3,d4,d5,d6,d7,d8,d9,dX⟩,g0,g1,g2,g3,g4,g5,g6,g7,g8,g9,gX⟩:=hen hk
 have hl:=zA hk
 clear hk
 go_wp2_with fail
 have hn:=(Nw.start ((Gr.alloc (Gr.refl R w) _).trans HG.out)).pv (.int .i64 qk) (.int .i64 qn) (.string (cbs qs)) (.string (cbs qo)) (.int .i64 qd) (.slice qp ql qc) (.int .i64 qa) (.int .i64 qb) (.int .i64 qr) (.int .i64 qe) (.int .i64 qf)
 exact bodyPost_ret (v:=.agg #[.int .i64 qk,.int .i64 qn,.string (cbs qs),.string (cbs qo),.int .i64 qd,.slice qp ql qc,.int .i64 qa,.int .i64 qb,.int .i64 qr,.int .i64 qe,.int .i64 qf]) (by simp [results,Tryz.results167,go_sem,d0,d1,d2,d3,d4,d5,d6,d7,d8,d9,dX]) rfl ⟨_,_,_,_,_,_,_,_,_,_,_,_,_,rfl,Is.lower (Nat.le_of_lt hNBq) _ (Hiq.out.put11 hNBq),HH.out.fin HR.out hn,hn.gr⟩
theorem zHu (w:World)(R M1 M2 M3:Nat)(S:Value)(ts:List RT)(s:St)(h:Rs w R M1 M2 M3 S ts s) :
 Calls Tryz.prog 164 #[.pointer (some ⟨R,0,none⟩)] w (ExPost w.heap.size w R M1 M2 M3 S ts (number ts s)):=by
 have hp:=fun w1 hh => zL w1 R 192 S [.int .i64 s.o,.map (some M1),.map (some M2),.map (some M3)] ts s.c hh
 unfold number
 generalize peek ts s.c = t at hp ⊢
 unfold tokW at hp
 have HP:=vH hp
 clear hp
 have hb0:Below w.heap.size w (w.alloc (.cells vE 111)):=(Below.refl w.heap.size w).alloc (Nat.le_refl _) _
 have hlt:=h.lt
 have HH:=vH h
 have HR:=vH (h.go hb0)
 have HG:=vH (Gr.refl R (w.alloc (.cells vE 111)))
 clear h hb0
 go_in
 go_wp2_with fail
 refine (HP.out _ HR.out.cu).mono ?_
 rintro e w1 ⟨rfl,hc,hg⟩
 have HGx:=vH (HG.out.trans hg)
 have HRx:=vH (HR.out.cur hg hc)
 clear HG HR
 have HG:=HGx
 have HR:=HRx
 clear HGx HRx hc hg
 have hk:=mine HG.out hlt
 obtain ⟨⟨d0,d1,d2,d3,d4,d5,d6,d7,d8,d9,dX⟩,g0,g1,g2,g3,g4,g5,g6,g7,g8,g9,gX⟩:=hen hk
 have hl:=zA hk
 clear hk
 go_wp2_with fail
 have hn:=(Nw.start ((Gr.alloc (Gr.refl R w) _).trans HG.out)).pv (.int .i64 1) (.int .i64 t.num) (.string ⟨#[]⟩) (.string ⟨#[]⟩) (.int .i64 0) (.slice none 0 0) (.int .i64 t.at_) (.int .i64 0) (.int .i64 0) (.int .i64 0) (.int .i64 0)
 have hn:=hn.alloc (.cells (vT t) 52)
 exact bodyPost_ret (v:=.agg #[.int .i64 1,.int .i64 t.num,.string ⟨#[]⟩,.string ⟨#[]⟩,.int .i64 0,.slice none 0 0,.int .i64 t.at_,.int .i64 0,.int .i64 0,.int .i64 0,.int .i64 0]) (by simp [results,Tryz.results164,go_sem,hl,d0,d1,d2,d3,d4,d5,d6,d7,d8,d9,dX]) rfl ⟨_,_,_,_,_,_,_,_,_,_,_,_,_,rfl,Is.leaf 1 t.num [] [] 0 t.at_,HH.out.fin HR.out hn,hn.gr⟩
theorem zKj (w:World)(R M1 M2 M3:Nat)(S:Value)(ts:List RT)(s:St)(h:Rs w R M1 M2 M3 S ts s) :
 Calls Tryz.prog 169 #[.pointer (some ⟨R,0,none⟩)] w (ExPost w.heap.size w R M1 M2 M3 S ts (null ts s)):=by
 have hp:=fun w1 hh => zL w1 R 192 S [.int .i64 s.o,.map (some M1),.map (some M2),.map (some M3)] ts s.c hh
 have hq:=fun w1 hh => zBv w1 R 192 S [.int .i64 s.o,.map (some M1),.map (some M2),.map (some M3)] ts (next s.c) hh
 unfold null
 generalize peek ts s.c = t at hp ⊢
 unfold tokW at hp
 generalize readType ts (next s.c) = y at hq ⊢
 obtain ⟨nm,dm,c2⟩:=y
 dsimp only at hq ⊢
 have hfd:∀ w1:World,(Instr.field 52 (.agg #[.int .i64 t.kind,.string (cbs t.text),.int .i64 t.num,.int .i64 t.at_]) 3).run Tryz.prog w1 = .ok (.int .i64 t.at_) w1:=fun _ => by kernel_rfl
 have HP:=vH hp
 have HQ:=vH hq
 clear hp hq
 have hb0:Below w.heap.size w (w.alloc (.cells vE 111)):=(Below.refl w.heap.size w).alloc (Nat.le_refl _) _
 have hlt:=h.lt
 have HH:=vH h
 have HR:=vH (h.go hb0)
 have HG:=vH (Gr.refl R (w.alloc (.cells vE 111)))
 clear h hb0
 go_in
 go_wp2_with fail
 refine (HP.out _ HR.out.cu).mono ?_
 rintro e w1 ⟨rfl,hc,hg⟩
 have HGx:=vH (HG.out.trans hg)
 have HRx:=vH (HR.out.cur hg hc)
 clear HG HR
 have HG:=HGx
 have HR:=HRx
 clear HGx HRx hc hg
 go_wp2_with fail
 refine (HQ.out _ HR.out.cu).mono ?_
 rintro e w2 ⟨rfl,hc,hg⟩
 have HGx:=vH (HG.out.trans hg)
 have HRx:=vH (HR.out.cur hg hc)
 clear HG HR
 have HG:=HGx
 have HR:=HRx
 clear HGx HRx hc hg
 have hk:=mine HG.out hlt
 obtain ⟨⟨d0,d1,d2,d3,d4,d5,d6,d7,d8,d9,dX⟩,g0,g1,g2,g3,g4,g5,g6,g7,g8,g9,gX⟩:=hen hk
 have hl:=zA hk
 clear hk
 go_wp2_with fail
 have hn:=(Nw.start ((Gr.alloc (Gr.refl R w) _).trans HG.out)).pv (.int .i64 3) (.int .i64 0) (.string ⟨#[]⟩) (.string (cbs nm)) (.int .i64 dm) (.slice none 0 0) (.int .i64 t.at_) (.int .i64 0) (.int .i64 0) (.int .i64 0) (.int .i64 0)
 exact bodyPost_ret (v:=.agg #[.int .i64 3,.int .i64 0,.string ⟨#[]⟩,.string (cbs nm),.int .i64 dm,.slice none 0 0,.int .i64 t.at_,.int .i64 0,.int .i64 0,.int .i64 0,.int .i64 0]) (by simp [results,Tryz.results169,go_sem,d0,d1,d2,d3,d4,d5,d6,d7,d8,d9,dX]) rfl ⟨_,_,_,_,_,_,_,_,_,_,_,_,_,rfl,Is.leaf 3 0 [] nm dm t.at_,HH.out.fin HR.out hn,hn.gr⟩
theorem zI4 (w:World)(R M1 M2 M3:Nat)(S:Value)(ts:List RT)(s:St)(h:Rs w R M1 M2 M3 S ts s) :
 Calls Tryz.prog 172 #[.pointer (some ⟨R,0,none⟩)] w (ExPost w.heap.size w R M1 M2 M3 S ts (input ts s)):=by
 have hp:=fun w1 hh => zL w1 R 192 S [.int .i64 s.o,.map (some M1),.map (some M2),.map (some M3)] ts s.c hh
 unfold input
 generalize peek ts s.c = t at hp ⊢
 unfold tokW at hp
 have hfd:∀ w1:World,(Instr.field 52 (.agg #[.int .i64 t.kind,.string (cbs t.text),.int .i64 t.num,.int .i64 t.at_]) 3).run Tryz.prog w1 = .ok (.int .i64 t.at_) w1:=fun _ => by kernel_rfl
 have HP:=vH hp
 clear hp
 have hb0:Below w.heap.size w (w.alloc (.cells vE 111)):=(Below.refl w.heap.size w).alloc (Nat.le_refl _) _
 have hlt:=h.lt
 have HH:=vH h
 have HR:=vH (h.go hb0)
 have HG:=vH (Gr.refl R (w.alloc (.cells vE 111)))
 clear h hb0
 go_in
 go_wp2_with fail
 refine (HP.out _ HR.out.cu).mono ?_
 rintro e w1 ⟨rfl,hc,hg⟩
 have HGx:=vH (HG.out.trans hg)
 have HRx:=vH (HR.out.cur hg hc)
 clear HG HR
 have HG:=HGx
 have HR:=HRx
 clear HGx HRx hc hg
 go_wp2_with fail
 refine (zB4 _ R M1 M2 M3 S ts ⟨next s.c,s.o⟩ HR.out ⟨#[40]⟩).mono ?_
 rintro e w2 ⟨rfl,hr,hg⟩
 have HGx:=vH (HG.out.trans hg)
 have HRx:=vH (hr)
 clear HG HR
 have HG:=HGx
 have HR:=HRx
 clear HGx HRx hr hg
 go_wp2_with fail
 refine (zB0 _ R M1 M2 M3 S ts _ HR.out ⟨#[41]⟩).mono ?_
 rintro e w3 ⟨rfl,hr,hg⟩
 have HGx:=vH (HG.out.trans hg)
 have HRx:=vH (hr)
 clear HG HR
 have HG:=HGx
 have HR:=HRx
 clear HGx HRx hr hg
 have hk:=mine HG.out hlt
 obtain ⟨⟨d0,d1,d2,d3,d4,d5,d6,d7,d8,d9,dX⟩,g0,g1,g2,g3,g4,g5,g6,g7,g8,g9,gX⟩:=hen hk
 have hl:=zA hk
 clear hk
 go_wp2_with fail
 have hn:=(Nw.start ((Gr.alloc (Gr.refl R w) _).trans HG.out)).pv (.int .i64 11) (.int .i64 0) (.string ⟨#[]⟩) (.string ⟨#[]⟩) (.int .i64 0) (.slice none 0 0) (.int .i64 t.at_) (.int .i64 0) (.int .i64 0) (.int .i64 0) (.int .i64 0)
 exact bodyPost_ret (v:=.agg #[.int .i64 11,.int .i64 0,.string ⟨#[]⟩,.string ⟨#[]⟩,.int .i64 0,.slice none 0 0,.int .i64 t.at_,.int .i64 0,.int .i64 0,.int .i64 0,.int .i64 0]) (by simp [results,Tryz.results172,go_sem,d0,d1,d2,d3,d4,d5,d6,d7,d8,d9,dX]) rfl ⟨_,_,_,_,_,_,_,_,_,_,_,_,_,rfl,Is.leaf 11 0 [] [] 0 t.at_,HH.out.fin HR.out hn,hn.gr⟩
theorem zHv (w:World)(R M1 M2 M3:Nat)(S:Value)(ts:List RT)(s:St)(h:Rs w R M1 M2 M3 S ts s)(rec:Nat → St → Out)(hrec:RecOk ts rec)(x:Ex × St)(hx:length ts rec s = some x) :
 Calls Tryz.prog 171 #[.pointer (some ⟨R,0,none⟩)] w (ExPost w.heap.size w R M1 M2 M3 S ts x):=by
 obtain ⟨e0,s2,he,rfl⟩:=zFJ hx
 have HE:=vH (fun w1 hh => zA3 w1 R M1 M2 M3 S ts ⟨next s.c,s.o⟩ hh rec hrec ⟨#[40]⟩ ⟨#[41]⟩ (e0,s2) he)
 have hp:=fun w1 hh => zL w1 R 192 S [.int .i64 s.o,.map (some M1),.map (some M2),.map (some M3)] ts s.c hh
 clear hrec hx he
 generalize peek ts s.c = t at hp ⊢
 unfold tokW at hp
 have hfd:∀ w1:World,(Instr.field 52 (.agg #[.int .i64 t.kind,.string (cbs t.text),.int .i64 t.num,.int .i64 t.at_]) 3).run Tryz.prog w1 = .ok (.int .i64 t.at_) w1:=fun _ => by kernel_rfl
 have HP:=vH hp
 clear hp
 have hb0:Below w.heap.size w (w.alloc (.cells vE 111)):=(Below.refl w.heap.size w).alloc (Nat.le_refl _) _
 have hlt:=h.lt
 have HH:=vH h
 have HR:=vH (h.go hb0)
 have HG:=vH (Gr.refl R (w.alloc (.cells vE 111)))
 clear h hb0
 go_in
 go_wp2_with fail
 refine (HP.out _ HR.out.cu).mono ?_
 rintro e w1 ⟨rfl,hc,hg⟩
 have HGx:=vH (HG.out.trans hg)
 have HRx:=vH (HR.out.cur hg hc)
 clear HG HR
 have HG:=HGx
 have HR:=HRx
 clear HGx HRx hc hg
 go_wp2_with fail
 have hRBq:=HR.out.lt
 have hNBq:=Nat.lt_of_lt_of_le (by rw [zB]; exact Nat.lt_succ_self _:w.heap.size < (w.alloc (.cells vE 111)).heap.size) HG.out.size
 refine (HE.out _ HR.out).mono ?_
 rintro e w2 ⟨qk,qn,qs,qo,qd,qp,ql,qc,qa,qb,qr,qe,qf,rfl,hi,hr,hg⟩
 have Hiq:=vH hi
 have HGx:=vH (HG.out.trans hg)
 have HRx:=vH (hr)
 clear HG HR
 have HG:=HGx
 have HR:=HRx
 clear HGx HRx hr hg hi
 have hk:=mine HG.out hlt
 obtain ⟨⟨d0,d1,d2,d3,d4,d5,d6,d7,d8,d9,dX⟩,g0,g1,g2,g3,g4,g5,g6,g7,g8,g9,gX⟩:=hen hk
 have hl:=zA hk
 clear hk
 go_wp2_with fail
 have hn:=((Nw.start ((Gr.alloc (Gr.refl R w) _).trans HG.out)).pv (.int .i64 10) (.int .i64 0) (.string ⟨#[]⟩) (.string ⟨#[]⟩) (.int .i64 0) (.slice (some ⟨w2.heap.size,0,none⟩) 1 1) (.int .i64 t.at_) (.int .i64 0) (.int .i64 0) (.int .i64 0) (.int .i64 0)).alloc (.cells #[.int .i64 qk,.int .i64 qn,.string (cbs qs),.string (cbs qo),.int .i64 qd,.slice qp ql qc,.int .i64 qa,.int .i64 qb,.int .i64 qr,.int .i64 qe,.int .i64 qf] 111)
 have hbx:=zAD (w:=w2) (N:=w.heap.size) (o:=.cells #[.int .i64 qk,.int .i64 qn,.string (cbs qs),.string (cbs qo),.int .i64 qd,.slice qp ql qc,.int .i64 qa,.int .i64 qb,.int .i64 qr,.int .i64 qe,.int .i64 qf] 111) (c0:=.int .i64 10) (c1:=.int .i64 0) (c2:=.string ⟨#[]⟩) (c3:=.string ⟨#[]⟩) (c4:=.int .i64 0) (c5:=.slice (some ⟨w2.heap.size,0,none⟩) 1 1) (c6:=.int .i64 t.at_) (c7:=.int .i64 0) (c8:=.int .i64 0) (c9:=.int .i64 0) (c10:=.int .i64 0)
 have hle:w.heap.size ≤ w2.heap.size:=Nat.le_of_lt (Nat.lt_of_lt_of_le (by rw [zB]; exact Nat.lt_succ_self _:w.heap.size < (w.alloc (.cells vE 111)).heap.size) HG.out.size)
 exact bodyPost_ret (v:=.agg #[.int .i64 10,.int .i64 0,.string ⟨#[]⟩,.string ⟨#[]⟩,.int .i64 0,.slice (some ⟨w2.heap.size,0,none⟩) 1 1,.int .i64 t.at_,.int .i64 0,.int .i64 0,.int .i64 0,.int .i64 0]) (by simp [results,Tryz.results171,go_sem,hl,d0,d1,d2,d3,d4,d5,d6,d7,d8,d9,dX]) rfl ⟨_,_,_,_,_,_,_,_,_,_,_,_,_,rfl,Is.node1 hbx hle (Is.lower (Nat.le_of_lt hNBq) _ ((Hiq.out.put11 hNBq).alloc _)) rfl 10 0 [] [] 0 t.at_ 1,HH.out.fin HR.out hn,hn.gr⟩
theorem zFU {ts:List RT}{rec:Nat → St → Out}{s:St}{x:Ex × St}(h:creation ts rec s = some x)(hv:sees ts (next s.c) 4 [91] = false):x = (Ex.of 8 0 [] (name ts (next s.c)).1 0 [] (peek ts s.c).at_,⟨(name ts (next s.c)).2,s.o⟩):=by
 simp only [creation,hv,Bool.false_eq_true,if_false,Option.some.injEq] at h
 exact h.symm
theorem zE4 {ts:List RT}{rec:Nat → St → Out}{s:St}{x:Ex × St}(h:creation ts rec s = some x)(hv:sees ts (next s.c) 4 [91] = true):∃ e s2,enclosed ts rec ⟨(sign ts (readType ts (next (next s.c))).2.2 [93]).2,s.o⟩ [40] [41] = some (e,s2) ∧ x = (Ex.of 9 0 [] (readType ts (next (next s.c))).1 (readType ts (next (next s.c))).2.1 [e] (peek ts s.c).at_,s2):=by
 simp only [creation,hv,if_true] at h
 split at h
 ·cases h
 ·rename_i e s2 he
  exact ⟨e,s2,he,by simpa using h.symm⟩
theorem zDd (w:World)(R M1 M2 M3:Nat)(S:Value)(ts:List RT)(s:St)(h:Rs w R M1 M2 M3 S ts s)(hv:sees ts (next s.c) 4 [91] = false) :
 Calls Tryz.prog 170 #[.pointer (some ⟨R,0,none⟩)] w (ExPost w.heap.size w R M1 M2 M3 S ts (Ex.of 8 0 [] (name ts (next s.c)).1 0 [] (peek ts s.c).at_,⟨(name ts (next s.c)).2,s.o⟩)):=by
 have hp:=fun w1 hh => zL w1 R 192 S [.int .i64 s.o,.map (some M1),.map (some M2),.map (some M3)] ts s.c hh
 have hs:=fun w1 hh => zG w1 R 192 S [.int .i64 s.o,.map (some M1),.map (some M2),.map (some M3)] ts (next s.c) hh ⟨#[91]⟩
 have hq:=fun w1 hh => name_any w1 R 192 S [.int .i64 s.o,.map (some M1),.map (some M2),.map (some M3)] ts (next s.c) hh
 generalize peek ts s.c = t at hp ⊢
 unfold tokW at hp
 generalize name ts (next s.c) = y at hq ⊢
 obtain ⟨nm,c2⟩:=y
 dsimp only at hq ⊢
 have hfd:∀ w1:World,(Instr.field 52 (.agg #[.int .i64 t.kind,.string (cbs t.text),.int .i64 t.num,.int .i64 t.at_]) 3).run Tryz.prog w1 = .ok (.int .i64 t.at_) w1:=fun _ => by kernel_rfl
 have HP:=vH hp
 have HQ:=vH hq
 have HS:=vH hs
 have HV:=vH hv
 clear hp hq hs hv
 have hb0:Below w.heap.size w (w.alloc (.cells vE 111)):=(Below.refl w.heap.size w).alloc (Nat.le_refl _) _
 have hlt:=h.lt
 have HH:=vH h
 have HR:=vH (h.go hb0)
 have HG:=vH (Gr.refl R (w.alloc (.cells vE 111)))
 clear h hb0
 go_in
 go_wp2_with fail
 refine (HP.out _ HR.out.cu).mono ?_
 rintro e w1 ⟨rfl,hc,hg⟩
 have HGx:=vH (HG.out.trans hg)
 have HRx:=vH (HR.out.cur hg hc)
 clear HG HR
 have HG:=HGx
 have HR:=HRx
 clear HGx HRx hc hg
 go_wp2_with fail
 refine (HS.out _ HR.out.cu).mono ?_
 rintro e w2 ⟨rfl,hb⟩
 have HGx:=vH (HG.out.below hb)
 have HRx:=vH (HR.out.go hb)
 clear HG HR
 have HG:=HGx
 have HR:=HRx
 clear HGx HRx hb
 rw [HV.out]
 go_wp2_with fail
 refine (HQ.out _ HR.out.cu).mono ?_
 rintro e w3 ⟨rfl,hc,hg⟩
 have HGx:=vH (HG.out.trans hg)
 have HRx:=vH (HR.out.cur hg hc)
 clear HG HR
 have HG:=HGx
 have HR:=HRx
 clear HGx HRx hc hg
 have hk:=mine HG.out hlt
 obtain ⟨⟨d0,d1,d2,d3,d4,d5,d6,d7,d8,d9,dX⟩,g0,g1,g2,g3,g4,g5,g6,g7,g8,g9,gX⟩:=hen hk
 have hl:=zA hk
 clear hk
 go_wp2_with fail
 have hn:=(Nw.start ((Gr.alloc (Gr.refl R w) _).trans HG.out)).pv (.int .i64 8) (.int .i64 0) (.string ⟨#[]⟩) (.string (cbs nm)) (.int .i64 0) (.slice none 0 0) (.int .i64 t.at_) (.int .i64 0) (.int .i64 0) (.int .i64 0) (.int .i64 0)
 exact bodyPost_ret (v:=.agg #[.int .i64 8,.int .i64 0,.string ⟨#[]⟩,.string (cbs nm),.int .i64 0,.slice none 0 0,.int .i64 t.at_,.int .i64 0,.int .i64 0,.int .i64 0,.int .i64 0]) (by simp [results,Tryz.results170,go_sem,d0,d1,d2,d3,d4,d5,d6,d7,d8,d9,dX]) rfl ⟨_,_,_,_,_,_,_,_,_,_,_,_,_,rfl,Is.leaf 8 0 [] nm 0 t.at_,HH.out.fin HR.out hn,hn.gr⟩
theorem zCA (w:World)(R M1 M2 M3:Nat)(S:Value)(ts:List RT)(s:St)(h:Rs w R M1 M2 M3 S ts s)(rec:Nat → St → Out)(hrec:RecOk ts rec)(hv:sees ts (next s.c) 4 [91] = true)(e0:Ex)(s2:St)(he:enclosed ts rec ⟨(sign ts (readType ts (next (next s.c))).2.2 [93]).2,s.o⟩ [40] [41] = some (e0,s2)) :
 Calls Tryz.prog 170 #[.pointer (some ⟨R,0,none⟩)] w (ExPost w.heap.size w R M1 M2 M3 S ts (Ex.of 9 0 [] (readType ts (next (next s.c))).1 (readType ts (next (next s.c))).2.1 [e0] (peek ts s.c).at_,s2)):=by
 have hp:=fun w1 hh => zL w1 R 192 S [.int .i64 s.o,.map (some M1),.map (some M2),.map (some M3)] ts s.c hh
 have hs:=fun w1 hh => zG w1 R 192 S [.int .i64 s.o,.map (some M1),.map (some M2),.map (some M3)] ts (next s.c) hh ⟨#[91]⟩
 have hn:=fun w1 hh => zL w1 R 192 S [.int .i64 s.o,.map (some M1),.map (some M2),.map (some M3)] ts (next s.c) hh
 have hq:=fun w1 hh => zBv w1 R 192 S [.int .i64 s.o,.map (some M1),.map (some M2),.map (some M3)] ts (next (next s.c)) hh
 generalize peek ts s.c = t at hp ⊢
 unfold tokW at hp
 generalize readType ts (next (next s.c)) = y at hq he ⊢
 obtain ⟨nm,dm,c2⟩:=y
 dsimp only at hq he ⊢
 have hg:=fun w1 hh => zJ w1 R 192 S [.int .i64 s.o,.map (some M1),.map (some M2),.map (some M3)] ts c2 hh ⟨#[93]⟩
 have HE:=vH (fun w1 hh => zA3 w1 R M1 M2 M3 S ts ⟨(sign ts c2 [93]).2,s.o⟩ hh rec hrec ⟨#[40]⟩ ⟨#[41]⟩ (e0,s2) he)
 clear hrec he
 have hfd:∀ w1:World,(Instr.field 52 (.agg #[.int .i64 t.kind,.string (cbs t.text),.int .i64 t.num,.int .i64 t.at_]) 3).run Tryz.prog w1 = .ok (.int .i64 t.at_) w1:=fun _ => by kernel_rfl
 have HP:=vH hp
 have HQ:=vH hq
 have HS:=vH hs
 have HN:=vH hn
 have HSG:=vH hg
 have HV:=vH hv
 clear hp hq hs hn hg hv
 have hb0:Below w.heap.size w (w.alloc (.cells vE 111)):=(Below.refl w.heap.size w).alloc (Nat.le_refl _) _
 have hlt:=h.lt
 have HH:=vH h
 have HR:=vH (h.go hb0)
 have HG:=vH (Gr.refl R (w.alloc (.cells vE 111)))
 clear h hb0
 go_in
 go_wp2_with fail
 refine (HP.out _ HR.out.cu).mono ?_
 rintro e w1 ⟨rfl,hc,hg⟩
 have HGx:=vH (HG.out.trans hg)
 have HRx:=vH (HR.out.cur hg hc)
 clear HG HR
 have HG:=HGx
 have HR:=HRx
 clear HGx HRx hc hg
 go_wp2_with fail
 refine (HS.out _ HR.out.cu).mono ?_
 rintro e w2 ⟨rfl,hb⟩
 have HGx:=vH (HG.out.below hb)
 have HRx:=vH (HR.out.go hb)
 clear HG HR
 have HG:=HGx
 have HR:=HRx
 clear HGx HRx hb
 rw [HV.out]
 go_wp2_with fail
 refine (HN.out _ HR.out.cu).mono ?_
 rintro e w3 ⟨rfl,hc,hg⟩
 have HGx:=vH (HG.out.trans hg)
 have HRx:=vH (HR.out.cur hg hc)
 clear HG HR
 have HG:=HGx
 have HR:=HRx
 clear HGx HRx hc hg
 go_wp2_with fail
 refine (HQ.out _ HR.out.cu).mono ?_
 rintro e w4 ⟨rfl,hc,hg⟩
 have HGx:=vH (HG.out.trans hg)
 have HRx:=vH (HR.out.cur hg hc)
 clear HG HR
 have HG:=HGx
 have HR:=HRx
 clear HGx HRx hc hg
 go_wp2_with fail
 have hnb:w.heap.size < w4.heap.size:=(Nat.lt_of_lt_of_le (by rw [zB]; exact Nat.lt_succ_self _:w.heap.size < (w.alloc (.cells vE 111)).heap.size) HG.out.size)
 refine (HSG.out _ (HR.out.go ((Below.refl _ _).alloc (Nat.le_refl _) _)).cu).mono ?_
 rintro e w5 ⟨rfl,hc,hg⟩
 have hr:=(HR.out.go ((Below.refl _ _).alloc (Nat.le_refl _) _)).cur hg hc
 clear hc
 have hkb:=mine hg HR.out.lt
 have HGx:=vH ((HG.out.alloc _).trans hg)
 have HRx:=vH (hr)
 clear HG HR
 have HG:=HGx
 have HR:=HRx
 clear HGx HRx hr hg
 have HKP1:Hid (w5.drew.heap[w4.heap.size]? = some (.cells #[.string (cbs nm),.int .i64 dm] 59 (0,0))):=hkb
 have hne:w4.heap.size ≠ w.heap.size:=Nat.ne_of_gt hnb
 obtain ⟨⟨x0,x1⟩,⟨y0,y1⟩,hlx⟩:=duo hkb
 clear hkb
 have hk:=mine HG.out hlt
 obtain ⟨⟨d0,d1,d2,d3,d4,d5,d6,d7,d8,d9,dX⟩,g0,g1,g2,g3,g4,g5,g6,g7,g8,g9,gX⟩:=hen hk
 have hl:=zA hk
 clear hk
 go_wp2_with fail
 have HC1:=vH (HR.out.go (Below.refl _ _).drew)
 have hNBq:w.heap.size < w5.heap.size:=(Nat.lt_of_lt_of_le (by rw [zB]; exact Nat.lt_succ_self _:w.heap.size < (w.alloc (.cells vE 111)).heap.size) HG.out.size)
 go_region_held3 (fun w' => w'.cell? ⟨w4.heap.size,0,none⟩ = some (.string (cbs nm)) ∧ w'.cell? ⟨w4.heap.size,1,none⟩ = some (.int .i64 dm)) (with_reducible first | exact (duo HKP1.out).1 | exact (duo HKP2.out).1 | exact (duo (zE _ HKP2.out)).1 | exact (duo (zM HKP2.out hne)).1 | exact (duo (zE _ (zM HKP2.out hne))).1) (first
  | (go_at_call 179; (with_reducible refine Calls.mono (HE.out _ HC1.out) ?_); rintro e w6 ⟨qk,qn,qs,qo,qd,qp,ql,qc,qa,qb,qr,qe,qf,rfl,hi,hr,hg⟩; have HG2:=vH ((HG.out.trans (Gr.of (Below.refl _ _).drew)).trans hg); have HR2:=vH hr; have Hiq:=vH hi; have HKP2:=vH (hg.box HKP1.out (Nat.ne_of_gt (Nat.lt_of_lt_of_le hlt (Nat.le_of_lt hnb)))); clear d0 d1 d2 d3 d4 d5 d6 d7 d8 d9 dX g0 g1 g2 g3 g4 g5 g6 g7 g8 g9 gX hl hr hi hg; have hk:=mine HG2.out hlt; obtain ⟨⟨v0,v1,v2,v3,v4,v5,v6,v7,v8,v9,vX⟩,p0,p1,p2,p3,p4,p5,p6,p7,p8,p9,pX⟩:=hen hk; have hm:=zA hk; clear hk))
 go_wp2_with fail
 have hn:=((Nw.start ((Gr.alloc (Gr.refl R w) _).trans HG2.out)).pv (.int .i64 9) (.int .i64 0) (.string ⟨#[]⟩) (.string (cbs nm)) (.int .i64 dm) (.slice (some ⟨w6.heap.size,0,none⟩) 1 1) (.int .i64 t.at_) (.int .i64 0) (.int .i64 0) (.int .i64 0) (.int .i64 0)).alloc (.cells #[.int .i64 qk,.int .i64 qn,.string (cbs qs),.string (cbs qo),.int .i64 qd,.slice qp ql qc,.int .i64 qa,.int .i64 qb,.int .i64 qr,.int .i64 qe,.int .i64 qf] 111)
 have hbx:=zAD (w:=w6) (N:=w.heap.size) (o:=.cells #[.int .i64 qk,.int .i64 qn,.string (cbs qs),.string (cbs qo),.int .i64 qd,.slice qp ql qc,.int .i64 qa,.int .i64 qb,.int .i64 qr,.int .i64 qe,.int .i64 qf] 111) (c0:=.int .i64 9) (c1:=.int .i64 0) (c2:=.string ⟨#[]⟩) (c3:=.string (cbs nm)) (c4:=.int .i64 dm) (c5:=.slice (some ⟨w6.heap.size,0,none⟩) 1 1) (c6:=.int .i64 t.at_) (c7:=.int .i64 0) (c8:=.int .i64 0) (c9:=.int .i64 0) (c10:=.int .i64 0)
 have hle:w.heap.size ≤ w6.heap.size:=Nat.le_of_lt hm
 exact bodyPost_ret (v:=.agg #[.int .i64 9,.int .i64 0,.string ⟨#[]⟩,.string (cbs nm),.int .i64 dm,.slice (some ⟨w6.heap.size,0,none⟩) 1 1,.int .i64 t.at_,.int .i64 0,.int .i64 0,.int .i64 0,.int .i64 0]) (by simp [results,Tryz.results170,go_sem,hm,v0,v1,v2,v3,v4,v5,v6,v7,v8,v9,vX]) rfl ⟨_,_,_,_,_,_,_,_,_,_,_,_,_,rfl,Is.node1 hbx hle (Is.lower (Nat.le_of_lt hNBq) _ ((Hiq.out.put11 (N:=w.heap.size) hNBq).alloc _)) rfl 9 0 [] nm dm t.at_ 1,HH.out.fin HR2.out hn,hn.gr⟩
theorem zE5 (w:World)(R M1 M2 M3:Nat)(S:Value)(ts:List RT)(s:St)(h:Rs w R M1 M2 M3 S ts s)(rec:Nat → St → Out)(hrec:RecOk ts rec)(x:Ex × St)(hx:creation ts rec s = some x) :
 Calls Tryz.prog 170 #[.pointer (some ⟨R,0,none⟩)] w (ExPost w.heap.size w R M1 M2 M3 S ts x):=by
 cases hv:sees ts (next s.c) 4 [91] with
 | true =>
   obtain ⟨e0,s2,he,rfl⟩:=zE4 hx hv
   exact zCA w R M1 M2 M3 S ts s h rec hrec hv e0 s2 he
 | false =>
   rw [zFU hx hv]
   exact zDd w R M1 M2 M3 S ts s h hv
end Go.Proofs.YtipmjjfknhblnaaGreatDoor
