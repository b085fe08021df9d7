/-
  The contracts of the project's reader: what begins with a ke
-/
import Derived.Test.YtipmjjfknhblnaaGreatDoorK09
import Derived.Test.YtipmjjfknhblnaaGreatDoorK07
import Derived.Test.YtipmjjfknhblnaaGreatDoorK10
import Derived.Test.YtipmjjfknhblnaaGreatDoorK02
import Derived.Deep.RegionHeld3
import Derived.Laws.StructEq
import Derived.Shelf.Abstract
set_option maxRecDepth 8000
set_option maxHeartbeats 8000000
namespace Go.Proofs.YtipmjjfknhblnaaGreatDoor
open Go.RowKit
open Px (RT tokAt)
open Pe
theorem zAO {l l2:List UInt8}(h:l ≠ l2):(cbs l == (⟨l2.toArray⟩:ByteArray)) = false:=by
 rw [beq_toListBytes,zR,show (⟨l2.toArray⟩:ByteArray).toList = l2 from zR l2,beq_eq_false_iff_ne]
 exact h
theorem zJE {l:List UInt8}(h:l = [116,114,117,101]){w:World}{M:Nat}(hb:w.heap[M]? = some (.map mapWord 6)) :
 (Instr.lookup 189 (.map (some M)) (.string (cbs l)) true).run Tryz.prog w = .ok (.tuple #[.func (.func 168) #[] #[],.bool true]) w:=by
 subst h
 exact zHU hb
theorem zJD {l:List UInt8}(h:l = [102,97,108,115,101]){w:World}{M:Nat}(hb:w.heap[M]? = some (.map mapWord 6)) :
 (Instr.lookup 189 (.map (some M)) (.string (cbs l)) true).run Tryz.prog w = .ok (.tuple #[.func (.func 168) #[] #[],.bool true]) w:=by
 subst h
 exact zHT hb
theorem zJC {l:List UInt8}(h:l = [110,117,108,108]){w:World}{M:Nat}(hb:w.heap[M]? = some (.map mapWord 6)) :
 (Instr.lookup 189 (.map (some M)) (.string (cbs l)) true).run Tryz.prog w = .ok (.tuple #[.func (.func 169) #[] #[],.bool true]) w:=by
 subst h
 exact zHS hb
theorem zJB {l:List UInt8}(h:l = [110,101,119]){w:World}{M:Nat}(hb:w.heap[M]? = some (.map mapWord 6)) :
 (Instr.lookup 189 (.map (some M)) (.string (cbs l)) true).run Tryz.prog w = .ok (.tuple #[.func (.func 170) #[] #[],.bool true]) w:=by
 subst h
 exact zHR hb
theorem zJA {l:List UInt8}(h:l = [108,101,110]){w:World}{M:Nat}(hb:w.heap[M]? = some (.map mapWord 6)) :
 (Instr.lookup 189 (.map (some M)) (.string (cbs l)) true).run Tryz.prog w = .ok (.tuple #[.func (.func 171) #[] #[],.bool true]) w:=by
 subst h
 exact zHQ hb
theorem zJz {l:List UInt8}(h:l = [114,101,97,100]){w:World}{M:Nat}(hb:w.heap[M]? = some (.map mapWord 6)) :
 (Instr.lookup 189 (.map (some M)) (.string (cbs l)) true).run Tryz.prog w = .ok (.tuple #[.func (.func 172) #[] #[],.bool true]) w:=by
 subst h
 exact zHP hb
theorem zNF (w:World)(R M1 M2 M3:Nat)(S:Value)(ts:List RT)(s:St)(h:Rs w R M1 M2 M3 S ts s){kf:Nat}(hen0:∀ (args:Array Value)(w:World),(callFunc kf args).run Tryz.prog w = .ok (.enter kf args) w){res:Ex × St}(hE:∀ w1,Rs w1 R M1 M2 M3 S ts s → Calls Tryz.prog kf #[.pointer (some ⟨R,0,none⟩)] w1 (ExPost w1.heap.size w1 R M1 M2 M3 S ts res))(hL:∀ w1:World,w1.heap[M2]? = some (.map mapWord 6) → (Instr.lookup 189 (.map (some M2)) (.string (cbs (peek ts s.c).text)) true).run Tryz.prog w1 = .ok (.tuple #[.func (.func kf) #[] #[],.bool true]) w1) :
 Calls Tryz.prog 166 #[.pointer (some ⟨R,0,none⟩)] w (ExPost w.heap.size w R M1 M2 M3 S ts res):=by
 have HE:=vH hE
 have hp:=fun w1 hh => zU w1 R 192 S [.int .i64 s.o,.map (some M1),.map (some M2),.map (some M3)] ts s.c hh
 generalize ht0:peek ts s.c = t at hp hL
 unfold tokW at hp
 have hfd:∀ w1:World,(Instr.field 52 (.agg #[.int .i64 t.kind,.string (cbs t.text),.int .i64 t.num,.int .i64 t.at_]) 1).run Tryz.prog w1 = .ok (.string (cbs t.text)) w1:=fun _ => by kernel_rfl
 have HP:=vH hp
 have HL:=vH hL
 clear hp ht0 hL hE
 have hb0:Below w.heap.size w (w.alloc (.cells vE 111)):=(Below.refl w.heap.size w).alloc (Nat.le_refl _) _
 have hlt:=h.lt
 have HH:=vH h
 have HR:=vH (h.go hb0)
 have HG:=vH (Gr.refl R (w.alloc (.cells vE 111)))
 clear h hb0
 go_in
 obtain ⟨o4,o5,o6,o7,f4⟩:=HR.out.open_
 clear o4 f4 o5 o7
 have HRD:=vH (HR.out.go (Below.refl _ _).drew)
 go_wp2_with fail
 go_region_held3 (fun w' => w'.cell? ⟨R,6,none⟩ = some (.map (some M2))) (first | exact o6 | exact oo) (first
  | (go_at_call 36; (with_reducible refine Calls.mono (HP.out _ HRD.out.cu) ?_); rintro e w1 ⟨rfl,hb⟩; have HR2:=vH (HRD.out.go hb); have HG2:=vH ((HG.out.trans (Gr.of (Below.refl _ _).drew)).trans (Gr.of hb)); clear hb; have oo:=HR2.out.open_; replace oo:=oo.2.2.1; have hlk:=HL.out _ HR2.out.m2))
 clear HR HG HRD oo o6
 have HR:=HR2
 have HG:=HG2
 clear HR2 HG2
 go_wp2_with fail
 have hRBq:=HR.out.lt
 have hNBq:=Nat.lt_of_lt_of_le (by rw [zB]; exact Nat.lt_succ_self _:w.heap.size < (w.alloc (.cells vE 111)).heap.size) HG.out.size
 refine (HE.out _ HR.out).mono ?_
 rintro e w2 ⟨qk,qn,qs,qo,qd,qp,ql,qc,qa,qb,qr,qe,qf,rfl,hi,hr,hg⟩
 have Hiq:=vH hi
 have HGx:=vH (HG.out.trans hg)
 have HRx:=vH (hr)
 clear HG HR
 have HG:=HGx
 have HR:=HRx
 clear HGx HRx hr hg hi
 have hk:=mine HG.out hlt
 obtain ⟨⟨d0,d1,d2,d3,d4,d5,d6,d7,d8,d9,dX⟩,g0,g1,g2,g3,g4,g5,g6,g7,g8,g9,gX⟩:=hen hk
 have hl:=zA hk
 clear hk
 go_wp2_with fail
 have hn:=(Nw.start ((Gr.alloc (Gr.refl R w) _).trans HG.out)).pv (.int .i64 qk) (.int .i64 qn) (.string (cbs qs)) (.string (cbs qo)) (.int .i64 qd) (.slice qp ql qc) (.int .i64 qa) (.int .i64 qb) (.int .i64 qr) (.int .i64 qe) (.int .i64 qf)
 exact bodyPost_ret (v:=.agg #[.int .i64 qk,.int .i64 qn,.string (cbs qs),.string (cbs qo),.int .i64 qd,.slice qp ql qc,.int .i64 qa,.int .i64 qb,.int .i64 qr,.int .i64 qe,.int .i64 qf]) (by simp [results,Tryz.results166,go_sem,d0,d1,d2,d3,d4,d5,d6,d7,d8,d9,dX]) rfl ⟨_,_,_,_,_,_,_,_,_,_,_,_,_,rfl,Is.lower (Nat.le_of_lt hNBq) _ (Hiq.out.put11 hNBq),HH.out.fin HR.out hn,hn.gr⟩
theorem zL6 (w:World)(R M1 M2 M3:Nat)(S:Value)(ts:List RT)(s:St)(h:Rs w R M1 M2 M3 S ts s)(HT:(peek ts s.c).text ≠ [116,114,117,101] ∧ (peek ts s.c).text ≠ [102,97,108,115,101] ∧ (peek ts s.c).text ≠ [110,117,108,108] ∧ (peek ts s.c).text ≠ [110,101,119] ∧ (peek ts s.c).text ≠ [108,101,110] ∧ (peek ts s.c).text ≠ [114,101,97,100]) :
 Calls Tryz.prog 166 #[.pointer (some ⟨R,0,none⟩)] w (ExPost w.heap.size w R M1 M2 M3 S ts (refuse ts s)):=by
 have HE:=vH (fun w1 hh => zDr w1 R M1 M2 M3 S ts s hh)
 generalize hres:(refuse ts s) = res at HE ⊢
 clear hres
 have hp:=fun w1 hh => zU w1 R 192 S [.int .i64 s.o,.map (some M1),.map (some M2),.map (some M3)] ts s.c hh
 generalize ht0:peek ts s.c = t at hp HT
 unfold tokW at hp
 have hfd:∀ w1:World,(Instr.field 52 (.agg #[.int .i64 t.kind,.string (cbs t.text),.int .i64 t.num,.int .i64 t.at_]) 1).run Tryz.prog w1 = .ok (.string (cbs t.text)) w1:=fun _ => by kernel_rfl
 have HP:=vH hp
 have HTH:=vH HT
 clear hp ht0 HT
 have hb0:Below w.heap.size w (w.alloc (.cells vE 111)):=(Below.refl w.heap.size w).alloc (Nat.le_refl _) _
 have hlt:=h.lt
 have HH:=vH h
 have HR:=vH (h.go hb0)
 have HG:=vH (Gr.refl R (w.alloc (.cells vE 111)))
 clear h hb0
 go_in
 obtain ⟨o4,o5,o6,o7,f4⟩:=HR.out.open_
 clear o4 f4 o5 o7
 have HRD:=vH (HR.out.go (Below.refl _ _).drew)
 go_wp2_with fail
 go_region_held3 (fun w' => w'.cell? ⟨R,6,none⟩ = some (.map (some M2))) (first | exact o6 | exact oo) (first
  | (go_at_call 36; (with_reducible refine Calls.mono (HP.out _ HRD.out.cu) ?_); rintro e w1 ⟨rfl,hb⟩; have HR2:=vH (HRD.out.go hb); have HG2:=vH ((HG.out.trans (Gr.of (Below.refl _ _).drew)).trans (Gr.of hb)); clear hb; have oo:=HR2.out.open_; replace oo:=oo.2.2.1; have hlk:=zDI (cbs t.text) (zAO HTH.out.1) (zAO HTH.out.2.1) (zAO HTH.out.2.2.1) (zAO HTH.out.2.2.2.1) (zAO HTH.out.2.2.2.2.1) (zAO HTH.out.2.2.2.2.2) HR2.out.m2))
 clear HR HG HRD oo o6
 have HR:=HR2
 have HG:=HG2
 clear HR2 HG2
 go_wp2_with fail
 have hRBq:=HR.out.lt
 have hNBq:=Nat.lt_of_lt_of_le (by rw [zB]; exact Nat.lt_succ_self _:w.heap.size < (w.alloc (.cells vE 111)).heap.size) HG.out.size
 refine (HE.out _ HR.out).mono ?_
 rintro e w2 ⟨qk,qn,qs,qo,qd,qp,ql,qc,qa,qb,qr,qe,qf,rfl,hi,hr,hg⟩
 have Hiq:=vH hi
 have HGx:=vH (HG.out.trans hg)
 have HRx:=vH (hr)
 clear HG HR
 have HG:=HGx
 have HR:=HRx
 clear HGx HRx hr hg hi
 have hk:=mine HG.out hlt
 obtain ⟨⟨d0,d1,d2,d3,d4,d5,d6,d7,d8,d9,dX⟩,g0,g1,g2,g3,g4,g5,g6,g7,g8,g9,gX⟩:=hen hk
 have hl:=zA hk
 clear hk
 go_wp2_with fail
 have hn:=(Nw.start ((Gr.alloc (Gr.refl R w) _).trans HG.out)).pv (.int .i64 qk) (.int .i64 qn) (.string (cbs qs)) (.string (cbs qo)) (.int .i64 qd) (.slice qp ql qc) (.int .i64 qa) (.int .i64 qb) (.int .i64 qr) (.int .i64 qe) (.int .i64 qf)
 exact bodyPost_ret (v:=.agg #[.int .i64 qk,.int .i64 qn,.string (cbs qs),.string (cbs qo),.int .i64 qd,.slice qp ql qc,.int .i64 qa,.int .i64 qb,.int .i64 qr,.int .i64 qe,.int .i64 qf]) (by simp [results,Tryz.results166,go_sem,d0,d1,d2,d3,d4,d5,d6,d7,d8,d9,dX]) rfl ⟨_,_,_,_,_,_,_,_,_,_,_,_,_,rfl,Is.lower (Nat.le_of_lt hNBq) _ (Hiq.out.put11 hNBq),HH.out.fin HR.out hn,hn.gr⟩
theorem zFL (w:World)(R M1 M2 M3:Nat)(S:Value)(ts:List RT)(s:St)(h:Rs w R M1 M2 M3 S ts s)(rec:Nat → St → Out)(hrec:RecOk ts rec)(x:Ex × St)(hx:keyword ts rec s = some x) :
 Calls Tryz.prog 166 #[.pointer (some ⟨R,0,none⟩)] w (ExPost w.heap.size w R M1 M2 M3 S ts x):=by
 simp only [keyword] at hx
 by_cases h0:(peek ts s.c).text = [116,114,117,101]
 ·rw [if_pos h0] at hx
  injection hx with hx
  subst hx
  exact zNF w R M1 M2 M3 S ts s h (enters_of Tryz.func168 (by kernel_rfl) rfl) (fun w1 hh => zEf w1 R M1 M2 M3 S ts s hh) (fun _ hb => zJE h0 hb)
 rw [if_neg h0] at hx
 by_cases h1:(peek ts s.c).text = [102,97,108,115,101]
 ·rw [if_pos h1] at hx
  injection hx with hx
  subst hx
  exact zNF w R M1 M2 M3 S ts s h (enters_of Tryz.func168 (by kernel_rfl) rfl) (fun w1 hh => zEf w1 R M1 M2 M3 S ts s hh) (fun _ hb => zJD h1 hb)
 rw [if_neg h1] at hx
 by_cases h2:(peek ts s.c).text = [110,117,108,108]
 ·rw [if_pos h2] at hx
  injection hx with hx
  subst hx
  exact zNF w R M1 M2 M3 S ts s h (enters_of Tryz.func169 (by kernel_rfl) rfl) (fun w1 hh => zKj w1 R M1 M2 M3 S ts s hh) (fun _ hb => zJC h2 hb)
 rw [if_neg h2] at hx
 by_cases h3:(peek ts s.c).text = [110,101,119]
 ·rw [if_pos h3] at hx
  exact zNF w R M1 M2 M3 S ts s h (enters_of Tryz.func170 (by kernel_rfl) rfl) (fun w1 hh => zE5 w1 R M1 M2 M3 S ts s hh rec hrec x hx) (fun _ hb => zJB h3 hb)
 rw [if_neg h3] at hx
 by_cases h4:(peek ts s.c).text = [108,101,110]
 ·rw [if_pos h4] at hx
  exact zNF w R M1 M2 M3 S ts s h (enters_of Tryz.func171 (by kernel_rfl) rfl) (fun w1 hh => zHv w1 R M1 M2 M3 S ts s hh rec hrec x hx) (fun _ hb => zJA h4 hb)
 rw [if_neg h4] at hx
 by_cases h5:(peek ts s.c).text = [114,101,97,100]
 ·rw [if_pos h5] at hx
  injection hx with hx
  subst hx
  exact zNF w R M1 M2 M3 S ts s h (enters_of Tryz.func172 (by kernel_rfl) rfl) (fun w1 hh => zI4 w1 R M1 M2 M3 S ts s hh) (fun _ hb => zJz h5 hb)
 rw [if_neg h5] at hx
 injection hx with hx
 subst hx
 exact zL6 w R M1 M2 M3 S ts s h ⟨h0,h1,h2,h3,h4,h5⟩
theorem zNJ (w:World)(R M1 M2 M3:Nat)(S:Value)(ts:List RT)(s:St)(h:Rs w R M1 M2 M3 S ts s){kf:Nat}(hen0:∀ (args:Array Value)(w:World),(callFunc kf args).run Tryz.prog w = .ok (.enter kf args) w){res:Ex × St}(hE:∀ w1,Rs w1 R M1 M2 M3 S ts s → Calls Tryz.prog kf #[.pointer (some ⟨R,0,none⟩)] w1 (ExPost w1.heap.size w1 R M1 M2 M3 S ts res))(hL:∀ w1:World,w1.heap[M1]? = some (.map (mapKind R) 4) → (Instr.lookup 188 (.map (some M1)) (.int .i64 (peek ts s.c).kind) true).run Tryz.prog w1 = .ok (.tuple #[.func (.func kf) #[.pointer (some ⟨R,0,none⟩)] #[],.bool true]) w1) :
 Calls Tryz.prog 183 #[.pointer (some ⟨R,0,none⟩)] w (ExPost w.heap.size w R M1 M2 M3 S ts res):=by
 have HE:=vH hE
 have hp:=fun w1 hh => zU w1 R 192 S [.int .i64 s.o,.map (some M1),.map (some M2),.map (some M3)] ts s.c hh
 generalize ht0:peek ts s.c = t at hp hL
 unfold tokW at hp
 have hfd:∀ w1:World,(Instr.field 52 (.agg #[.int .i64 t.kind,.string (cbs t.text),.int .i64 t.num,.int .i64 t.at_]) 0).run Tryz.prog w1 = .ok (.int .i64 t.kind) w1:=fun _ => by kernel_rfl
 have HP:=vH hp
 have HL:=vH hL
 clear hp ht0 hL hE
 have hb0:Below w.heap.size w (w.alloc (.cells vE 111)):=(Below.refl w.heap.size w).alloc (Nat.le_refl _) _
 have hlt:=h.lt
 have HH:=vH h
 have HR:=vH (h.go hb0)
 have HG:=vH (Gr.refl R (w.alloc (.cells vE 111)))
 clear h hb0
 go_in
 obtain ⟨o4,o5,o6,o7,f4⟩:=HR.out.open_
 clear o4 f4 o6 o7
 have HRD:=vH (HR.out.go (Below.refl _ _).drew)
 go_wp2_with fail
 go_region_held3 (fun w' => w'.cell? ⟨R,5,none⟩ = some (.map (some M1))) (first | exact o5 | exact oo) (first
  | (go_at_call 36; (with_reducible refine Calls.mono (HP.out _ HRD.out.cu) ?_); rintro e w1 ⟨rfl,hb⟩; have HR2:=vH (HRD.out.go hb); have HG2:=vH ((HG.out.trans (Gr.of (Below.refl _ _).drew)).trans (Gr.of hb)); clear hb; have oo:=HR2.out.open_; replace oo:=oo.2.1; have hlk:=HL.out _ HR2.out.m1))
 clear HR HG HRD oo o5
 have HR:=HR2
 have HG:=HG2
 clear HR2 HG2
 go_wp2_with fail
 have hRBq:=HR.out.lt
 have hNBq:=Nat.lt_of_lt_of_le (by rw [zB]; exact Nat.lt_succ_self _:w.heap.size < (w.alloc (.cells vE 111)).heap.size) HG.out.size
 refine (HE.out _ HR.out).mono ?_
 rintro e w2 ⟨qk,qn,qs,qo,qd,qp,ql,qc,qa,qb,qr,qe,qf,rfl,hi,hr,hg⟩
 have Hiq:=vH hi
 have HGx:=vH (HG.out.trans hg)
 have HRx:=vH (hr)
 clear HG HR
 have HG:=HGx
 have HR:=HRx
 clear HGx HRx hr hg hi
 have hk:=mine HG.out hlt
 obtain ⟨⟨d0,d1,d2,d3,d4,d5,d6,d7,d8,d9,dX⟩,g0,g1,g2,g3,g4,g5,g6,g7,g8,g9,gX⟩:=hen hk
 have hl:=zA hk
 clear hk
 go_wp2_with fail
 have hn:=(Nw.start ((Gr.alloc (Gr.refl R w) _).trans HG.out)).pv (.int .i64 qk) (.int .i64 qn) (.string (cbs qs)) (.string (cbs qo)) (.int .i64 qd) (.slice qp ql qc) (.int .i64 qa) (.int .i64 qb) (.int .i64 qr) (.int .i64 qe) (.int .i64 qf)
 exact bodyPost_ret (v:=.agg #[.int .i64 qk,.int .i64 qn,.string (cbs qs),.string (cbs qo),.int .i64 qd,.slice qp ql qc,.int .i64 qa,.int .i64 qb,.int .i64 qr,.int .i64 qe,.int .i64 qf]) (by simp [results,Tryz.results183,go_sem,d0,d1,d2,d3,d4,d5,d6,d7,d8,d9,dX]) rfl ⟨_,_,_,_,_,_,_,_,_,_,_,_,_,rfl,Is.lower (Nat.le_of_lt hNBq) _ (Hiq.out.put11 hNBq),HH.out.fin HR.out hn,hn.gr⟩
theorem zLR (w:World)(R M1 M2 M3:Nat)(S:Value)(ts:List RT)(s:St)(h:Rs w R M1 M2 M3 S ts s)(HT:(peek ts s.c).kind ≠ 1 ∧ (peek ts s.c).kind ≠ 2 ∧ (peek ts s.c).kind ≠ 3 ∧ (peek ts s.c).kind ≠ 4) :
 Calls Tryz.prog 183 #[.pointer (some ⟨R,0,none⟩)] w (ExPost w.heap.size w R M1 M2 M3 S ts (refuse ts s)):=by
 have HE:=vH (fun w1 hh => zDr w1 R M1 M2 M3 S ts s hh)
 generalize hres:(refuse ts s) = res at HE ⊢
 clear hres
 have hp:=fun w1 hh => zU w1 R 192 S [.int .i64 s.o,.map (some M1),.map (some M2),.map (some M3)] ts s.c hh
 generalize ht0:peek ts s.c = t at hp HT
 unfold tokW at hp
 have hfd:∀ w1:World,(Instr.field 52 (.agg #[.int .i64 t.kind,.string (cbs t.text),.int .i64 t.num,.int .i64 t.at_]) 0).run Tryz.prog w1 = .ok (.int .i64 t.kind) w1:=fun _ => by kernel_rfl
 have HP:=vH hp
 have HTH:=vH HT
 clear hp ht0 HT
 have hb0:Below w.heap.size w (w.alloc (.cells vE 111)):=(Below.refl w.heap.size w).alloc (Nat.le_refl _) _
 have hlt:=h.lt
 have HH:=vH h
 have HR:=vH (h.go hb0)
 have HG:=vH (Gr.refl R (w.alloc (.cells vE 111)))
 clear h hb0
 go_in
 obtain ⟨o4,o5,o6,o7,f4⟩:=HR.out.open_
 clear o4 f4 o6 o7
 have HRD:=vH (HR.out.go (Below.refl _ _).drew)
 go_wp2_with fail
 go_region_held3 (fun w' => w'.cell? ⟨R,5,none⟩ = some (.map (some M1))) (first | exact o5 | exact oo) (first
  | (go_at_call 36; (with_reducible refine Calls.mono (HP.out _ HRD.out.cu) ?_); rintro e w1 ⟨rfl,hb⟩; have HR2:=vH (HRD.out.go hb); have HG2:=vH ((HG.out.trans (Gr.of (Below.refl _ _).drew)).trans (Gr.of hb)); clear hb; have oo:=HR2.out.open_; replace oo:=oo.2.1; have hlk:=zI1 R t.kind HTH.out.1 HTH.out.2.1 HTH.out.2.2.1 HTH.out.2.2.2 HR2.out.m1))
 clear HR HG HRD oo o5
 have HR:=HR2
 have HG:=HG2
 clear HR2 HG2
 go_wp2_with fail
 have hRBq:=HR.out.lt
 have hNBq:=Nat.lt_of_lt_of_le (by rw [zB]; exact Nat.lt_succ_self _:w.heap.size < (w.alloc (.cells vE 111)).heap.size) HG.out.size
 refine (HE.out _ HR.out).mono ?_
 rintro e w2 ⟨qk,qn,qs,qo,qd,qp,ql,qc,qa,qb,qr,qe,qf,rfl,hi,hr,hg⟩
 have Hiq:=vH hi
 have HGx:=vH (HG.out.trans hg)
 have HRx:=vH (hr)
 clear HG HR
 have HG:=HGx
 have HR:=HRx
 clear HGx HRx hr hg hi
 have hk:=mine HG.out hlt
 obtain ⟨⟨d0,d1,d2,d3,d4,d5,d6,d7,d8,d9,dX⟩,g0,g1,g2,g3,g4,g5,g6,g7,g8,g9,gX⟩:=hen hk
 have hl:=zA hk
 clear hk
 go_wp2_with fail
 have hn:=(Nw.start ((Gr.alloc (Gr.refl R w) _).trans HG.out)).pv (.int .i64 qk) (.int .i64 qn) (.string (cbs qs)) (.string (cbs qo)) (.int .i64 qd) (.slice qp ql qc) (.int .i64 qa) (.int .i64 qb) (.int .i64 qr) (.int .i64 qe) (.int .i64 qf)
 exact bodyPost_ret (v:=.agg #[.int .i64 qk,.int .i64 qn,.string (cbs qs),.string (cbs qo),.int .i64 qd,.slice qp ql qc,.int .i64 qa,.int .i64 qb,.int .i64 qr,.int .i64 qe,.int .i64 qf]) (by simp [results,Tryz.results183,go_sem,d0,d1,d2,d3,d4,d5,d6,d7,d8,d9,dX]) rfl ⟨_,_,_,_,_,_,_,_,_,_,_,_,_,rfl,Is.lower (Nat.le_of_lt hNBq) _ (Hiq.out.put11 hNBq),HH.out.fin HR.out hn,hn.gr⟩
theorem zFE (w:World)(R M1 M2 M3:Nat)(S:Value)(ts:List RT)(s:St)(h:Rs w R M1 M2 M3 S ts s)(rec:Nat → St → Out)(hrec:RecOk ts rec)(gg:Nat)(hg:gg ≤ 1000000000)(x:Ex × St)(hx:primary ts rec gg s = some x) :
 Calls Tryz.prog 183 #[.pointer (some ⟨R,0,none⟩)] w (ExPost w.heap.size w R M1 M2 M3 S ts x):=by
 simp only [primary] at hx
 by_cases h1:(peek ts s.c).kind = 1
 ·rw [if_pos h1] at hx
  exact zNJ w R M1 M2 M3 S ts s h (enters_of Tryz.func165 (by kernel_rfl) rfl) (fun w1 hh => zLk w1 R M1 M2 M3 S ts s hh rec hrec gg hg x hx) (fun _ hb => zCF R _ _ (.inl ⟨h1,rfl⟩) hb)
 rw [if_neg h1] at hx
 by_cases h2:(peek ts s.c).kind = 2
 ·rw [if_pos h2] at hx
  injection hx with hx
  subst hx
  exact zNJ w R M1 M2 M3 S ts s h (enters_of Tryz.func164 (by kernel_rfl) rfl) (fun w1 hh => zHu w1 R M1 M2 M3 S ts s hh) (fun _ hb => zCF R _ _ (.inr (.inl ⟨h2,rfl⟩)) hb)
 rw [if_neg h2] at hx
 by_cases h3:(peek ts s.c).kind = 3
 ·rw [if_pos h3] at hx
  exact zNJ w R M1 M2 M3 S ts s h (enters_of Tryz.func166 (by kernel_rfl) rfl) (fun w1 hh => zFL w1 R M1 M2 M3 S ts s hh rec hrec x hx) (fun _ hb => zCF R _ _ (.inr (.inr (.inl ⟨h3,rfl⟩))) hb)
 rw [if_neg h3] at hx
 by_cases h4:(peek ts s.c).kind = 4
 ·rw [if_pos h4] at hx
  exact zNJ w R M1 M2 M3 S ts s h (enters_of Tryz.func167 (by kernel_rfl) rfl) (fun w1 hh => zIL w1 R M1 M2 M3 S ts s hh rec hrec x hx) (fun _ hb => zCF R _ _ (.inr (.inr (.inr ⟨h4,rfl⟩))) hb)
 rw [if_neg h4] at hx
 injection hx with hx
 subst hx
 exact zLR w R M1 M2 M3 S ts s h ⟨h1,h2,h3,h4⟩
end Go.Proofs.YtipmjjfknhblnaaGreatDoor
