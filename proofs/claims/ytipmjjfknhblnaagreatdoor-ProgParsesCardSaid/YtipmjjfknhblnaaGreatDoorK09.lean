/-
  The contracts of the project's reader: one with a sign in fr
-/
import Derived.Test.YtipmjjfknhblnaaGreatDoorK08
import Derived.Test.YtipmjjfknhblnaaGreatDoorK07
import Derived.Test.YtipmjjfknhblnaaGreatDoorK02
import Derived.Deep.RegionHeld3
set_option maxRecDepth 8000
set_option maxHeartbeats 8000000
namespace Go.Proofs.YtipmjjfknhblnaaGreatDoor
open Go.RowKit
open Px (RT tokAt)
open Pe
theorem zDW {ts:List RT}{recU:St → Out}{s:St}{a:List UInt8}{kind:Int}{x:Ex × St}(h:prefixed ts recU s a kind = some x):∃ e s2,recU (enter ts s a).2 = some (e,s2) ∧ x = (Ex.of kind 0 [] [] 0 [e] (enter ts s a).1.at_,⟨s2.c,dec s2.o⟩):=by
 unfold prefixed at h
 split at h
 ·cases h
 ·rename_i e s2 he
  exact ⟨e,s2,he,by simpa using h.symm⟩
theorem zCu (w:World)(R M1 M2 M3:Nat)(S:Value)(ts:List RT)(s:St)(h:Rs w R M1 M2 M3 S ts s)(recU:St → Out)(hrec:UnOk ts recU)(ta:ByteArray)(kind:Int)(x:Ex × St)(hx:prefixed ts recU s ta.data.toList kind = some x) :
 Calls Tryz.prog 181 #[.pointer (some ⟨R,0,none⟩),.string ta,.int .i64 kind] w (ExPost w.heap.size w R M1 M2 M3 S ts x):=by
 obtain ⟨e0,s2,he,rfl⟩:=zDW hx
 have HP:=vH (fun w1 hh => hrec (enter ts s ta.data.toList).2 (e0,s2) he w1 R M1 M2 M3 S hh)
 have hen:=fun w1 hh => zB4 w1 R M1 M2 M3 S ts s hh ta
 clear hrec hx he
 generalize enter ts s ta.data.toList = y at hen HP ⊢
 obtain ⟨t,s1⟩:=y
 dsimp only at hen HP ⊢
 unfold tokW at hen
 have hfd:∀ w1:World,(Instr.field 52 (.agg #[.int .i64 t.kind,.string (cbs t.text),.int .i64 t.num,.int .i64 t.at_]) 3).run Tryz.prog w1 = .ok (.int .i64 t.at_) w1:=fun _ => by kernel_rfl
 have HE:=vH hen
 clear hen
 have hb0:Below w.heap.size w (w.alloc (.cells vE 111)):=(Below.refl w.heap.size w).alloc (Nat.le_refl _) _
 have hlt:=h.lt
 have HH:=vH h
 have HR:=vH (h.go hb0)
 have HG:=vH (Gr.refl R (w.alloc (.cells vE 111)))
 clear h hb0
 go_in
 go_wp2_with fail
 refine (HE.out _ HR.out).mono ?_
 rintro e w1 ⟨rfl,hr,hg⟩
 have HGx:=vH (HG.out.trans hg)
 have HRx:=vH (hr)
 clear HG HR
 have HG:=HGx
 have HR:=HRx
 clear HGx HRx hr hg
 go_wp2_with fail
 have hRBq:=HR.out.lt
 have hNBq:=Nat.lt_of_lt_of_le (by rw [zB]; exact Nat.lt_succ_self _:w.heap.size < (w.alloc (.cells vE 111)).heap.size) HG.out.size
 refine (HP.out _ HR.out).mono ?_
 rintro e w2 ⟨qk,qn,qs,qo,qd,qp,ql,qc,qa,qb,qr,qe,qf,rfl,hi,hr,hg⟩
 have Hiq:=vH hi
 have HGx:=vH (HG.out.trans hg)
 have HRx:=vH (hr)
 clear HG HR
 have HG:=HGx
 have HR:=HRx
 clear HGx HRx hr hg hi
 go_wp2_with fail
 refine (zDy _ R M1 M2 M3 S ts s2 (HR.out.go ((Below.refl _ _).alloc (Nat.le_refl _) _))).mono ?_
 rintro e w3 ⟨rfl,hr,hg⟩
 have hkb:=mine hg HR.out.lt
 have Hix:=vH ((Hiq.out.alloc _).gr hRBq hg)
 clear Hiq
 have Hiq:=Hix
 clear Hix
 have HGx:=vH ((HG.out.alloc _).trans hg)
 have HRx:=vH (hr)
 clear HG HR
 have HG:=HGx
 have HR:=HRx
 clear HGx HRx hr hg
 obtain ⟨⟨x0,x1,x2,x3,x4,x5,x6,x7,x8,x9,xX⟩,y0,y1,y2,y3,y4,y5,y6,y7,y8,y9,yX⟩:=hen hkb
 have hlb:=zA hkb
 clear hkb
 have hk:=mine HG.out hlt
 obtain ⟨⟨d0,d1,d2,d3,d4,d5,d6,d7,d8,d9,dX⟩,g0,g1,g2,g3,g4,g5,g6,g7,g8,g9,gX⟩:=hen hk
 have hl:=zA hk
 clear hk
 go_wp2_with fail
 have hn:=((Nw.start ((Gr.alloc (Gr.refl R w) _).trans HG.out)).pv (.int .i64 kind) (.int .i64 0) (.string ⟨#[]⟩) (.string ⟨#[]⟩) (.int .i64 0) (.slice (some ⟨w3.heap.size,0,none⟩) 1 1) (.int .i64 t.at_) (.int .i64 0) (.int .i64 0) (.int .i64 0) (.int .i64 0)).alloc (.cells #[.int .i64 qk,.int .i64 qn,.string (cbs qs),.string (cbs qo),.int .i64 qd,.slice qp ql qc,.int .i64 qa,.int .i64 qb,.int .i64 qr,.int .i64 qe,.int .i64 qf] 111)
 have hbx:=zAD (w:=w3) (N:=w.heap.size) (o:=.cells #[.int .i64 qk,.int .i64 qn,.string (cbs qs),.string (cbs qo),.int .i64 qd,.slice qp ql qc,.int .i64 qa,.int .i64 qb,.int .i64 qr,.int .i64 qe,.int .i64 qf] 111) (c0:=.int .i64 kind) (c1:=.int .i64 0) (c2:=.string ⟨#[]⟩) (c3:=.string ⟨#[]⟩) (c4:=.int .i64 0) (c5:=.slice (some ⟨w3.heap.size,0,none⟩) 1 1) (c6:=.int .i64 t.at_) (c7:=.int .i64 0) (c8:=.int .i64 0) (c9:=.int .i64 0) (c10:=.int .i64 0)
 have hle:w.heap.size ≤ w3.heap.size:=Nat.le_of_lt (Nat.lt_of_lt_of_le (by rw [zB]; exact Nat.lt_succ_self _:w.heap.size < (w.alloc (.cells vE 111)).heap.size) HG.out.size)
 exact bodyPost_ret (v:=.agg #[.int .i64 kind,.int .i64 0,.string ⟨#[]⟩,.string ⟨#[]⟩,.int .i64 0,.slice (some ⟨w3.heap.size,0,none⟩) 1 1,.int .i64 t.at_,.int .i64 0,.int .i64 0,.int .i64 0,.int .i64 0]) (by simp [results,Tryz.results181,go_sem,hl,d0,d1,d2,d3,d4,d5,d6,d7,d8,d9,dX]) rfl ⟨_,_,_,_,_,_,_,_,_,_,_,_,_,rfl,Is.node1 hbx hle (Is.lower (Nat.le_of_lt hNBq) _ ((Hiq.out.put11 hNBq).alloc _)) rfl kind 0 [] [] 0 t.at_ 1,HH.out.fin HR.out hn,hn.gr⟩
theorem zEf (w:World)(R M1 M2 M3:Nat)(S:Value)(ts:List RT)(s:St)(h:Rs w R M1 M2 M3 S ts s) :
 Calls Tryz.prog 168 #[.pointer (some ⟨R,0,none⟩)] w (ExPost w.heap.size w R M1 M2 M3 S ts (truth ts s)):=by
 have hp:=fun w1 hh => zL w1 R 192 S [.int .i64 s.o,.map (some M1),.map (some M2),.map (some M3)] ts s.c hh
 have hq:=fun w1 hh => zU w1 R 192 S [.int .i64 s.o,.map (some M1),.map (some M2),.map (some M3)] ts s.c hh
 unfold truth
 generalize peek ts s.c = t at hp hq ⊢
 unfold tokW at hp hq
 have hfd:∀ w1:World,(Instr.field 52 (.agg #[.int .i64 t.kind,.string (cbs t.text),.int .i64 t.num,.int .i64 t.at_]) 3).run Tryz.prog w1 = .ok (.int .i64 t.at_) w1:=fun _ => by kernel_rfl
 have hfd2:∀ w1:World,(Instr.field 52 (.agg #[.int .i64 t.kind,.string (cbs t.text),.int .i64 t.num,.int .i64 t.at_]) 1).run Tryz.prog w1 = .ok (.string (cbs t.text)) w1:=fun _ => by kernel_rfl
 have HP:=vH hp
 have HQ:=vH hq
 clear hp hq
 obtain ⟨v,hv⟩:∃ v:Int,v = if t.text = [116,114,117,101] then 1 else 0:=⟨_,rfl⟩
 rw [← hv]
 have HV:=vH hv
 clear hv
 have hb0:Below w.heap.size w (w.alloc (.cells vE 111)):=(Below.refl w.heap.size w).alloc (Nat.le_refl _) _
 have hlt:=h.lt
 have HH:=vH h
 have HR:=vH (h.go hb0)
 have HG:=vH (Gr.refl R (w.alloc (.cells vE 111)))
 clear h hb0
 go_in
 go_wp2_with fail
 refine (HQ.out _ HR.out.cu).mono ?_
 rintro e w1 ⟨rfl,hb⟩
 have HGx:=vH (HG.out.below hb)
 have HRx:=vH (HR.out.go hb)
 clear HG HR
 have HG:=HGx
 have HR:=HRx
 clear HGx HRx hb
 have HZ:=vH HG.out
 go_wp2_with fail
 have hnb:=Nat.ne_of_lt (Nat.lt_of_lt_of_le (by rw [zB]; exact Nat.lt_succ_self _:w.heap.size < (w.alloc (.cells vE 111)).heap.size) HG.out.size)
 have hnb2:=Ne.symm hnb
 refine (HP.out _ (HR.out.go ((Below.refl _ _).alloc (Nat.le_refl _) _)).cu).mono ?_
 rintro e w2 ⟨rfl,hc,hg⟩
 have hr:=(HR.out.go ((Below.refl _ _).alloc (Nat.le_refl _) _)).cur hg hc
 clear hc
 have hkb:=mine hg HR.out.lt
 have HGx:=vH ((HG.out.alloc _).trans hg)
 have HRx:=vH (hr)
 clear HG HR
 have HG:=HGx
 have HR:=HRx
 clear HGx HRx hr hg
 obtain ⟨⟨x0,x1,x2,x3,x4,x5,x6,x7,x8,x9,xX⟩,y0,y1,y2,y3,y4,y5,y6,y7,y8,y9,yX⟩:=hen hkb
 have hlb:=zA hkb
 clear hkb
 have hk:=mine HG.out hlt
 obtain ⟨⟨d0,d1,d2,d3,d4,d5,d6,d7,d8,d9,dX⟩,g0,g1,g2,g3,g4,g5,g6,g7,g8,g9,gX⟩:=hen hk
 have hl:=zA hk
 clear hk
 have hlt1:w.heap.size < w1.heap.size:=Nat.lt_of_le_of_ne (by have:=HZ.out.size; rw [zB] at this; omega) hnb
 have htx:((cbs t.text).toList == [116,114,117,101]) = decide (t.text = [116,114,117,101]):=by rw [zR,Bool.eq_iff_iff]; simp
 cases hT:((cbs t.text).toList == [116,114,117,101]) with
 | true =>
   have htd:true = decide (t.text = [116,114,117,101]):=by rw [← hT,htx]
   clear htx
   have hv:v = 1:=by rw [HV.out,if_pos (by have:=of_decide_eq_true (p:=t.text = [116,114,117,101]) (by rw [← htd]); exact this)]
   subst hv
   clear htd
   go_wp2_with fail
   have hn:=((Nw.start ((Gr.alloc (Gr.refl R w) _).trans HG.out)).set (p:=⟨w1.heap.size,1,none⟩) (Nat.le_of_lt hlt1) (.int .i64 1)).pv (.int .i64 2) (.int .i64 1) (.string ⟨#[]⟩) (.string ⟨#[]⟩) (.int .i64 0) (.slice none 0 0) (.int .i64 t.at_) (.int .i64 0) (.int .i64 0) (.int .i64 0) (.int .i64 0)
   exact bodyPost_ret (v:=.agg #[.int .i64 2,.int .i64 1,.string ⟨#[]⟩,.string ⟨#[]⟩,.int .i64 0,.slice none 0 0,.int .i64 t.at_,.int .i64 0,.int .i64 0,.int .i64 0,.int .i64 0]) (by simp [results,Tryz.results168,go_sem,d0,d1,d2,d3,d4,d5,d6,d7,d8,d9,dX]) rfl ⟨_,_,_,_,_,_,_,_,_,_,_,_,_,rfl,Is.leaf 2 1 [] [] 0 t.at_,HH.out.fin HR.out hn,hn.gr⟩
 | false =>
   have htd:false = decide (t.text = [116,114,117,101]):=by rw [← hT,htx]
   clear htx
   have hv:v = 0:=by rw [HV.out,if_neg (fun hh => by rw [hh] at htd; cases htd)]
   subst hv
   clear htd
   go_wp2_with fail
   have hn:=(Nw.start ((Gr.alloc (Gr.refl R w) _).trans HG.out)).pv (.int .i64 2) (.int .i64 0) (.string ⟨#[]⟩) (.string ⟨#[]⟩) (.int .i64 0) (.slice none 0 0) (.int .i64 t.at_) (.int .i64 0) (.int .i64 0) (.int .i64 0) (.int .i64 0)
   exact bodyPost_ret (v:=.agg #[.int .i64 2,.int .i64 0,.string ⟨#[]⟩,.string ⟨#[]⟩,.int .i64 0,.slice none 0 0,.int .i64 t.at_,.int .i64 0,.int .i64 0,.int .i64 0,.int .i64 0]) (by simp [results,Tryz.results168,go_sem,d0,d1,d2,d3,d4,d5,d6,d7,d8,d9,dX]) rfl ⟨_,_,_,_,_,_,_,_,_,_,_,_,_,rfl,Is.leaf 2 0 [] [] 0 t.at_,HH.out.fin HR.out hn,hn.gr⟩
theorem zI3 {ts:List RT}{rec:Nat → St → Out}{s:St}{of:Ex}{x:Ex × St}(h:item ts rec of s = some x):∃ i s2,enclosed ts rec s [91] [93] = some (i,s2) ∧ x = (Ex.of 6 0 [] [] 0 [of,i] (peek ts s.c).at_,s2):=by
 unfold item at h
 split at h
 ·cases h
 ·rename_i e s2 he
  exact ⟨e,s2,he,by simpa using h.symm⟩
def ExPostB (g:Option Nat)(B:Nat)(w:World)(R M1 M2 M3:Nat)(S:Value)(ts:List RT)(x:Ex × St)(e:Ending)(w':World):Prop:=
 ∃ (kind num:Int) (name ofn:List UInt8) (dims:Int) (p:Option Addr) (n c:Nat) (at_ b r d ref:Int),
   e = .returned (.agg #[.int .i64 kind,.int .i64 num,.string (cbs name),.string (cbs ofn),.int .i64 dims,.slice p n c,.int .i64 at_,.int .i64 b,.int .i64 r,.int .i64 d,.int .i64 ref]) ∧
   IsBut g w' B x.1 (exCells kind num name ofn dims (.slice p n c) at_ b r d ref) ∧ Rs w' R M1 M2 M3 S ts x.2 ∧ Gr R w w'
theorem IsBut.gr {g:Option Nat}{w w1:World}{R B:Nat}{e:Ex}{vs:List Value}(h:IsBut g w B e vs)(hR:R < B)(hg:Gr R w w1):IsBut g w1 B e vs:=h.go hg.size fun bl h1 h2 _ => hg.block bl h2 (by omega)
theorem IsBut.node1 {g:Option Nat}{w:World}{B bl:Nat}{T:TypeId}{e:Ex}{vs:List Value}{A:Array Value}(hb:w.heap[bl]? = some (.cells A T (0,0)))(hne:B ≤ bl)(hg:∀ k,g = some k → k < bl)(hi:IsBut g w B e vs)(hA:A = ⟨vs⟩)(kind num:Int)(name ofn:List UInt8)(dims at_:Int)(c:Nat) :
 IsBut g w B (Ex.of kind num name ofn dims [e] at_) (exCells kind num name ofn dims (.slice (some ⟨bl,0,none⟩) 1 c) at_ 0 0 0 0):=
 fun w' hs hk => Is.node1 ((hk bl hne (zA hb) (fun e => by have:=hg _ e.symm; omega)).trans hb) hne (hi w' hs hk) hA kind num name ofn dims at_ c
theorem IsBut.node2 {g:Option Nat}{w:World}{B bl:Nat}{T:TypeId}{e e2:Ex}{vs vs2:List Value}{A:Array Value}(hb:w.heap[bl]? = some (.cells A T (0,0)))(hne:B ≤ bl)(hg:∀ k,g = some k → k < bl)(hi:IsBut g w B e vs)(hi2:IsBut g w B e2 vs2)(hA:A = ⟨vs ++ vs2⟩)(kind num:Int)(name ofn:List UInt8)(dims at_:Int)(c:Nat) :
 IsBut g w B (Ex.of kind num name ofn dims [e,e2] at_) (exCells kind num name ofn dims (.slice (some ⟨bl,0,none⟩) 2 c) at_ 0 0 0 0):=
 fun w' hs hk => Is.node2 ((hk bl hne (zA hb) (fun e => by have:=hg _ e.symm; omega)).trans hb) hne (hi w' hs hk) (hi2 w' hs hk) hA kind num name ofn dims at_ c
theorem zIV {R:Nat}{w w1:World}{o1 o2:Obj}(hg:Gr R ((w.alloc o1).alloc o2) w1)(hR:R < w.heap.size):w1.heap[w.heap.size + 1]? = some o2:=
 hg.box (by have:=heap_alloc_new (w.alloc o1) o2; rw [zB] at this; exact this) (by omega)
theorem zEQ {R:Nat}{w w1:World}{o1 o2:Obj}(hg:Gr R ((w.alloc o1).alloc o2) w1)(hR:R < w.heap.size):w1.heap[w.heap.size]? = some o1:=
 hg.box (zE _ (heap_alloc_new w _)) (by omega)
theorem zKw (w:World)(R M1 M2 M3:Nat)(S:Value)(ts:List RT)(s:St)(h:Rs w R M1 M2 M3 S ts s)(rec:Nat → St → Out)(hrec:RecOk ts rec)(B:Nat)(gb:Option Nat)(hgb:∀ k,gb = some k → k < w.heap.size)(of:Ex)(zk zn:Int)(zs zo:List UInt8)(zd:Int)(zp:Option Addr)(zl zc:Nat)(za zb zr ze zf:Int)(hB:R < B)(hBw:B ≤ w.heap.size)(hof:IsBut gb w B of (exCells zk zn zs zo zd (.slice zp zl zc) za zb zr ze zf))(x:Ex × St)(hx:item ts rec of s = some x) :
 Calls Tryz.prog 174 #[.pointer (some ⟨R,0,none⟩),.agg #[.int .i64 zk,.int .i64 zn,.string (cbs zs),.string (cbs zo),.int .i64 zd,.slice zp zl zc,.int .i64 za,.int .i64 zb,.int .i64 zr,.int .i64 ze,.int .i64 zf]] w (ExPostB gb B w R M1 M2 M3 S ts x):=by
 obtain ⟨e0,s2,he,rfl⟩:=zI3 hx
 have HE:=vH (fun w1 hh => zA3 w1 R M1 M2 M3 S ts s hh rec hrec ⟨#[91]⟩ ⟨#[93]⟩ (e0,s2) he)
 have hq:=fun w1 hh => zU w1 R 192 S [.int .i64 s.o,.map (some M1),.map (some M2),.map (some M3)] ts s.c hh
 clear hrec hx he
 generalize peek ts s.c = t at hq ⊢
 unfold tokW at hq
 have hfd:∀ w1:World,(Instr.field 52 (.agg #[.int .i64 t.kind,.string (cbs t.text),.int .i64 t.num,.int .i64 t.at_]) 3).run Tryz.prog w1 = .ok (.int .i64 t.at_) w1:=fun _ => by kernel_rfl
 have HQ:=vH hq
 clear hq
 have hb0:Below w.heap.size w ((w.alloc (.cells #[.int .i64 zk,.int .i64 zn,.string (cbs zs),.string (cbs zo),.int .i64 zd,.slice zp zl zc,.int .i64 za,.int .i64 zb,.int .i64 zr,.int .i64 ze,.int .i64 zf] 111)).alloc (.cells vE 111)):=((Below.refl w.heap.size w).alloc (Nat.le_refl _) _).alloc (by rw [zB]; omega) _
 have hlt:=h.lt
 have HH:=vH h
 have HR:=vH (h.go hb0)
 have HG:=vH (Gr.refl R ((w.alloc (.cells #[.int .i64 zk,.int .i64 zn,.string (cbs zs),.string (cbs zo),.int .i64 zd,.slice zp zl zc,.int .i64 za,.int .i64 zb,.int .i64 zr,.int .i64 ze,.int .i64 zf] 111)).alloc (.cells vE 111)))
 have HOF:=vH hof
 clear h hb0 hof
 go_in
 go_wp2_with fail
 refine (HQ.out _ HR.out.cu).mono ?_
 rintro e w1 ⟨rfl,hb⟩
 have HGx:=vH (HG.out.below hb)
 have HRx:=vH (HR.out.go hb)
 clear HG HR
 have HG:=HGx
 have HR:=HRx
 clear HGx HRx hb
 have HNB:Hid (w.heap.size + 1 < w1.heap.size):=by have:=HG.out.size; rw [zB,zB] at this; exact this
 have hk:=zIV HG.out hlt
 have hk0:=zEQ HG.out hlt
 obtain ⟨⟨d0,d1,d2,d3,d4,d5,d6,d7,d8,d9,dX⟩,g0,g1,g2,g3,g4,g5,g6,g7,g8,g9,gX⟩:=hen hk
 obtain ⟨⟨x0,x1,x2,x3,x4,x5,x6,x7,x8,x9,xX⟩,y0,y1,y2,y3,y4,y5,y6,y7,y8,y9,yX⟩:=hen hk0
 have hl:=zA hk
 have hl0:=zA hk0
 clear hk hk0
 go_wp2_with fail
 go_region_with (go_at_call 179; refine (HE.out _ (HR.out.go (Below.refl _ _).drew)).mono ?_; rintro e w2 ⟨qk,qn,qs,qo,qd,qp,ql,qc,qa,qb,qr,qe,qf,rfl,hi,hr,hg⟩; have HG2:=vH ((HG.out.trans (Gr.of (Below.refl _ _).drew)).trans hg); have HR2:=vH hr; have Hiq:=vH hi; have hRq:=vH (HR.out.go (Below.refl _ _).drew).lt; have HGQ:=vH hg; clear d0 d1 d2 d3 d4 d5 d6 d7 d8 d9 dX g0 g1 g2 g3 g4 g5 g6 g7 g8 g9 gX x0 x1 x2 x3 x4 x5 x6 x7 x8 x9 xX y0 y1 y2 y3 y4 y5 y6 y7 y8 y9 yX hl hl0; clear hr hi hg; have hk:=zIV HG2.out hlt; have hk0:=zEQ HG2.out hlt; obtain ⟨⟨v0,v1,v2,v3,v4,v5,v6,v7,v8,v9,vX⟩,p0,p1,p2,p3,p4,p5,p6,p7,p8,p9,pX⟩:=hen hk; obtain ⟨⟨u0,u1,u2,u3,u4,u5,u6,u7,u8,u9,uX⟩,m0,m1,m2,m3,m4,m5,m6,m7,m8,m9,mX⟩:=hen hk0; have hm:=zA hk; have hm0:=zA hk0; clear hk hk0)
 all_goals go_wp2_with fail
 all_goals
  have hn:=((Nw.start (((Gr.alloc (Gr.refl R w) _).trans (Gr.alloc (Gr.refl R _) _)).trans HG2.out)).put11 (B:=w.heap.size + 1) (Nat.le_succ _) (c0:=.int .i64 6) (c1:=.int .i64 0) (c2:=.string ⟨#[]⟩) (c3:=.string ⟨#[]⟩) (c4:=.int .i64 0) (c5:=.slice (some ⟨w2.heap.size,0,none⟩) 2 2) (c6:=.int .i64 t.at_) (c7:=.int .i64 0) (c8:=.int .i64 0) (c9:=.int .i64 0) (c10:=.int .i64 0)).alloc (.cells #[.int .i64 zk,.int .i64 zn,.string (cbs zs),.string (cbs zo),.int .i64 zd,.slice zp zl zc,.int .i64 za,.int .i64 zb,.int .i64 zr,.int .i64 ze,.int .i64 zf,.int .i64 qk,.int .i64 qn,.string (cbs qs),.string (cbs qo),.int .i64 qd,.slice qp ql qc,.int .i64 qa,.int .i64 qb,.int .i64 qr,.int .i64 qe,.int .i64 qf] 111)
  have hbx:=zAD (w:=w2) (N:=w.heap.size + 1) (o:=.cells #[.int .i64 zk,.int .i64 zn,.string (cbs zs),.string (cbs zo),.int .i64 zd,.slice zp zl zc,.int .i64 za,.int .i64 zb,.int .i64 zr,.int .i64 ze,.int .i64 zf,.int .i64 qk,.int .i64 qn,.string (cbs qs),.string (cbs qo),.int .i64 qd,.slice qp ql qc,.int .i64 qa,.int .i64 qb,.int .i64 qr,.int .i64 qe,.int .i64 qf] 111) (c0:=.int .i64 6) (c1:=.int .i64 0) (c2:=.string ⟨#[]⟩) (c3:=.string ⟨#[]⟩) (c4:=.int .i64 0) (c5:=.slice (some ⟨w2.heap.size,0,none⟩) 2 2) (c6:=.int .i64 t.at_) (c7:=.int .i64 0) (c8:=.int .i64 0) (c9:=.int .i64 0) (c10:=.int .i64 0)
  have hle:B ≤ w2.heap.size:=Nat.le_trans hBw (by omega)
  have hq:=IsBut.of (g:=gb) ((Hiq.out.put11 (N:=w.heap.size + 1) HNB.out (c0:=.int .i64 6) (c1:=.int .i64 0) (c2:=.string ⟨#[]⟩) (c3:=.string ⟨#[]⟩) (c4:=.int .i64 0) (c5:=.slice (some ⟨w2.heap.size,0,none⟩) 2 2) (c6:=.int .i64 t.at_) (c7:=.int .i64 0) (c8:=.int .i64 0) (c9:=.int .i64 0) (c10:=.int .i64 0)).alloc (.cells #[.int .i64 zk,.int .i64 zn,.string (cbs zs),.string (cbs zo),.int .i64 zd,.slice zp zl zc,.int .i64 za,.int .i64 zb,.int .i64 zr,.int .i64 ze,.int .i64 zf,.int .i64 qk,.int .i64 qn,.string (cbs qs),.string (cbs qo),.int .i64 qd,.slice qp ql qc,.int .i64 qa,.int .i64 qb,.int .i64 qr,.int .i64 qe,.int .i64 qf] 111)) (Nat.le_trans hBw (Nat.le_of_lt (Nat.lt_of_succ_lt HNB.out))) (fun k hk => Nat.lt_trans (hgb k hk) (Nat.lt_of_succ_lt HNB.out))
  exact bodyPost_ret (v:=.agg #[.int .i64 6,.int .i64 0,.string ⟨#[]⟩,.string ⟨#[]⟩,.int .i64 0,.slice (some ⟨w2.heap.size,0,none⟩) 2 2,.int .i64 t.at_,.int .i64 0,.int .i64 0,.int .i64 0,.int .i64 0]) (by simp [results,Tryz.results174,go_sem,hm,v0,v1,v2,v3,v4,v5,v6,v7,v8,v9,vX]) rfl ⟨_,_,_,_,_,_,_,_,_,_,_,_,_,rfl,IsBut.node2 hbx hle (fun k hk => Nat.lt_of_lt_of_le (hgb k hk) (Nat.le_of_lt (Nat.lt_of_succ_lt hm))) (HOF.out.gr hB hn.gr) hq rfl 6 0 [] [] 0 t.at_ 2,HH.out.fin HR2.out hn,hn.gr⟩
theorem zJj (w:World)(R M1 M2 M3:Nat)(S:Value)(ts:List RT)(s:St)(h:Rs w R M1 M2 M3 S ts s)(B:Nat)(gb:Option Nat)(hgb:∀ k,gb = some k → k < w.heap.size)(of:Ex)(zk zn:Int)(zs zo:List UInt8)(zd:Int)(zp:Option Addr)(zl zc:Nat)(za zb zr ze zf:Int)(hB:R < B)(hBw:B ≤ w.heap.size)(hof:IsBut gb w B of (exCells zk zn zs zo zd (.slice zp zl zc) za zb zr ze zf)) :
 Calls Tryz.prog 173 #[.pointer (some ⟨R,0,none⟩),.agg #[.int .i64 zk,.int .i64 zn,.string (cbs zs),.string (cbs zo),.int .i64 zd,.slice zp zl zc,.int .i64 za,.int .i64 zb,.int .i64 zr,.int .i64 ze,.int .i64 zf]] w (ExPostB gb B w R M1 M2 M3 S ts (field ts of s)):=by
 have hq:=fun w1 hh => zJ w1 R 192 S [.int .i64 s.o,.map (some M1),.map (some M2),.map (some M3)] ts s.c hh ⟨#[46]⟩
 have hp:=fun w1 hh => name_any w1 R 192 S [.int .i64 s.o,.map (some M1),.map (some M2),.map (some M3)] ts (sign ts s.c [46]).2 hh
 unfold field
 change ∀ w1 hh,Calls Tryz.prog 62 #[.pointer (some ⟨R,0,none⟩),.string ⟨#[46]⟩] w1 (fun e w' => e = .returned (tokW (sign ts s.c [46]).1) ∧ Cu w' R 192 S [.int .i64 s.o,.map (some M1),.map (some M2),.map (some M3)] ts (sign ts s.c [46]).2 ∧ Gr R w1 w') at hq
 generalize sign ts s.c [46] = y at hq hp ⊢
 obtain ⟨t,c2⟩:=y
 dsimp only at hq hp ⊢
 generalize name ts c2 = y at hp ⊢
 obtain ⟨nm,c3⟩:=y
 dsimp only at hp ⊢
 unfold tokW at hq
 have hfd:∀ w1:World,(Instr.field 52 (.agg #[.int .i64 t.kind,.string (cbs t.text),.int .i64 t.num,.int .i64 t.at_]) 3).run Tryz.prog w1 = .ok (.int .i64 t.at_) w1:=fun _ => by kernel_rfl
 have HQ:=vH hq
 have HP:=vH hp
 clear hq hp
 have hb0:Below w.heap.size w ((w.alloc (.cells #[.int .i64 zk,.int .i64 zn,.string (cbs zs),.string (cbs zo),.int .i64 zd,.slice zp zl zc,.int .i64 za,.int .i64 zb,.int .i64 zr,.int .i64 ze,.int .i64 zf] 111)).alloc (.cells vE 111)):=((Below.refl w.heap.size w).alloc (Nat.le_refl _) _).alloc (by rw [zB]; omega) _
 have hlt:=h.lt
 have HH:=vH h
 have HR:=vH (h.go hb0)
 have HG:=vH (Gr.refl R ((w.alloc (.cells #[.int .i64 zk,.int .i64 zn,.string (cbs zs),.string (cbs zo),.int .i64 zd,.slice zp zl zc,.int .i64 za,.int .i64 zb,.int .i64 zr,.int .i64 ze,.int .i64 zf] 111)).alloc (.cells vE 111)))
 have HOF:=vH hof
 clear h hb0 hof
 go_in
 go_wp2_with fail
 refine (HQ.out _ HR.out.cu).mono ?_
 rintro e w1 ⟨rfl,hc,hg⟩
 have HGx:=vH (HG.out.trans hg)
 have HRx:=vH (HR.out.cur hg hc)
 clear HG HR
 have HG:=HGx
 have HR:=HRx
 clear HGx HRx hc hg
 have HNB:Hid (w.heap.size + 1 < w1.heap.size):=by have:=HG.out.size; rw [zB,zB] at this; exact this
 have hk:=zIV HG.out hlt
 have hk0:=zEQ HG.out hlt
 obtain ⟨⟨d0,d1,d2,d3,d4,d5,d6,d7,d8,d9,dX⟩,g0,g1,g2,g3,g4,g5,g6,g7,g8,g9,gX⟩:=hen hk
 obtain ⟨⟨x0,x1,x2,x3,x4,x5,x6,x7,x8,x9,xX⟩,y0,y1,y2,y3,y4,y5,y6,y7,y8,y9,yX⟩:=hen hk0
 have hl:=zA hk
 have hl0:=zA hk0
 clear hk hk0
 go_wp2_with fail
 have HB1:=vH ((Below.refl w1.heap.size w1).drew)
 have HB2:=vH (fun o:Obj => ((Below.refl w1.heap.size w1).alloc (Nat.le_refl _) o).drew)
 have HC1:=vH (HR.out.go HB1.out).cu
 have HC2:=vH (fun o:Obj => (HR.out.go (HB2.out o)).cu)
 have HKA:Hid (∀ (o:Obj) (w2:World),Gr R (w1.alloc o).drew w2 → w2.heap[w1.heap.size]? = some o):=fun o w2 hg => mine (w:=w1) (hg:=⟨hg.os,hg.tape,hg.output,hg.size,hg.block⟩) HR.out.lt
 have HKP1:Hid (w1.drew.heap[w.heap.size]? = some (.cells #[.int .i64 zk,.int .i64 zn,.string (cbs zs),.string (cbs zo),.int .i64 zd,.slice zp zl zc,.int .i64 za,.int .i64 zb,.int .i64 zr,.int .i64 ze,.int .i64 zf] 111 (0,0))):=by have hh:=zEQ HG.out hlt; exact hh
 have HKP1a:Hid (∀ o,(w1.alloc o).drew.heap[w.heap.size]? = some (.cells #[.int .i64 zk,.int .i64 zn,.string (cbs zs),.string (cbs zo),.int .i64 zd,.slice zp zl zc,.int .i64 za,.int .i64 zb,.int .i64 zr,.int .i64 ze,.int .i64 zf] 111 (0,0))):=by have hh:=zEQ HG.out hlt; exact fun o => zE o hh
 have HKP1b:Hid (∀ o,(w1.drew.alloc o).heap[w.heap.size]? = some (.cells #[.int .i64 zk,.int .i64 zn,.string (cbs zs),.string (cbs zo),.int .i64 zd,.slice zp zl zc,.int .i64 za,.int .i64 zb,.int .i64 zr,.int .i64 ze,.int .i64 zf] 111 (0,0))):=by have hh:=zEQ HG.out hlt; exact fun o => zE o hh
 have hne12:w.heap.size ≠ w.heap.size + 1:=Nat.ne_of_lt (Nat.lt_succ_self _)
 clear x0 x1 x2 x3 x4 x5 x6 x7 x8 x9 xX y0 y1 y2 y3 y4 y5 y6 y7 y8 y9 yX hl0
 go_region_held3 (fun w' => w'.cell? ⟨w.heap.size,0,none⟩ = some (.int .i64 zk) ∧ w'.cell? ⟨w.heap.size,1,none⟩ = some (.int .i64 zn) ∧ w'.cell? ⟨w.heap.size,2,none⟩ = some (.string (cbs zs)) ∧ w'.cell? ⟨w.heap.size,3,none⟩ = some (.string (cbs zo)) ∧ w'.cell? ⟨w.heap.size,4,none⟩ = some (.int .i64 zd) ∧ w'.cell? ⟨w.heap.size,5,none⟩ = some (.slice zp zl zc) ∧ w'.cell? ⟨w.heap.size,6,none⟩ = some (.int .i64 za) ∧ w'.cell? ⟨w.heap.size,7,none⟩ = some (.int .i64 zb) ∧ w'.cell? ⟨w.heap.size,8,none⟩ = some (.int .i64 zr) ∧ w'.cell? ⟨w.heap.size,9,none⟩ = some (.int .i64 ze) ∧ w'.cell? ⟨w.heap.size,10,none⟩ = some (.int .i64 zf)) (with_reducible first | exact (hen HKP1.out).1 | exact (hen (HKP1a.out _)).1 | exact (hen (HKP1b.out _)).1 | exact (hen HKP2.out).1 | exact (hen (zE _ HKP2.out)).1 | exact (hen (zM HKP2.out hne12)).1 | exact (hen (zE _ (zM HKP2.out hne12))).1) (first
  | (go_at_call 61; with_reducible refine Calls.mono (HP.out _ HC1.out) ?_; rintro e w2 ⟨rfl,hc,hg⟩; have HG2:=vH ((HG.out.trans (Gr.of HB1.out)).trans hg); have HR2:=vH ((HR.out.go HB1.out).cur hg hc); clear d0 d1 d2 d3 d4 d5 d6 d7 d8 d9 dX g0 g1 g2 g3 g4 g5 g6 g7 g8 g9 gX hl; clear hc hg; have hk:=zIV HG2.out hlt; have HKP2:=vH (zEQ HG2.out hlt); obtain ⟨⟨v0,v1,v2,v3,v4,v5,v6,v7,v8,v9,vX⟩,p0,p1,p2,p3,p4,p5,p6,p7,p8,p9,pX⟩:=hen hk; have hm:=zA hk; clear hk)
  | (go_at_call 61; with_reducible refine Calls.mono (HP.out _ (HC2.out _)) ?_; rintro e w2 ⟨rfl,hc,hg⟩; have HG2:=vH ((HG.out.trans (Gr.of (HB2.out _))).trans hg); have HR2:=vH ((HR.out.go (HB2.out _)).cur hg hc); have HKID:=vH (HKA.out _ _ hg); clear d0 d1 d2 d3 d4 d5 d6 d7 d8 d9 dX g0 g1 g2 g3 g4 g5 g6 g7 g8 g9 gX hl; clear hc hg; have hk:=zIV HG2.out hlt; have HKP2:=vH (zEQ HG2.out hlt); obtain ⟨⟨v0,v1,v2,v3,v4,v5,v6,v7,v8,v9,vX⟩,p0,p1,p2,p3,p4,p5,p6,p7,p8,p9,pX⟩:=hen hk; have hm:=zA hk; clear hk))
 ·go_wp2_with fail
  (have hn:=((Nw.start (((Gr.alloc (Gr.refl R w) _).trans (Gr.alloc (Gr.refl R _) _)).trans HG2.out)).put11 (B:=w.heap.size + 1) (Nat.le_succ _) (c0:=.int .i64 5) (c1:=.int .i64 0) (c2:=.string (cbs nm)) (c3:=.string ⟨#[]⟩) (c4:=.int .i64 0) (c5:=.slice (some ⟨w2.heap.size,0,none⟩) 1 1) (c6:=.int .i64 t.at_) (c7:=.int .i64 0) (c8:=.int .i64 0) (c9:=.int .i64 0) (c10:=.int .i64 0)).alloc (.cells #[.int .i64 zk,.int .i64 zn,.string (cbs zs),.string (cbs zo),.int .i64 zd,.slice zp zl zc,.int .i64 za,.int .i64 zb,.int .i64 zr,.int .i64 ze,.int .i64 zf] 111)
   have hbx:=zAD (w:=w2) (N:=w.heap.size + 1) (o:=.cells #[.int .i64 zk,.int .i64 zn,.string (cbs zs),.string (cbs zo),.int .i64 zd,.slice zp zl zc,.int .i64 za,.int .i64 zb,.int .i64 zr,.int .i64 ze,.int .i64 zf] 111) (c0:=.int .i64 5) (c1:=.int .i64 0) (c2:=.string (cbs nm)) (c3:=.string ⟨#[]⟩) (c4:=.int .i64 0) (c5:=.slice (some ⟨w2.heap.size,0,none⟩) 1 1) (c6:=.int .i64 t.at_) (c7:=.int .i64 0) (c8:=.int .i64 0) (c9:=.int .i64 0) (c10:=.int .i64 0)
   have hle:B ≤ w2.heap.size:=Nat.le_trans hBw (by omega)
   exact bodyPost_ret (v:=.agg #[.int .i64 5,.int .i64 0,.string (cbs nm),.string ⟨#[]⟩,.int .i64 0,.slice (some ⟨w2.heap.size,0,none⟩) 1 1,.int .i64 t.at_,.int .i64 0,.int .i64 0,.int .i64 0,.int .i64 0]) (by simp [results,Tryz.results173,go_sem,hm,v0,v1,v2,v3,v4,v5,v6,v7,v8,v9,vX]) rfl ⟨_,_,_,_,_,_,_,_,_,_,_,_,_,rfl,IsBut.node1 hbx hle (fun k hk => Nat.lt_of_lt_of_le (hgb k hk) (Nat.le_of_lt (Nat.lt_of_succ_lt hm))) (HOF.out.gr hB hn.gr) rfl 5 0 nm [] 0 t.at_ 1,HH.out.fin HR2.out hn,hn.gr⟩)
 ·go_wp2_with fail
  (have hn:=(Nw.start (((Gr.alloc (Gr.refl R w) _).trans (Gr.alloc (Gr.refl R _) _)).trans HG2.out)).put11 (B:=w.heap.size + 1) (Nat.le_succ _) (c0:=.int .i64 5) (c1:=.int .i64 0) (c2:=.string (cbs nm)) (c3:=.string ⟨#[]⟩) (c4:=.int .i64 0) (c5:=.slice (some ⟨w1.heap.size,0,none⟩) 1 1) (c6:=.int .i64 t.at_) (c7:=.int .i64 0) (c8:=.int .i64 0) (c9:=.int .i64 0) (c10:=.int .i64 0)
   have hbx:=zM (N:=w.heap.size + 1) HKID.out (Nat.ne_of_gt HNB.out) (c0:=.int .i64 5) (c1:=.int .i64 0) (c2:=.string (cbs nm)) (c3:=.string ⟨#[]⟩) (c4:=.int .i64 0) (c5:=.slice (some ⟨w1.heap.size,0,none⟩) 1 1) (c6:=.int .i64 t.at_) (c7:=.int .i64 0) (c8:=.int .i64 0) (c9:=.int .i64 0) (c10:=.int .i64 0)
   have hle:B ≤ w1.heap.size:=Nat.le_trans hBw (Nat.le_of_lt (Nat.lt_of_succ_lt HNB.out))
   exact bodyPost_ret (v:=.agg #[.int .i64 5,.int .i64 0,.string (cbs nm),.string ⟨#[]⟩,.int .i64 0,.slice (some ⟨w1.heap.size,0,none⟩) 1 1,.int .i64 t.at_,.int .i64 0,.int .i64 0,.int .i64 0,.int .i64 0]) (by simp [results,Tryz.results173,go_sem,v0,v1,v2,v3,v4,v5,v6,v7,v8,v9,vX]) rfl ⟨_,_,_,_,_,_,_,_,_,_,_,_,_,rfl,IsBut.node1 hbx hle (fun k hk => Nat.lt_trans (hgb k hk) (Nat.lt_of_succ_lt HNB.out)) (HOF.out.gr hB hn.gr) rfl 5 0 nm [] 0 t.at_ 1,HH.out.fin HR2.out hn,hn.gr⟩)
end Go.Proofs.YtipmjjfknhblnaaGreatDoor
