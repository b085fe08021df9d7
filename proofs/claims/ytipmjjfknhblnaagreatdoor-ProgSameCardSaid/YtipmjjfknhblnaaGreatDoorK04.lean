/-
  The contracts of the project's cursor over tokens, fourth pa
-/
import Derived.Test.YtipmjjfknhblnaaGreatDoorK03
import Derived.Test.YtipmjjfknhblnaaGreatDoorK02
import Derived.Deep.LoopGhost
import Derived.RegionTactic
set_option maxRecDepth 8000
set_option maxHeartbeats 8000000
namespace Go.Proofs.YtipmjjfknhblnaaGreatDoor
open Go.RowKit
open Px (RT tokAt)
open Pe
theorem duo {w1:World}{B:Nat}{T:TypeId}{a b:Value}(h:w1.heap[B]? = some (.cells #[a,b] T (0,0))) :
 (w1.cell? ⟨B,0,none⟩ = some a ∧ w1.cell? ⟨B,1,none⟩ = some b) ∧ (w1.frozen? ⟨B,0,none⟩ = false ∧ w1.frozen? ⟨B,1,none⟩ = false) ∧ B < w1.heap.size:=
 ⟨⟨by rw [cell_of_row _ _ _ _ _ _ h]; rfl,by rw [cell_of_row _ _ _ _ _ _ h]; rfl⟩,⟨frozen_of_row _ _ _ _ _ h,frozen_of_row _ _ _ _ _ h⟩,zA h⟩
theorem zGp {w1:World}{B:Nat}{T:TypeId}{a b:Value}(h:w1.heap[B]? = some (.cells #[a,b] T (0,0)))(u:Value):(w1.setCell ⟨B,0,none⟩ u).heap[B]? = some (.cells #[u,b] T (0,0)):=by
 have:=Lib.heap_setCell_same h (i:=0) (v:=u); simpa using this
theorem zKM {w1:World}{B:Nat}{T:TypeId}{a b:Value}(h:w1.heap[B]? = some (.cells #[a,b] T (0,0)))(u:Value):(w1.setCell ⟨B,1,none⟩ u).heap[B]? = some (.cells #[a,u] T (0,0)):=by
 have:=Lib.heap_setCell_same h (i:=1) (v:=u); simpa using this
theorem zAc {w1:World}{B:Nat}{o:Obj}{p:Addr}(h:w1.heap[B]? = some o)(hne:B ≠ p.block)(u:Value):(w1.setCell p u).heap[B]? = some o:=
 (Below.heap_setCell w1 p u B hne).trans h
theorem zW {w wa:World}{R o:Nat}{v:Value}(h:w.cell? ⟨R,o,none⟩ = some v)(hR:R < w.heap.size)(hb:Below w.heap.size w wa):wa.cell? ⟨R,o,none⟩ = some v:=by
 rw [hb.cell (p:=⟨R,o,none⟩) hR]; exact h
theorem zO {w w1:World}(h:Below w.heap.size w w1){b o:Nat}{u:Value}(hb:w.heap.size ≤ b):Below w.heap.size w (w1.setCell ⟨b,o,none⟩ u):=h.setCell hb u
theorem zA6 {w w1:World}(h:Below w.heap.size w w1){o:Obj}:Below w.heap.size w (w1.alloc o):=h.alloc h.size o
theorem zAM {w w1:World}(h:Below w.heap.size w w1):Below w.heap.size w w1.drew:=h.drew
theorem zEz (w:World)(R:Nat)(T:TypeId)(S:Value)(X:List Value)(ts:List RT)(s:Cs)(h:Cu w R T S X ts s)(nm:ByteArray)(d:Int) :
 Calls Tryz.prog 91 #[.pointer (some ⟨R,0,none⟩),.agg #[.string nm,.int .i64 d]] w fun e w' =>
  e = .returned (.tuple #[if s.E = 0 then .agg #[.string nm,.int .i64 d] else .agg #[.string ⟨#[]⟩,.int .i64 0],.int .i64 (ends s).1,.agg #[.int .i64 (ends s).2.1,.int .i64 (ends s).2.2]]) ∧ Below w.heap.size w w':=by
 obtain ⟨⟨c0,c1,c2,c3⟩,fr,hR⟩:=h.cells
 clear h c0 fr
 obtain ⟨k,E,F⟩:=s
 dsimp only at c1 c2 c3
 obtain ⟨wa,hwa⟩:∃ wa,wa = (((w.alloc (.cells #[.string nm,.int .i64 d] 59)).alloc (.cells vO 59)).alloc (.cells vF 29)):=⟨_,rfl⟩
 have hs:wa.heap.size = w.heap.size + 3:=by rw [hwa]; simp only [zB]
 have hb:Below w.heap.size w wa:=by rw [hwa]; exact (((Below.refl _ _).alloc (Nat.le_refl _) _).alloc (by simp only [zB]; omega) _).alloc (by simp only [zB]; omega) _
 have hkx:wa.heap[w.heap.size]? = some (.cells #[.string nm,.int .i64 d] 59 (0,0)):=by
  rw [hwa]; have:=heap_alloc_new (w) (.cells #[.string nm,.int .i64 d] 59); try simp only [zB] at this
  exact zE _ (zE _ (this))
 have hka:wa.heap[w.heap.size + 1]? = some (.cells vO 59 (0,0)):=by
  rw [hwa]; have:=heap_alloc_new ((w.alloc (.cells #[.string nm,.int .i64 d] 59))) (.cells vO 59); try simp only [zB] at this
  exact zE _ (this)
 have hkb:wa.heap[w.heap.size + 1 + 1]? = some (.cells vF 29 (0,0)):=by
  rw [hwa]; have:=heap_alloc_new (((w.alloc (.cells #[.string nm,.int .i64 d] 59)).alloc (.cells vO 59))) (.cells vF 29); try simp only [zB] at this
  exact this
 have e1:=zW c1 hR hb
 have e2:=zW c2 hR hb
 have e3:=zW c3 hR hb
 have hRa:R < wa.heap.size:=by omega
 obtain ⟨wb,hwb⟩:∃ wb,wb = wa.alloc (.cells vO 59):=⟨_,rfl⟩
 have hb2:Below w.heap.size w wb:=by rw [hwb]; exact hb.alloc (by omega) _
 have q2:=e2
 rw [hwa] at q2
 have HB:=vH hb
 by_cases hE:E = 0
 ·subst hE
  rw [show ends ⟨k,0,F⟩ = (k,0,0) from rfl]
  dsimp only
  rw [if_pos rfl]
  obtain ⟨⟨x0,x1⟩,⟨xg0,xg1⟩,hlx⟩:=duo hkx
  obtain ⟨⟨a0,a1⟩,⟨ag0,ag1⟩,hla⟩:=duo hka
  obtain ⟨⟨b0,b1⟩,⟨bg0,bg1⟩,hlb⟩:=duo hkb
  clear hkx hka hkb c1 c2 c3 e2 e3 hb hs hb2 hwb
  go_in
  go_wp2_with fail
  rw [← hwa]
  clear hwa q2
  go_region
  go_wp2_with fail
  refine bodyPost_ret (v:=.tuple #[.agg #[.string nm,.int .i64 d],.int .i64 k,.agg #[.int .i64 0,.int .i64 0]]) (by simp [results,Tryz.results91,go_sem,a0,a1,b0,b1]) rfl ⟨rfl,?_⟩
  refine zAM ?_
  repeat (refine zO ?_ (by omega))
  exact HB.out
 ·rw [show ends ⟨k,E,F⟩ = (0,E,F) from if_neg hE]
  dsimp only
  rw [if_neg hE]
  have hd:(E != 0) = true:=by simpa using hE
  have HB2:=vH hb2
  have e2:=zW c2 hR hb2
  have e3:=zW c3 hR hb2
  replace hkx:=by have:=zE (.cells vO 59) hkx; rw [← hwb] at this; exact this
  replace hka:=by have:=zE (.cells vO 59) hka; rw [← hwb] at this; exact this
  replace hkb:=by have:=zE (.cells vO 59) hkb; rw [← hwb] at this; exact this
  have hkz:wb.heap[w.heap.size + 1 + 1 + 1]? = some (.cells vO 59 (0,0)):=by have:=heap_alloc_new wa (.cells vO 59); rw [hs,← hwb] at this; exact this
  have hRb:R < wb.heap.size:=by rw [hwb,zB]; omega
  obtain ⟨⟨x0,x1⟩,⟨xg0,xg1⟩,hlx⟩:=duo hkx
  obtain ⟨⟨a0,a1⟩,⟨ag0,ag1⟩,hla⟩:=duo hka
  obtain ⟨⟨b0,b1⟩,⟨bg0,bg1⟩,hlb⟩:=duo hkb
  obtain ⟨⟨z0,z1⟩,⟨zg0,zg1⟩,hlz⟩:=duo hkz
  clear hkx hka hkb hkz c1 c2 c3 e1 hb hs hb2 hE
  go_in
  go_wp2_with fail
  rw [← hwa,← hwb]
  clear hwa q2 hwb
  go_region
  go_wp2_with fail
  refine bodyPost_ret (v:=.tuple #[.agg #[.string ⟨#[]⟩,.int .i64 0],.int .i64 0,.agg #[.int .i64 E,.int .i64 F]]) (by simp [results,Tryz.results91,go_sem,a0,a1,b0,b1]) rfl ⟨rfl,?_⟩
  refine zAM ?_
  repeat (refine zO ?_ (by omega))
  exact HB2.out
theorem zGq {ts:List RT}{n:Nat}{s:Cs}(h:sees ts s 4 [91] = true):dims ts (n + 1) s = ((dims ts n (next s)).1 + 1,(dims ts n (next s)).2):=by rw [dims,if_pos h]
theorem zJo {ts:List RT}{n:Nat}{s:Cs}(h:sees ts s 4 [91] = false):dims ts n s = (0,s):=by
 cases n with
 | zero => rw [dims,h]; rfl
 | succ n => rw [dims,h]; rfl
theorem zE3 {ts:List RT}{s:Cs}(h:sees ts s 4 [91] = true):dims ts 0 s = (0,fail ts s 4):=by rw [dims,if_pos h]
theorem zMl (ts:List RT):∀ n s,(dims ts n s).1 ≤ n:=by
 intro n
 induction n with
 | zero => intro s; exact Nat.le_refl _
 | succ n ih =>
   intro s
   rw [dims]
   split
   ·have:=ih (next s); dsimp only; omega
   ·exact Nat.zero_le _
theorem zGv {ts:List RT}{s:Cs}(h:sees ts s 3 [105,110,116] = true):base ts s = ((peek ts s).text,next s):=by rw [base,h]; rfl
theorem zE8 {ts:List RT}{s:Cs}(h:sees ts s 3 [98,111,111,108] = true):base ts s = ((peek ts s).text,next s):=by rw [base,h,Bool.or_true]; rfl
theorem zE7 {ts:List RT}{s:Cs}(h:sees ts s 3 [105,110,116] = false)(h2:sees ts s 3 [98,111,111,108] = false):base ts s = name ts s:=by rw [base,h,h2]; rfl
structure Ty (w wr:World) (R:Nat) (T:TypeId) (S:Value) (X:List Value) (ts:List RT) (s:Cs) (a:Value) (d:Nat):Prop where
 cu:Cu wr R T S X ts s
 gr:Gr R w wr
 res:wr.heap[w.heap.size]? = some (.cells vO 59 (0,0))
 own:wr.heap[w.heap.size + 1]? = some (.cells #[a,.int .i64 d] 59 (0,0))
theorem Ty.go {w wr w':World}{R:Nat}{T:TypeId}{S:Value}{X:List Value}{ts:List RT}{s s2:Cs}{a:Value}{d:Nat}(h:Ty w wr R T S X ts s a d)(hR:R < w.heap.size)(hc:Cu w' R T S X ts s2)(hg:Gr R wr w'):Ty w w' R T S X ts s2 a d:=
 ⟨hc,h.gr.trans hg,hg.box h.res (by omega),hg.box h.own (by omega)⟩
theorem Ty.set0 {w wr:World}{R:Nat}{T:TypeId}{S:Value}{X:List Value}{ts:List RT}{s s0:Cs}{a:Value}{d:Nat}(h:Ty w wr R T S X ts s a d)(hw:Cu w R T S X ts s0)(u:Value):Ty w (wr.setCell ⟨w.heap.size + 1,0,none⟩ u) R T S X ts s u d:=by
 have hn:=(Nw.start h.gr).set (p:=⟨w.heap.size + 1,0,none⟩) (Nat.le_succ _) u
 exact ⟨hw.fin h.cu hn,hn.gr,zAc h.res (by simp) u,zGp h.own u⟩
theorem Ty.set1 {w wr:World}{R:Nat}{T:TypeId}{S:Value}{X:List Value}{ts:List RT}{s s0:Cs}{a:Value}{d:Nat}(h:Ty w wr R T S X ts s a d)(hw:Cu w R T S X ts s0)(e:Nat):Ty w (wr.setCell ⟨w.heap.size + 1,1,none⟩ (.int .i64 e)) R T S X ts s a e:=by
 have hn:=(Nw.start h.gr).set (p:=⟨w.heap.size + 1,1,none⟩) (Nat.le_succ _) (.int .i64 e)
 exact ⟨hw.fin h.cu hn,hn.gr,zAc h.res (by simp) _,zKM h.own _⟩
theorem zBv (w:World)(R:Nat)(T:TypeId)(S:Value)(X:List Value)(ts:List RT)(s:Cs)(h:Cu w R T S X ts s) :
 Calls Tryz.prog 92 #[.pointer (some ⟨R,0,none⟩)] w fun e w' => e = .returned (.agg #[.string (cbs (readType ts s).1),.int .i64 (readType ts s).2.1]) ∧ Cu w' R T S X ts (readType ts s).2.2 ∧ Gr R w w':=by
 have hlt:=h.lt
 have HH:=vH h
 unfold readType
 generalize hds:dims ts 3 s = ds
 obtain ⟨D,s2⟩:=ds
 dsimp only
 have HD:=vH hds
 have HDL:=vH (show D ≤ 3 from by have:=zMl ts 3 s; rw [hds] at this; exact this)
 have hn0:=((Nw.start (Gr.refl R w)).alloc (.cells vO 59)).alloc (.cells vO 59)
 have H0:=vH (show Ty w ((w.alloc (.cells vO 59)).alloc (.cells vO 59)) R T S X ts s (.string ⟨#[]⟩) 0 from
  ⟨h.keep hn0,hn0.gr,zE _ (heap_alloc_new w _),by have:=heap_alloc_new (w.alloc (.cells vO 59)) (.cells vO 59); rw [zB] at this; exact this⟩)
 clear hn0 h hds
 go_in
 go_wp2_with fail
 go_loopg [] 3 (fun n wr => ∃ s1 d,n + d = 3 ∧ Ty w wr R T S X ts s1 (.string ⟨#[]⟩) d ∧ d + (dims ts n s1).1 = D ∧ (dims ts n s1).2 = s2)
 case atStart => exact ⟨s,0,rfl,H0.out,by rw [HD.out]; simp,by rw [HD.out]⟩
 case round =>
  obtain ⟨s1,d,hnd,hty,hd1,hd2⟩:=hrel
  have HTY:=vH hty
  have HD1:=vH hd1
  have HD2:=vH hd2
  have hd3:d ≤ 3:=by omega
  have HND:=vH hnd
  clear hty hd1 hd2 hnd
  cases hI:sees ts s1 4 [91]
  ·have HI:=vH hI
   clear hI
   go_wp2_with fail
   refine (zG _ R T S X ts s1 HTY.out.cu ⟨#[91]⟩).mono ?_
   rintro e w1 ⟨rfl,hb1⟩
   rw [HI.out]
   have HT1:=vH (HTY.out.go hlt (HTY.out.cu.go hb1) (Gr.of hb1))
   have hD:d = D:=by have:=HD1.out; rw [zJo HI.out] at this; exact this
   have hs2:s1 = s2:=by have:=HD2.out; rw [zJo HI.out] at this; exact this
   have HT1:Hid (Ty w w1 R T S X ts s2 (.string ⟨#[]⟩) D):=by rw [← hD,← hs2]; exact vH (HTY.out.go hlt (HTY.out.cu.go hb1) (Gr.of hb1))
   clear hD hs2 hb1 hd3
   go_wp2_with fail
   refine (zAF _ R T S X ts s2 HT1.out.cu 3 ⟨#[105,110,116]⟩).mono ?_
   rintro e w2 ⟨rfl,hb2⟩
   have HT2:=vH (HT1.out.go hlt (HT1.out.cu.go hb2) (Gr.of hb2))
   clear hb2 HT1
   cases hI3:sees ts s2 3 [105,110,116]
   ·have HI3:=vH hI3
    try rw [hI3]
    clear hI3
    go_wp2_with fail
    refine (zAF _ R T S X ts s2 HT2.out.cu 3 ⟨#[98,111,111,108]⟩).mono ?_
    rintro e w3 ⟨rfl,hb3⟩
    have HT3:=vH (HT2.out.go hlt (HT2.out.cu.go hb3) (Gr.of hb3))
    clear hb3 HT2
    cases hI4:sees ts s2 3 [98,111,111,108]
    ·have HB:=vH (zE7 HI3.out hI4)
     try rw [hI4]
     clear hI4
     go_wp2_with fail
     refine (name_any _ R T S X ts s2 HT3.out.cu).mono ?_
     rintro e w4 ⟨rfl,hr4,hg4⟩
     have HT4:=vH (HT3.out.go hlt hr4 hg4)
     clear hr4 hg4 HT3
     obtain ⟨⟨e0,e1⟩,⟨f0,f1⟩,hl⟩:=duo HT4.out.own
     have HT5:=vH (HT4.out.set0 HH.out (.string (cbs (base ts s2).1)))
     rw [HB.out] at HT5
     go_wp2_with fail
     clear HT4 e0 e1 f0 f1 hl
     go_loopg [32] D (fun n v wr => ∃ j s4,n + j = D ∧ v = .int .i64 (j:Nat) ∧ Ty w wr R T S X ts s4 (.string (cbs (base ts s2).1)) D ∧ shut ts n s4 = shut ts D (base ts s2).2)
     case atStart => exact ⟨0,_,rfl,rfl,by rw [HB.out]; exact HT5.out,by rw [HB.out]⟩
     case round =>
      obtain ⟨j,s4,hnj,rfl,hty4,hsh⟩:=hrel
      have HNJ:=vH hnj
      have HTL:=vH hty4
      have HSH:=vH hsh
      clear hnj hty4 hsh HT5
      cases gk with
      | zero =>
        have hj:j = D:=by have:=HNJ.out; omega
        subst hj
        obtain ⟨⟨e0,e1⟩,⟨f0,f1⟩,hl⟩:=duo HTL.out.own
        obtain ⟨⟨r0,r1⟩,⟨q0,q1⟩,hl2⟩:=duo HTL.out.res
        have hd0:decide ((j:Int) < (j:Int)) = false:=decide_eq_false (by omega)
        go_wp2_with fail
        have hn:=((Nw.start HTL.out.gr).set (p:=⟨w.heap.size,0,none⟩) (Nat.le_refl _) (.string (cbs (base ts s2).1))).set (p:=⟨w.heap.size,1,none⟩) (Nat.le_refl _) (.int .i64 j)
        have hs4:s4 = shut ts j (base ts s2).2:=HSH.out
        refine bodyPost_ret (v:=.agg #[.string (cbs (base ts s2).1),.int .i64 j]) (by simp [results,Tryz.results92,go_sem,r0,r1]) rfl ⟨rfl,?_,hn.gr⟩
        rw [← hs4]
        exact HH.out.fin HTL.out.cu hn
      | succ m =>
        have hj:j < D:=by have:=HNJ.out; omega
        have hd0:decide ((j:Int) < (D:Int)) = true:=decide_eq_true (by omega)
        have hdw:wrap64 ((j:Int) + 1) = ((j + 1:Nat):Int):=by have:=HNJ.out; have:=HDL.out; simp [wrap64]; omega
        go_wp2_with fail
        refine (zJ _ R T S X ts s4 HTL.out.cu ⟨#[93]⟩).mono ?_
        rintro e w6 ⟨rfl,hr6,hg6⟩
        have HT6:=vH (HTL.out.go hlt hr6 hg6)
        clear hr6 hg6
        go_wp2_with fail
        go_roundg m
        case measure => omega
        case rel => exact ⟨j + 1,_,by have:=HNJ.out; omega,by first | rfl | simp [hdw],HT6.out,HSH.out⟩
    ·have HB:=vH (zE8 hI4)
     try rw [hI4]
     clear hI4
     go_wp2_with fail
     refine (zBD _ R T S X ts s2 HT3.out.cu).mono ?_
     rintro e w4 ⟨rfl,hr4,hg4⟩
     have HT4:=vH (HT3.out.go hlt hr4 hg4)
     clear hr4 hg4 HT3
     obtain ⟨⟨e0,e1⟩,⟨f0,f1⟩,hl⟩:=duo HT4.out.own
     have HT5:=vH (HT4.out.set0 HH.out (.string (cbs (base ts s2).1)))
     rw [HB.out] at HT5
     go_wp2_with fail
     clear HT4 e0 e1 f0 f1 hl
     go_loopg [32] D (fun n v wr => ∃ j s4,n + j = D ∧ v = .int .i64 (j:Nat) ∧ Ty w wr R T S X ts s4 (.string (cbs (base ts s2).1)) D ∧ shut ts n s4 = shut ts D (base ts s2).2)
     case atStart => exact ⟨0,_,rfl,rfl,by rw [HB.out]; exact HT5.out,by rw [HB.out]⟩
     case round =>
      obtain ⟨j,s4,hnj,rfl,hty4,hsh⟩:=hrel
      have HNJ:=vH hnj
      have HTL:=vH hty4
      have HSH:=vH hsh
      clear hnj hty4 hsh HT5
      cases gk with
      | zero =>
        have hj:j = D:=by have:=HNJ.out; omega
        subst hj
        obtain ⟨⟨e0,e1⟩,⟨f0,f1⟩,hl⟩:=duo HTL.out.own
        obtain ⟨⟨r0,r1⟩,⟨q0,q1⟩,hl2⟩:=duo HTL.out.res
        have hd0:decide ((j:Int) < (j:Int)) = false:=decide_eq_false (by omega)
        go_wp2_with fail
        have hn:=((Nw.start HTL.out.gr).set (p:=⟨w.heap.size,0,none⟩) (Nat.le_refl _) (.string (cbs (base ts s2).1))).set (p:=⟨w.heap.size,1,none⟩) (Nat.le_refl _) (.int .i64 j)
        have hs4:s4 = shut ts j (base ts s2).2:=HSH.out
        refine bodyPost_ret (v:=.agg #[.string (cbs (base ts s2).1),.int .i64 j]) (by simp [results,Tryz.results92,go_sem,r0,r1]) rfl ⟨rfl,?_,hn.gr⟩
        rw [← hs4]
        exact HH.out.fin HTL.out.cu hn
      | succ m =>
        have hj:j < D:=by have:=HNJ.out; omega
        have hd0:decide ((j:Int) < (D:Int)) = true:=decide_eq_true (by omega)
        have hdw:wrap64 ((j:Int) + 1) = ((j + 1:Nat):Int):=by have:=HNJ.out; have:=HDL.out; simp [wrap64]; omega
        go_wp2_with fail
        refine (zJ _ R T S X ts s4 HTL.out.cu ⟨#[93]⟩).mono ?_
        rintro e w6 ⟨rfl,hr6,hg6⟩
        have HT6:=vH (HTL.out.go hlt hr6 hg6)
        clear hr6 hg6
        go_wp2_with fail
        go_roundg m
        case measure => omega
        case rel => exact ⟨j + 1,_,by have:=HNJ.out; omega,by first | rfl | simp [hdw],HT6.out,HSH.out⟩
   ·have HB:=vH (zGv hI3)
    try rw [hI3]
    clear hI3
    go_wp2_with fail
    refine (zBD _ R T S X ts s2 HT2.out.cu).mono ?_
    rintro e w4 ⟨rfl,hr4,hg4⟩
    have HT4:=vH (HT2.out.go hlt hr4 hg4)
    clear hr4 hg4 HT2
    obtain ⟨⟨e0,e1⟩,⟨f0,f1⟩,hl⟩:=duo HT4.out.own
    have HT5:=vH (HT4.out.set0 HH.out (.string (cbs (base ts s2).1)))
    rw [HB.out] at HT5
    go_wp2_with fail
    clear HT4 e0 e1 f0 f1 hl
    go_loopg [32] D (fun n v wr => ∃ j s4,n + j = D ∧ v = .int .i64 (j:Nat) ∧ Ty w wr R T S X ts s4 (.string (cbs (base ts s2).1)) D ∧ shut ts n s4 = shut ts D (base ts s2).2)
    case atStart => exact ⟨0,_,rfl,rfl,by rw [HB.out]; exact HT5.out,by rw [HB.out]⟩
    case round =>
     obtain ⟨j,s4,hnj,rfl,hty4,hsh⟩:=hrel
     have HNJ:=vH hnj
     have HTL:=vH hty4
     have HSH:=vH hsh
     clear hnj hty4 hsh HT5
     cases gk with
     | zero =>
       have hj:j = D:=by have:=HNJ.out; omega
       subst hj
       obtain ⟨⟨e0,e1⟩,⟨f0,f1⟩,hl⟩:=duo HTL.out.own
       obtain ⟨⟨r0,r1⟩,⟨q0,q1⟩,hl2⟩:=duo HTL.out.res
       have hd0:decide ((j:Int) < (j:Int)) = false:=decide_eq_false (by omega)
       go_wp2_with fail
       have hn:=((Nw.start HTL.out.gr).set (p:=⟨w.heap.size,0,none⟩) (Nat.le_refl _) (.string (cbs (base ts s2).1))).set (p:=⟨w.heap.size,1,none⟩) (Nat.le_refl _) (.int .i64 j)
       have hs4:s4 = shut ts j (base ts s2).2:=HSH.out
       refine bodyPost_ret (v:=.agg #[.string (cbs (base ts s2).1),.int .i64 j]) (by simp [results,Tryz.results92,go_sem,r0,r1]) rfl ⟨rfl,?_,hn.gr⟩
       rw [← hs4]
       exact HH.out.fin HTL.out.cu hn
     | succ m =>
       have hj:j < D:=by have:=HNJ.out; omega
       have hd0:decide ((j:Int) < (D:Int)) = true:=decide_eq_true (by omega)
       have hdw:wrap64 ((j:Int) + 1) = ((j + 1:Nat):Int):=by have:=HNJ.out; have:=HDL.out; simp [wrap64]; omega
       go_wp2_with fail
       refine (zJ _ R T S X ts s4 HTL.out.cu ⟨#[93]⟩).mono ?_
       rintro e w6 ⟨rfl,hr6,hg6⟩
       have HT6:=vH (HTL.out.go hlt hr6 hg6)
       clear hr6 hg6
       go_wp2_with fail
       go_roundg m
       case measure => omega
       case rel => exact ⟨j + 1,_,by have:=HNJ.out; omega,by first | rfl | simp [hdw],HT6.out,HSH.out⟩
  ·have HI:=vH hI
   clear hI
   cases gk with
   | zero =>
     have hd:d = 3:=by have:=HND.out; omega
     subst hd
     obtain ⟨⟨e0,e1⟩,⟨f0,f1⟩,hl⟩:=duo HTY.out.own
     go_wp2_with fail
     refine (zG _ R T S X ts s1 HTY.out.cu ⟨#[91]⟩).mono ?_
     rintro e w1 ⟨rfl,hb1⟩
     rw [HI.out]
     have HT1:=vH (HTY.out.go hlt (HTY.out.cu.go hb1) (Gr.of hb1))
     clear hb1 e0 e1 f0 f1 hl
     obtain ⟨⟨e0,e1⟩,⟨f0,f1⟩,hl⟩:=duo HT1.out.own
     go_wp2_with fail
     refine (zA2 _ R T S X ts s1 HT1.out.cu 4).mono ?_
     rintro e wf ⟨rfl,hrf,hgf⟩
     have hD : 3 = D:=by have:=HD1.out; rw [zE3 HI.out] at this; exact this
     have hs2:fail ts s1 4 = s2:=by have:=HD2.out; rw [zE3 HI.out] at this; exact this
     have HTF:Hid (Ty w wf R T S X ts s2 (.string ⟨#[]⟩) D):=by rw [← hD,← hs2]; exact vH (HT1.out.go hlt hrf hgf)
     clear hrf hgf e0 e1 f0 f1 hl hs2 hD HT1
     have HT1:=HTF
     clear HTF
     go_wp2_with fail
     refine (zAF _ R T S X ts s2 HT1.out.cu 3 ⟨#[105,110,116]⟩).mono ?_
     rintro e w2 ⟨rfl,hb2⟩
     have HT2:=vH (HT1.out.go hlt (HT1.out.cu.go hb2) (Gr.of hb2))
     clear hb2 HT1
     cases hI3:sees ts s2 3 [105,110,116]
     ·have HI3:=vH hI3
      try rw [hI3]
      clear hI3
      go_wp2_with fail
      refine (zAF _ R T S X ts s2 HT2.out.cu 3 ⟨#[98,111,111,108]⟩).mono ?_
      rintro e w3 ⟨rfl,hb3⟩
      have HT3:=vH (HT2.out.go hlt (HT2.out.cu.go hb3) (Gr.of hb3))
      clear hb3 HT2
      cases hI4:sees ts s2 3 [98,111,111,108]
      ·have HB:=vH (zE7 HI3.out hI4)
       try rw [hI4]
       clear hI4
       go_wp2_with fail
       refine (name_any _ R T S X ts s2 HT3.out.cu).mono ?_
       rintro e w4 ⟨rfl,hr4,hg4⟩
       have HT4:=vH (HT3.out.go hlt hr4 hg4)
       clear hr4 hg4 HT3
       obtain ⟨⟨e0,e1⟩,⟨f0,f1⟩,hl⟩:=duo HT4.out.own
       have HT5:=vH (HT4.out.set0 HH.out (.string (cbs (base ts s2).1)))
       rw [HB.out] at HT5
       go_wp2_with fail
       clear HT4 e0 e1 f0 f1 hl
       go_loopg [32] D (fun n v wr => ∃ j s4,n + j = D ∧ v = .int .i64 (j:Nat) ∧ Ty w wr R T S X ts s4 (.string (cbs (base ts s2).1)) D ∧ shut ts n s4 = shut ts D (base ts s2).2)
       case atStart => exact ⟨0,_,rfl,rfl,by rw [HB.out]; exact HT5.out,by rw [HB.out]⟩
       case round =>
          obtain ⟨j,s4,hnj,rfl,hty4,hsh⟩:=hrel
          have HNJ:=vH hnj
          have HTL:=vH hty4
          have HSH:=vH hsh
          clear hnj hty4 hsh HT5
          cases gk with
          | zero =>
            have hj:j = D:=by have:=HNJ.out; omega
            subst hj
            obtain ⟨⟨e0,e1⟩,⟨f0,f1⟩,hl⟩:=duo HTL.out.own
            obtain ⟨⟨r0,r1⟩,⟨q0,q1⟩,hl2⟩:=duo HTL.out.res
            have hd0:decide ((j:Int) < (j:Int)) = false:=decide_eq_false (by omega)
            go_wp2_with fail
            have hn:=((Nw.start HTL.out.gr).set (p:=⟨w.heap.size,0,none⟩) (Nat.le_refl _) (.string (cbs (base ts s2).1))).set (p:=⟨w.heap.size,1,none⟩) (Nat.le_refl _) (.int .i64 j)
            have hs4:s4 = shut ts j (base ts s2).2:=HSH.out
            refine bodyPost_ret (v:=.agg #[.string (cbs (base ts s2).1),.int .i64 j]) (by simp [results,Tryz.results92,go_sem,r0,r1]) rfl ⟨rfl,?_,hn.gr⟩
            rw [← hs4]
            exact HH.out.fin HTL.out.cu hn
          | succ m =>
            have hj:j < D:=by have:=HNJ.out; omega
            have hd0:decide ((j:Int) < (D:Int)) = true:=decide_eq_true (by omega)
            have hdw:wrap64 ((j:Int) + 1) = ((j + 1:Nat):Int):=by have:=HNJ.out; have:=HDL.out; simp [wrap64]; omega
            go_wp2_with fail
            refine (zJ _ R T S X ts s4 HTL.out.cu ⟨#[93]⟩).mono ?_
            rintro e w6 ⟨rfl,hr6,hg6⟩
            have HT6:=vH (HTL.out.go hlt hr6 hg6)
            clear hr6 hg6
            go_wp2_with fail
            go_roundg m
            case measure => omega
            case rel => exact ⟨j + 1,_,by have:=HNJ.out; omega,by first | rfl | simp [hdw],HT6.out,HSH.out⟩
      ·have HB:=vH (zE8 hI4)
       try rw [hI4]
       clear hI4
       go_wp2_with fail
       refine (zBD _ R T S X ts s2 HT3.out.cu).mono ?_
       rintro e w4 ⟨rfl,hr4,hg4⟩
       have HT4:=vH (HT3.out.go hlt hr4 hg4)
       clear hr4 hg4 HT3
       obtain ⟨⟨e0,e1⟩,⟨f0,f1⟩,hl⟩:=duo HT4.out.own
       have HT5:=vH (HT4.out.set0 HH.out (.string (cbs (base ts s2).1)))
       rw [HB.out] at HT5
       go_wp2_with fail
       clear HT4 e0 e1 f0 f1 hl
       go_loopg [32] D (fun n v wr => ∃ j s4,n + j = D ∧ v = .int .i64 (j:Nat) ∧ Ty w wr R T S X ts s4 (.string (cbs (base ts s2).1)) D ∧ shut ts n s4 = shut ts D (base ts s2).2)
       case atStart => exact ⟨0,_,rfl,rfl,by rw [HB.out]; exact HT5.out,by rw [HB.out]⟩
       case round =>
          obtain ⟨j,s4,hnj,rfl,hty4,hsh⟩:=hrel
          have HNJ:=vH hnj
          have HTL:=vH hty4
          have HSH:=vH hsh
          clear hnj hty4 hsh HT5
          cases gk with
          | zero =>
            have hj:j = D:=by have:=HNJ.out; omega
            subst hj
            obtain ⟨⟨e0,e1⟩,⟨f0,f1⟩,hl⟩:=duo HTL.out.own
            obtain ⟨⟨r0,r1⟩,⟨q0,q1⟩,hl2⟩:=duo HTL.out.res
            have hd0:decide ((j:Int) < (j:Int)) = false:=decide_eq_false (by omega)
            go_wp2_with fail
            have hn:=((Nw.start HTL.out.gr).set (p:=⟨w.heap.size,0,none⟩) (Nat.le_refl _) (.string (cbs (base ts s2).1))).set (p:=⟨w.heap.size,1,none⟩) (Nat.le_refl _) (.int .i64 j)
            have hs4:s4 = shut ts j (base ts s2).2:=HSH.out
            refine bodyPost_ret (v:=.agg #[.string (cbs (base ts s2).1),.int .i64 j]) (by simp [results,Tryz.results92,go_sem,r0,r1]) rfl ⟨rfl,?_,hn.gr⟩
            rw [← hs4]
            exact HH.out.fin HTL.out.cu hn
          | succ m =>
            have hj:j < D:=by have:=HNJ.out; omega
            have hd0:decide ((j:Int) < (D:Int)) = true:=decide_eq_true (by omega)
            have hdw:wrap64 ((j:Int) + 1) = ((j + 1:Nat):Int):=by have:=HNJ.out; have:=HDL.out; simp [wrap64]; omega
            go_wp2_with fail
            refine (zJ _ R T S X ts s4 HTL.out.cu ⟨#[93]⟩).mono ?_
            rintro e w6 ⟨rfl,hr6,hg6⟩
            have HT6:=vH (HTL.out.go hlt hr6 hg6)
            clear hr6 hg6
            go_wp2_with fail
            go_roundg m
            case measure => omega
            case rel => exact ⟨j + 1,_,by have:=HNJ.out; omega,by first | rfl | simp [hdw],HT6.out,HSH.out⟩
     ·have HB:=vH (zGv hI3)
      try rw [hI3]
      clear hI3
      go_wp2_with fail
      refine (zBD _ R T S X ts s2 HT2.out.cu).mono ?_
      rintro e w4 ⟨rfl,hr4,hg4⟩
      have HT4:=vH (HT2.out.go hlt hr4 hg4)
      clear hr4 hg4 HT2
      obtain ⟨⟨e0,e1⟩,⟨f0,f1⟩,hl⟩:=duo HT4.out.own
      have HT5:=vH (HT4.out.set0 HH.out (.string (cbs (base ts s2).1)))
      rw [HB.out] at HT5
      go_wp2_with fail
      clear HT4 e0 e1 f0 f1 hl
      go_loopg [32] D (fun n v wr => ∃ j s4,n + j = D ∧ v = .int .i64 (j:Nat) ∧ Ty w wr R T S X ts s4 (.string (cbs (base ts s2).1)) D ∧ shut ts n s4 = shut ts D (base ts s2).2)
      case atStart => exact ⟨0,_,rfl,rfl,by rw [HB.out]; exact HT5.out,by rw [HB.out]⟩
      case round =>
       obtain ⟨j,s4,hnj,rfl,hty4,hsh⟩:=hrel
       have HNJ:=vH hnj
       have HTL:=vH hty4
       have HSH:=vH hsh
       clear hnj hty4 hsh HT5
       cases gk with
       | zero =>
         have hj:j = D:=by have:=HNJ.out; omega
         subst hj
         obtain ⟨⟨e0,e1⟩,⟨f0,f1⟩,hl⟩:=duo HTL.out.own
         obtain ⟨⟨r0,r1⟩,⟨q0,q1⟩,hl2⟩:=duo HTL.out.res
         have hd0:decide ((j:Int) < (j:Int)) = false:=decide_eq_false (by omega)
         go_wp2_with fail
         have hn:=((Nw.start HTL.out.gr).set (p:=⟨w.heap.size,0,none⟩) (Nat.le_refl _) (.string (cbs (base ts s2).1))).set (p:=⟨w.heap.size,1,none⟩) (Nat.le_refl _) (.int .i64 j)
         have hs4:s4 = shut ts j (base ts s2).2:=HSH.out
         refine bodyPost_ret (v:=.agg #[.string (cbs (base ts s2).1),.int .i64 j]) (by simp [results,Tryz.results92,go_sem,r0,r1]) rfl ⟨rfl,?_,hn.gr⟩
         rw [← hs4]
         exact HH.out.fin HTL.out.cu hn
       | succ m =>
         have hj:j < D:=by have:=HNJ.out; omega
         have hd0:decide ((j:Int) < (D:Int)) = true:=decide_eq_true (by omega)
         have hdw:wrap64 ((j:Int) + 1) = ((j + 1:Nat):Int):=by have:=HNJ.out; have:=HDL.out; simp [wrap64]; omega
         go_wp2_with fail
         refine (zJ _ R T S X ts s4 HTL.out.cu ⟨#[93]⟩).mono ?_
         rintro e w6 ⟨rfl,hr6,hg6⟩
         have HT6:=vH (HTL.out.go hlt hr6 hg6)
         clear hr6 hg6
         go_wp2_with fail
         go_roundg m
         case measure => omega
         case rel => exact ⟨j + 1,_,by have:=HNJ.out; omega,by first | rfl | simp [hdw],HT6.out,HSH.out⟩
   | succ m =>
     have hd:d < 3:=by have:=HND.out; omega
     obtain ⟨⟨e0,e1⟩,⟨f0,f1⟩,hl⟩:=duo HTY.out.own
     have hde:((d:Int) == 3) = false:=by simp; omega
     have hdw:wrap64 ((d:Int) + 1) = ((d + 1:Nat):Int):=by simp [wrap64]; omega
     go_wp2_with fail
     refine (zG _ R T S X ts s1 HTY.out.cu ⟨#[91]⟩).mono ?_
     rintro e w1 ⟨rfl,hb1⟩
     rw [HI.out]
     have HT1:=vH (HTY.out.go hlt (HTY.out.cu.go hb1) (Gr.of hb1))
     clear hb1 e0 e1 f0 f1 hl
     obtain ⟨⟨e0,e1⟩,⟨f0,f1⟩,hl⟩:=duo HT1.out.own
     go_wp2_with fail
     refine (zL _ R T S X ts s1 HT1.out.cu).mono ?_
     rintro e wf ⟨rfl,hrf,hgf⟩
     have HTF:=vH (HT1.out.go hlt hrf hgf)
     clear hrf hgf e0 e1 f0 f1 hl
     obtain ⟨⟨e0,e1⟩,⟨f0,f1⟩,hl⟩:=duo HTF.out.own
     go_wp2_with fail
     go_roundg m
     case measure => omega
     case rel =>
      refine ⟨next s1,d + 1,by have:=HND.out; omega,?_,?_,?_⟩
      ·have:=HTF.out.set1 HH.out (d + 1); simpa using this
      ·have:=HD1.out; rw [zGq HI.out] at this; rw [← this]; omega
      ·have:=HD2.out; rw [zGq HI.out] at this; exact this
end Go.Proofs.YtipmjjfknhblnaaGreatDoor
