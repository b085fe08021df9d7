/-
  Law 6's own known text.
-/
import Derived.Test.YtmiiplefgkcklaaDoorK07
import Derived.Test.YtmiiplefgkcklaaDoorK26
import Derived.Test.YtmiiplefgkcklaaDoorK13
import Derived.Test.YtmiiplefgkcklaaDoorK16
import Derived.Test.YtmiiplefgkcklaaDoorK04
import Derived.Test.YtmiiplefgkcklaaDoorK42
import Derived.Test.YtmiiplefgkcklaaDoorK43
import Derived.Deep.CutBlock
import Derived.RegionTactic
set_option maxRecDepth 8000
set_option maxHeartbeats 8000000
namespace Go.Proofs.YtmiiplefgkcklaaDoor
open Go.RowKit
open Pe (Ex)
open Ps (Sm kindOf)
open Pg (Pm Rc Fc Gm)
open Rt (tyB prG shG zPW)
def k6T:List UInt8:=[102,117,110,99,32,109,97,105,110,40,41,123,105,102,32,49,60,50,123,112,114,105,110,116,40,49,43,50,41,42,51,59,125,125]
def k6P:List UInt8:=[102,117,110,99,32,109,97,105,110,40,41,32,123,10,32,32,105,102,32,49,32,60,32,50,32,123,10,32,32,32,32,112,114,105,110,116,32,40,49,32,43,32,50,41,32,42,32,51,59,10,32,32,125,10,125,10]
set_option maxRecDepth 100000 in
theorem zSq:(answer k6T).2 = (0,0):=by kernel_rfl
set_option maxRecDepth 100000 in
theorem zR4:prG (answer k6T).1 = k6P:=by kernel_rfl
theorem zSp:tyB [105,110,116] 2 = [91,91,105,110,116,93,93]:=by kernel_rfl
theorem zQM (w:World)(he:EnvS w) :
 Calls Tryd.prog 11 #[] w fun e w' => e = .returned (.bool true) ∧ Below w.heap.size w w':=by
 have hq:=zMD ⟨#[102,117,110,99,32,109,97,105,110,40,41,123,105,102,32,49,60,50,123,112,114,105,110,116,40,49,43,50,41,42,51,59,125,125]⟩ (by decide) w
 rw [show (⟨#[102,117,110,99,32,109,97,105,110,40,41,123,105,102,32,49,60,50,123,112,114,105,110,116,40,49,43,50,41,42,51,59,125,125]⟩:ByteArray).data.toList = k6T from rfl] at hq
 have hf:=zSq
 have hsh:=zPW (show (answer k6T).2.1 = 0 by rw [hf])
 have hpr:=zR4
 generalize answer k6T = y at hq hf hsh hpr
 obtain ⟨g,E,K⟩:=y
 dsimp only at hf hsh hpr
 injection hf with hE hK
 subst hE hK
 have HQ:=vH hq
 have HSH:=vH hsh
 have HPR:=vH hpr
 have HE:=vH he
 clear hq hsh hpr he
 go_in
 go_wp2_with fail
 refine HQ.out.mono ?_
 rintro e w1 ⟨p1,n1,c1,p2,n2,c2,p3,n3,c3,rfl,hgi,hb⟩
 have HG1:=vH hgi
 have HB1:=vH hb
 clear hgi hb HQ
 go_wp2_with fail
 have hba:Below w1.heap.size w1 ((w1.alloc (.cells #[.slice p1 n1 c1,.slice p2 n2 c2,.slice p3 n3 c3] 26)).alloc (.cells vF 29)):=zCB (zCB (Below.refl _ _))
 have hp:=zRc _ ((HE.out.below HB1.out).below hba) g HSH.out ((HG1.out.ag (Ag.below hba)).lower (Nat.zero_le _)) (by rw [HPR.out]; decide)
 rw [HPR.out] at hp
 have HB2:=vH (zF HB1.out hba HB1.out.size)
 have HP:=vH hp
 clear hp hba
 refine HP.out.mono ?_
 rintro e w2 ⟨rfl,hb⟩
 have HB3:=vH (zF HB2.out hb HB2.out.size)
 clear hb HP
 have hc:(cbs k6P).toList = [102,117,110,99,32,109,97,105,110,40,41,32,123,10,32,32,105,102,32,49,32,60,32,50,32,123,10,32,32,32,32,112,114,105,110,116,32,40,49,32,43,32,50,41,32,42,32,51,59,10,32,32,125,10,125,10]:=zM _
 go_wp2_with fail
 clear hc
 have hty:=zQY w2 [105,110,116] 2 (by decide) (by decide)
 rw [zSp] at hty
 refine hty.mono ?_
 rintro e w3 ⟨rfl,hb⟩
 have HB4:=vH (zF HB3.out hb HB3.out.size)
 clear hb hty
 have hc:(cbs [91,91,105,110,116,93,93]).toList = [91,91,105,110,116,93,93]:=zM _
 go_wp2_with fail
 go_ret
 exact ⟨rfl,HB4.out⟩
end Go.Proofs.YtmiiplefgkcklaaDoor
namespace Go.Proofs.YtmiiplefgkcklaaDoor
open Go.RowKit
open Pe (Ex)
open Ps (Sm kindOf)
open Pg (Pm Rc Fc Gm)
open Rt (prG shG zPW zPL zPP zPZ)
theorem zRE (s:ByteArray)(hs:s.size ≤ 4000)(w:World)(he:EnvS w)(h0:(answer s.data.toList).2.1 = 0) :
 Calls Tryd.prog 4 #[.string s] w fun e w' => e = .returned (.bool true) ∧ Below w.heap.size w w':=by
 have hm:s.size ≤ maxLen:=Nat.le_trans hs (by decide)
 have hq:=zMD s hm w
 have hfi:=zQh s.data.toList
 have hsh:=zPW h0
 have hlen:=zPZ h0
 have hbk:=fun hl => zPL h0 hl
 have hag:=fun hl => zPP h0 hl
 generalize answer s.data.toList = y at hq hfi hsh hlen hbk hag h0
 obtain ⟨g,E,K⟩:=y
 dsimp only at hfi hsh hlen hbk hag h0
 subst h0
 have hd1:decide ((4000:Int) < (s.size:Int)) = false:=decide_eq_false (by omega)
 have HQ:=vH hq
 have HE:=vH he
 have HFI:=vH hfi
 have HSH:=vH hsh
 have HLEN:=vH hlen
 have HBK:=vH hbk
 have HAG:=vH hag
 clear hq he hfi hsh hlen hbk hag hm hs
 go_in
 go_wp2_with fail
 refine HQ.out.mono ?_
 rintro e w1 ⟨p1,n1,c1,p2,n2,c2,p3,n3,c3,rfl,hgi,hb⟩
 have HG1:=vH hgi
 have HB1:=vH hb
 clear hgi hb HQ
 go_wp2_with fail
 have hba:Below w1.heap.size w1 ((w1.alloc (.cells #[.slice p1 n1 c1,.slice p2 n2 c2,.slice p3 n3 c3] 26)).alloc (.cells #[.int .i64 0,.int .i64 K] 29)):=zCB (zCB (Below.refl _ _))
 have HKA:=vH (show ((w1.alloc (.cells #[.slice p1 n1 c1,.slice p2 n2 c2,.slice p3 n3 c3] 26)).alloc (.cells #[.int .i64 0,.int .i64 K] 29)).heap[w1.heap.size]? = some (.cells #[.slice p1 n1 c1,.slice p2 n2 c2,.slice p3 n3 c3] 26 (0,0)) from zK _ (heap_alloc_new w1 _))
 have HGA:=vH (HG1.out.ag (Ag.below hba))
 have hp:=zRc _ ((HE.out.below HB1.out).below hba) g HSH.out (HGA.out.lower (Nat.zero_le _)) (by have:=HLEN.out; omega)
 have HB2:=vH (zF HB1.out hba HB1.out.size)
 have HP:=vH hp
 clear hp hba HG1
 refine HP.out.mono ?_
 rintro e w2 ⟨rfl,hb⟩
 have HB3:=vH (zF HB2.out hb HB2.out.size)
 have HGB:=vH (HGA.out.ag (Ag.below hb))
 have HKB:=vH ((hb.block _ (zA HKA.out)).trans HKA.out)
 clear hb HP HGA HKA
 have hsz:(cbs (prG g)).size = (prG g).length:=zN5 _
 by_cases hl:(prG g).length ≤ 6000
 ·have hq2:=fun w3 => zMD (cbs (prG g)) (by rw [zN5]; exact Nat.le_trans hl (by decide)) w3
  have hfi2:=zQh (cbs (prG g)).data.toList
  rw [show (cbs (prG g)).data.toList = prG g from rfl] at hq2 hfi2
  obtain ⟨hb0,hsame⟩:=HBK.out hl
  have hag:=HAG.out hl
  have hsh2:=zPW hb0
  generalize answer (prG g) = y at hq2 hfi2 hb0 hsame hag hsh2
  obtain ⟨g2,E2,K2⟩:=y
  dsimp only at hfi2 hb0 hsame hag hsh2
  subst hb0
  have hd2:decide ((6000:Int) < ((prG g).length:Int)) = false:=decide_eq_false (by omega)
  have hd3:decide (6000 < (prG g).length) = false:=decide_eq_false (by omega)
  have HQ2:=vH hq2
  have HS2:=vH hsame
  have HA2:=vH hag
  have HSH2:=vH hsh2
  have HL2:=vH hl
  clear hq2 hfi2 hsame hag hsh2 hl
  go_wp2_with fail
  refine (HQ2.out w2).mono ?_
  rintro e w3 ⟨q1,m1,e1,q2,m2,e2,q3,m3,e3,rfl,hgi,hb⟩
  have HG2:=vH hgi
  have HB4:=vH (zF HB3.out hb HB3.out.size)
  have HGC:=vH (HGB.out.ag (Ag.below hb))
  have HKC:=vH ((hb.block _ (zA HKB.out)).trans HKB.out)
  clear hgi hb HQ2 HGB HKB
  go_upto_region 8 with fail
  obtain ⟨wz,hwz⟩:∃ wz,wz = (w3.alloc (.cells #[.slice q1 m1 e1,.slice q2 m2 e2,.slice q3 m3 e3] 26)).alloc (.cells #[.int .i64 0,.int .i64 K2] 29):=⟨_,rfl⟩
  rw [← hwz]
  have hbz:Below w3.heap.size w3 wz:=by rw [hwz]; exact zCB (zCB (Below.refl _ _))
  have HKD:=vH (show wz.heap[w3.heap.size]? = some (.cells #[.slice q1 m1 e1,.slice q2 m2 e2,.slice q3 m3 e3] 26 (0,0)) by rw [hwz]; exact zK _ (heap_alloc_new w3 _))
  have HFD:=vH (show wz.heap[w3.heap.size + 1]? = some (.cells #[.int .i64 0,.int .i64 K2] 29 (0,0)) by rw [hwz]; have:=heap_alloc_new (w3.alloc (.cells #[.slice q1 m1 e1,.slice q2 m2 e2,.slice q3 m3 e3] 26)) (.cells #[.int .i64 0,.int .i64 K2] 29); rw [zB] at this; exact this)
  have HKE:=vH ((hbz.block _ (zA HKC.out)).trans HKC.out)
  have HGD:=vH (HG2.out.ag (Ag.below hbz))
  have HGE:=vH (HGC.out.ag (Ag.below hbz))
  have HB5:=vH (zF HB4.out hbz HB4.out.size)
  clear hwz hbz HG2 HGC HKC
  obtain ⟨⟨f0,f1⟩,-⟩:=duo HFD.out
  obtain ⟨⟨x0,x1,x2⟩,-⟩:=tri HKE.out
  obtain ⟨⟨y0,y1,y2⟩,-⟩:=tri HKD.out
  go_wp2_with fail
  have hs:=zL8 wz g g2 HGE.out HGD.out HFI.out
  rw [HS2.out] at hs
  refine hs.mono ?_
  rintro e w4 ⟨rfl,hb⟩
  clear f0 f1 x0 x1 x2 y0 y1 y2 hs
  have HKF:=vH ((hb.block _ (zA HKD.out)).trans HKD.out)
  have HGF:=vH (HGD.out.ag (Ag.below hb))
  have HB6:=vH (zF HB5.out hb HB5.out.size)
  clear hb
  obtain ⟨⟨y0,y1,y2⟩,-⟩:=tri HKF.out
  go_wp2_with fail
  have hp:=zRc w4 (HE.out.below HB6.out) g2 HSH2.out (HGF.out.lower (Nat.zero_le _)) (by rw [HA2.out]; have:=HL2.out; omega)
  rw [HA2.out] at hp
  refine hp.mono ?_
  rintro e w5 ⟨rfl,hb⟩
  have HB7:=vH (zF HB6.out hb HB6.out.size)
  clear hb hp y0 y1 y2
  go_wp2_with fail
  refine (zQM w5 (HE.out.below HB7.out)).mono ?_
  rintro e w6 ⟨rfl,hb⟩
  have HB8:=vH (zF HB7.out hb HB7.out.size)
  clear hb
  go_wp2_with fail
  go_ret
  exact ⟨rfl,HB8.out⟩
 ·have hd2:decide ((6000:Int) < ((prG g).length:Int)) = true:=decide_eq_true (by omega)
  have hd3:decide (6000 < (prG g).length) = true:=decide_eq_true (by omega)
  clear hl
  go_wp2_with fail
  refine (zQM w2 (HE.out.below HB3.out)).mono ?_
  rintro e w3 ⟨rfl,hb⟩
  have HB4:=vH (zF HB3.out hb HB3.out.size)
  clear hb
  go_wp2_with fail
  go_ret
  exact ⟨rfl,HB4.out⟩
theorem showBack_walk (s:ByteArray)(hs:s.size ≤ maxLen)(w:World)(he:EnvS w) :
 Calls Tryd.prog 4 #[.string s] w fun e w' => e = .returned (.bool true) ∧ Below w.heap.size w w':=by
 by_cases h:s.size ≤ 4000
 ·by_cases h0:(answer s.data.toList).2.1 = 0
  ·exact zRE s h w he h0
  ·have hq:=zMD s hs w
   generalize answer s.data.toList = y at hq h0
   obtain ⟨g,E,K⟩:=y
   dsimp only at h0
   have hd1:decide ((4000:Int) < (s.size:Int)) = false:=decide_eq_false (by omega)
   have hd2:(E != 0) = true:=bne_iff_ne.2 h0
   have HQ:=vH hq
   clear hq h0 h hs he
   go_in
   go_wp2_with fail
   refine HQ.out.mono ?_
   rintro e w1 ⟨p1,n1,c1,p2,n2,c2,p3,n3,c3,rfl,-,hb⟩
   have HB1:=vH hb
   clear hb HQ
   go_wp2_with fail
   go_ret
   exact ⟨rfl,zCB (zCB HB1.out)⟩
 ·have hq:=zMD s hs w
  generalize answer s.data.toList = y at hq
  obtain ⟨g,E,K⟩:=y
  have hd1:decide ((4000:Int) < (s.size:Int)) = true:=decide_eq_true (by omega)
  have HQ:=vH hq
  clear hq h hs he
  go_in
  go_wp2_with fail
  refine HQ.out.mono ?_
  rintro e w1 ⟨p1,n1,c1,p2,n2,c2,p3,n3,c3,rfl,-,hb⟩
  have HB1:=vH hb
  clear hb HQ
  go_wp2_with fail
  go_ret
  exact ⟨rfl,zCB (zCB HB1.out)⟩
end Go.Proofs.YtmiiplefgkcklaaDoor
namespace Go.Proofs.YtmiiplefgkcklaaDoor
open Go.RowKit
open Px (RT tokAt isT)
open Pe (inc dec Ex)
open Qe (Q)
theorem zQl (w:World)(R0:Nat)(S:Value)(ts:List RT)(k o:Int)(h:Toks w R0 S ts)(f:Nat)(hf:f ≤ 1000000000)(x:Ex × Int × Int × Int)(hx:Qe.expr ts f k o = some x) :
 Calls Tryd.prog 14 #[S,.int .i64 k,.int .i64 o] w fun e w' => ∃ (kind num:Int) (name ofn:List UInt8) (dims:Int) (p:Option Addr) (n c:Nat) (at_ b r d ref:Int),
  e = .returned (.tuple #[.agg #[.int .i64 kind,.int .i64 num,.string (cbs name),.string (cbs ofn),.int .i64 dims,.slice p n c,.int .i64 at_,.int .i64 b,.int .i64 r,.int .i64 d,.int .i64 ref],.int .i64 x.2.1,.agg #[.int .i64 x.2.2.1,.int .i64 x.2.2.2]]) ∧
  Is w' w.heap.size x.1 (exCells kind num name ofn dims (.slice p n c) at_ b r d ref) ∧ Below w.heap.size w w':=by
 obtain ⟨p,n,c,rfl⟩:=h.slice
 obtain ⟨e0,s1,he,rfl⟩:∃ e0 s1,Qe.run ts f 0 ⟨k,max o 0,0,0⟩ = some (e0,s1) ∧ x = Qe.exEnd e0 s1:=by
  unfold Qe.expr at hx
  split at hx
  ·cases hx
  ·rename_i e0 s1 he
   exact ⟨e0,s1,he,by simpa using hx.symm⟩
 obtain ⟨w0,hw0⟩:∃ w0,w0 = ((w.alloc (.cells vE 45)).alloc (.cells vF 29)).alloc (.cells #[.slice p n c,.int .i64 k,.int .i64 (max o 0),.int .i64 0,.int .i64 0] 58):=⟨_,rfl⟩
 have hb0:Below w.heap.size w w0:=by rw [hw0]; exact zCB (zCB (zCB (Below.refl _ _)))
 have hk1:w0.heap[w.heap.size]? = some (.cells vE 45 (0,0)):=by rw [hw0]; exact zK _ (zK _ (heap_alloc_new w _))
 have hk2:w0.heap[w.heap.size + 1]? = some (.cells vF 29 (0,0)):=by rw [hw0]; have:=zK (.cells #[.slice p n c,.int .i64 k,.int .i64 (max o 0),.int .i64 0,.int .i64 0] 58) (heap_alloc_new (w.alloc (.cells vE 45)) (.cells vF 29)); rw [zB] at this; exact this
 have hk3:w0.heap[w.heap.size + 1 + 1]? = some (.cells #[.slice p n c,.int .i64 k,.int .i64 (max o 0),.int .i64 0,.int .i64 0] 58 (0,0)):=by rw [hw0]; have:=heap_alloc_new ((w.alloc (.cells vE 45)).alloc (.cells vF 29)) (.cells #[.slice p n c,.int .i64 k,.int .i64 (max o 0),.int .i64 0,.int .i64 0] 58); simp only [zB] at this; exact this
 have hq:Qr w0 (w.heap.size + 1 + 1) (.slice p n c) ts ⟨k,max o 0,0,0⟩:=⟨hk3,(h.re (by omega)).below hb0⟩
 have HRUN:=vH (zK2 ts f hf)
 have HE:=vH he
 have HQ:=vH hq
 have HB0:=vH hb0
 have HK1:=vH hk1
 have HK2:=vH hk2
 clear h he hx hb0 hk1 hk2 hk3 hq
 go_in
 go_wp2_with fail
 rw [← hw0]
 refine (HRUN.out 0 _ _ (by decide) HE.out w0 _ _ HQ.out).mono ?_
 rintro e w1 ⟨qk,qn,qs,qo,qd,qp,ql,qc,qa,qb,qr,qe,qf,rfl,hi,hr,hg⟩
 have HR1:=vH (hr.go ((Below.refl _ _).alloc (Nat.le_refl _) (.cells #[.int .i64 qk,.int .i64 qn,.string (cbs qs),.string (cbs qo),.int .i64 qd,.slice qp ql qc,.int .i64 qa,.int .i64 qb,.int .i64 qr,.int .i64 qe,.int .i64 qf] 45)))
 have HI:=vH (hi.alloc (.cells #[.int .i64 qk,.int .i64 qn,.string (cbs qs),.string (cbs qo),.int .i64 qd,.slice qp ql qc,.int .i64 qa,.int .i64 qb,.int .i64 qr,.int .i64 qe,.int .i64 qf] 45))
 have hg2:=hg.alloc (.cells #[.int .i64 qk,.int .i64 qn,.string (cbs qs),.string (cbs qo),.int .i64 qd,.slice qp ql qc,.int .i64 qa,.int .i64 qb,.int .i64 qr,.int .i64 qe,.int .i64 qf] 45)
 have HX:=vH (heap_alloc_new w1 (.cells #[.int .i64 qk,.int .i64 qn,.string (cbs qs),.string (cbs qo),.int .i64 qd,.slice qp ql qc,.int .i64 qa,.int .i64 qb,.int .i64 qr,.int .i64 qe,.int .i64 qf] 45))
 have HA1:=vH (hg2.box HK1.out (by omega))
 have HA2:=vH (hg2.box HK2.out (by omega))
 have HSZ:Hid (w.heap.size + 1 + 1 < w1.heap.size):=hr.lt
 have HSZ0:Hid (w.heap.size + 1 + 1 < w0.heap.size):=HQ.out.lt
 have HB1:Hid (Below w.heap.size w (w1.alloc (.cells #[.int .i64 qk,.int .i64 qn,.string (cbs qs),.string (cbs qo),.int .i64 qd,.slice qp ql qc,.int .i64 qa,.int .i64 qb,.int .i64 qr,.int .i64 qe,.int .i64 qf] 45))):=zN9 HB0.out hg2 (by omega) HB0.out.size
 clear hi hr hg hg2 HE HRUN HQ HB0 HK1 HK2 hw0
 obtain ⟨⟨k2,o2,E2,F2⟩,hs1⟩:∃ q,q = s1:=⟨_,rfl⟩
 subst hs1
 go_wp2_with fail
 refine (zAC _ _ _ ts _ HR1.out).mono ?_
 rintro e w2 ⟨rfl,hw2⟩
 rw [hw2] at HR1 HI HX HA1 HA2 HB1
 clear hw2
 obtain ⟨⟨c0,c1,c2,c3,c4⟩,fr,hRl⟩:=HR1.out.cells
 obtain ⟨⟨x0,x1,x2,x3,x4,x5,x6,x7,x8,x9,xX⟩,y0,y1,y2,y3,y4,y5,y6,y7,y8,y9,yX⟩:=hen HX.out
 have hlx:=zA HX.out
 obtain ⟨⟨d0,d1,d2,d3,d4,d5,d6,d7,d8,d9,dX⟩,g0,g1,g2,g3,g4,g5,g6,g7,g8,g9,gX⟩:=hen HA1.out
 have hld:=zA HA1.out
 obtain ⟨⟨b0,b1⟩,⟨h0,h1⟩,hlb⟩:=duo HA2.out
 have hd1:w.heap.size ≠ w1.heap.size:=by have:=HSZ.out; omega
 have hd2:w.heap.size + 1 ≠ w1.heap.size:=by have:=HSZ.out; omega
 have hd3:=Ne.symm hd1
 have hd4:=Ne.symm hd2
 have hd5:w.heap.size + 1 + 1 ≠ w1.heap.size:=by have:=HSZ.out; omega
 have hd6:=Ne.symm hd5
 dsimp only at c1 c2 c3 c4
 have hN1:w.heap.size < w0.heap.size:=by have:=HSZ0.out; omega
 have hN2:w.heap.size + 1 < w0.heap.size:=by have:=HSZ0.out; omega
 by_cases hE:E2 = 0
 ·subst hE
  go_wp2_with fail
  go_region
  all_goals go_wp2_with fail
  have hx:Qe.exEnd e0 ⟨k2,o2,0,F2⟩ = (e0,k2,0,0):=if_pos rfl
  exact bodyPost_ret (v:=.tuple #[.agg #[.int .i64 qk,.int .i64 qn,.string (cbs qs),.string (cbs qo),.int .i64 qd,.slice qp ql qc,.int .i64 qa,.int .i64 qb,.int .i64 qr,.int .i64 qe,.int .i64 qf],.int .i64 k2,.agg #[.int .i64 0,.int .i64 0]]) (by simp [results,Tryd.results14,go_sem,d0,d1,d2,d3,d4,d5,d6,d7,d8,d9,dX,b0,b1]) rfl ⟨_,_,_,_,_,_,_,_,_,_,_,_,_,by rw [hx],by rw [hx]; exact Is.lower (Nat.le_of_lt hN1) _ ((((HI.out.put11 (N:=w.heap.size) hN1).set (p:=⟨w.heap.size + 1,0,none⟩) hN2 _).set (p:=⟨w.heap.size + 1,1,none⟩) hN2 _).drew 1),zIE (zAn (zAn (zN7 HB1.out (Nat.le_refl _)) (Nat.le_succ _)) (Nat.le_succ _))⟩
 ·have hd:(E2 == 0) = false:=by simpa using hE
  have HE2:=vH hE
  clear hE
  dsimp only
  rw [hd]
  go_wp2_with fail
  go_region
  all_goals go_wp2_with fail
  have hx:Qe.exEnd e0 ⟨k2,o2,E2,F2⟩ = (Ex.zero,0,E2,F2):=if_neg HE2.out
  exact bodyPost_ret (v:=.tuple #[.agg #[.int .i64 0,.int .i64 0,.string ⟨#[]⟩,.string ⟨#[]⟩,.int .i64 0,.slice none 0 0,.int .i64 0,.int .i64 0,.int .i64 0,.int .i64 0,.int .i64 0],.int .i64 0,.agg #[.int .i64 E2,.int .i64 F2]]) (by simp [results,Tryd.results14,go_sem,d0,d1,d2,d3,d4,d5,d6,d7,d8,d9,dX,b0,b1]) rfl ⟨0,0,[],[],0,none,0,0,0,0,0,0,0,by rw [hx]; rfl,by rw [hx]; exact Is.zero,zIE (zAn (zAn (zN7 HB1.out (Nat.le_refl _)) (Nat.le_succ _)) (Nat.le_succ _))⟩
theorem zQm (w:World)(R0:Nat)(S:Value)(ts:List RT)(k:Int)(h:Toks w R0 S ts) :
 Calls Tryd.prog 18 #[S,.int .i64 k] w fun e w' => e = .returned (.tuple #[.agg #[.string (cbs (Qe.ofAns ts k).1),.int .i64 (Qe.ofAns ts k).2.1],.int .i64 (Qe.ofAns ts k).2.2.1,.agg #[.int .i64 (Qe.ofAns ts k).2.2.2.1,.int .i64 (Qe.ofAns ts k).2.2.2.2]]) ∧ Below w.heap.size w w':=by
 obtain ⟨p,n,c,rfl⟩:=h.slice
 obtain ⟨w0,hw0⟩:∃ w0,w0 = ((w.alloc (.cells vO 40)).alloc (.cells vF 29)).alloc (.cells #[.slice p n c,.int .i64 k,.int .i64 0,.int .i64 0,.int .i64 0] 58):=⟨_,rfl⟩
 have hb0:Below w.heap.size w w0:=by rw [hw0]; exact zCB (zCB (zCB (Below.refl _ _)))
 have hk1:w0.heap[w.heap.size]? = some (.cells vO 40 (0,0)):=by rw [hw0]; exact zK _ (zK _ (heap_alloc_new w _))
 have hk2:w0.heap[w.heap.size + 1]? = some (.cells vF 29 (0,0)):=by rw [hw0]; have:=zK (.cells #[.slice p n c,.int .i64 k,.int .i64 0,.int .i64 0,.int .i64 0] 58) (heap_alloc_new (w.alloc (.cells vO 40)) (.cells vF 29)); rw [zB] at this; exact this
 have hk3:w0.heap[w.heap.size + 1 + 1]? = some (.cells #[.slice p n c,.int .i64 k,.int .i64 0,.int .i64 0,.int .i64 0] 58 (0,0)):=by rw [hw0]; have:=heap_alloc_new ((w.alloc (.cells vO 40)).alloc (.cells vF 29)) (.cells #[.slice p n c,.int .i64 k,.int .i64 0,.int .i64 0,.int .i64 0] 58); simp only [zB] at this; exact this
 have hq:Qr w0 (w.heap.size + 1 + 1) (.slice p n c) ts ⟨k,0,0,0⟩:=⟨hk3,(h.re (by omega)).below hb0⟩
 have hof:=fun w1 R S hh => zB8 w1 R S ts ⟨k,0,0,0⟩ hh
 unfold Qe.ofAns
 generalize Qe.of ts ⟨k,0,0,0⟩ = y at hof ⊢
 obtain ⟨nm,dm,k2,o2,E2,F2⟩:=y
 dsimp only at hof ⊢
 have HOF:=vH hof
 have HQ:=vH hq
 have HB0:=vH hb0
 have HK1:=vH hk1
 have HK2:=vH hk2
 clear h hb0 hk1 hk2 hk3 hq hof
 go_in
 go_wp2_with fail
 rw [← hw0]
 refine (HOF.out w0 _ _ HQ.out).mono ?_
 rintro e w1 ⟨rfl,hr,hg⟩
 have HR1:=vH (hr.go ((Below.refl _ _).alloc (Nat.le_refl _) (.cells #[.string (cbs nm),.int .i64 dm] 40)))
 have hg2:=hg.alloc (.cells #[.string (cbs nm),.int .i64 dm] 40)
 have HX:=vH (heap_alloc_new w1 (.cells #[.string (cbs nm),.int .i64 dm] 40))
 have HA1:=vH (hg2.box HK1.out (by omega))
 have HA2:=vH (hg2.box HK2.out (by omega))
 have HSZ:Hid (w.heap.size + 1 + 1 < w1.heap.size):=hr.lt
 have HB1:Hid (Below w.heap.size w (w1.alloc (.cells #[.string (cbs nm),.int .i64 dm] 40))):=zN9 HB0.out hg2 (by omega) HB0.out.size
 clear hr hg hg2 HOF HQ HB0 HK1 HK2 hw0
 go_wp2_with fail
 refine (zAC _ _ _ ts _ HR1.out).mono ?_
 rintro e w2 ⟨rfl,hw2⟩
 rw [hw2] at HR1 HX HA1 HA2 HB1
 clear hw2
 obtain ⟨⟨c0,c1,c2,c3,c4⟩,fr,hRl⟩:=HR1.out.cells
 obtain ⟨⟨x0,x1⟩,⟨y0,y1⟩,hlx⟩:=duo HX.out
 obtain ⟨⟨d0,d1⟩,⟨g0,g1⟩,hld⟩:=duo HA1.out
 obtain ⟨⟨b0,b1⟩,⟨h0,h1⟩,hlb⟩:=duo HA2.out
 have hd1:w.heap.size ≠ w1.heap.size:=by have:=HSZ.out; omega
 have hd2:w.heap.size + 1 ≠ w1.heap.size:=by have:=HSZ.out; omega
 have hd3:=Ne.symm hd1
 have hd4:=Ne.symm hd2
 have hd5:w.heap.size + 1 + 1 ≠ w1.heap.size:=by have:=HSZ.out; omega
 have hd6:=Ne.symm hd5
 dsimp only at c1 c2 c3 c4
 by_cases hE:E2 = 0
 ·subst hE
  go_wp2_with fail
  go_region
  all_goals go_wp2_with fail
  have hx:Qe.ofEnd nm dm ⟨k2,o2,0,F2⟩ = (nm,dm,k2,0,0):=if_pos rfl
  exact bodyPost_ret (v:=.tuple #[.agg #[.string (cbs nm),.int .i64 dm],.int .i64 k2,.agg #[.int .i64 0,.int .i64 0]]) (by simp [results,Tryd.results18,go_sem,d0,d1,b0,b1]) rfl ⟨by rw [hx],zIE (zAn (zAn (zAn (zAn HB1.out (Nat.le_refl _)) (Nat.le_refl _)) (Nat.le_succ _)) (Nat.le_succ _))⟩
 ·have hd:(E2 == 0) = false:=by simpa using hE
  have HE2:=vH hE
  clear hE
  dsimp only
  rw [hd]
  go_wp2_with fail
  go_region
  all_goals go_wp2_with fail
  have hx:Qe.ofEnd nm dm ⟨k2,o2,E2,F2⟩ = ([],0,0,E2,F2):=if_neg HE2.out
  exact bodyPost_ret (v:=.tuple #[.agg #[.string ⟨#[]⟩,.int .i64 0],.int .i64 0,.agg #[.int .i64 E2,.int .i64 F2]]) (by simp [results,Tryd.results18,go_sem,d0,d1,b0,b1]) rfl ⟨by rw [hx]; rfl,zIE (zAn (zAn (zAn (zAn HB1.out (Nat.le_refl _)) (Nat.le_refl _)) (Nat.le_succ _)) (Nat.le_succ _))⟩
end Go.Proofs.YtmiiplefgkcklaaDoor
namespace Go.Proofs.YtmiiplefgkcklaaDoor
open Go.RowKit
open Pe (Ex)
open Rt (tyB zDk zGF zHX zNH toks_ok zPr)
theorem zRX {r:List UInt8}{vs:List Ln.Lx.Tk}{K:Nat}(ht:Ln.Lx.toks r = (vs,0,K)){n:List UInt8}{d:Nat}{k F:Int}(h:Qe.ofAns (vs.map toRT) 0 = (n,d,k,0,F)):(tyB n d).length ≤ 14:=by
 unfold Qe.ofAns Qe.ofEnd at h
 by_cases hE:(Qe.of (vs.map toRT) ⟨0,0,0,0⟩).2.2.E = 0
 ·rw [if_pos hE] at h
  obtain ⟨h1,h2,h3,h4⟩:=zHX (zNH (toks_ok ht)) hE
  injection h with e1 h
  injection h with e2 h
  rw [e1] at h3
  rw [e2] at h4
  exact zDk h4 (zGF h3 d)
 ·rw [if_neg hE] at h
  injection h with _ h
  injection h with _ h
  injection h with _ h
  injection h with h _
  exact absurd h hE
theorem zSY (a:List UInt8)(d:Nat)(w:World):(binOp .eql 40 (.agg #[.string (cbs a),.int .i64 (d:Int)]) (.agg #[.string (cbs a),.int .i64 (d:Int)])).run Tryd.prog w = .ok (.bool true) w:=by
 rw [zKy]
 simp
theorem zRr (s:ByteArray)(hs:s.size ≤ 200)(w:World)(he:EnvS w)(us:List Ln.Lx.Tk)(K:Nat)(ht:Ln.Lx.toks s.data.toList = (us,0,K)) :
 Calls Tryd.prog 7 #[.string s] w fun e w' => e = .returned (.bool true) ∧ Below w.heap.size w w':=by
 have hlen:us.length ≤ 6001:=by have:=Ln.Lx.toks_len s.data.toList; rw [ht] at this; exact this
 have hsh:∀ t ∈ us,t.text.length ≤ 281474976710656:=by have:=zGU s.data.toList; rw [ht] at this; exact this
 have HTK:=vH (zQk s (Nat.le_trans hs (by decide)) us 0 K ht w)
 have hd1:decide ((200:Int) < (s.size:Int)) = false:=decide_eq_false (by omega)
 have hTB:=fun n d k F => zPr (n:=n) (d:=d) (k:=k) (F:=F) ht
 have hTL:=fun n d k F => zRX (n:=n) (d:=d) (k:=k) (F:=F) ht
 have HTB:=vH hTB
 have HTL:=vH hTL
 have HE:=vH he
 have HLEN:=vH hlen
 have HSH:=vH hsh
 clear hlen hsh hTB hTL he hs ht
 go_in
 go_wp2_with fail
 refine HTK.out.mono ?_
 rintro e w1 ⟨A,c,rfl,hl1,hb1⟩
 have HT:=vH (((zKJ (c:=c) hl1 HSH.out).below ((Below.refl w1.heap.size w1).alloc (Nat.le_refl _) (.cells #[.int .i64 ((0:Nat):Int),.int .i64 (K:Int)] 29))).re (Nat.le_refl _))
 have HB:=vH (zCB (o:=.cells #[.int .i64 ((0:Nat):Int),.int .i64 (K:Int)] 29) hb1)
 clear hl1 hb1
 go_wp2_with fail
 have hq:=zQm _ _ _ _ 0 HT.out
 have hTB:=HTB.out
 have hTL:=HTL.out
 generalize Qe.ofAns (us.map toRT) 0 = y at hq hTB hTL
 obtain ⟨n,d,k,F1,F2⟩:=y
 dsimp only at hq
 have HQ:=vH hq
 have HTB2:=vH hTB
 have HTL2:=vH hTL
 clear hq HTB HTL hTB hTL
 refine HQ.out.mono ?_
 rintro e w2 ⟨rfl,hb2⟩
 have HB2:=vH (zF HB.out hb2 HB.out.size)
 clear hb2 HQ HT
 have hul:(us.length:Int) ≤ 6001:=by have:=HLEN.out; omega
 have hu0:(0:Int) ≤ (us.length:Int):=by omega
 have hwu:wrap64 ((us.length:Int) - 1) = (us.length:Int) - 1:=by simp [wrap64]; omega
 by_cases hF:F1 = 0
 ·subst hF
  by_cases hk:k = (us.length:Int) - 1
  ·have hk1:(k != (us.length:Int) - 1) = false:=by rw [hk]; exact bne_self_eq_false _
   clear hk
   have hlt:=HTL2.out n d k F2 rfl
   obtain ⟨hd3,us2,h2,h3⟩:=HTB2.out n d k F2 rfl (by omega)
   have hvl:(us2 ++ [(⟨0,[],0,(tyB n d).length⟩:Ln.Lx.Tk)]).length = us2.length + 1:=by rw [List.length_append,List.length_singleton]
   generalize us2 ++ [(⟨0,[],0,(tyB n d).length⟩:Ln.Lx.Tk)] = vs2 at h2 h3 hvl
   have hlen2:vs2.length ≤ 6001:=by have:=Ln.Lx.toks_len (tyB n d); rw [h2] at this; exact this
   have hsh2:∀ t ∈ vs2,t.text.length ≤ 281474976710656:=by have:=zGU (tyB n d); rw [h2] at this; exact this
   have HTK2:=vH (fun w3 => zQk (cbs (tyB n d)) (by rw [zN5]; exact Nat.le_trans hlt (by decide)) vs2 0 0 h2 w3)
   have hq2:=fun (w3:World) (S:Value) (h:Toks w3 w3.heap.size S (vs2.map toRT)) => zQm w3 _ _ _ 0 h
   rw [h3] at hq2
   dsimp only at hq2
   have HQ2:=vH hq2
   have HSH2:=vH hsh2
   have hnl:n.length ≤ 70368744177664:=by rw [zQJ] at hlt; omega
   have HNL:=vH hnl
   have HD3:=vH hd3
   have hv1:wrap64 (((us2.length + 1:Nat):Int) - 1) = (us2.length:Int):=by simp [wrap64]; omega
   have hv2:wrap64 ((us2.length:Int)) = (us2.length:Int):=by simp [wrap64]; omega
   rw [hvl] at HTK2
   have HV1:=vH hv1
   have HV2:=vH hv2
   have HVL:=vH hvl
   have hEq:=fun w1 => zSY n d w1
   have HEQ:=vH hEq
   clear hq2 hsh2 hnl hd3 h2 h3 hlt hlen2 hv1 hv2 hvl hEq HTB2 HTL2
   go_wp2_with fail
   have hba:Below w2.heap.size w2 ((w2.alloc (.cells #[.string (cbs n),.int .i64 (d:Int)] 40)).alloc (.cells #[.int .i64 0,.int .i64 F2] 29)):=zCB (zCB (Below.refl _ _))
   have hko:((w2.alloc (.cells #[.string (cbs n),.int .i64 (d:Int)] 40)).alloc (.cells #[.int .i64 0,.int .i64 F2] 29)).heap[w2.heap.size]? = some (.cells #[.string (cbs n),.int .i64 (d:Int)] 40 (0,0)):=zK _ (heap_alloc_new w2 _)
   have HB3:=vH (zF HB2.out hba HB2.out.size)
   have HKO:=vH hko
   clear hba hko
   refine (zQY _ n d HD3.out HNL.out).mono ?_
   rintro e w3 ⟨rfl,hb⟩
   have HB4:=vH (zF HB3.out hb HB3.out.size)
   have HKP:=vH ((hb.block _ (zA HKO.out)).trans HKO.out)
   clear hb HKO hk1 hwu hul hu0
   go_wp2_with fail
   refine (HTK2.out _).mono ?_
   rintro e w4 ⟨A2,c2,rfl,hl2,hb⟩
   have HT2:=vH (((zKJ (c:=c2) hl2 HSH2.out).below ((Below.refl w4.heap.size w4).alloc (Nat.le_refl _) (.cells #[.int .i64 ((0:Nat):Int),.int .i64 ((0:Nat):Int)] 29))).re (Nat.le_refl _))
   rw [HVL.out] at HT2
   have HB5:=vH (zCB (o:=.cells #[.int .i64 ((0:Nat):Int),.int .i64 ((0:Nat):Int)] 29) (zF HB4.out hb HB4.out.size))
   have HKQ:=vH (zK (.cells #[.int .i64 ((0:Nat):Int),.int .i64 ((0:Nat):Int)] 29) ((hb.block _ (zA HKP.out)).trans HKP.out))
   clear hl2 hb HKP
   go_wp2_with fail
   refine (HQ2.out _ _ HT2.out).mono ?_
   rintro e w5 ⟨rfl,hb⟩
   have HB6:=vH (zF HB5.out hb HB5.out.size)
   have HKR:=vH ((hb.block _ (zA HKQ.out)).trans HKQ.out)
   clear hb HKQ HT2
   go_upto_region 9 with fail
   obtain ⟨wz,hwz⟩:∃ wz,wz = (w5.alloc (.cells #[.string (cbs n),.int .i64 (d:Int)] 40)).alloc (.cells vF 29):=⟨_,rfl⟩
   rw [← hwz]
   have hbz:Below w5.heap.size w5 wz:=by rw [hwz]; exact zCB (zCB (Below.refl _ _))
   have HKD:=vH (show wz.heap[w5.heap.size]? = some (.cells #[.string (cbs n),.int .i64 (d:Int)] 40 (0,0)) by rw [hwz]; exact zK _ (heap_alloc_new w5 _))
   have HFD:=vH (show wz.heap[w5.heap.size + 1]? = some (.cells vF 29 (0,0)) by rw [hwz]; have:=heap_alloc_new (w5.alloc (.cells #[.string (cbs n),.int .i64 (d:Int)] 40)) (.cells vF 29); rw [zB] at this; exact this)
   have HKE:=vH ((hbz.block _ (zA HKR.out)).trans HKR.out)
   have HB7:=vH (zF HB6.out hbz HB6.out.size)
   clear hwz hbz HKR
   obtain ⟨⟨f0,f1⟩,-⟩:=duo HFD.out
   obtain ⟨⟨x0,x1⟩,-⟩:=duo HKE.out
   obtain ⟨⟨y0,y1⟩,-⟩:=duo HKD.out
   have hv1:=HV1.out
   have hv2:=HV2.out
   have hEq:=HEQ.out
   go_wp2_with fail
   refine (zQM wz (HE.out.below HB7.out)).mono ?_
   rintro e w6 ⟨rfl,hb⟩
   have HB8:=vH (zF HB7.out hb HB7.out.size)
   clear hb
   go_wp2_with fail
   go_ret
   exact ⟨rfl,HB8.out⟩
  ·have hk1:(k != (us.length:Int) - 1) = true:=bne_iff_ne.2 hk
   clear hk
   go_wp2_with fail
   have hba:Below w2.heap.size w2 ((w2.alloc (.cells #[.string (cbs n),.int .i64 (d:Int)] 40)).alloc (.cells #[.int .i64 0,.int .i64 F2] 29)):=zCB (zCB (Below.refl _ _))
   have HB3:=vH (zF HB2.out hba HB2.out.size)
   clear hba
   refine (zQM _ (HE.out.below HB3.out)).mono ?_
   rintro e w3 ⟨rfl,hb⟩
   have HB4:=vH (zF HB3.out hb HB3.out.size)
   clear hb
   go_wp2_with fail
   go_ret
   exact ⟨rfl,HB4.out⟩
 ·have hF1:(F1 != 0) = true:=bne_iff_ne.2 hF
  clear hF
  go_wp2_with fail
  have hba:Below w2.heap.size w2 ((w2.alloc (.cells #[.string (cbs n),.int .i64 (d:Int)] 40)).alloc (.cells #[.int .i64 F1,.int .i64 F2] 29)):=zCB (zCB (Below.refl _ _))
  have HB3:=vH (zF HB2.out hba HB2.out.size)
  clear hba
  refine (zQM _ (HE.out.below HB3.out)).mono ?_
  rintro e w3 ⟨rfl,hb⟩
  have HB4:=vH (zF HB3.out hb HB3.out.size)
  clear hb
  go_wp2_with fail
  go_ret
  exact ⟨rfl,HB4.out⟩
theorem showTypes_walk (s:ByteArray)(hs:s.size ≤ maxLen)(w:World)(he:EnvS w) :
 Calls Tryd.prog 7 #[.string s] w fun e w' => e = .returned (.bool true) ∧ Below w.heap.size w w':=by
 obtain ⟨us,E,K,ht⟩:∃ us E K,Ln.Lx.toks s.data.toList = (us,E,K):=⟨_,_,_,rfl⟩
 by_cases h:s.size ≤ 200
 ·by_cases h0:E = 0
  ·subst h0
   exact zRr s h w he us K ht
  ·have HTK:=vH (zQk s hs us E K ht w)
   have hd1:decide ((200:Int) < (s.size:Int)) = false:=decide_eq_false (by omega)
   have hE2:((E:Int) != 0) = true:=by rw [bne_iff_ne]; omega
   have hE3:(E != 0) = true:=by rw [bne_iff_ne]; exact h0
   clear ht h0 h hs he
   go_in
   go_wp2_with fail
   refine HTK.out.mono ?_
   rintro e w1 ⟨A,c,rfl,hl1,hb1⟩
   clear hl1
   go_wp2_with fail
   go_ret
   exact ⟨rfl,zCB hb1⟩
 ·have HTK:=vH (zQk s hs us E K ht w)
  have hd1:decide ((200:Int) < (s.size:Int)) = true:=decide_eq_true (by omega)
  clear ht h hs he
  go_in
  go_wp2_with fail
  refine HTK.out.mono ?_
  rintro e w1 ⟨A,c,rfl,hl1,hb1⟩
  clear hl1
  go_wp2_with fail
  go_ret
  exact ⟨rfl,zCB hb1⟩
end Go.Proofs.YtmiiplefgkcklaaDoor
