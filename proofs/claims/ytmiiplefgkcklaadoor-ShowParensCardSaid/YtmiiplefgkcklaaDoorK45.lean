/-
  ShowExprs: the walk.
-/
import Derived.Test.YtmiiplefgkcklaaDoorK16
import Derived.Test.YtmiiplefgkcklaaDoorK04
import Derived.Test.YtmiiplefgkcklaaDoorK44
import Derived.Test.YtmiiplefgkcklaaDoorK37
import Derived.Deep.CutBlock
set_option maxRecDepth 8000
set_option maxHeartbeats 8000000
namespace Go.Proofs.YtmiiplefgkcklaaDoor
open Go.RowKit
open Pe (Ex)
open Ps (kindOf)
open Sim (zN1)
open Rt (prE zPM zPz zPY zDg shE)
theorem zRP {l:List UInt8}(h : 6000 < l.length):Ln.Lx.toks l = ([],4,0):=by
 unfold Ln.Lx.toks
 rw [if_pos h]
theorem zQU {r:List UInt8}{us:List Ln.Lx.Tk}{K:Nat}(ht:Ln.Lx.toks r = (us,0,K)):∃ x,Qe.expr (us.map toRT) (Sim.enough (us.map toRT)) 0 0 = some x ∧ Sim.enough (us.map toRT) ≤ 1000000000 ∧ fitE x.1 = true ∧
 (x.2.2.1 = 0 → shE x.1 ∧ (prE x.1).length ≤ 240040 ∧ ((prE x.1).length ≤ 6000 → ∃ vs N,Ln.Lx.toks (prE x.1) = (vs,0,0) ∧ vs.length = N + 1 ∧
  ∃ y,Qe.expr (vs.map toRT) (Sim.enough (vs.map toRT)) 0 0 = some y ∧ Sim.enough (vs.map toRT) ≤ 1000000000 ∧ fitE y.1 = true ∧ sameE y.1 x.1 = true ∧ y.2 = ((N:Int),0,0))):=by
 have hlen:us.length ≤ 6001:=by have:=Ln.Lx.toks_len r; rw [ht] at this; exact this
 obtain ⟨x,-,h2⟩:=Sim.parse_same (ts:=us.map toRT) (by rw [List.length_map]; omega) 0 0
 refine ⟨x,h2,by unfold Sim.enough; rw [List.length_map]; omega,zN1 (by rw [List.length_map]; omega) h2,fun hE => ?_⟩
 obtain ⟨e,k,E,F⟩:=x
 dsimp only at hE ⊢
 subst hE
 obtain ⟨d,l,h3,h4,h5⟩:=zPM ht h2
 refine ⟨zDg h3 h4,zPY ht h2,fun hl => ?_⟩
 obtain ⟨us2,h6,h7⟩:=zPz h3 h4 h5 hl
 have hlen2:(us2 ++ [(⟨0,[],0,(prE e).length⟩:Ln.Lx.Tk)]).length ≤ 6001:=by have:=Ln.Lx.toks_len (prE e); rw [h6] at this; exact this
 obtain ⟨y,-,h8⟩:=Sim.parse_same (ts:=(us2 ++ [(⟨0,[],0,(prE e).length⟩:Ln.Lx.Tk)]).map toRT) (by rw [List.length_map]; omega) 0 0
 obtain ⟨h9,h10⟩:=h7 _ y h8
 refine ⟨_,us2.length,h6,by rw [List.length_append,List.length_singleton],y,h8,?_,zN1 (by rw [List.length_map]; omega) h8,by rw [zQA]; exact h9,h10⟩
 unfold Sim.enough
 rw [List.length_map]
 omega
theorem zQP {w w':World}{bl:Nat}{A:Array Value}{T:TypeId}(h:w.heap[bl]? = some (.cells A T (0,0)))(hb:Below w.heap.size w w'):w'.heap[bl]? = some (.cells A T (0,0)):=(hb.block _ (zA h)).trans h
set_option maxHeartbeats 16000000 in
theorem zRs (s:ByteArray)(hs:s.size ≤ 2000)(w:World)(he:EnvS w)(us:List Ln.Lx.Tk)(K:Nat)(ht:Ln.Lx.toks s.data.toList = (us,0,K)) :
 Calls Tryd.prog 5 #[.string s] w fun e w' => e = .returned (.bool true) ∧ Below w.heap.size w w':=by
 have hlen:us.length ≤ 6001:=by have:=Ln.Lx.toks_len s.data.toList; rw [ht] at this; exact this
 have hsh:∀ t ∈ us,t.text.length ≤ 281474976710656:=by have:=zGU s.data.toList; rw [ht] at this; exact this
 have HTK:=vH (zQk s (Nat.le_trans hs (by decide)) us 0 K ht w)
 have hd1:decide ((2000:Int) < (s.size:Int)) = false:=decide_eq_false (by omega)
 obtain ⟨⟨e1,k1,E1,F1⟩,hx,hf,-,hrest⟩:=zQU ht
 dsimp only at hrest
 have HX:=vH (fun (w1:World) (R:Nat) (S:Value) (h:Toks w1 R S (us.map toRT)) => zQl w1 R S (us.map toRT) 0 0 h _ hf _ hx)
 have HRE:=vH hrest
 have HE:=vH he
 have HLEN:=vH hlen
 have HSH:=vH hsh
 clear hlen hsh hx hf hrest he hs ht
 go_in
 go_wp2_with fail
 refine HTK.out.mono ?_
 rintro e w1 ⟨A,c,rfl,hl1,hb1⟩
 have HT:=vH (((zKJ (c:=c) hl1 HSH.out).below ((Below.refl w1.heap.size w1).alloc (Nat.le_refl _) (.cells #[.int .i64 ((0:Nat):Int),.int .i64 (K:Int)] 29))).re (Nat.le_refl _))
 have HB:=vH (zCB (o:=.cells #[.int .i64 ((0:Nat):Int),.int .i64 (K:Int)] 29) hb1)
 clear hl1 hb1
 go_wp2_with fail
 refine (HX.out _ _ _ HT.out).mono ?_
 rintro e w2 ⟨ek,en,es,eo,ed,ep,el,ec,ea,eb,er,ee,ef,rfl,hi,hb2⟩
 dsimp only at hi ⊢
 have HB2:=vH (zF HB.out hb2 HB.out.size)
 have HI:=vH hi
 clear hb2 HX HT hi
 go_upto_region 5 with fail
 obtain ⟨wz,hwz⟩:∃ wz,wz = (w2.alloc (.cells #[.int .i64 ek,.int .i64 en,.string (cbs es),.string (cbs eo),.int .i64 ed,.slice ep el ec,.int .i64 ea,.int .i64 eb,.int .i64 er,.int .i64 ee,.int .i64 ef] 45)).alloc (.cells #[.int .i64 E1,.int .i64 F1] 29):=⟨_,rfl⟩
 rw [← hwz]
 have hbz:Below w2.heap.size w2 wz:=by rw [hwz]; exact zCB (zCB (Below.refl _ _))
 have HKE:=vH (show wz.heap[w2.heap.size]? = some (.cells #[.int .i64 ek,.int .i64 en,.string (cbs es),.string (cbs eo),.int .i64 ed,.slice ep el ec,.int .i64 ea,.int .i64 eb,.int .i64 er,.int .i64 ee,.int .i64 ef] 45 (0,0)) by rw [hwz]; exact zK _ (heap_alloc_new w2 _))
 have HFE:=vH (show wz.heap[w2.heap.size + 1]? = some (.cells #[.int .i64 E1,.int .i64 F1] 29 (0,0)) by rw [hwz]; have:=heap_alloc_new (w2.alloc (.cells #[.int .i64 ek,.int .i64 en,.string (cbs es),.string (cbs eo),.int .i64 ed,.slice ep el ec,.int .i64 ea,.int .i64 eb,.int .i64 er,.int .i64 ee,.int .i64 ef] 45)) (.cells #[.int .i64 E1,.int .i64 F1] 29); rw [zB] at this; exact this)
 have HB3:=vH (zF HB2.out hbz HB2.out.size)
 have HIZ:=vH (Is.lower (Nat.zero_le _) _ (HI.out.below hbz))
 clear hwz hbz HI
 obtain ⟨⟨f0,f1⟩,-⟩:=duo HFE.out
 obtain ⟨⟨x0,x1,x2,x3,x4,x5,x6,x7,x8,x9,xX⟩,-⟩:=hen HKE.out
 by_cases hE:E1 = 0
 ·subst hE
  obtain ⟨hs1,hl1,hl2⟩:=HRE.out rfl
  have HS1:=vH hs1
  have HL1:=vH hl1
  have HXP:=vH (zQZ hs1 HIZ.out (HE.out.below HB3.out) (by omega))
  by_cases hlt:(prE e1).length ≤ 6000
  ·obtain ⟨vs,N,h3,h4,⟨d1,k2,E2,F2⟩,h5,h6,h7,h8,h9⟩:=hl2 hlt
   dsimp only at h7 h8 h9
   injection h9 with h9 h10
   injection h10 with h10 h11
   subst h9 h10 h11
   have hsh2:∀ t ∈ vs,t.text.length ≤ 281474976710656:=by have:=zGU (prE e1); rw [h3] at this; exact this
   have htk2:=fun w3 => zQk (cbs (prE e1)) (by rw [zN5]; exact Nat.le_trans hlt (by decide)) vs 0 0 h3 w3
   rw [h4] at htk2
   have HTK2:=vH htk2
   have HSH2:=vH hsh2
   have HX2:=vH (fun (w1:World) (R:Nat) (S:Value) (h:Toks w1 R S (vs.map toRT)) => zQl w1 R S (vs.map toRT) 0 0 h _ h6 _ h5)
   have HSM:=vH h8
   have HFT:=vH h7
   have HVL:=vH h4
   have hN:N ≤ 6000:=by have:=Ln.Lx.toks_len (prE e1); rw [h3] at this; have h9:vs.length ≤ 6001:=this; omega
   have hv1:wrap64 (((N + 1:Nat):Int) - 1) = (N:Int):=by simp [wrap64]; omega
   have hv2:wrap64 ((N:Int)) = (N:Int):=by simp [wrap64]; omega
   have HV1:=vH hv1
   have HV2:=vH hv2
   clear hsh2 htk2 h3 h4 h5 h6 h7 h8 hN hv1 hv2 hl2 hs1 hl1 hlt
   go_wp2_with fail
   refine HXP.out.mono ?_
   rintro e w3 ⟨rfl,hb⟩
   have HB4:=vH (zF HB3.out hb HB3.out.size)
   have HKF:=vH (zQP HKE.out hb)
   have HIY:=vH (HIZ.out.below hb)
   clear hb HKE HFE HIZ HXP f0 f1 x0 x1 x2 x3 x4 x5 x6 x7 x8 x9 xX
   go_wp2_with fail
   refine (HTK2.out _).mono ?_
   rintro e w4 ⟨A2,c2,rfl,hl2,hb⟩
   have HT2:=vH (((zKJ (c:=c2) hl2 HSH2.out).below ((Below.refl w4.heap.size w4).alloc (Nat.le_refl _) (.cells #[.int .i64 ((0:Nat):Int),.int .i64 ((0:Nat):Int)] 29))).re (Nat.le_refl _))
   rw [HVL.out] at HT2
   have hba:=(Below.refl w4.heap.size w4).alloc (Nat.le_refl _) (.cells #[.int .i64 ((0:Nat):Int),.int .i64 ((0:Nat):Int)] 29)
   have HB5:=vH (zF (zF HB4.out hb HB4.out.size) hba (zF HB4.out hb HB4.out.size).size)
   have HKG:=vH (zQP (zQP HKF.out hb) hba)
   have HIX:=vH ((HIY.out.below hb).below hba)
   have HFG:=vH (show (w4.alloc (.cells #[.int .i64 ((0:Nat):Int),.int .i64 ((0:Nat):Int)] 29)).heap[w4.heap.size]? = some (.cells vF 29 (0,0)) from heap_alloc_new w4 _)
   clear hl2 hb hba HKF HIY
   go_wp2_with fail
   refine (HX2.out _ _ _ HT2.out).mono ?_
   rintro e w5 ⟨dk,dn,ds,do',dd,dp,dl,dc,da,db,dr,de,df,rfl,hi,hb⟩
   dsimp only at hi ⊢
   have HB6:=vH (zF HB5.out hb HB5.out.size)
   have HKH:=vH (zQP HKG.out hb)
   have HFH:=vH (zQP HFG.out hb)
   have HIW:=vH (HIX.out.below hb)
   have HDI:=vH hi
   clear hb hi HKG HFG HIX HX2 HT2
   go_upto_region 12 with fail
   obtain ⟨wy,hwy⟩:∃ wy,wy = (w5.alloc (.cells #[.int .i64 dk,.int .i64 dn,.string (cbs ds),.string (cbs do'),.int .i64 dd,.slice dp dl dc,.int .i64 da,.int .i64 db,.int .i64 dr,.int .i64 de,.int .i64 df] 45)).alloc (.cells vF 29):=⟨_,rfl⟩
   rw [← hwy]
   have hbz:Below w5.heap.size w5 wy:=by rw [hwy]; exact zCB (zCB (Below.refl _ _))
   have HKD:=vH (show wy.heap[w5.heap.size]? = some (.cells #[.int .i64 dk,.int .i64 dn,.string (cbs ds),.string (cbs do'),.int .i64 dd,.slice dp dl dc,.int .i64 da,.int .i64 db,.int .i64 dr,.int .i64 de,.int .i64 df] 45 (0,0)) by rw [hwy]; exact zK _ (heap_alloc_new w5 _))
   have HFD:=vH (show wy.heap[w5.heap.size + 1]? = some (.cells vF 29 (0,0)) by rw [hwy]; have:=heap_alloc_new (w5.alloc (.cells #[.int .i64 dk,.int .i64 dn,.string (cbs ds),.string (cbs do'),.int .i64 dd,.slice dp dl dc,.int .i64 da,.int .i64 db,.int .i64 dr,.int .i64 de,.int .i64 df] 45)) (.cells vF 29); rw [zB] at this; exact this)
   have HKI:=vH (zQP HKH.out hbz)
   have HFI:=vH (zQP HFH.out hbz)
   have HIV:=vH (HIW.out.below hbz)
   have HDJ:=vH (HDI.out.below hbz)
   have HB7:=vH (zF HB6.out hbz HB6.out.size)
   clear hwy hbz HKH HFH HIW HDI
   obtain ⟨⟨x0,x1,x2,x3,x4,x5,x6,x7,x8,x9,xX⟩,-⟩:=hen HKI.out
   go_wp2_with fail
   have hr:=zRw HS1.out wy _ HIV.out (by have:=HL1.out; omega)
   refine hr.mono ?_
   rintro e w6 ⟨rfl,hb⟩
   have HKJ:=vH (zQP HKI.out hb)
   have HFJ:=vH (zQP HFI.out hb)
   have HKK:=vH (zQP HKD.out hb)
   have HFK:=vH (zQP HFD.out hb)
   have HIU:=vH (HIV.out.below hb)
   have HDK:=vH (HDJ.out.below hb)
   have HB8:=vH (zF HB7.out hb HB7.out.size)
   clear hb hr x0 x1 x2 x3 x4 x5 x6 x7 x8 x9 xX HKI HFI HKD HFD HIV HDJ
   obtain ⟨⟨x0,x1,x2,x3,x4,x5,x6,x7,x8,x9,xX⟩,-⟩:=hen HKJ.out
   obtain ⟨⟨y0,y1,y2,y3,y4,y5,y6,y7,y8,y9,yX⟩,-⟩:=hen HKK.out
   obtain ⟨⟨f0,f1⟩,-⟩:=duo HFJ.out
   obtain ⟨⟨g0,g1⟩,-⟩:=duo HFK.out
   have hv1:=HV1.out
   have hv2:=HV2.out
   go_wp2_with fail
   have hsm:=zMx w6 d1 e1 HDK.out HIU.out HFT.out
   rw [HSM.out] at hsm
   refine hsm.mono ?_
   rintro e w7 ⟨rfl,hb⟩
   have HB9:=vH (zF HB8.out hb HB8.out.size)
   clear hb hsm x0 x1 x2 x3 x4 x5 x6 x7 x8 x9 xX y0 y1 y2 y3 y4 y5 y6 y7 y8 y9 yX f0 f1 g0 g1
   go_wp2_with fail
   refine (zQM w7 (HE.out.below HB9.out)).mono ?_
   rintro e w8 ⟨rfl,hb⟩
   have HBX:=vH (zF HB9.out hb HB9.out.size)
   clear hb
   go_wp2_with fail
   go_ret
   exact ⟨rfl,HBX.out⟩
  ·have HTK2:=vH (fun w3 => zQk (cbs (prE e1)) (by rw [zN5]; exact Nat.le_trans hl1 (by decide)) [] 4 0 (zRP (by show 6000 < (prE e1).length; omega)) w3)
   clear hl2 hs1 hl1 hlt
   go_wp2_with fail
   refine HXP.out.mono ?_
   rintro e w3 ⟨rfl,hb⟩
   have HB4:=vH (zF HB3.out hb HB3.out.size)
   have HKF:=vH (zQP HKE.out hb)
   have HIY:=vH (HIZ.out.below hb)
   clear hb HKE HFE HIZ HXP f0 f1 x0 x1 x2 x3 x4 x5 x6 x7 x8 x9 xX
   go_wp2_with fail
   refine (HTK2.out _).mono ?_
   rintro e w4 ⟨A2,c2,rfl,-,hb⟩
   have hba:=(Below.refl w4.heap.size w4).alloc (Nat.le_refl _) (.cells #[.int .i64 4,.int .i64 0] 29)
   have HB5:=vH (zF (zF HB4.out hb HB4.out.size) hba (zF HB4.out hb HB4.out.size).size)
   have HKG:=vH (zQP (zQP HKF.out hb) hba)
   have HIX:=vH ((HIY.out.below hb).below hba)
   clear hb hba HKF HIY
   obtain ⟨⟨x0,x1,x2,x3,x4,x5,x6,x7,x8,x9,xX⟩,-⟩:=hen HKG.out
   go_wp2_with fail
   have hr:=zRw HS1.out _ _ HIX.out (by have:=HL1.out; omega)
   refine hr.mono ?_
   rintro e w6 ⟨rfl,hb⟩
   have HB8:=vH (zF HB5.out hb HB5.out.size)
   clear hb hr x0 x1 x2 x3 x4 x5 x6 x7 x8 x9 xX HKG HIX
   go_wp2_with fail
   refine (zQM w6 (HE.out.below HB8.out)).mono ?_
   rintro e w8 ⟨rfl,hb⟩
   have HBX:=vH (zF HB8.out hb HB8.out.size)
   clear hb
   go_wp2_with fail
   go_ret
   exact ⟨rfl,HBX.out⟩
 ·have hF1:(E1 != 0) = true:=bne_iff_ne.2 hE
  clear hE
  go_wp2_with fail
  refine (zQM wz (HE.out.below HB3.out)).mono ?_
  rintro e w3 ⟨rfl,hb⟩
  have HB4:=vH (zF HB3.out hb HB3.out.size)
  clear hb
  go_wp2_with fail
  go_ret
  exact ⟨rfl,HB4.out⟩
theorem showExprs_walk (s:ByteArray)(hs:s.size ≤ maxLen)(w:World)(he:EnvS w) :
 Calls Tryd.prog 5 #[.string s] w fun e w' => e = .returned (.bool true) ∧ Below w.heap.size w w':=by
 obtain ⟨us,E,K,ht⟩:∃ us E K,Ln.Lx.toks s.data.toList = (us,E,K):=⟨_,_,_,rfl⟩
 by_cases h:s.size ≤ 2000
 ·by_cases h0:E = 0
  ·subst h0
   exact zRs s h w he us K ht
  ·have HTK:=vH (zQk s hs us E K ht w)
   have hd1:decide ((2000:Int) < (s.size:Int)) = false:=decide_eq_false (by omega)
   have hE2:((E:Int) != 0) = true:=by rw [bne_iff_ne]; omega
   have hE3:(E != 0) = true:=by rw [bne_iff_ne]; exact h0
   clear ht h0 h hs he
   go_in
   go_wp2_with fail
   refine HTK.out.mono ?_
   rintro e w1 ⟨A,c,rfl,hl1,hb1⟩
   clear hl1
   go_wp2_with fail
   go_ret
   exact ⟨rfl,zCB hb1⟩
 ·have HTK:=vH (zQk s hs us E K ht w)
  have hd1:decide ((2000:Int) < (s.size:Int)) = true:=decide_eq_true (by omega)
  clear ht h hs he
  go_in
  go_wp2_with fail
  refine HTK.out.mono ?_
  rintro e w1 ⟨A,c,rfl,hl1,hb1⟩
  clear hl1
  go_wp2_with fail
  go_ret
  exact ⟨rfl,zCB hb1⟩
end Go.Proofs.YtmiiplefgkcklaaDoor
