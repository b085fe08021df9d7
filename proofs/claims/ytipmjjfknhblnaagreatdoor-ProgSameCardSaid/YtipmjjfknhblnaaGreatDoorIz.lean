/- ProgSame: the walk. -/
import Derived.Test.YtipmjjfknhblnaaGreatDoorK02
import Derived.Test.YtipmjjfknhblnaaGreatDoorGx
import Derived.Test.YtipmjjfknhblnaaGreatDoorIb
import Derived.Test.YtipmjjfknhblnaaGreatDoorK45
import Derived.Laws.DeepStrings4
import Derived.Deep.RegionHeld3
set_option maxRecDepth 8000
set_option maxHeartbeats 8000000
namespace Go.Proofs.YtipmjjfknhblnaaGreatDoor
open Go.RowKit
open Pe
open Ps (Sm PX)
open Pg (BX Pm Rc Fc Gm)
theorem zOa (s t:ByteArray)(hs:s.size ≤ 3000)(ht:t.size ≤ 3000)(w:World)(he:EnvG w) :
 Calls Tryz.prog 4 #[.string s,.string t] w fun e w' => e = .returned (.bool true) ∧ Below w.heap.size w w':=by
 have hq:=fun w1 => zMU s (Nat.le_trans hs (by decide)) w1
 have hq2:=fun w1 => zMU t (Nat.le_trans ht (by decide)) w1
 have hp:=fun w1 (hh:EnvG w1) => zKd ((⟨#[10,32]⟩:ByteArray) ++ s) (by rw [ByteArray.size_append]; exact Nat.le_trans (Nat.add_le_add_left hs _) (by decide)) w1 hh
 rw [show ((⟨#[10,32]⟩:ByteArray) ++ s).data.toList = 10 :: 32 :: s.data.toList by simp] at hp
 have hf:=zMB s.data.toList
 have hup:=zOn (l:=s.data.toList) (by rw [Array.length_toList]; exact hs)
 generalize answer (10 :: 32 :: s.data.toList) = z at hp hup
 generalize answer s.data.toList = x at hq hf hup
 generalize answer t.data.toList = y at hq2
 obtain ⟨x,E,K⟩:=x
 obtain ⟨y,E2,K2⟩:=y
 obtain ⟨z,E3,K3⟩:=z
 dsimp only at hf hup
 have HQ:=vH hq
 have HQ2:=vH hq2
 have HP:=vH hp
 have HFI:=vH hf
 have HUP:=vH hup
 have HE:=vH he
 have hd1:decide ((3000:Int) < (s.size:Int)) = false:=decide_eq_false (by omega)
 have hd2:decide ((3000:Int) < (t.size:Int)) = false:=decide_eq_false (by omega)
 have hsz:(⟨#[10,32]⟩:ByteArray).size + s.size ≤ 9223372036854775807:=Nat.le_trans (Nat.add_le_add_left hs _) (by decide)
 clear hp hq hq2 hf hup he hs ht
 go_in
 go_wp2_with fail
 refine (HQ.out w).mono ?_
 rintro e w1 ⟨p1,n1,c1,p2,n2,c2,p3,n3,c3,rfl,hgi,hb⟩
 have HG1:=vH hgi
 have HA1:=vH hb
 clear hgi hb HQ
 go_wp2_with fail
 obtain ⟨wa,hwa⟩:∃ wa,wa = (w1.alloc (.cells #[.slice p1 n1 c1,.slice p2 n2 c2,.slice p3 n3 c3] 26)).alloc (.cells #[.int .i64 E,.int .i64 K] 29):=⟨_,rfl⟩
 rw [← hwa]
 have hbwa:Below w1.heap.size w1 wa:=by rw [hwa]; exact zA6 (zA6 (Below.refl _ _))
 have HK1:=vH (show wa.heap[w1.heap.size]? = some (.cells #[.slice p1 n1 c1,.slice p2 n2 c2,.slice p3 n3 c3] 26 (0,0)) by rw [hwa]; exact zE _ (heap_alloc_new w1 _))
 have HF1:=vH (show wa.heap[w1.heap.size + 1]? = some (.cells #[.int .i64 E,.int .i64 K] 29 (0,0)) by rw [hwa]; have:=heap_alloc_new (w1.alloc (.cells #[.slice p1 n1 c1,.slice p2 n2 c2,.slice p3 n3 c3] 26)) (.cells #[.int .i64 E,.int .i64 K] 29); rw [zB] at this; exact this)
 have HB1:=vH hbwa
 clear hwa hbwa
 refine (HQ2.out wa).mono ?_
 rintro e w2 ⟨q1,m1,d1,q2,m2,d2,q3,m3,d3,rfl,hgi,hb⟩
 have HG2:=vH hgi
 have HA2:=vH hb
 clear hgi hb HQ2
 go_upto_region 5 with fail
 obtain ⟨wb,hwb⟩:∃ wb,wb = (w2.alloc (.cells #[.slice q1 m1 d1,.slice q2 m2 d2,.slice q3 m3 d3] 26)).alloc (.cells #[.int .i64 E2,.int .i64 K2] 29):=⟨_,rfl⟩
 rw [← hwb]
 have hbwb:Below w2.heap.size w2 wb:=by rw [hwb]; exact zA6 (zA6 (Below.refl _ _))
 have HK2:=vH (show wb.heap[w2.heap.size]? = some (.cells #[.slice q1 m1 d1,.slice q2 m2 d2,.slice q3 m3 d3] 26 (0,0)) by rw [hwb]; exact zE _ (heap_alloc_new w2 _))
 have HF2:=vH (show wb.heap[w2.heap.size + 1]? = some (.cells #[.int .i64 E2,.int .i64 K2] 29 (0,0)) by rw [hwb]; have:=heap_alloc_new (w2.alloc (.cells #[.slice q1 m1 d1,.slice q2 m2 d2,.slice q3 m3 d3] 26)) (.cells #[.int .i64 E2,.int .i64 K2] 29); rw [zB] at this; exact this)
 have HB2:=vH hbwb
 clear hwb hbwb
 have HC:=vH (zC HA2.out HB2.out HA2.out.size)
 have HD:=vH (zC HA1.out HB1.out HA1.out.size)
 have HZ:=vH (zC HD.out HC.out HD.out.size)
 have HK3:=vH ((HC.out.block _ (zA HK1.out)).trans HK1.out)
 have HF3:=vH ((HC.out.block _ (zA HF1.out)).trans HF1.out)
 have HGA:Hid (GIs wb w.heap.size x [.slice p1 n1 c1,.slice p2 n2 c2,.slice p3 n3 c3]):=HG1.out.ag (Ag.below (zC HB1.out HC.out HB1.out.size))
 have HGB:Hid (GIs wb wa.heap.size y [.slice q1 m1 d1,.slice q2 m2 d2,.slice q3 m3 d3]):=HG2.out.ag (Ag.below HB2.out)
 clear HK1 HF1 HG1 HG2 HA1 HA2 HB1 HB2 HC HD
 obtain ⟨⟨f0,f1⟩,-⟩:=duo HF3.out
 obtain ⟨⟨g0,g1⟩,-⟩:=duo HF2.out
 by_cases hE:E = 0 ∧ E2 = 0
 ·obtain ⟨rfl,rfl⟩:=hE
  obtain ⟨hz,hxz⟩:=HUP.out rfl
  obtain rfl:E3 = 0:=hz
  have HXZ:=vH hxz
  clear hxz HUP
  go_wp2_with fail
  refine (HP.out wb (HE.out.below HZ.out)).mono ?_
  rintro e w3 ⟨r1,k1,e1,r2,k2,e2,r3,k3,e3,rfl,hgi,hb⟩
  have HG3:=vH hgi
  have HA3:=vH hb
  clear hgi hb HP f0 f1 g0 g1
  go_wp2_with fail
  obtain ⟨wc,hwc⟩:∃ wc,wc = (w3.alloc (.cells #[.slice r1 k1 e1,.slice r2 k2 e2,.slice r3 k3 e3] 26)).alloc (.cells #[.int .i64 0,.int .i64 K3] 29):=⟨_,rfl⟩
  rw [← hwc]
  have hbwc:Below w3.heap.size w3 wc:=by rw [hwc]; exact zA6 (zA6 (Below.refl _ _))
  have HK4:=vH (show wc.heap[w3.heap.size]? = some (.cells #[.slice r1 k1 e1,.slice r2 k2 e2,.slice r3 k3 e3] 26 (0,0)) by rw [hwc]; exact zE _ (heap_alloc_new w3 _))
  have HF4:=vH (show wc.heap[w3.heap.size + 1]? = some (.cells #[.int .i64 0,.int .i64 K3] 29 (0,0)) by rw [hwc]; have:=heap_alloc_new (w3.alloc (.cells #[.slice r1 k1 e1,.slice r2 k2 e2,.slice r3 k3 e3] 26)) (.cells #[.int .i64 0,.int .i64 K3] 29); rw [zB] at this; exact this)
  have HB4:=vH hbwc
  clear hwc hbwc
  have HC:=vH (zC HA3.out HB4.out HA3.out.size)
  have HY:=vH (zC HZ.out HC.out HZ.out.size)
  have HX:=vH (fun w' (hb:Below wc.heap.size wc w') => ((zC HC.out hb HC.out.size).block _ (zA HK3.out)).trans HK3.out)
  have HX2:=vH (fun w' (hb:Below wc.heap.size wc w') => ((zC HC.out hb HC.out.size).block _ (zA HK2.out)).trans HK2.out)
  have HX3:=vH (fun w' (hb:Below wc.heap.size wc w') => (hb.block _ (zA HK4.out)).trans HK4.out)
  have HX4:=vH (fun w' (hb:Below wc.heap.size wc w') => (hb.block _ (zA HF4.out)).trans HF4.out)
  have HS:Hid (∀ w':World,Below wc.heap.size wc w' → (w'.cell? ⟨w1.heap.size,0,none⟩ = some (.slice p1 n1 c1) ∧ w'.cell? ⟨w1.heap.size,1,none⟩ = some (.slice p2 n2 c2) ∧ w'.cell? ⟨w1.heap.size,2,none⟩ = some (.slice p3 n3 c3) ∧ w'.cell? ⟨w2.heap.size,0,none⟩ = some (.slice q1 m1 d1) ∧ w'.cell? ⟨w2.heap.size,1,none⟩ = some (.slice q2 m2 d2) ∧ w'.cell? ⟨w2.heap.size,2,none⟩ = some (.slice q3 m3 d3) ∧ w'.cell? ⟨w3.heap.size,0,none⟩ = some (.slice r1 k1 e1) ∧ w'.cell? ⟨w3.heap.size,1,none⟩ = some (.slice r2 k2 e2) ∧ w'.cell? ⟨w3.heap.size,2,none⟩ = some (.slice r3 k3 e3) ∧ w'.cell? ⟨w3.heap.size + 1,0,none⟩ = some (.int .i64 0))):=by
   intro w' hb
   obtain ⟨⟨x0,x1,x2⟩,-⟩:=tri (HX.out w' hb)
   obtain ⟨⟨y0,y1,y2⟩,-⟩:=tri (HX2.out w' hb)
   obtain ⟨⟨z0,z1,z2⟩,-⟩:=tri (HX3.out w' hb)
   obtain ⟨⟨f0,f1⟩,-⟩:=duo (HX4.out w' hb)
   exact ⟨x0,x1,x2,y0,y1,y2,z0,z1,z2,f0⟩
  have HM1:=vH (fun w' (hb:Below wc.heap.size wc w') => zEv w' x y (HGA.out.ag (Ag.below (zC HC.out hb HC.out.size))) (HGB.out.ag (Ag.below (zC HC.out hb HC.out.size))) HFI.out)
  have HM2:=vH (fun w' (hb:Below wc.heap.size wc w') => zOd w' x y (HGA.out.ag (Ag.below (zC HC.out hb HC.out.size))) (HGB.out.ag (Ag.below (zC HC.out hb HC.out.size))) HFI.out)
  have HM3:Hid (∀ w',Below wc.heap.size wc w' → Calls Tryz.prog 10 #[.agg #[.slice p1 n1 c1,.slice p2 n2 c2,.slice p3 n3 c3],.agg #[.slice r1 k1 e1,.slice r2 k2 e2,.slice r3 k3 e3]] w' fun e w2 => e = .returned (.bool true) ∧ Below w'.heap.size w' w2):=by
   intro w' hb
   have:=zEv w' x z (HGA.out.ag (Ag.below (zC HC.out hb HC.out.size))) (HG3.out.ag (Ag.below (zC HB4.out hb HB4.out.size))) HFI.out
   rw [HXZ.out] at this
   exact this
  have HM4:=vH (fun w' (hb:Below wc.heap.size wc w') => zMy w' (HE.out.below (zC HY.out hb HY.out.size)))
  obtain ⟨g,hg⟩:∃ g,sameG x y = g:=⟨_,rfl⟩
  rw [hg] at HM1 HM2
  have hgg:(g == g) = true:=beq_self_eq_true g
  clear hg HX HX2 HX3 HX4 HK2 HK3 HK4 HF2 HF3 HF4 HGA HGB HG3 HXZ
  have HN:Hid (Below wc.heap.size wc wc.drew):=(Below.refl _ _).drew
  obtain ⟨x0,x1,x2,y0,y1,y2,z0,z1,z2,f0⟩:=HS.out _ HN.out
  go_region_held3 (fun w' => w'.cell? ⟨w1.heap.size,0,none⟩ = some (.slice p1 n1 c1) ∧ w'.cell? ⟨w1.heap.size,1,none⟩ = some (.slice p2 n2 c2) ∧ w'.cell? ⟨w1.heap.size,2,none⟩ = some (.slice p3 n3 c3) ∧ w'.cell? ⟨w2.heap.size,0,none⟩ = some (.slice q1 m1 d1) ∧ w'.cell? ⟨w2.heap.size,1,none⟩ = some (.slice q2 m2 d2) ∧ w'.cell? ⟨w2.heap.size,2,none⟩ = some (.slice q3 m3 d3) ∧ w'.cell? ⟨w3.heap.size,0,none⟩ = some (.slice r1 k1 e1) ∧ w'.cell? ⟨w3.heap.size,1,none⟩ = some (.slice r2 k2 e2) ∧ w'.cell? ⟨w3.heap.size,2,none⟩ = some (.slice r3 k3 e3) ∧ w'.cell? ⟨w3.heap.size + 1,0,none⟩ = some (.int .i64 0)) (exact HS.out _ HN.out) (first
   | (go_at_call 7; (with_reducible refine Calls.mono (HM2.out _ HN.out) ?_); rintro en w4 ⟨rfl,hb⟩; replace HN:=vH (zC HN.out hb HN.out.size); clear hb)
   | (go_at_call 10; (with_reducible refine Calls.mono (HM1.out _ HN.out) ?_); rintro en w4 ⟨rfl,hb⟩; replace HN:=vH (zC HN.out hb HN.out.size); clear hb)
   | (go_at_call 10; (with_reducible refine Calls.mono (HM3.out _ HN.out) ?_); rintro en w4 ⟨rfl,hb⟩; replace HN:=vH (zC HN.out hb HN.out.size); clear hb)
   | (go_at_call 9; (with_reducible refine Calls.mono (HM4.out _ HN.out) ?_); rintro en w4 ⟨rfl,hb⟩; replace HN:=vH (zC HN.out hb HN.out.size); clear hb))
  all_goals
   go_wp2_with fail
   go_ret
   exact ⟨rfl,zC HY.out HN.out HY.out.size⟩
 ·have hEE:(E != 0) = true ∨ (E != 0) = false ∧ (E2 != 0) = true:=by
   by_cases h1:E = 0
   ·exact .inr ⟨by rw [h1]; rfl,by simpa using fun h2 => hE ⟨h1,h2⟩⟩
   ·exact .inl (by simpa using h1)
  clear hE HUP HP
  rcases hEE with h1 | ⟨h1,h2⟩
  all_goals
   go_wp2_with fail
   refine (zMy wb (HE.out.below HZ.out)).mono ?_
   rintro e w5 ⟨rfl,hb⟩
   have HB6:=vH (zC HZ.out hb HZ.out.size)
   clear hb
   go_wp2_with fail
   go_ret
   exact ⟨rfl,HB6.out⟩
theorem progSame_walk (s t:ByteArray)(_:s.size ≤ maxLen)(_:t.size ≤ maxLen)(w:World)(he:EnvG w) :
 Calls Tryz.prog 4 #[.string s,.string t] w fun e w' => e = .returned (.bool true) ∧ Below w.heap.size w w':=by
 by_cases h:s.size ≤ 3000 ∧ t.size ≤ 3000
 ·exact zOa s t h.1 h.2 w he
 ·have hd:decide ((3000:Int) < (s.size:Int)) = true ∨ decide ((3000:Int) < (s.size:Int)) = false ∧ decide ((3000:Int) < (t.size:Int)) = true:=by
   by_cases h1:s.size ≤ 3000
   ·exact .inr ⟨decide_eq_false (by omega),decide_eq_true (by omega)⟩
   ·exact .inl (decide_eq_true (by omega))
  clear h he
  rcases hd with h1 | ⟨h1,h2⟩
  all_goals
   go_in
   go_wp2_with fail
   go_ret
   exact ⟨rfl,Below.refl _ _⟩
end Go.Proofs.YtipmjjfknhblnaaGreatDoor
