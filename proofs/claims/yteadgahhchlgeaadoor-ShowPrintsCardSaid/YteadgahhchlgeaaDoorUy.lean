/- ShowPrints: the walk. -/
import Derived.Test.YteadgahhchlgeaaDoorK02
import Derived.Test.YteadgahhchlgeaaDoorUx
import Derived.Test.YteadgahhchlgeaaDoorK44
set_option maxRecDepth 8000
set_option maxHeartbeats 8000000
namespace Go.Proofs.YteadgahhchlgeaaDoor
open Go.RowKit
open Pe (Ex)
open Ps (Sm kindOf)
open Pg (Pm Rc Fc Gm)
open Rt (prG shG zB8 zGD)
theorem zEY (s:ByteArray)(hs:s.size ≤ 4000)(w:World)(he:EnvS w)(h0:(answer s.data.toList).2.1 = 0) :
 Calls Tryd.prog 3 #[.string s] w fun e w' => e = .returned (.bool true) ∧ Below w.heap.size w w':=by
 have hm:s.size ≤ maxLen:=Nat.le_trans hs (by decide)
 have hq:=zCD s hm w
 have hsh:=zB8 h0
 have hlen:=zGD h0
 generalize answer s.data.toList = y at hq hsh hlen h0
 obtain ⟨g,E,K⟩:=y
 dsimp only at hsh hlen h0
 subst h0
 have hd1:decide ((4000:Int) < (s.size:Int)) = false:=decide_eq_false (by omega)
 have HQ:=vH hq
 have HE:=vH he
 have HSH:=vH hsh
 have HLEN:=vH hlen
 clear hq he hsh hlen hm hs
 go_in
 go_wp2_with fail
 refine HQ.out.mono ?_
 rintro e w1 ⟨p1,n1,c1,p2,n2,c2,p3,n3,c3,rfl,hgi,hb⟩
 have HG1:=vH hgi
 have HB1:=vH hb
 clear hgi hb HQ
 go_wp2_with fail
 obtain ⟨wz,hwz⟩:∃ wz,wz = (w1.alloc (.cells #[.slice p1 n1 c1,.slice p2 n2 c2,.slice p3 n3 c3] 26)).alloc (.cells #[.int .i64 0,.int .i64 K] 29):=⟨_,rfl⟩
 rw [← hwz]
 have hbz:Below w1.heap.size w1 wz:=by rw [hwz]; exact zAd (zAd (Below.refl _ _))
 have hk:wz.heap[w1.heap.size]? = some (.cells #[.slice p1 n1 c1,.slice p2 n2 c2,.slice p3 n3 c3] 26 (0,0)):=by rw [hwz]; exact zM _ (heap_alloc_new w1 _)
 have hgz:=(HG1.out.ag (Ag.below hbz)).lower (Nat.zero_le _)
 have hez:=(HE.out.below HB1.out).below hbz
 have X:=vH (show Bxp w1 wz 26 #[.slice p1 n1 c1,.slice p2 n2 c2,.slice p3 n3 c3] from ⟨hbz,hk⟩)
 have P1:=vH (fun (u:World) (hb:Below wz.heap.size wz u) => zFQ u (hez.below hb) g HSH.out ((hgz.ag (Ag.below hb)).lower (Nat.zero_le _)) (by have:=HLEN.out; omega))
 have P2:=vH (fun (u:World) (hb:Below wz.heap.size wz u) => zIi u g HSH.out ((hgz.ag (Ag.below hb)).lower (Nat.zero_le _)) (by have:=HLEN.out; omega))
 have P3:=vH (fun (u:World) (hb:Below wz.heap.size wz u) => zEy u (hez.below hb))
 have Z:=vH (Below.refl wz.heap.size wz)
 have HBZ:=vH (zH HB1.out hbz HB1.out.size)
 clear hgz hez hk hbz HG1 HE
 generalize prG g = T at P1 P2
 clear hwz
 have X2:=vH X.out.drew
 have Z2:=vH (Z.out.trans (zAI wz))
 clear X Z
 have X:=X2
 have Z:=Z2
 clear X2 Z2
 go_region_held3 (fun w' => w'.cell? ⟨w1.heap.size,0,none⟩ = some (.slice p1 n1 c1) ∧ w'.cell? ⟨w1.heap.size,1,none⟩ = some (.slice p2 n2 c2) ∧ w'.cell? ⟨w1.heap.size,2,none⟩ = some (.slice p3 n3 c3)) (exact (tri X.out.h).1)
  (first
  | (go_at_call 8; (with_reducible refine Calls.mono (P1.out _ Z.out) ?_); rintro e u ⟨rfl,hb⟩; have X2:=vH (X.out.go hb); have X:=X2; have Z2:=vH (zH Z.out hb Z.out.size); have Z:=Z2)
  | (go_at_call 9; (with_reducible refine Calls.mono (P2.out _ Z.out) ?_); rintro e u ⟨rfl,hb⟩; have X2:=vH (X.out.go hb); have X:=X2; have Z2:=vH (zH Z.out hb Z.out.size); have Z:=Z2)
  | (go_at_call 10; (with_reducible refine Calls.mono (P3.out _ Z.out) ?_); rintro e u ⟨rfl,hb⟩; have X2:=vH (X.out.go hb); have X:=X2; have Z2:=vH (zH Z.out hb Z.out.size); have Z:=Z2))
 all_goals
  go_wp2_with fail
  go_ret
  exact ⟨rfl,zH HBZ.out Z.out HBZ.out.size⟩
theorem showPrints_walk (s:ByteArray)(hs:s.size ≤ maxLen)(w:World)(he:EnvS w) :
 Calls Tryd.prog 3 #[.string s] w fun e w' => e = .returned (.bool true) ∧ Below w.heap.size w w':=by
 by_cases h:s.size ≤ 4000
 ·by_cases h0:(answer s.data.toList).2.1 = 0
  ·exact zEY s h w he h0
  ·have hq:=zCD s hs w
   generalize answer s.data.toList = y at hq h0
   obtain ⟨g,E,K⟩:=y
   dsimp only at h0
   have hd1:decide ((4000:Int) < (s.size:Int)) = false:=decide_eq_false (by omega)
   have hd2:(E != 0) = true:=bne_iff_ne.2 h0
   have HQ:=vH hq
   clear hq h0 h hs he
   go_in
   go_wp2_with fail
   refine HQ.out.mono ?_
   rintro e w1 ⟨p1,n1,c1,p2,n2,c2,p3,n3,c3,rfl,-,hb⟩
   have HB1:=vH hb
   clear hb HQ
   go_wp2_with fail
   go_ret
   exact ⟨rfl,zAd (zAd HB1.out)⟩
 ·have hq:=zCD s hs w
  generalize answer s.data.toList = y at hq
  obtain ⟨g,E,K⟩:=y
  have hd1:decide ((4000:Int) < (s.size:Int)) = true:=decide_eq_true (by omega)
  have HQ:=vH hq
  clear hq h hs he
  go_in
  go_wp2_with fail
  refine HQ.out.mono ?_
  rintro e w1 ⟨p1,n1,c1,p2,n2,c2,p3,n3,c3,rfl,-,hb⟩
  have HB1:=vH hb
  clear hb HQ
  go_wp2_with fail
  go_ret
  exact ⟨rfl,zAd (zAd HB1.out)⟩
end Go.Proofs.YteadgahhchlgeaaDoor
