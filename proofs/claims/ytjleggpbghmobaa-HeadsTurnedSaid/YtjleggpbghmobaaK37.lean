/-
  HeadsDims: the walk.
-/
import Derived.Test.YtjleggpbghmobaaK01
import Derived.Test.YtjleggpbghmobaaK26
import Derived.Test.YtjleggpbghmobaaK34
set_option maxRecDepth 8000
set_option maxHeartbeats 8000000
namespace Go.Proofs.Ytjleggpbghmobaa
open Go.RowKit
open Hs (Nm TypH find tyOf intN boolN)
theorem zHS {w:World}{B:Nat}{T:TypeId}(h:w.heap[B]? = some (.cells #[.string ⟨#[65]⟩,.string ⟨#[66]⟩,.string ⟨#[66]⟩] T (0,0))):LAt NIs 1 w 0 (some ⟨B,0,none⟩) [[65],[66],[66]]:=by
 refine .inr ⟨B,0,rfl,zA h,Nat.zero_le _,fun i x hx => ⟨[.string (cbs x)],rfl,fun j v hj hv => ?_⟩⟩
 obtain rfl:j = 0:=by omega
 obtain rfl : .string (cbs x) = v:=by simpa using hv
 rw [cell_of_row _ _ _ _ _ _ h]
 match i,hx with
 | 0,hx => obtain rfl:([65]:List UInt8) = x:=by simpa using hx
           rfl
 | 1,hx => obtain rfl:([66]:List UInt8) = x:=by simpa using hx
           rfl
 | 2,hx => obtain rfl:([66]:List UInt8) = x:=by simpa using hx
           rfl
theorem a_at {w:World}{B:Nat}{T:TypeId}(h:w.heap[B]? = some (.cells #[.string ⟨#[65]⟩] T (0,0))):LAt NIs 1 w 0 (some ⟨B,0,none⟩) [[65]]:=by
 refine .inr ⟨B,0,rfl,zA h,Nat.zero_le _,fun i x hx => ⟨[.string (cbs x)],rfl,fun j v hj hv => ?_⟩⟩
 obtain rfl:j = 0:=by omega
 obtain rfl : .string (cbs x) = v:=by simpa using hv
 rw [cell_of_row _ _ _ _ _ _ h]
 match i,hx with
 | 0,hx => obtain rfl:([65]:List UInt8) = x:=by simpa using hx
           rfl
theorem headsDims_walk (n:Int)(nm:Bool)(hn : -9223372036854775808 ≤ n ∧ n ≤ 9223372036854775807)(w:World) :
 Calls Try.prog 8 #[.int .i64 n,.bool nm] w fun e w' => e = .returned (.bool true) ∧ Below w.heap.size w w':=by
 by_cases h1:n < -3
 ·have hd1:decide (n < -3) = true:=decide_eq_true h1
  go_in
  go_wp2_with fail
  go_ret
  exact ⟨rfl,Below.refl _ _⟩
 ·have hd1:decide (n < -3) = false:=decide_eq_false h1
  by_cases h2 : 10 < n
  ·have hd2:decide (10 < n) = true:=decide_eq_true h2
   go_in
   go_wp2_with fail
   go_ret
   exact ⟨rfl,Below.refl _ _⟩
  ·have hd2:decide (10 < n) = false:=decide_eq_false h2
   cases nm with
   | false =>
     obtain ⟨wa,hwa⟩:∃ wa,wa = ((w.alloc (.cells #[.string ⟨#[98,111,111,108]⟩,.int .i64 n] 45)).alloc (.cells #[.int .i64 2,.int .i64 0,.int .i64 n] 47)).alloc (.cells #[.string ⟨#[65]⟩,.string ⟨#[66]⟩,.string ⟨#[66]⟩] 9):=⟨_,rfl⟩
     have hba:Below w.heap.size w wa:=by rw [hwa]; exact zC (zC (zC (Below.refl _ _)))
     have hk2:wa.heap[w.heap.size + 1]? = some (.cells #[.int .i64 2,.int .i64 0,.int .i64 n] 47 (0,0)):=by rw [hwa]; refine zD _ ?_; have:=heap_alloc_new (w.alloc (.cells #[.string ⟨#[98,111,111,108]⟩,.int .i64 n] 45)) (.cells #[.int .i64 2,.int .i64 0,.int .i64 n] 47); rw [zB] at this; exact this
     have hk3:wa.heap[w.heap.size + 1 + 1]? = some (.cells #[.string ⟨#[65]⟩,.string ⟨#[66]⟩,.string ⟨#[66]⟩] 9 (0,0)):=by rw [hwa]; have:=heap_alloc_new ((w.alloc (.cells #[.string ⟨#[98,111,111,108]⟩,.int .i64 n] 45)).alloc (.cells #[.int .i64 2,.int .i64 0,.int .i64 n] 47)) (.cells #[.string ⟨#[65]⟩,.string ⟨#[66]⟩,.string ⟨#[66]⟩] 9); rw [zB,zB] at this; exact this
     have ht:Calls Try.prog 15 #[.slice (some ⟨w.heap.size + 1 + 1,0,none⟩) 3 3,.agg #[.string ⟨#[98,111,111,108]⟩,.int .i64 n]] wa fun e w' => e = .returned (.tuple #[tyV (tyOf [[65],[66],[66]] [98,111,111,108] n).1,.bool (tyOf [[65],[66],[66]] [98,111,111,108] n).2]) ∧ Below wa.heap.size wa w':=zBp wa [[65],[66],[66]] (some ⟨w.heap.size + 1 + 1,0,none⟩) 3 (zHS hk3) [98,111,111,108] n (by decide)
     have ht2:=fun (u:World) (B:Nat) (h:u.heap[B]? = some (.cells #[.string ⟨#[65]⟩] 9 (0,0))) => (show Calls Try.prog 15 #[.slice (some ⟨B,0,none⟩) 1 1,.agg #[.string ⟨#[66]⟩,.int .i64 0]] u fun e w' => e = .returned (.tuple #[.agg #[.int .i64 (0),.int .i64 0,.int .i64 0],.bool false]) ∧ Below u.heap.size u w' from zBp u [[65]] (some ⟨B,0,none⟩) 1 (a_at h) [66] 0 (by decide))
     have HT2:=vH ht2
     have HB:=vH hba
     have HK2:=vH hk2
     clear ht2 hba hk2 hk3
     by_cases hr:n < 0 ∨ 3 < n
     ·by_cases h5:n < 0
      ·have hty:tyOf [[65],[66],[66]] [98,111,111,108] n = (⟨0,0,0⟩,false):=by rw [tyOf,if_pos hr]; rfl
       rw [hty] at ht
       unfold tyV at ht
       dsimp only at ht
       have HT:=vH ht
       clear ht hty
       have hd3:decide (n < 0) = true:=decide_eq_true h5
       clear hr h5
       go_in
       go_wp2_with fail
       rw [← hwa]
       clear hwa
       refine HT.out.mono ?_
       rintro e w5 ⟨rfl,hb⟩
       have HB5:=vH (zE HB.out hb HB.out.size)
       have HK5:=vH ((hb.block _ (zA HK2.out)).trans HK2.out)
       clear hb
       go_wp2_with fail
       refine (HT2.out _ _ (by have:=heap_alloc_new (w5.alloc (.cells #[.int .i64 (0),.int .i64 0,.int .i64 0] 47)) (.cells #[.string ⟨#[65]⟩] 9); rw [zB] at this; exact this)).mono ?_
       rintro e w6 ⟨rfl,hb⟩
       have HB6:=vH (zE HB5.out (zE (zC (zC (Below.refl w5.heap.size w5))) hb (by rw [zB,zB]; omega)) HB5.out.size)
       have HK6:=vH ((hb.block _ (zA (zD _ (zD _ HK5.out)))).trans (zD _ (zD _ HK5.out)))
       have HN6:=vH ((hb.block _ (zA (zD _ (heap_alloc_new w5 _)))).trans (zD _ (heap_alloc_new w5 (.cells #[.int .i64 (0),.int .i64 0,.int .i64 0] 47))))
       clear hb
       go_upto_region 11 with fail
       obtain ⟨wz,hwz⟩:∃ wz,wz = w6.alloc (.cells #[.int .i64 (0),.int .i64 0,.int .i64 0] 47):=⟨_,rfl⟩
       have HB9:=vH (show Below w.heap.size w wz by rw [hwz]; exact zC HB6.out)
       obtain ⟨⟨x0,x1,x2⟩,-⟩:=tri (zD (.cells #[.int .i64 (0),.int .i64 0,.int .i64 0] 47) HK6.out)
       obtain ⟨⟨y0,y1,y2⟩,-⟩:=tri (zD (.cells #[.int .i64 (0),.int .i64 0,.int .i64 0] 47) HN6.out)
       rw [← hwz] at x0 x1 x2 y0 y1 y2 ⊢
       clear hwz
       have heq:=fun u => zBO 0 0 0 0 0 0 u
       go_wp2_with fail
       refine (zAt _).mono ?_
       rintro e w7 ⟨rfl,hb⟩
       have HB7:=vH (zE HB9.out hb HB9.out.size)
       clear hb
       go_wp2_with fail
       go_ret
       exact ⟨rfl,HB7.out⟩
      ·have hty:tyOf [[65],[66],[66]] [98,111,111,108] n = (⟨0,0,0⟩,false):=by rw [tyOf,if_pos hr]; rfl
       rw [hty] at ht
       unfold tyV at ht
       dsimp only at ht
       have HT:=vH ht
       clear ht hty
       have hd3:decide (n < 0) = false:=decide_eq_false h5
       have hd4:decide (3 < n) = true:=decide_eq_true (by omega)
       clear hr h5
       go_in
       go_wp2_with fail
       rw [← hwa]
       clear hwa
       refine HT.out.mono ?_
       rintro e w5 ⟨rfl,hb⟩
       have HB5:=vH (zE HB.out hb HB.out.size)
       have HK5:=vH ((hb.block _ (zA HK2.out)).trans HK2.out)
       clear hb
       go_wp2_with fail
       refine (HT2.out _ _ (by have:=heap_alloc_new (w5.alloc (.cells #[.int .i64 (0),.int .i64 0,.int .i64 0] 47)) (.cells #[.string ⟨#[65]⟩] 9); rw [zB] at this; exact this)).mono ?_
       rintro e w6 ⟨rfl,hb⟩
       have HB6:=vH (zE HB5.out (zE (zC (zC (Below.refl w5.heap.size w5))) hb (by rw [zB,zB]; omega)) HB5.out.size)
       have HK6:=vH ((hb.block _ (zA (zD _ (zD _ HK5.out)))).trans (zD _ (zD _ HK5.out)))
       have HN6:=vH ((hb.block _ (zA (zD _ (heap_alloc_new w5 _)))).trans (zD _ (heap_alloc_new w5 (.cells #[.int .i64 (0),.int .i64 0,.int .i64 0] 47))))
       clear hb
       go_upto_region 11 with fail
       obtain ⟨wz,hwz⟩:∃ wz,wz = w6.alloc (.cells #[.int .i64 (0),.int .i64 0,.int .i64 0] 47):=⟨_,rfl⟩
       have HB9:=vH (show Below w.heap.size w wz by rw [hwz]; exact zC HB6.out)
       obtain ⟨⟨x0,x1,x2⟩,-⟩:=tri (zD (.cells #[.int .i64 (0),.int .i64 0,.int .i64 0] 47) HK6.out)
       obtain ⟨⟨y0,y1,y2⟩,-⟩:=tri (zD (.cells #[.int .i64 (0),.int .i64 0,.int .i64 0] 47) HN6.out)
       rw [← hwz] at x0 x1 x2 y0 y1 y2 ⊢
       clear hwz
       have heq:=fun u => zBO 0 0 0 0 0 0 u
       go_wp2_with fail
       refine (zAt _).mono ?_
       rintro e w7 ⟨rfl,hb⟩
       have HB7:=vH (zE HB9.out hb HB9.out.size)
       clear hb
       go_wp2_with fail
       go_ret
       exact ⟨rfl,HB7.out⟩
     ·have hty:tyOf [[65],[66],[66]] [98,111,111,108] n = (⟨2,0,n⟩,true):=by rw [tyOf,if_neg hr]; rfl
      rw [hty] at ht
      unfold tyV at ht
      dsimp only at ht
      have HT:=vH ht
      clear ht hty
      have hd3:decide (n < 0) = false:=decide_eq_false (by omega)
      have hd4:decide (3 < n) = false:=decide_eq_false (by omega)
      clear hr
      go_in
      go_wp2_with fail
      rw [← hwa]
      clear hwa
      refine HT.out.mono ?_
      rintro e w5 ⟨rfl,hb⟩
      have HB5:=vH (zE HB.out hb HB.out.size)
      have HK5:=vH ((hb.block _ (zA HK2.out)).trans HK2.out)
      clear hb
      go_wp2_with fail
      refine (HT2.out _ _ (by have:=heap_alloc_new (w5.alloc (.cells #[.int .i64 2,.int .i64 0,.int .i64 n] 47)) (.cells #[.string ⟨#[65]⟩] 9); rw [zB] at this; exact this)).mono ?_
      rintro e w6 ⟨rfl,hb⟩
      have HB6:=vH (zE HB5.out (zE (zC (zC (Below.refl w5.heap.size w5))) hb (by rw [zB,zB]; omega)) HB5.out.size)
      have HK6:=vH ((hb.block _ (zA (zD _ (zD _ HK5.out)))).trans (zD _ (zD _ HK5.out)))
      have HN6:=vH ((hb.block _ (zA (zD _ (heap_alloc_new w5 _)))).trans (zD _ (heap_alloc_new w5 (.cells #[.int .i64 2,.int .i64 0,.int .i64 n] 47))))
      clear hb
      go_upto_region 12 with fail
      obtain ⟨wz,hwz⟩:∃ wz,wz = w6.alloc (.cells #[.int .i64 (0),.int .i64 0,.int .i64 0] 47):=⟨_,rfl⟩
      have HB9:=vH (show Below w.heap.size w wz by rw [hwz]; exact zC HB6.out)
      obtain ⟨⟨x0,x1,x2⟩,-⟩:=tri (zD (.cells #[.int .i64 (0),.int .i64 0,.int .i64 0] 47) HK6.out)
      obtain ⟨⟨y0,y1,y2⟩,-⟩:=tri (zD (.cells #[.int .i64 (0),.int .i64 0,.int .i64 0] 47) HN6.out)
      rw [← hwz] at x0 x1 x2 y0 y1 y2 ⊢
      clear hwz
      have heq:=fun u => zBO 2 0 n 2 0 n u
      have hrf:=fun u => zBS u 2 0 n
      rw [show refT ⟨2,0,n⟩ = decide (0 < n) from rfl] at hrf
      have HRF:=vH hrf
      clear hrf
      obtain ⟨pn,hpn⟩:∃ pn,decide (0 < n) = pn:=⟨_,rfl⟩
      rw [hpn] at HRF
      go_wp2_with fail
      refine (HRF.out _).mono ?_
      rintro e w8 ⟨rfl,hb⟩
      have HB8:=vH (zE HB9.out hb HB9.out.size)
      clear hb x0 x1 x2 y0 y1 y2
      go_wp2_with fail
      refine (zAt w8).mono ?_
      rintro e w7 ⟨rfl,hb⟩
      have HB7:=vH (zE HB8.out hb HB8.out.size)
      clear hb
      go_wp2_with fail
      go_ret
      exact ⟨rfl,HB7.out⟩
   | true =>
     obtain ⟨wa,hwa⟩:∃ wa,wa = ((w.alloc (.cells #[.string ⟨#[66]⟩,.int .i64 n] 45)).alloc (.cells #[.int .i64 3,.int .i64 1,.int .i64 n] 47)).alloc (.cells #[.string ⟨#[65]⟩,.string ⟨#[66]⟩,.string ⟨#[66]⟩] 9):=⟨_,rfl⟩
     have hba:Below w.heap.size w wa:=by rw [hwa]; exact zC (zC (zC (Below.refl _ _)))
     have hk2:wa.heap[w.heap.size + 1]? = some (.cells #[.int .i64 3,.int .i64 1,.int .i64 n] 47 (0,0)):=by rw [hwa]; refine zD _ ?_; have:=heap_alloc_new (w.alloc (.cells #[.string ⟨#[66]⟩,.int .i64 n] 45)) (.cells #[.int .i64 3,.int .i64 1,.int .i64 n] 47); rw [zB] at this; exact this
     have hk3:wa.heap[w.heap.size + 1 + 1]? = some (.cells #[.string ⟨#[65]⟩,.string ⟨#[66]⟩,.string ⟨#[66]⟩] 9 (0,0)):=by rw [hwa]; have:=heap_alloc_new ((w.alloc (.cells #[.string ⟨#[66]⟩,.int .i64 n] 45)).alloc (.cells #[.int .i64 3,.int .i64 1,.int .i64 n] 47)) (.cells #[.string ⟨#[65]⟩,.string ⟨#[66]⟩,.string ⟨#[66]⟩] 9); rw [zB,zB] at this; exact this
     have ht:Calls Try.prog 15 #[.slice (some ⟨w.heap.size + 1 + 1,0,none⟩) 3 3,.agg #[.string ⟨#[66]⟩,.int .i64 n]] wa fun e w' => e = .returned (.tuple #[tyV (tyOf [[65],[66],[66]] [66] n).1,.bool (tyOf [[65],[66],[66]] [66] n).2]) ∧ Below wa.heap.size wa w':=zBp wa [[65],[66],[66]] (some ⟨w.heap.size + 1 + 1,0,none⟩) 3 (zHS hk3) [66] n (by decide)
     have ht2:=fun (u:World) (B:Nat) (h:u.heap[B]? = some (.cells #[.string ⟨#[65]⟩] 9 (0,0))) => (show Calls Try.prog 15 #[.slice (some ⟨B,0,none⟩) 1 1,.agg #[.string ⟨#[66]⟩,.int .i64 0]] u fun e w' => e = .returned (.tuple #[.agg #[.int .i64 (0),.int .i64 0,.int .i64 0],.bool false]) ∧ Below u.heap.size u w' from zBp u [[65]] (some ⟨B,0,none⟩) 1 (a_at h) [66] 0 (by decide))
     have HT2:=vH ht2
     have HB:=vH hba
     have HK2:=vH hk2
     clear ht2 hba hk2 hk3
     by_cases hr:n < 0 ∨ 3 < n
     ·by_cases h5:n < 0
      ·have hty:tyOf [[65],[66],[66]] [66] n = (⟨0,0,0⟩,false):=by rw [tyOf,if_pos hr]; rfl
       rw [hty] at ht
       unfold tyV at ht
       dsimp only at ht
       have HT:=vH ht
       clear ht hty
       have hd3:decide (n < 0) = true:=decide_eq_true h5
       clear hr h5
       go_in
       go_wp2_with fail
       rw [← hwa]
       clear hwa
       refine HT.out.mono ?_
       rintro e w5 ⟨rfl,hb⟩
       have HB5:=vH (zE HB.out hb HB.out.size)
       have HK5:=vH ((hb.block _ (zA HK2.out)).trans HK2.out)
       clear hb
       go_wp2_with fail
       refine (HT2.out _ _ (by have:=heap_alloc_new (w5.alloc (.cells #[.int .i64 (0),.int .i64 0,.int .i64 0] 47)) (.cells #[.string ⟨#[65]⟩] 9); rw [zB] at this; exact this)).mono ?_
       rintro e w6 ⟨rfl,hb⟩
       have HB6:=vH (zE HB5.out (zE (zC (zC (Below.refl w5.heap.size w5))) hb (by rw [zB,zB]; omega)) HB5.out.size)
       have HK6:=vH ((hb.block _ (zA (zD _ (zD _ HK5.out)))).trans (zD _ (zD _ HK5.out)))
       have HN6:=vH ((hb.block _ (zA (zD _ (heap_alloc_new w5 _)))).trans (zD _ (heap_alloc_new w5 (.cells #[.int .i64 (0),.int .i64 0,.int .i64 0] 47))))
       clear hb
       go_upto_region 11 with fail
       obtain ⟨wz,hwz⟩:∃ wz,wz = w6.alloc (.cells #[.int .i64 (0),.int .i64 0,.int .i64 0] 47):=⟨_,rfl⟩
       have HB9:=vH (show Below w.heap.size w wz by rw [hwz]; exact zC HB6.out)
       obtain ⟨⟨x0,x1,x2⟩,-⟩:=tri (zD (.cells #[.int .i64 (0),.int .i64 0,.int .i64 0] 47) HK6.out)
       obtain ⟨⟨y0,y1,y2⟩,-⟩:=tri (zD (.cells #[.int .i64 (0),.int .i64 0,.int .i64 0] 47) HN6.out)
       rw [← hwz] at x0 x1 x2 y0 y1 y2 ⊢
       clear hwz
       have heq:=fun u => zBO 0 0 0 0 0 0 u
       go_wp2_with fail
       refine (zAt _).mono ?_
       rintro e w7 ⟨rfl,hb⟩
       have HB7:=vH (zE HB9.out hb HB9.out.size)
       clear hb
       go_wp2_with fail
       go_ret
       exact ⟨rfl,HB7.out⟩
      ·have hty:tyOf [[65],[66],[66]] [66] n = (⟨0,0,0⟩,false):=by rw [tyOf,if_pos hr]; rfl
       rw [hty] at ht
       unfold tyV at ht
       dsimp only at ht
       have HT:=vH ht
       clear ht hty
       have hd3:decide (n < 0) = false:=decide_eq_false h5
       have hd4:decide (3 < n) = true:=decide_eq_true (by omega)
       clear hr h5
       go_in
       go_wp2_with fail
       rw [← hwa]
       clear hwa
       refine HT.out.mono ?_
       rintro e w5 ⟨rfl,hb⟩
       have HB5:=vH (zE HB.out hb HB.out.size)
       have HK5:=vH ((hb.block _ (zA HK2.out)).trans HK2.out)
       clear hb
       go_wp2_with fail
       refine (HT2.out _ _ (by have:=heap_alloc_new (w5.alloc (.cells #[.int .i64 (0),.int .i64 0,.int .i64 0] 47)) (.cells #[.string ⟨#[65]⟩] 9); rw [zB] at this; exact this)).mono ?_
       rintro e w6 ⟨rfl,hb⟩
       have HB6:=vH (zE HB5.out (zE (zC (zC (Below.refl w5.heap.size w5))) hb (by rw [zB,zB]; omega)) HB5.out.size)
       have HK6:=vH ((hb.block _ (zA (zD _ (zD _ HK5.out)))).trans (zD _ (zD _ HK5.out)))
       have HN6:=vH ((hb.block _ (zA (zD _ (heap_alloc_new w5 _)))).trans (zD _ (heap_alloc_new w5 (.cells #[.int .i64 (0),.int .i64 0,.int .i64 0] 47))))
       clear hb
       go_upto_region 11 with fail
       obtain ⟨wz,hwz⟩:∃ wz,wz = w6.alloc (.cells #[.int .i64 (0),.int .i64 0,.int .i64 0] 47):=⟨_,rfl⟩
       have HB9:=vH (show Below w.heap.size w wz by rw [hwz]; exact zC HB6.out)
       obtain ⟨⟨x0,x1,x2⟩,-⟩:=tri (zD (.cells #[.int .i64 (0),.int .i64 0,.int .i64 0] 47) HK6.out)
       obtain ⟨⟨y0,y1,y2⟩,-⟩:=tri (zD (.cells #[.int .i64 (0),.int .i64 0,.int .i64 0] 47) HN6.out)
       rw [← hwz] at x0 x1 x2 y0 y1 y2 ⊢
       clear hwz
       have heq:=fun u => zBO 0 0 0 0 0 0 u
       go_wp2_with fail
       refine (zAt _).mono ?_
       rintro e w7 ⟨rfl,hb⟩
       have HB7:=vH (zE HB9.out hb HB9.out.size)
       clear hb
       go_wp2_with fail
       go_ret
       exact ⟨rfl,HB7.out⟩
     ·have hty:tyOf [[65],[66],[66]] [66] n = (⟨3,1,n⟩,true):=by rw [tyOf,if_neg hr]; rfl
      rw [hty] at ht
      unfold tyV at ht
      dsimp only at ht
      have HT:=vH ht
      clear ht hty
      have hd3:decide (n < 0) = false:=decide_eq_false (by omega)
      have hd4:decide (3 < n) = false:=decide_eq_false (by omega)
      clear hr
      go_in
      go_wp2_with fail
      rw [← hwa]
      clear hwa
      refine HT.out.mono ?_
      rintro e w5 ⟨rfl,hb⟩
      have HB5:=vH (zE HB.out hb HB.out.size)
      have HK5:=vH ((hb.block _ (zA HK2.out)).trans HK2.out)
      clear hb
      go_wp2_with fail
      refine (HT2.out _ _ (by have:=heap_alloc_new (w5.alloc (.cells #[.int .i64 3,.int .i64 1,.int .i64 n] 47)) (.cells #[.string ⟨#[65]⟩] 9); rw [zB] at this; exact this)).mono ?_
      rintro e w6 ⟨rfl,hb⟩
      have HB6:=vH (zE HB5.out (zE (zC (zC (Below.refl w5.heap.size w5))) hb (by rw [zB,zB]; omega)) HB5.out.size)
      have HK6:=vH ((hb.block _ (zA (zD _ (zD _ HK5.out)))).trans (zD _ (zD _ HK5.out)))
      have HN6:=vH ((hb.block _ (zA (zD _ (heap_alloc_new w5 _)))).trans (zD _ (heap_alloc_new w5 (.cells #[.int .i64 3,.int .i64 1,.int .i64 n] 47))))
      clear hb
      go_upto_region 12 with fail
      obtain ⟨wz,hwz⟩:∃ wz,wz = w6.alloc (.cells #[.int .i64 (0),.int .i64 0,.int .i64 0] 47):=⟨_,rfl⟩
      have HB9:=vH (show Below w.heap.size w wz by rw [hwz]; exact zC HB6.out)
      obtain ⟨⟨x0,x1,x2⟩,-⟩:=tri (zD (.cells #[.int .i64 (0),.int .i64 0,.int .i64 0] 47) HK6.out)
      obtain ⟨⟨y0,y1,y2⟩,-⟩:=tri (zD (.cells #[.int .i64 (0),.int .i64 0,.int .i64 0] 47) HN6.out)
      rw [← hwz] at x0 x1 x2 y0 y1 y2 ⊢
      clear hwz
      have heq:=fun u => zBO 3 1 n 3 1 n u
      have hrf:=fun u => zBS u 3 1 n
      rw [show refT ⟨3,1,n⟩ = true from rfl] at hrf
      have HRF:=vH hrf
      clear hrf
      go_wp2_with fail
      refine (HRF.out _).mono ?_
      rintro e w8 ⟨rfl,hb⟩
      have HB8:=vH (zE HB9.out hb HB9.out.size)
      clear hb x0 x1 x2 y0 y1 y2
      go_wp2_with fail
      refine (zAt w8).mono ?_
      rintro e w7 ⟨rfl,hb⟩
      have HB7:=vH (zE HB8.out hb HB8.out.size)
      clear hb
      go_wp2_with fail
      go_ret
      exact ⟨rfl,HB7.out⟩
end Go.Proofs.Ytjleggpbghmobaa
