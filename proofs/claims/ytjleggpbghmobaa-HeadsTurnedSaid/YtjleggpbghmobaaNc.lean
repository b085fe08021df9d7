/- HeadsTurned: the walk. -/
import Derived.Test.YtjleggpbghmobaaK01
import Derived.Test.YtjleggpbghmobaaK39
set_option maxRecDepth 8000
set_option maxHeartbeats 8000000
namespace Go.Proofs.Ytjleggpbghmobaa
open Go.RowKit
open Pg (Pm Rc Fc Gm)
open Hs (Nm TypH FldH ShpH SigH HdsH make flt hd turn rev make_rev make_fine names_nodup recNames recNames_rev fdOf fdOf_rev shOf sgOf resOf resOf_rev tyOf_lt)
theorem turned_any (w:World)(a b c n:Int)(hn : 0 ≤ n ∧ n ≤ 9000000000)(hb:a = 3 → 0 ≤ b ∧ b < n) :
 Calls Try.prog 19 #[.agg #[.int .i64 a,.int .i64 b,.int .i64 c],.int .i64 n] w fun e w' => e = .returned (tyV (turn n ⟨a,b,c⟩)) ∧ Below w.heap.size w w':=by
 obtain ⟨wa,hwa⟩:∃ wa,wa = (w.alloc (.cells #[.int .i64 a,.int .i64 b,.int .i64 c] 47)).alloc (.cells #[.int .i64 0,.int .i64 0,.int .i64 0] 47):=⟨_,rfl⟩
 obtain ⟨hba,hk1,hk2⟩:=two_box w #[.int .i64 a,.int .i64 b,.int .i64 c] 47 47 #[.int .i64 0,.int .i64 0,.int .i64 0]
 rw [← hwa] at hba hk1 hk2
 have HB:=vH hba
 have hl1:=zA hk1
 have hl2:=zA hk2
 have hne:w.heap.size ≠ w.heap.size + 1:=by omega
 have hne2:=Ne.symm hne
 obtain ⟨⟨x0,x1,x2⟩,p0,p1,p2⟩:=tri hk1
 obtain ⟨⟨y0,y1,y2⟩,s0,s1,s2⟩:=tri hk2
 clear hba hk1 hk2
 by_cases h3:a = 3
 ·subst h3
  have hw1:wrap64 (n - 1) = n - 1:=by simp [wrap64]; omega
  have hw2:wrap64 (n - 1 - b) = n - 1 - b:=by have:=hb rfl; simp [wrap64]; omega
  have hb1:((3:Int) == 3) = true:=rfl
  clear hn hb
  go_in
  go_upto_region 1 with fail
  rw [← hwa]
  clear hwa
  go_wp2_with fail
  exact bodyPost_ret (v:=.agg #[.int .i64 3,.int .i64 (n - 1 - b),.int .i64 c]) (by simp [results,Try.results19,go_sem,y0,y1,y2]) rfl
   ⟨rfl,zJ (zJ (zJ (zJ HB.out (p:=⟨w.heap.size,1,none⟩) (Nat.le_refl _) _) (p:=⟨w.heap.size + 1,0,none⟩) (Nat.le_succ _) _) (p:=⟨w.heap.size + 1,1,none⟩) (Nat.le_succ _) _) (p:=⟨w.heap.size + 1,2,none⟩) (Nat.le_succ _) _⟩
 ·have hb1:(a == 3) = false:=by simpa using h3
  have ht:turn n ⟨a,b,c⟩ = ⟨a,b,c⟩:=if_neg h3
  rw [ht]
  clear hn hb h3 ht
  go_in
  go_upto_region 1 with fail
  rw [← hwa]
  clear hwa
  go_wp2_with fail
  exact bodyPost_ret (v:=.agg #[.int .i64 a,.int .i64 b,.int .i64 c]) (by simp [results,Try.results19,go_sem,y0,y1,y2]) rfl
   ⟨rfl,zJ (zJ (zJ HB.out (p:=⟨w.heap.size + 1,0,none⟩) (Nat.le_succ _) _) (p:=⟨w.heap.size + 1,1,none⟩) (Nat.le_succ _) _) (p:=⟨w.heap.size + 1,2,none⟩) (Nat.le_succ _) _⟩
theorem resOf_lt (l:List Nm)(f:Fc):(resOf l f).b = 3 → 0 ≤ (resOf l f).r ∧ (resOf l f).r < l.length:=by
 unfold resOf
 cases f.has
 ·intro h; rw [if_neg (by decide)] at h; exact absurd (show (0:Int) = 3 from h) (by decide)
 ·exact tyOf_lt l f.rn f.rd
theorem rec_one (s:ByteArray)(p:Option Addr)(n c:Nat)(z:Int):∀ u ∈ ([.string s,.slice p n c,.int .i64 z]:List Value),u.oneCell' = true:=by
 intro u hu
 simp at hu
 rcases hu with rfl | rfl | rfl <;> rfl
theorem len_one (w:World)(B:Nat)(x vs:List Value)(h:IdC w B x vs):vs.length = 3:=h.2
set_option maxHeartbeats 16000000 in
theorem headsTurned_in (s:ByteArray)(hs:s.size ≤ 4000)(w:World) :
 Calls Try.prog 6 #[.string s] w fun e w' => e = .returned (.bool true) ∧ Below w.heap.size w w':=by
 have hq:=zDh s (Nat.le_trans hs (by decide)) w
 have hsm:=zDx s.data.toList
 generalize answer s.data.toList = y at hq hsm
 obtain ⟨g,E,K⟩:=y
 dsimp only at hsm
 have hd1:decide ((4000:Int) < (s.size:Int)) = false:=decide_eq_false (by omega)
 have HQ:=vH hq
 have HSM:=vH hsm
 clear hq hsm hs
 by_cases hE:E ≠ 0
 ·have hd2:(E != 0) = true:=bne_iff_ne.2 hE
  clear hE
  go_in
  go_wp2_with fail
  refine HQ.out.mono ?_
  rintro e w1 ⟨p1,n1,c1,p2,n2,c2,p3,n3,c3,rfl,hgi,hb⟩
  have HB1:=vH hb
  clear hgi hb HQ
  go_wp2_with fail
  go_ret
  exact ⟨rfl,zC (zC HB1.out)⟩
 obtain rfl:E = 0:=Classical.not_not.1 hE
 clear hE
 have hcq:=fun w2 p1 p2 p3 n1 n2 n3 c1 c2 c3 h => makeQG_any w2 g p1 p2 p3 n1 n2 n3 c1 c2 c3 h HSM.out
 have HCQ:=vH hcq
 clear hcq
 go_in
 go_wp2_with fail
 refine HQ.out.mono ?_
 rintro e w1 ⟨p1,n1,c1,p2,n2,c2,p3,n3,c3,rfl,hgi,hb⟩
 go_upto_region 2 with fail
 obtain ⟨wa,hwa⟩:∃ wa,wa = (w1.alloc (.cells #[.slice p1 n1 c1,.slice p2 n2 c2,.slice p3 n3 c3] 26)).alloc (.cells #[.int .i64 (0),.int .i64 K] 29):=⟨_,rfl⟩
 obtain ⟨hba,hk1,hk2⟩:=two_box w1 #[.slice p1 n1 c1,.slice p2 n2 c2,.slice p3 n3 c3] 26 29 #[.int .i64 (0),.int .i64 K]
 rw [← hwa] at hba hk1 hk2 ⊢
 clear hwa
 have HG1:=vH ((hgi.lower (Nat.zero_le _)).gm.ag (Ag.below hba))
 have HB1:=vH (zE hb hba hb.size)
 have HK1:=vH hk1
 obtain ⟨⟨x0,x1,x2⟩,-⟩:=tri hk1
 obtain ⟨⟨f0,f1⟩,-⟩:=duo hk2
 clear hgi hb HQ hk1 hk2 hba
 go_wp2_with fail
 refine (HCQ.out _ _ _ _ _ _ _ _ _ _ HG1.out).mono ?_
 rintro e w2 ⟨q1,m1,e1,q2,m2,e2,q3,m3,e3,mn,rfl,hh,hb⟩
 cases hfl:flt g with
 | some a =>
   have hmk:make g = (HdsH.zero,3,a):=by unfold make; rw [hfl]
   rw [hmk]
   have HB2:=vH (zE HB1.out hb HB1.out.size)
   clear hmk hfl hh hb x0 x1 x2 f0 f1
   go_wp2_with fail
   refine (zAt _).mono ?_
   rintro e w5 ⟨rfl,hb⟩
   have HB5:=vH (zE HB2.out (zE (zC (zC (Below.refl _ _))) hb (zC (zC (Below.refl _ _))).size) HB2.out.size)
   clear hb
   go_wp2_with fail
   go_ret
   exact ⟨rfl,HB5.out⟩
 | none =>
   rw [make_fine hfl] at hh ⊢
   dsimp only at hh ⊢
   go_upto_region 5 with fail
   obtain ⟨wx,hwx⟩:∃ wx,wx = (w2.alloc (.cells #[.slice q1 m1 e1,.slice q2 m2 e2,.slice q3 m3 e3,.int .i64 mn] 36)).alloc (.cells #[.int .i64 (0),.int .i64 0] 29):=⟨_,rfl⟩
   obtain ⟨hbb,hk1,hk2⟩:=two_box w2 #[.slice q1 m1 e1,.slice q2 m2 e2,.slice q3 m3 e3,.int .i64 mn] 36 29 #[.int .i64 (0),.int .i64 0]
   rw [← hwx] at hbb hk1 hk2 ⊢
   clear hwx x0 x1 x2 f0 f1
   have hb2:=zE hb hbb hb.size
   have HB2:=vH (zE HB1.out hb2 HB1.out.size)
   have HG2:=vH (HG1.out.ag (Ag.below hb2))
   have HKP:=vH ((hb2.block _ (zA HK1.out)).trans HK1.out)
   have HKK:=vH hk1
   obtain ⟨⟨f0,f1⟩,-⟩:=duo hk2
   have HFL:=vH hfl
   obtain ⟨hp,hc,hq,hd',hr,hf',hv,hl1,hl2,hl3⟩:=(hh.ag (Ag.below hbb)).lower (Nat.zero_le _)
   have hv1:=(List.cons.inj hv).1
   have hv2:=(List.cons.inj (List.cons.inj hv).2).1
   have hv3:=(List.cons.inj (List.cons.inj (List.cons.inj hv).2).2).1
   have hv4:=(List.cons.inj (List.cons.inj (List.cons.inj (List.cons.inj hv).2).2).2).1
   clear hv
   injection hv1 with i1 i2 i3
   injection hv2 with i4 i5 i6
   injection hv3 with i7 i8 i9
   injection hv4 with i10 i11
   subst i1 i3 i4 i6 i7 i9 i11
   have HL1:=vH hl1
   have HL2:=vH hl2
   have HL3:=vH hl3
   obtain rfl:m1 = g.recs.length:=by rw [i2]; unfold hd; simp only [List.length_map]
   obtain rfl:m2 = g.globals.length:=by rw [i5]; unfold hd; simp only [List.length_map]
   obtain rfl:m3 = g.funcs.length:=by rw [i8]; unfold hd; simp only [List.length_map]
   obtain ⟨op,oc,oq,od,orr,of,hv,hg1,hg2,hg3⟩:=id HG2.out
   have hv1:=(List.cons.inj hv).1
   have hv2:=(List.cons.inj (List.cons.inj hv).2).1
   have hv3:=(List.cons.inj (List.cons.inj (List.cons.inj hv).2).2).1
   clear hv
   injection hv1 with j1 j2 j3
   injection hv2 with j4 j5 j6
   injection hv3 with j7 j8 j9
   subst j1 j2 j3 j4 j5 j6 j7 j8 j9
   have HR1:=vH hg1
   have HR2:=vH hg2
   have HR3:=vH hg3
   clear hfl hh hb hb2 hbb hk1 hk2 hl1 hl2 hl3 hg1 hg2 hg3 HCQ HG1 HG2 HK1 i2 i5 i8 i10
   obtain ⟨⟨x0,x1,x2⟩,-⟩:=tri HKP.out
   obtain ⟨cs,hcl,hcs⟩:=rows_of HR1.out
   have HCL:=vH hcl
   have HCS:=vH hcs
   clear hcl hcs
   obtain ⟨wm,hwm⟩:∃ wm,wm = wx.alloc (.cells #[.slice none 0 0,.slice p2 g.globals.length c2,.slice p3 g.funcs.length c3] 26):=⟨_,rfl⟩
   have HBM:=vH (show Below wx.heap.size wx wm by rw [hwm]; exact zC (Below.refl _ _))
   have HHM:=vH (show wm.heap[wx.heap.size]? = some (.cells #[.slice none 0 0,.slice p2 g.globals.length c2,.slice p3 g.funcs.length c3] 26 (0,0)) by rw [hwm]; exact heap_alloc_new wx _)
   have hw0:wrap64 ((g.recs.length:Int) - 1) = (g.recs.length:Int) - 1:=by have:=HSM.out.recs; simp [wrap64]; omega
   go_upto_region 9 with fail
   rw [← hwm]
   clear hwm x0 x1 x2 f0 f1
   go_wp2_with fail
   go_loopg [9] g.recs.length (fun n i wr => ∃ (j:Nat) (v:Value),n + j = g.recs.length ∧ i = .int .i64 ((g.recs.length:Int) - 1 - (j:Int)) ∧ Below wx.heap.size wx wr ∧ wr.heap[wx.heap.size]? = some (.cells #[v,.slice p2 g.globals.length c2,.slice p3 g.funcs.length c3] 26 (0,0)) ∧ OwnL IdC 53 3 (exs v) (wx.heap.size + 1) v (cs.reverse.take j) wr)
   case atStart => exact ⟨0,_,rfl,by rw [hw0]; congr 1; simp,HBM.out,HHM.out,OwnL.nil _⟩
   case round =>
    clear hw0
    obtain ⟨j,v,hj,rfl,hbr,hh,ho⟩:=hrel
    have HJ:=vH hj
    have HBR:=vH hbr
    have HH:=vH hh
    have OL:=vH ho
    clear hj hbr hh ho
    cases gk with
    | zero =>
      obtain rfl:j = g.recs.length:=by have:=HJ.out; omega
      rw [show (g.recs.length:Int) - 1 - (g.recs.length:Int) = -1 by omega]
      have hd1:decide ((0:Int) ≤ (-1:Int)) = false:=rfl
      have hO:=OL.out
      rw [List.take_of_length_le (by rw [List.length_reverse,HCL.out]; exact Nat.le_refl _)] at hO
      obtain ⟨sp,sc,hlv,hls⟩:=hO.done len_one
      rw [List.length_reverse,HCL.out] at hlv
      subst hlv
      have HGR:=vH (show GmIs wr 0 (rev g) [.slice sp g.recs.length sc,.slice p2 g.globals.length c2,.slice p3 g.funcs.length c3] from
       ⟨sp,sc,p2,c2,p3,c3,by unfold rev; simp only [List.length_reverse],rows_back hls HCL.out (fun i vs hv x hx => (HCS.out i vs hv x hx).1.ag (Ag.below HBR.out)),zEX HR2.out (Ag.below HBR.out),HR3.out.ag (fun _ _ h => h.ag (Ag.below HBR.out)) (Ag.below HBR.out)⟩)
      have hcm:=zDo wr (rev g) _ _ _ _ _ _ _ _ _ HGR.out HSM.out.rev
      rw [make_rev HFL.out] at hcm
      have HCM:=vH hcm
      obtain ⟨⟨a0,a1,a2⟩,-⟩:=tri HH.out
      clear hO hls hcm
      go_wp2_with fail
      refine HCM.out.mono ?_
      rintro e w5 ⟨r1,l1,i1,r2,l2,i2,r3,l3,i3,mq,rfl,hh,hb⟩
      dsimp only at hh ⊢
      go_upto_region 14 with fail
      obtain ⟨wz,hwz⟩:∃ wz,wz = (w5.alloc (.cells #[.slice r1 l1 i1,.slice r2 l2 i2,.slice r3 l3 i3,.int .i64 mq] 36)).alloc (.cells #[.int .i64 (0),.int .i64 0] 29):=⟨_,rfl⟩
      obtain ⟨hbz,hk1,hk2⟩:=two_box w5 #[.slice r1 l1 i1,.slice r2 l2 i2,.slice r3 l3 i3,.int .i64 mq] 36 29 #[.int .i64 (0),.int .i64 0]
      rw [← hwz] at hbz hk1 hk2 ⊢
      clear hwz a0 a1 a2
      have hbx:=zE HBR.out (zE hb hbz hb.size) HBR.out.size
      have HBZ:=vH (zE HB2.out hbx HB2.out.size)
      obtain ⟨hp,hc,hq,hd',hr,hf',hv,hl1,hl2,hl3⟩:=(hh.ag (Ag.below hbz)).lower (Nat.zero_le _)
      have hv1:=(List.cons.inj hv).1
      have hv2:=(List.cons.inj (List.cons.inj hv).2).1
      have hv3:=(List.cons.inj (List.cons.inj (List.cons.inj hv).2).2).1
      have hv4:=(List.cons.inj (List.cons.inj (List.cons.inj (List.cons.inj hv).2).2).2).1
      clear hv
      injection hv1 with z1 z2 z3
      injection hv2 with z4 z5 z6
      injection hv3 with z7 z8 z9
      injection hv4 with z10 z11
      subst z1 z3 z4 z6 z7 z9
      obtain rfl:mq = (hd g).main:=z11
      obtain rfl:l1 = g.recs.length:=by rw [z2]; unfold hd rev; simp only [List.length_map,List.length_reverse]
      obtain rfl:l2 = g.globals.length:=by rw [z5]; unfold hd rev; simp only [List.length_map]
      obtain rfl:l3 = g.funcs.length:=by rw [z8]; unfold hd rev; simp only [List.length_map]
      have HM1:=vH hl1
      have HM2:=vH hl2
      have HM3:=vH hl3
      have HHB:=vH hk1
      have HKB:=vH ((hbx.block _ (zA HKK.out)).trans HKK.out)
      have HL1z:=vH (HL1.out.ag (fun _ _ h => h.ag (Ag.below hbx)) (Ag.below hbx))
      have HL2z:=vH (zAK HL2.out (Ag.below hbx))
      have HL3z:=vH (HL3.out.ag (fun _ _ h => h.ag (Ag.below hbx)) (Ag.below hbx))
      obtain ⟨⟨f0,f1⟩,-⟩:=duo hk2
      obtain ⟨⟨a0,a1,a2,a3⟩,-⟩:=quad HHB.out
      obtain ⟨⟨b0,b1,b2,b3⟩,-⟩:=quad HKB.out
      clear hh hb hbz hbx hk1 hk2 hl1 hl2 hl3 z2 z5 z8 z10 HCM HGR OL HL1 HL2 HL3 HR1 HR2 HR3 HCS HCL HH HKP HKK
      have HND:=vH (names_nodup HFL.out)
      have hrl:(recNames g).length = g.recs.length:=by unfold recNames; rw [List.length_map]
      have HRN:=vH hrl
      have HN0:=vH (show (0:Int) ≤ (g.recs.length:Int) ∧ (g.recs.length:Int) ≤ 9000000000 from ⟨by omega,by have:=HSM.out.recs; omega⟩)
      have hw1:wrap64 ((g.recs.length:Int) - 1) = (g.recs.length:Int) - 1:=by have:=HSM.out.recs; simp [wrap64]; omega
      have HW1:=vH hw1
      clear hrl hw1
      go_upto_region 16 with fail
      clear f0 f1 hd1
      go_cut [12] from 18 (fun v w9 => v = .int .i64 0 ∧ w9 = wz)
      case first =>
       go_wp2_with fail
       go_meet
       exact ⟨rfl,rfl⟩
      case rest =>
      obtain ⟨rfl,hwc⟩:=hcut
      rw [hwc]
      clear hwc
      go_wp2_with fail
      go_loopg [12] g.recs.length (fun n i wr => ∃ j:Nat,n + j = g.recs.length ∧ i = .int .i64 (j:Int) ∧ Below wz.heap.size wz wr)
      case atStart => exact ⟨0,rfl,rfl,Below.refl _ _⟩
      case round =>
       obtain ⟨j,hj,rfl,hbr⟩:=hrel
       have HJ:=vH hj
       have HB3:=vH hbr
       clear hj hbr a0 a1 a2 a3 b0 b1 b2 b3
       obtain ⟨⟨a0,a1,a2,a3⟩,-⟩:=quad ((HB3.out.block _ (zA HHB.out)).trans HHB.out)
       obtain ⟨⟨b0,b1,b2,b3⟩,-⟩:=quad ((HB3.out.block _ (zA HKB.out)).trans HKB.out)
       cases gk with
       | zero =>
         obtain rfl:j = g.recs.length:=by have:=HJ.out; omega
         have hd1:decide ((g.recs.length:Int) < (g.recs.length:Int)) = false:=decide_eq_false (by omega)
         go_wp2_with fail
         clear hd1 a0 a1 a2 a3 b0 b1 b2 b3
         go_loopg [16] g.globals.length (fun n i w9 => ∃ j:Nat,n + j = g.globals.length ∧ i = .int .i64 (j:Int) ∧ Below wz.heap.size wz w9)
         case atStart => exact ⟨0,rfl,rfl,HB3.out⟩
         case round =>
          obtain ⟨j3,hjN,rfl,hbN⟩:=hrel
          have HJj3:=vH hjN
          have HB4:=vH hbN
          clear hjN hbN
          obtain ⟨⟨a0,a1,a2,a3⟩,-⟩:=quad ((HB4.out.block _ (zA HHB.out)).trans HHB.out)
          obtain ⟨⟨b0,b1,b2,b3⟩,-⟩:=quad ((HB4.out.block _ (zA HKB.out)).trans HKB.out)
          cases gk with
          | zero =>
            obtain rfl:j3 = g.globals.length:=by have:=HJj3.out; omega
            have hd1:decide ((g.globals.length:Int) < (g.globals.length:Int)) = false:=decide_eq_false (by omega)
            go_wp2_with fail
            clear hd1 a0 a1 a2 a3 b0 b1 b2 b3
            go_loopg [17] g.funcs.length (fun n i w9 => ∃ j:Nat,n + j = g.funcs.length ∧ i = .int .i64 (j:Int) ∧ Below wz.heap.size wz w9)
            case atStart => exact ⟨0,rfl,rfl,HB4.out⟩
            case round =>
             obtain ⟨j4,hjN,rfl,hbN⟩:=hrel
             have HJj4:=vH hjN
             have HB5:=vH hbN
             clear hjN hbN
             obtain ⟨⟨a0,a1,a2,a3⟩,-⟩:=quad ((HB5.out.block _ (zA HHB.out)).trans HHB.out)
             obtain ⟨⟨b0,b1,b2,b3⟩,-⟩:=quad ((HB5.out.block _ (zA HKB.out)).trans HKB.out)
             cases gk with
             | zero =>
               obtain rfl:j4 = g.funcs.length:=by have:=HJj4.out; omega
               have hd1:decide ((g.funcs.length:Int) < (g.funcs.length:Int)) = false:=decide_eq_false (by omega)
               go_wp2_with fail
               clear hd1 a0 a1 a2 a3 b0 b1 b2 b3
               refine (zAt _).mono ?_
               rintro e w6 ⟨rfl,hb⟩
               have HBE:=vH (zE HBZ.out (zE HB5.out hb HB5.out.size) HBZ.out.size)
               clear hb
               go_wp2_with fail
               go_ret
               exact ⟨rfl,HBE.out⟩
             | succ m4 =>
               have hjl:j4 < g.funcs.length:=by have:=HJj4.out; omega
               have hd1:decide ((j4:Int) < (g.funcs.length:Int)) = true:=decide_eq_true (by omega)
               have hi1:(j4:Int) < (g.funcs.length:Int):=by omega
               have hd2:decide (g.funcs.length ≤ j4) = false:=decide_eq_false (by omega)
               have hdw:wrap64 ((j4:Int) + 1) = ((j4 + 1:Nat):Int):=by have:=HSM.out.funcs; simp [wrap64]; omega
               have hp2:=List.getElem?_eq_getElem hjl
               generalize g.funcs[j4] = p at hp2
               have hpA:(hd (rev g)).sigs[j4]? = some (sgOf (recNames g).reverse p):=by show (g.funcs.map (sgOf (recNames (rev g))))[j4]? = _; rw [List.getElem?_map,hp2,recNames_rev]; rfl
               have hpB:(hd g).sigs[j4]? = some (sgOf (recNames g) p):=by show (g.funcs.map (sgOf (recNames g)))[j4]? = _; rw [List.getElem?_map,hp2]; rfl
               have hlt:=resOf_lt (recNames g) p
               rw [HRN.out] at hlt
               rw [show sgOf (recNames g).reverse p = ⟨p.name,p.params.map (fdOf (recNames g).reverse),p.has,resOf (recNames g).reverse p⟩ from rfl,resOf_rev HND.out,HRN.out] at hpA
               rw [show sgOf (recNames g) p = ⟨p.name,p.params.map (fdOf (recNames g)),p.has,resOf (recNames g) p⟩ from rfl] at hpB
               generalize resOf (recNames g) p = T at hpA hpB hlt
               obtain ⟨a,b,c⟩:=T
               dsimp only at hlt
               have htn:=fun u => turned_any u a b c g.recs.length HN0.out hlt
               generalize turn (g.recs.length:Int) ⟨a,b,c⟩ = T2 at hpA htn
               obtain ⟨ta,tb,tc⟩:=T2
               unfold tyV at htn
               dsimp only at htn
               have HTN:=vH htn
               clear htn hlt
               obtain ⟨bl3,off3,vs3,hq3,hbl3,⟨fp3,fc3,rfl,-⟩,hc3⟩:=HM3.out.get hpA
               obtain ⟨bl4,off4,vs4,hq4,hbl4,⟨fp4,fc4,rfl,-⟩,hc4⟩:=HL3z.out.get hpB
               have eA1:=zK HB5.out (hc3 3 _ (by decide) rfl)
               have eA2:=zK HB5.out (hc3 4 _ (by decide) rfl)
               have eA3:=zK HB5.out (hc3 5 _ (by decide) rfl)
               have eB1:=zK HB5.out (hc4 3 _ (by decide) rfl)
               have eB2:=zK HB5.out (hc4 4 _ (by decide) rfl)
               have eB3:=zK HB5.out (hc4 5 _ (by decide) rfl)
               obtain rfl:some ⟨bl3,off3,none⟩ = r3:=hq3.symm
               obtain rfl:some ⟨bl4,off4,none⟩ = q3:=hq4.symm
               have sA:=a2
               have sB:=b2
               clear hjl hp2 hpA hpB hc3 hc4 hq3 hq4 hbl3 hbl4 a0 a1 a2 a3 b0 b1 b2 b3
               have HSB:=vH (show ∀ u,Below wr.heap.size wr u → u.cell? ⟨w5.heap.size,2,none⟩ = some (.slice (some ⟨bl3,off3,none⟩) g.funcs.length i3) ∧ u.cell? ⟨w2.heap.size,2,none⟩ = some (.slice (some ⟨bl4,off4,none⟩) g.funcs.length e3) ∧ (u.cell? ⟨bl3,off3 + j4 * 6 + 3,none⟩ = some (.int .i64 ta) ∧ u.cell? ⟨bl3,off3 + j4 * 6 + 4,none⟩ = some (.int .i64 tb) ∧ u.cell? ⟨bl3,off3 + j4 * 6 + 5,none⟩ = some (.int .i64 tc)) ∧ (u.cell? ⟨bl4,off4 + j4 * 6 + 3,none⟩ = some (.int .i64 a) ∧ u.cell? ⟨bl4,off4 + j4 * 6 + 4,none⟩ = some (.int .i64 b) ∧ u.cell? ⟨bl4,off4 + j4 * 6 + 5,none⟩ = some (.int .i64 c)) from fun u hb => ⟨zK hb sA,zK hb sB,⟨zK hb eA1,zK hb eA2,zK hb eA3⟩,⟨zK hb eB1,zK hb eB2,zK hb eB3⟩⟩)
               have hneq:=fun u => zIo ta tb tc u
               have HC:=vH (zAc (Below.refl wr.heap.size wr))
               go_wp2_with fail
               clear sA sB eA1 eA2 eA3 eB1 eB2 eB3
               go_region_held3 (fun u => u.cell? ⟨w5.heap.size,2,none⟩ = some (.slice (some ⟨bl3,off3,none⟩) g.funcs.length i3) ∧ u.cell? ⟨w2.heap.size,2,none⟩ = some (.slice (some ⟨bl4,off4,none⟩) g.funcs.length e3) ∧ (u.cell? ⟨bl3,off3 + j4 * 6 + 3,none⟩ = some (.int .i64 ta) ∧ u.cell? ⟨bl3,off3 + j4 * 6 + 4,none⟩ = some (.int .i64 tb) ∧ u.cell? ⟨bl3,off3 + j4 * 6 + 5,none⟩ = some (.int .i64 tc)) ∧ (u.cell? ⟨bl4,off4 + j4 * 6 + 3,none⟩ = some (.int .i64 a) ∧ u.cell? ⟨bl4,off4 + j4 * 6 + 4,none⟩ = some (.int .i64 b) ∧ u.cell? ⟨bl4,off4 + j4 * 6 + 5,none⟩ = some (.int .i64 c))) (with_reducible exact HSB.out _ HC.out)
                (first | (go_at_call 19; (with_reducible refine Calls.mono (HTN.out _) ?_); rintro e4 u1 ⟨rfl,hb⟩; have HCN:=vH (zE HC.out hb HC.out.size); have HC:=HCN; clear hb))
               all_goals
                go_wp2_with fail
                go_roundg m4
                case measure => omega
                case rel => exact ⟨j4 + 1,by have:=HJj4.out; omega,by first | rfl | simp [hdw],zE HB5.out HC.out HB5.out.size⟩
          | succ m3 =>
            have hjl:j3 < g.globals.length:=by have:=HJj3.out; omega
            have hd1:decide ((j3:Int) < (g.globals.length:Int)) = true:=decide_eq_true (by omega)
            have hi1:(j3:Int) < (g.globals.length:Int):=by omega
            have hd2:decide (g.globals.length ≤ j3) = false:=decide_eq_false (by omega)
            have hdw:wrap64 ((j3:Int) + 1) = ((j3 + 1:Nat):Int):=by have:=HSM.out.globals; simp [wrap64]; omega
            have hp2:=List.getElem?_eq_getElem hjl
            generalize g.globals[j3] = p at hp2
            have hpA:(hd (rev g)).globals[j3]? = some (fdOf (recNames g).reverse p):=by show (g.globals.map (fdOf (recNames (rev g))))[j3]? = _; rw [List.getElem?_map,hp2,recNames_rev]; rfl
            have hpB:(hd g).globals[j3]? = some (fdOf (recNames g) p):=by show (g.globals.map (fdOf (recNames g)))[j3]? = _; rw [List.getElem?_map,hp2]; rfl
            rw [fdOf_rev HND.out,HRN.out] at hpA
            rw [show fdOf (recNames g) p = ⟨p.name,(Hs.tyOf (recNames g) p.ofn p.dims).1⟩ from rfl] at hpA hpB
            have hlt:=tyOf_lt (recNames g) p.ofn p.dims
            rw [HRN.out] at hlt
            dsimp only at hpA
            generalize (Hs.tyOf (recNames g) p.ofn p.dims).1 = T at hpA hpB hlt
            obtain ⟨a,b,c⟩:=T
            dsimp only at hlt
            have htn:=fun u => turned_any u a b c g.recs.length HN0.out hlt
            generalize turn (g.recs.length:Int) ⟨a,b,c⟩ = T2 at hpA htn
            obtain ⟨ta,tb,tc⟩:=T2
            unfold tyV at htn
            dsimp only at htn
            have HTN:=vH htn
            clear htn hlt
            obtain ⟨bl3,off3,vs3,hq3,hbl3,hi3,hc3⟩:=HM2.out.get hpA
            obtain ⟨bl4,off4,vs4,hq4,hbl4,hi4,hc4⟩:=HL2z.out.get hpB
            rw [FdIs] at hi3 hi4
            subst hi3 hi4
            have eA1:=zK HB4.out (hc3 1 _ (by decide) rfl)
            have eA2:=zK HB4.out (hc3 2 _ (by decide) rfl)
            have eA3:=zK HB4.out (hc3 3 _ (by decide) rfl)
            have eB1:=zK HB4.out (hc4 1 _ (by decide) rfl)
            have eB2:=zK HB4.out (hc4 2 _ (by decide) rfl)
            have eB3:=zK HB4.out (hc4 3 _ (by decide) rfl)
            obtain rfl:some ⟨bl3,off3,none⟩ = r2:=hq3.symm
            obtain rfl:some ⟨bl4,off4,none⟩ = q2:=hq4.symm
            have sA:=a1
            have sB:=b1
            clear hjl hp2 hpA hpB hc3 hc4 hq3 hq4 hbl3 hbl4 a0 a1 a2 a3 b0 b1 b2 b3
            have HSB:=vH (show ∀ u,Below wr.heap.size wr u → u.cell? ⟨w5.heap.size,1,none⟩ = some (.slice (some ⟨bl3,off3,none⟩) g.globals.length i2) ∧ u.cell? ⟨w2.heap.size,1,none⟩ = some (.slice (some ⟨bl4,off4,none⟩) g.globals.length e2) ∧ (u.cell? ⟨bl3,off3 + j3 * 4 + 1,none⟩ = some (.int .i64 ta) ∧ u.cell? ⟨bl3,off3 + j3 * 4 + 2,none⟩ = some (.int .i64 tb) ∧ u.cell? ⟨bl3,off3 + j3 * 4 + 3,none⟩ = some (.int .i64 tc)) ∧ (u.cell? ⟨bl4,off4 + j3 * 4 + 1,none⟩ = some (.int .i64 a) ∧ u.cell? ⟨bl4,off4 + j3 * 4 + 2,none⟩ = some (.int .i64 b) ∧ u.cell? ⟨bl4,off4 + j3 * 4 + 3,none⟩ = some (.int .i64 c)) from fun u hb => ⟨zK hb sA,zK hb sB,⟨zK hb eA1,zK hb eA2,zK hb eA3⟩,⟨zK hb eB1,zK hb eB2,zK hb eB3⟩⟩)
            have hneq:=fun u => zIo ta tb tc u
            have HC:=vH (zAc (Below.refl wr.heap.size wr))
            go_wp2_with fail
            clear sA sB eA1 eA2 eA3 eB1 eB2 eB3
            go_region_held3 (fun u => u.cell? ⟨w5.heap.size,1,none⟩ = some (.slice (some ⟨bl3,off3,none⟩) g.globals.length i2) ∧ u.cell? ⟨w2.heap.size,1,none⟩ = some (.slice (some ⟨bl4,off4,none⟩) g.globals.length e2) ∧ (u.cell? ⟨bl3,off3 + j3 * 4 + 1,none⟩ = some (.int .i64 ta) ∧ u.cell? ⟨bl3,off3 + j3 * 4 + 2,none⟩ = some (.int .i64 tb) ∧ u.cell? ⟨bl3,off3 + j3 * 4 + 3,none⟩ = some (.int .i64 tc)) ∧ (u.cell? ⟨bl4,off4 + j3 * 4 + 1,none⟩ = some (.int .i64 a) ∧ u.cell? ⟨bl4,off4 + j3 * 4 + 2,none⟩ = some (.int .i64 b) ∧ u.cell? ⟨bl4,off4 + j3 * 4 + 3,none⟩ = some (.int .i64 c))) (with_reducible exact HSB.out _ HC.out)
             (first | (go_at_call 19; (with_reducible refine Calls.mono (HTN.out _) ?_); rintro e4 u1 ⟨rfl,hb⟩; have HCN:=vH (zE HC.out hb HC.out.size); have HC:=HCN; clear hb))
            all_goals
             go_wp2_with fail
             go_roundg m3
             case measure => omega
             case rel => exact ⟨j3 + 1,by have:=HJj3.out; omega,by first | rfl | simp [hdw],zE HB4.out HC.out HB4.out.size⟩
       | succ m =>
         have hjl:j < g.recs.length:=by have:=HJ.out; omega
         have hd1:decide ((j:Int) < (g.recs.length:Int)) = true:=decide_eq_true (by omega)
         have hi1:(j:Int) < (g.recs.length:Int):=by omega
         have hd2:decide (g.recs.length ≤ j) = false:=decide_eq_false (by omega)
         have hdw:wrap64 ((j:Int) + 1) = ((j + 1:Nat):Int):=by have:=HSM.out.recs; simp [wrap64]; omega
         obtain ⟨k,hk⟩:∃ k:Nat,k = g.recs.length - 1 - j:=⟨_,rfl⟩
         have hkl:k < g.recs.length:=by omega
         have hw1:=HW1.out
         have hw2:wrap64 ((g.recs.length:Int) - 1 - (j:Int)) = (k:Int):=by have:=HSM.out.recs; simp [wrap64]; omega
         have hi2:(k:Int) < (g.recs.length:Int):=by omega
         have hi3:(0:Int) ≤ (k:Int):=by omega
         have hd3:decide (g.recs.length ≤ k) = false:=decide_eq_false (by omega)
         have hx:=List.getElem?_eq_getElem hjl
         generalize g.recs[j] = x at hx
         have hmem:=List.mem_of_getElem? hx
         have hx1:(hd (rev g)).recs[k]? = some (shOf (recNames g).reverse x):=by
          show ((g.recs.reverse).map (shOf (recNames (rev g))))[k]? = _
          rw [List.getElem?_map,List.getElem?_reverse hkl,show g.recs.length - 1 - k = j by omega,hx,recNames_rev]
          rfl
         have hx2:(hd g).recs[j]? = some (shOf (recNames g) x):=by
          show ((g.recs).map (shOf (recNames g)))[j]? = _
          rw [List.getElem?_map,hx]
          rfl
         obtain ⟨bl,off,vs,hr1,hbl,⟨ap,ac,rfl,hA⟩,hcA⟩:=HM1.out.get hx1
         obtain ⟨bl2,off2,vs2,hq1,hbl2,⟨bp,bc,rfl,hB⟩,hcB⟩:=HL1z.out.get hx2
         have y0:=zK HB3.out (hcA 0 _ (by decide) rfl)
         have y1:=zK HB3.out (hcA 1 _ (by decide) rfl)
         have z0:=zK HB3.out (hcB 0 _ (by decide) rfl)
         have z1:=zK HB3.out (hcB 1 _ (by decide) rfl)
         rw [Nat.add_zero] at y0 z0
         dsimp only [shOf] at y0 y1 z0 z1
         rw [List.length_map] at y1 z1
         obtain rfl:some ⟨bl,off,none⟩ = r1:=hr1.symm
         obtain rfl:some ⟨bl2,off2,none⟩ = q1:=hq1.symm
         have HSX:=vH (HSM.out.rec1 _ hmem).2.1
         have HA:=vH hA
         have HBf:=vH hB
         have hsz:=HB3.out.size
         have q5:=zA HHB.out
         have q2:=zA HKB.out
         have ne1:w5.heap.size < wr.heap.size:=by omega
         have ne2:w5.heap.size ≠ wr.heap.size:=by omega
         have ne3:wr.heap.size ≠ w5.heap.size:=by omega
         have ne4:w5.heap.size ≠ wr.heap.size + 1:=by omega
         have ne5:wr.heap.size + 1 ≠ w5.heap.size:=by omega
         have ne6:w5.heap.size < wr.heap.size + 1:=by omega
         have nf1:w2.heap.size < wr.heap.size:=by omega
         have nf2:w2.heap.size ≠ wr.heap.size:=by omega
         have nf3:wr.heap.size ≠ w2.heap.size:=by omega
         have nf4:w2.heap.size ≠ wr.heap.size + 1:=by omega
         have nf5:wr.heap.size + 1 ≠ w2.heap.size:=by omega
         have nf6:w2.heap.size < wr.heap.size + 1:=by omega
         have ng1:bl < wr.heap.size:=by omega
         have ng2:bl ≠ wr.heap.size:=by omega
         have ng3:wr.heap.size ≠ bl:=by omega
         have ng4:bl ≠ wr.heap.size + 1:=by omega
         have ng5:wr.heap.size + 1 ≠ bl:=by omega
         have ng6:bl < wr.heap.size + 1:=by omega
         have nh1:bl2 < wr.heap.size:=by omega
         have nh2:bl2 ≠ wr.heap.size:=by omega
         have nh3:wr.heap.size ≠ bl2:=by omega
         have nh4:bl2 ≠ wr.heap.size + 1:=by omega
         have nh5:wr.heap.size + 1 ≠ bl2:=by omega
         have nh6:bl2 < wr.heap.size + 1:=by omega
         have hw3:IntKind.i64.wrap ((g.recs.length:Int) - 1) = (g.recs.length:Int) - 1:=by have h:=hw1; unfold wrap64 at h; rw [IntKind.wrap_i64]; exact h
         have hw4:IntKind.i64.wrap ((g.recs.length:Int) - 1 - (j:Int)) = (k:Int):=by have h:=hw2; unfold wrap64 at h; rw [IntKind.wrap_i64]; exact h
         clear hjl hk hkl hx hmem hx1 hx2 hcA hcB hr1 hq1 hA hB hsz q5 q2
         obtain ⟨wo,hwo⟩:∃ wo,wo = wr:=⟨_,rfl⟩
         subst hwo
         go_upto_region 19 with fail
         go_cut [13,14] from 104 to 157 (fun v13 v14 w9 => ∃ bA bB,v13 = .pointer (some ⟨bA,0,none⟩) ∧ v14 = .pointer (some ⟨bB,0,none⟩) ∧ w9.heap[bA]? = some (.cells #[.string (cbs x.name),.slice ap x.fields.length ac] 55 (0,0)) ∧ w9.heap[bB]? = some (.cells #[.string (cbs x.name),.slice bp x.fields.length bc] 55 (0,0)) ∧ Below wo.heap.size wo w9)
         case first =>
          have hnew:∀ (a b:Array Value),((wo.alloc (.cells a 55)).alloc (.cells b 55)).drew.heap[wo.heap.size]? = some (.cells a 55 (0,0)) ∧ ((wo.alloc (.cells a 55)).alloc (.cells b 55)).drew.heap[wo.heap.size + 1]? = some (.cells b 55 (0,0)):=fun a b => ⟨zD _ (heap_alloc_new wo _),by have:=heap_alloc_new (wo.alloc (.cells a 55)) (.cells b 55); rw [zB] at this; exact this⟩
          have HNEW:=vH hnew
          clear hnew
          go_region
          all_goals
           go_wp2_with fail
           go_meet
           first
           | exact ⟨_,_,rfl,rfl,(HNEW.out _ _).1,(HNEW.out _ _).2,zAc (zC (zC (Below.refl _ _)))⟩
           | exact ⟨_,_,rfl,rfl,(HNEW.out _ _).2,(HNEW.out _ _).1,zAc (zC (zC (Below.refl _ _)))⟩
         case rest =>
         obtain ⟨bA,bB,rfl,rfl,hxa,hxb,hby⟩:=hcut
         obtain ⟨wy,hwy⟩:∃ wy,wy = wc:=⟨_,rfl⟩
         rw [← hwy] at hxa hxb hby ⊢
         have HXA:=vH hxa
         have HXB:=vH hxb
         have HBY:=vH (zE HB3.out hby HB3.out.size)
         have HAy:=vH (zAK (zAK HA.out (Ag.below HB3.out)) (Ag.below hby))
         have HBy:=vH (zAK (zAK HBf.out (Ag.below HB3.out)) (Ag.below hby))
         clear hwy hby hxa hxb a0 a1 a2 a3 b0 b1 b2 b3 y0 y1 z0 z1 ne1 ne2 ne3 ne4 ne5 ne6 nf1 nf2 nf3 nf4 nf5 nf6 ng1 ng2 ng3 ng4 ng5 ng6 nh1 nh2 nh3 nh4 nh5 nh6 hw1 hw2 hw3 hw4 hi2 hi3 hd3
         obtain ⟨⟨a0,a1⟩,-⟩:=duo HXA.out
         obtain ⟨⟨b0,b1⟩,-⟩:=duo HXB.out
         go_wp2_with fail
         clear hd1 hd2 hi1 a0 a1 b0 b1
         go_loopg [15] x.fields.length (fun n i w9 => ∃ j2:Nat,n + j2 = x.fields.length ∧ i = .int .i64 (j2:Int) ∧ Below wy.heap.size wy w9)
         case atStart => exact ⟨0,rfl,rfl,Below.refl _ _⟩
         case round =>
          obtain ⟨j2,hj2,rfl,hbq⟩:=hrel
          have HJ2:=vH hj2
          have HBQ:=vH hbq
          clear hj2 hbq
          have sA:=(duo ((HBQ.out.block _ (zA HXA.out)).trans HXA.out)).1.2
          have sB:=(duo ((HBQ.out.block _ (zA HXB.out)).trans HXB.out)).1.2
          cases gk with
          | zero =>
            obtain rfl:j2 = x.fields.length:=by have:=HJ2.out; omega
            have hd1:decide ((x.fields.length:Int) < (x.fields.length:Int)) = false:=decide_eq_false (by omega)
            go_wp2_with fail
            go_roundg m
            case measure => omega
            case rel => exact ⟨j + 1,by have:=HJ.out; omega,by first | rfl | simp [hdw],zE HBY.out HBQ.out HBY.out.size⟩
          | succ m2 =>
            have hjl2:j2 < x.fields.length:=by have:=HJ2.out; omega
            have hd1:decide ((j2:Int) < (x.fields.length:Int)) = true:=decide_eq_true (by omega)
            have hi1:(j2:Int) < (x.fields.length:Int):=by omega
            have hd2:decide (x.fields.length ≤ j2) = false:=decide_eq_false (by omega)
            have hdw2:wrap64 ((j2:Int) + 1) = ((j2 + 1:Nat):Int):=by have:=HSX.out; simp [wrap64]; omega
            have hp2:=List.getElem?_eq_getElem hjl2
            generalize x.fields[j2] = p at hp2
            have hpA:(shOf (recNames g).reverse x).fields[j2]? = some (fdOf (recNames g).reverse p):=by show (x.fields.map _)[j2]? = _; rw [List.getElem?_map,hp2]; rfl
            have hpB:(shOf (recNames g) x).fields[j2]? = some (fdOf (recNames g) p):=by show (x.fields.map _)[j2]? = _; rw [List.getElem?_map,hp2]; rfl
            rw [fdOf_rev HND.out,HRN.out] at hpA
            rw [show fdOf (recNames g) p = ⟨p.name,(Hs.tyOf (recNames g) p.ofn p.dims).1⟩ from rfl] at hpA hpB
            have hlt:=tyOf_lt (recNames g) p.ofn p.dims
            rw [HRN.out] at hlt
            dsimp only at hpA
            generalize (Hs.tyOf (recNames g) p.ofn p.dims).1 = T at hpA hpB hlt
            obtain ⟨a,b,c⟩:=T
            dsimp only at hlt
            have htn:=fun u => turned_any u a b c g.recs.length HN0.out hlt
            generalize turn (g.recs.length:Int) ⟨a,b,c⟩ = T2 at hpA htn
            obtain ⟨ta,tb,tc⟩:=T2
            unfold tyV at htn
            dsimp only at htn
            have HTN:=vH htn
            clear htn hlt
            obtain ⟨bl3,off3,vs3,hq3,hbl3,hi3,hc3⟩:=HAy.out.get hpA
            obtain ⟨bl4,off4,vs4,hq4,hbl4,hi4,hc4⟩:=HBy.out.get hpB
            rw [FdIs] at hi3 hi4
            subst hi3 hi4
            have eA1:=zK HBQ.out (hc3 1 _ (by decide) rfl)
            have eA2:=zK HBQ.out (hc3 2 _ (by decide) rfl)
            have eA3:=zK HBQ.out (hc3 3 _ (by decide) rfl)
            have eB1:=zK HBQ.out (hc4 1 _ (by decide) rfl)
            have eB2:=zK HBQ.out (hc4 2 _ (by decide) rfl)
            have eB3:=zK HBQ.out (hc4 3 _ (by decide) rfl)
            obtain rfl:some ⟨bl3,off3,none⟩ = ap:=hq3.symm
            obtain rfl:some ⟨bl4,off4,none⟩ = bp:=hq4.symm
            clear hjl2 hp2 hpA hpB hc3 hc4 hq3 hq4 hbl3 hbl4
            have HSB:=vH (show ∀ u,Below wr.heap.size wr u → u.cell? ⟨bA,1,none⟩ = some (.slice (some ⟨bl3,off3,none⟩) x.fields.length ac) ∧ u.cell? ⟨bB,1,none⟩ = some (.slice (some ⟨bl4,off4,none⟩) x.fields.length bc) ∧ (u.cell? ⟨bl3,off3 + j2 * 4 + 1,none⟩ = some (.int .i64 ta) ∧ u.cell? ⟨bl3,off3 + j2 * 4 + 2,none⟩ = some (.int .i64 tb) ∧ u.cell? ⟨bl3,off3 + j2 * 4 + 3,none⟩ = some (.int .i64 tc)) ∧ (u.cell? ⟨bl4,off4 + j2 * 4 + 1,none⟩ = some (.int .i64 a) ∧ u.cell? ⟨bl4,off4 + j2 * 4 + 2,none⟩ = some (.int .i64 b) ∧ u.cell? ⟨bl4,off4 + j2 * 4 + 3,none⟩ = some (.int .i64 c)) from fun u hb => ⟨zK hb sA,zK hb sB,⟨zK hb eA1,zK hb eA2,zK hb eA3⟩,⟨zK hb eB1,zK hb eB2,zK hb eB3⟩⟩)
            have hneq:=fun u => zIo ta tb tc u
            have HC:=vH (zAc (Below.refl wr.heap.size wr))
            go_wp2_with fail
            clear sA sB eA1 eA2 eA3 eB1 eB2 eB3
            go_region_held3 (fun u => u.cell? ⟨bA,1,none⟩ = some (.slice (some ⟨bl3,off3,none⟩) x.fields.length ac) ∧ u.cell? ⟨bB,1,none⟩ = some (.slice (some ⟨bl4,off4,none⟩) x.fields.length bc) ∧ (u.cell? ⟨bl3,off3 + j2 * 4 + 1,none⟩ = some (.int .i64 ta) ∧ u.cell? ⟨bl3,off3 + j2 * 4 + 2,none⟩ = some (.int .i64 tb) ∧ u.cell? ⟨bl3,off3 + j2 * 4 + 3,none⟩ = some (.int .i64 tc)) ∧ (u.cell? ⟨bl4,off4 + j2 * 4 + 1,none⟩ = some (.int .i64 a) ∧ u.cell? ⟨bl4,off4 + j2 * 4 + 2,none⟩ = some (.int .i64 b) ∧ u.cell? ⟨bl4,off4 + j2 * 4 + 3,none⟩ = some (.int .i64 c))) (with_reducible exact HSB.out _ HC.out)
             (first | (go_at_call 19; (with_reducible refine Calls.mono (HTN.out _) ?_); rintro e4 u1 ⟨rfl,hb⟩; have HCN:=vH (zE HC.out hb HC.out.size); have HC:=HCN; clear hb))
            all_goals
             go_wp2_with fail
             go_roundg m2
             case measure => omega
             case rel => exact ⟨j2 + 1,by have:=HJ2.out; omega,by first | rfl | simp [hdw2],zE HBQ.out HC.out HBQ.out.size⟩
    | succ m =>
      have hjl:j < g.recs.length:=by have:=HJ.out; omega
      obtain ⟨k,hk⟩:∃ k:Nat,k = g.recs.length - 1 - j:=⟨_,rfl⟩
      have hkl:k < g.recs.length:=by omega
      rw [show (g.recs.length:Int) - 1 - (j:Int) = (k:Int) by omega]
      have hd1:decide ((0:Int) ≤ (k:Int)) = true:=decide_eq_true (by omega)
      have hi1:(k:Int) < (g.recs.length:Int):=by omega
      have hi0:(0:Int) ≤ (k:Int):=by omega
      have hd2:decide (g.recs.length ≤ k) = false:=decide_eq_false (by omega)
      have hdw:wrap64 ((k:Int) - 1) = (k:Int) - 1:=by have:=HSM.out.recs; simp [wrap64]; omega
      have hkc:k < cs.length:=by rw [HCL.out]; exact hkl
      have hcj:cs.reverse[j]? = some cs[k]:=by rw [List.getElem?_reverse (by rw [HCL.out]; omega),show cs.length - 1 - j = k by rw [HCL.out]; omega]; exact List.getElem?_eq_getElem hkc
      obtain ⟨hrc,bl,off,hq0,hbl,hcc⟩:=HCS.out k _ (List.getElem?_eq_getElem hkc) _ (List.getElem?_eq_getElem hkl)
      generalize cs[k] = row at hcj hrc hcc
      generalize g.recs[k] = x at hrc
      obtain ⟨fp,fc,rfl,-⟩:=hrc
      have HTK:=vH (show cs.reverse.take (j + 1) = cs.reverse.take j ++ [_] by rw [List.take_add_one,hcj]; rfl)
      have y0:=zK HBR.out (hcc 0 _ (by decide) rfl)
      have y1:=zK HBR.out (hcc 1 _ (by decide) rfl)
      have y2:=zK HBR.out (hcc 2 _ (by decide) rfl)
      rw [Nat.add_zero] at y0
      obtain rfl:some ⟨bl,off,none⟩ = p1:=hq0.symm
      have HKL:=vH hkl
      have HKJ:=vH hk
      have HEX:=vH (show ∀ k,exs v k → wx.heap.size + 1 ≤ k ∧ k < wr.heap.size from OL.out.lt)
      have hol:(cs.reverse.take j).length = j:=by rw [List.length_take,List.length_reverse,HCL.out]; omega
      generalize cs.reverse.take j = out at OL HTK hol
      have HOL:=vH hol
      obtain ⟨lp,lc,hls⟩:=OL.out.slice
      subst hls
      obtain ⟨vss,hl1,hl2,hl3⟩:=id OL.out
      have HL1v:=vH hl1
      have HO:=vH hl2
      have HK3:=vH hl3
      have HWX:=vH (show wx.heap.size + 1 ≤ wr.heap.size from zA HH.out)
      clear hjl hkl hk hkc hcj hcc hq0 hol hl1 hl2 hl3
      obtain ⟨⟨a0,a1,a2⟩,f0,f1,f2⟩:=tri HH.out
      obtain ⟨⟨x0,x1,x2⟩,-⟩:=tri ((HBR.out.block _ (zA HKP.out)).trans HKP.out)
      have hla:=zA HH.out
      obtain ⟨i9,hi9,hz0,hz1,hz2⟩:=info_parts zJO
      go_wp2_with fail
      go_region_law (first
       | (refine zP rfl (.tmp 55) (.tmp 61) 22 rfl (wx.heap.size + 1) 53 i9 _ 3 48 Try.underlying22 hi9 hz0 hz1 hz2 rfl (by decide) (.slice lp out.length lc) out.length vss.flatten (by simp [Act.eval]) (zD7 (HO.out.alloc _)) ⟨wr.heap.size,0,none⟩ 1 1 [.string (cbs x.name),.slice fp x.fields.length fc,.int .i64 x.at_] (by simp [Act.eval]) rfl (zAE rfl rfl) (rec_one _ _ _ _ _) (by have:=HOL.out; have:=HJ.out; have:=HSM.out.recs; unfold maxLen; omega) (by have:=HOL.out; have:=HJ.out; have:=HSM.out.recs; omega) (by show wx.heap.size + 1 ≤ (wr.alloc _).heap.size; rw [zB]; have:=HWX.out; omega) ?_; intro v' w8 hown hgrow hat; have O8:=vH (OwnL.more (x:=[.string (cbs x.name),.slice fp x.fields.length fc,.int .i64 x.at_]) HO.out HL1v.out HK3.out (fun _ _ _ => ⟨rfl,rfl⟩) hown (zBF hgrow) (by rw [← zB wr _]; exact hat)); have K8:=vH (zIl (v:=.slice lp out.length lc) (zBF hgrow) (fun k hk => (HEX.out k hk).1)); have HH8:=vH ((K8.out.2.2 _ (zA HH.out) (Nat.lt_succ_self _)).trans HH.out); obtain ⟨np,nc,hnv⟩:=zT hown; subst hnv; clear hown hgrow hat; clear a0 a1 a2 f0 f1 f2 hla; obtain ⟨⟨a0,a1,a2⟩,f0,f1,f2⟩:=tri HH8.out; have hla:=zA HH8.out)
       | (go_simp; fail))
      all_goals
       go_wp2_with fail
       have HB8:=vH (show Below wx.heap.size wx w8 from ⟨K8.out.2.1.1.trans HBR.out.os,K8.out.2.1.2.1.trans HBR.out.tape,K8.out.2.1.2.2.trans HBR.out.output,Nat.le_trans HBR.out.size K8.out.1,fun i hi => (K8.out.2.2 i (Nat.lt_of_lt_of_le hi HBR.out.size) (Nat.lt_succ_of_lt hi)).trans (HBR.out.block i hi)⟩)
       have HH9:=vH (Lib.heap_setCell_same HH8.out (i:=0) (v:=.slice np (out.length + 1) nc))
       have O9:=vH (O8.out.agg (Ag.set (Ag.refl _ _) (p:=⟨wx.heap.size,0,none⟩) (.inl (Nat.lt_succ_self _)) (.slice np (out.length + 1) nc)))
       go_roundg m
       case measure => omega
       case rel => exact ⟨j + 1,_,by have:=HJ.out; omega,by rw [hdw]; have:=HKJ.out; have:=HJ.out; congr 1; omega,zJ HB8.out (p:=⟨wx.heap.size,0,none⟩) (Nat.le_refl _) _,HH9.out,by rw [HTK.out]; exact O9.out⟩
theorem headsTurned_walk (s:ByteArray)(hs:s.size ≤ maxLen)(w:World) :
 Calls Try.prog 6 #[.string s] w fun e w' => e = .returned (.bool true) ∧ Below w.heap.size w w':=by
 by_cases h:s.size ≤ 4000
 ·exact headsTurned_in s h w
 ·have hd1:decide ((4000:Int) < (s.size:Int)) = true:=decide_eq_true (by omega)
  have HQ:=vH (zDh s hs w)
  generalize answer s.data.toList = y at HQ
  obtain ⟨g,E,K⟩:=y
  clear h
  go_in
  go_wp2_with fail
  refine HQ.out.mono ?_
  rintro e w1 ⟨p1,n1,c1,p2,n2,c2,p3,n3,c3,rfl,hgi,hb⟩
  have HB1:=vH hb
  clear hgi hb HQ
  go_wp2_with fail
  go_ret
  exact ⟨rfl,zC (zC HB1.out)⟩
end Go.Proofs.Ytjleggpbghmobaa
