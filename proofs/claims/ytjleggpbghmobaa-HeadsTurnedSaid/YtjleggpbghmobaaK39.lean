/-
  HeadsMake: the walk.
-/
import Derived.Test.YtjleggpbghmobaaK02
import Derived.Test.YtjleggpbghmobaaK01
import Derived.Test.YtjleggpbghmobaaK35
import Derived.Test.YtjleggpbghmobaaK36
import Derived.Test.YtjleggpbghmobaaK34
import Derived.Test.YtjleggpbghmobaaK37
import Derived.Test.YtjleggpbghmobaaK38
set_option maxRecDepth 8000
set_option maxHeartbeats 8000000
namespace Go.Proofs.Ytjleggpbghmobaa
open Go.RowKit
open Pg (Pm Rc Fc Gm)
open Hs (Nm TypH FldH ShpH SigH HdsH make flt hd fdOf shOf sgOf recNames)
theorem hdSm_make {g:Gm}(h:GmSm g):HdSm (make g).1:=by
 unfold make
 cases flt g with
 | some a => exact show HdSm HdsH.zero from ⟨by decide,by decide,by decide,fun r hr => (by cases hr),fun r hr => (by cases hr)⟩
 | none =>
   refine ⟨?_,?_,?_,?_,?_⟩
   ·show (g.recs.map _).length ≤ _
    rw [List.length_map]
    exact h.recs
   ·show (g.globals.map _).length ≤ _
    rw [List.length_map]
    exact h.globals
   ·show (g.funcs.map _).length ≤ _
    rw [List.length_map]
    exact h.funcs
   ·intro r hr
    obtain ⟨x,hx,rfl⟩:=List.mem_map.1 hr
    show (x.fields.map _).length ≤ _
    rw [List.length_map]
    exact (h.rec1 x hx).2.1
   ·intro r hr
    obtain ⟨x,hx,rfl⟩:=List.mem_map.1 hr
    show (x.params.map _).length ≤ _
    rw [List.length_map]
    exact (h.func1 x hx).2.2.1
theorem makeQG_any (w:World)(g:Gm)(p1 p2 p3:Option Addr)(n1 n2 n3 c1 c2 c3:Nat)(hg:GmIs w 0 g [.slice p1 n1 c1,.slice p2 n2 c2,.slice p3 n3 c3])(hs:GmSm g) :
 Calls Try.prog 11 #[.agg #[.slice p1 n1 c1,.slice p2 n2 c2,.slice p3 n3 c3]] w (MkPost w (make g)):=by
 obtain ⟨p,c,q,d,r,f,hv,h1,h2,h3⟩:=id hg
 have hv1:=(List.cons.inj hv).1
 have hv2:=(List.cons.inj (List.cons.inj hv).2).1
 have hv3:=(List.cons.inj (List.cons.inj (List.cons.inj hv).2).2).1
 injection hv1 with e1 e2 e3
 injection hv2 with e4 e5 e6
 injection hv3 with e7 e8 e9
 subst e1 e2 e3 e4 e5 e6 e7 e8 e9
 exact zJE w g _ _ _ _ _ _ h1 h2 h3 hs
theorem sameHdG_any (w:World)(h:HdsH)(p q r p2 q2 r2:Option Addr)(n m k c d f n2 m2 k2 c2 d2 f2:Nat)(mn mn2:Int)(h1:HdIs w 0 h [.slice p n c,.slice q m d,.slice r k f,.int .i64 mn])(h2:HdIs w 0 h [.slice p2 n2 c2,.slice q2 m2 d2,.slice r2 k2 f2,.int .i64 mn2])(hs:HdSm h) :
 Calls Try.prog 12 #[.agg #[.slice p n c,.slice q m d,.slice r k f,.int .i64 mn],.agg #[.slice p2 n2 c2,.slice q2 m2 d2,.slice r2 k2 f2,.int .i64 mn2]] w fun e w' => e = .returned (.bool true) ∧ Below w.heap.size w w':=by
 obtain ⟨a1,a2,a3,a4,a5,a6,hv,l1,l2,l3⟩:=h1
 obtain ⟨b1,b2,b3,b4,b5,b6,hu,g1,g2,g3⟩:=h2
 have hv1:=(List.cons.inj hv).1
 have hv2:=(List.cons.inj (List.cons.inj hv).2).1
 have hv3:=(List.cons.inj (List.cons.inj (List.cons.inj hv).2).2).1
 have hv4:=(List.cons.inj (List.cons.inj (List.cons.inj (List.cons.inj hv).2).2).2).1
 have hu1:=(List.cons.inj hu).1
 have hu2:=(List.cons.inj (List.cons.inj hu).2).1
 have hu3:=(List.cons.inj (List.cons.inj (List.cons.inj hu).2).2).1
 have hu4:=(List.cons.inj (List.cons.inj (List.cons.inj (List.cons.inj hu).2).2).2).1
 clear hv hu
 injection hv1 with e1 e2 e3
 injection hv2 with e4 e5 e6
 injection hv3 with e7 e8 e9
 injection hv4 with e10 e11
 injection hu1 with i1 i2 i3
 injection hu2 with i4 i5 i6
 injection hu3 with i7 i8 i9
 injection hu4 with i10 i11
 subst e1 e2 e3 e4 e5 e6 e7 e8 e9 e11 i1 i2 i3 i4 i5 i6 i7 i8 i9 i11
 exact zDA w h _ _ _ _ _ _ _ _ _ _ _ _ l1 l2 l3 g1 g2 g3 hs
theorem two_box (w:World)(a:Array Value)(S T:TypeId)(b:Array Value):Below w.heap.size w ((w.alloc (.cells a S)).alloc (.cells b T)) ∧ ((w.alloc (.cells a S)).alloc (.cells b T)).heap[w.heap.size]? = some (.cells a S (0,0)) ∧ ((w.alloc (.cells a S)).alloc (.cells b T)).heap[w.heap.size + 1]? = some (.cells b T (0,0)):=
 ⟨zC (zC (Below.refl _ _)),zD _ (heap_alloc_new w _),by have:=heap_alloc_new (w.alloc (.cells a S)) (.cells b T); rw [zB] at this; exact this⟩
theorem headsMake_in (s:ByteArray)(hs:s.size ≤ 4000)(w:World) :
 Calls Try.prog 3 #[.string s] w fun e w' => e = .returned (.bool true) ∧ Below w.heap.size w w':=by
 have hq:=zDh s (Nat.le_trans hs (by decide)) w
 have hsm:=zDx s.data.toList
 generalize answer s.data.toList = y at hq hsm
 obtain ⟨g,E,K⟩:=y
 dsimp only at hsm
 have hd1:decide ((4000:Int) < (s.size:Int)) = false:=decide_eq_false (by omega)
 have HQ:=vH hq
 have HSM:=vH hsm
 clear hq hsm hs
 by_cases hE:E = 0
 ·subst hE
  have hcm:=fun w2 p1 p2 p3 n1 n2 n3 c1 c2 c3 h => zDo w2 g p1 p2 p3 n1 n2 n3 c1 c2 c3 h HSM.out
  have hcq:=fun w2 p1 p2 p3 n1 n2 n3 c1 c2 c3 h => makeQG_any w2 g p1 p2 p3 n1 n2 n3 c1 c2 c3 h HSM.out
  have hds:=hdSm_make HSM.out
  generalize make g = y at hcm hcq hds
  obtain ⟨h,a,b⟩:=y
  have HCM:=vH hcm
  have HCQ:=vH hcq
  have HDS:=vH hds
  clear hcm hcq hds
  go_in
  go_wp2_with fail
  refine HQ.out.mono ?_
  rintro e w1 ⟨p1,n1,c1,p2,n2,c2,p3,n3,c3,rfl,hgi,hb⟩
  go_upto_region 2 with fail
  obtain ⟨wa,hwa⟩:∃ wa,wa = (w1.alloc (.cells #[.slice p1 n1 c1,.slice p2 n2 c2,.slice p3 n3 c3] 26)).alloc (.cells #[.int .i64 (0),.int .i64 K] 29):=⟨_,rfl⟩
  obtain ⟨hba,hk1,hk2⟩:=two_box w1 #[.slice p1 n1 c1,.slice p2 n2 c2,.slice p3 n3 c3] 26 29 #[.int .i64 (0),.int .i64 K]
  rw [← hwa] at hba hk1 hk2 ⊢
  clear hwa
  have HG1:=vH ((hgi.lower (Nat.zero_le _)).gm.ag (Ag.below hba))
  have HB1:=vH (zE hb hba hb.size)
  have HK1:=vH hk1
  obtain ⟨⟨x0,x1,x2⟩,-⟩:=tri hk1
  obtain ⟨⟨f0,f1⟩,-⟩:=duo hk2
  clear hgi hb HQ hk1 hk2 hba
  go_wp2_with fail
  refine (HCM.out _ _ _ _ _ _ _ _ _ _ HG1.out).mono ?_
  rintro e w2 ⟨q1,m1,e1,q2,m2,e2,q3,m3,e3,mn,rfl,hh,hb⟩
  go_upto_region 5 with fail
  obtain ⟨wb,hwb⟩:∃ wb,wb = (w2.alloc (.cells #[.slice q1 m1 e1,.slice q2 m2 e2,.slice q3 m3 e3,.int .i64 mn] 36)).alloc (.cells #[.int .i64 a,.int .i64 b] 29):=⟨_,rfl⟩
  obtain ⟨hbb,hk1,hk2⟩:=two_box w2 #[.slice q1 m1 e1,.slice q2 m2 e2,.slice q3 m3 e3,.int .i64 mn] 36 29 #[.int .i64 a,.int .i64 b]
  rw [← hwb] at hbb hk1 hk2 ⊢
  clear hwb x0 x1 x2 f0 f1
  have hb2:=zE hb hbb hb.size
  have HH1:=vH ((hh.ag (Ag.below hbb)).lower (Nat.zero_le _))
  have HB2:=vH (zE HB1.out hb2 HB1.out.size)
  obtain ⟨⟨x0,x1,x2⟩,-⟩:=tri ((hb2.block _ (zA HK1.out)).trans HK1.out)
  replace HG1:=vH (HG1.out.ag (Ag.below hb2))
  have HK2:=vH hk1
  have HK3:=vH hk2
  clear hh hb hb2 hbb hk1 hk2 HCM
  go_wp2_with fail
  refine (HCQ.out _ _ _ _ _ _ _ _ _ _ HG1.out).mono ?_
  rintro e w3 ⟨r1,l1,i1,r2,l2,i2,r3,l3,i3,mq,rfl,hh,hb⟩
  go_upto_region 6 with fail
  obtain ⟨wc,hwc⟩:∃ wc,wc = (w3.alloc (.cells #[.slice r1 l1 i1,.slice r2 l2 i2,.slice r3 l3 i3,.int .i64 mq] 36)).alloc (.cells #[.int .i64 a,.int .i64 b] 29):=⟨_,rfl⟩
  obtain ⟨hbc,hk1,hk2⟩:=two_box w3 #[.slice r1 l1 i1,.slice r2 l2 i2,.slice r3 l3 i3,.int .i64 mq] 36 29 #[.int .i64 a,.int .i64 b]
  rw [← hwc] at hbc hk1 hk2 ⊢
  clear hwc x0 x1 x2
  have hb3:=zE hb hbc hb.size
  have HB3:=vH (zE HB2.out hb3 HB2.out.size)
  have HSH:=vH (sameHdG_any wc h _ _ _ _ _ _ _ _ _ _ _ _ _ _ _ _ _ _ _ _ (HH1.out.ag (Ag.below hb3)) ((hh.ag (Ag.below hbc)).lower (Nat.zero_le _)) HDS.out)
  obtain ⟨⟨y0,y1,y2,y3⟩,-⟩:=quad ((hb3.block _ (zA HK2.out)).trans HK2.out)
  obtain ⟨⟨f0,f1⟩,-⟩:=duo ((hb3.block _ (zA HK3.out)).trans HK3.out)
  obtain ⟨⟨z0,z1,z2,z3⟩,-⟩:=quad hk1
  obtain ⟨⟨g0,g1⟩,-⟩:=duo hk2
  have heq:=fun u => zJX a b u
  clear hh hb hb3 hbc hk1 hk2 HCQ
  go_wp2_with fail
  refine HSH.out.mono ?_
  rintro e w4 ⟨rfl,hb⟩
  have HB4:=vH (zE HB3.out hb HB3.out.size)
  clear hb
  go_wp2_with fail
  refine (zAt w4).mono ?_
  rintro e w5 ⟨rfl,hb⟩
  have HB5:=vH (zE HB4.out hb HB4.out.size)
  clear hb
  go_wp2_with fail
  go_ret
  exact ⟨rfl,HB5.out⟩
 ·have hd2:(E != 0) = true:=bne_iff_ne.2 hE
  clear hE
  go_in
  go_wp2_with fail
  refine HQ.out.mono ?_
  rintro e w1 ⟨p1,n1,c1,p2,n2,c2,p3,n3,c3,rfl,hgi,hb⟩
  have HB1:=vH hb
  clear hgi hb HQ
  go_wp2_with fail
  go_ret
  exact ⟨rfl,zC (zC HB1.out)⟩
theorem headsMake_walk (s:ByteArray)(hs:s.size ≤ maxLen)(w:World) :
 Calls Try.prog 3 #[.string s] w fun e w' => e = .returned (.bool true) ∧ Below w.heap.size w w':=by
 by_cases h:s.size ≤ 4000
 ·exact headsMake_in s h w
 ·have hd1:decide ((4000:Int) < (s.size:Int)) = true:=decide_eq_true (by omega)
  have HQ:=vH (zDh s hs w)
  generalize answer s.data.toList = y at HQ
  obtain ⟨g,E,K⟩:=y
  clear h
  go_in
  go_wp2_with fail
  refine HQ.out.mono ?_
  rintro e w1 ⟨p1,n1,c1,p2,n2,c2,p3,n3,c3,rfl,hgi,hb⟩
  have HB1:=vH hb
  clear hgi hb HQ
  go_wp2_with fail
  go_ret
  exact ⟨rfl,zC (zC HB1.out)⟩
end Go.Proofs.Ytjleggpbghmobaa
namespace Go.Proofs.Ytjleggpbghmobaa
open Go.RowKit
open Hs (Nm TypH tyOf)
theorem eq_tyJ (a b c:Int)(w:World):(binOp .eql 47 (.agg #[.int .i64 a,.int .i64 b,.int .i64 c]) (.agg #[.int .i64 a,.int .i64 b,.int .i64 c])).run Try.prog w = .ok (.bool true) w:=by
 rw [run_eql_struct,run_equalIn_agg w 9999 _ _ _ (by kernel_rfl) zFg]
 simp [go_sem]
theorem headsTypes_in (w:World)(rs:List Nm)(q:Option Addr)(c:Nat)(h:LAt NIs 1 w 0 q rs)(hl:rs.length ≤ 30)(n:Nm)(d tb tr td:Int) :
 Calls Try.prog 5 #[.slice q rs.length c,.agg #[.string (cbs n),.int .i64 d],.agg #[.int .i64 tb,.int .i64 tr,.int .i64 td]] w fun e w' => e = .returned (.bool true) ∧ Below w.heap.size w w':=by
 have hl2:rs.length ≤ 9000000000:=Nat.le_trans hl (by decide)
 have hp:∀ u,Below w.heap.size w u → Calls Try.prog 15 #[.slice q rs.length c,.agg #[.string (cbs n),.int .i64 d]] u fun e w' => e = .returned (.tuple #[tyV (tyOf rs n d).1,.bool (tyOf rs n d).2]) ∧ Below u.heap.size u w':=fun u hb => zBp u rs q c (zCU h (Ag.below hb)) n d hl2
 have hq:∀ u,Below w.heap.size w u → Calls Try.prog 16 #[.slice q rs.length c,.agg #[.string (cbs n),.int .i64 d]] u fun e w' => e = .returned (.tuple #[tyV (tyOf rs n d).1,.bool (tyOf rs n d).2]) ∧ Below u.heap.size u w':=fun u hb => zFc u rs q c (zCU h (Ag.below hb)) n d hl2
 generalize tyOf rs n d = t at hp hq
 obtain ⟨⟨a,b,e⟩,ok⟩:=t
 unfold tyV at hp hq
 dsimp only at hp hq
 have HP:=vH hp
 have HQ:=vH hq
 have hd1:decide ((30:Int) < (rs.length:Int)) = false:=decide_eq_false (by omega)
 obtain ⟨wa,hwa⟩:∃ wa,wa = (w.alloc (.cells #[.string (cbs n),.int .i64 d] 45)).alloc (.cells #[.int .i64 tb,.int .i64 tr,.int .i64 td] 47):=⟨_,rfl⟩
 obtain ⟨hba,hk1,hk2⟩:=two_box w #[.string (cbs n),.int .i64 d] 45 47 #[.int .i64 tb,.int .i64 tr,.int .i64 td]
 rw [← hwa] at hba hk1 hk2
 have HB1:=vH hba
 have HO1:=vH hk1
 have HT1:=vH hk2
 obtain ⟨⟨x0,x1⟩,-⟩:=duo hk1
 clear h hl hl2 hp hq hba hk1 hk2
 go_in
 go_upto_region 1 with fail
 rw [← hwa]
 clear hwa
 go_wp2_with fail
 refine (HP.out _ HB1.out).mono ?_
 rintro e2 w2 ⟨rfl,hb⟩
 go_upto_region 4 with fail
 obtain ⟨wb,hwb⟩:∃ wb,wb = w2.alloc (.cells #[.int .i64 a,.int .i64 b,.int .i64 e] 47):=⟨_,rfl⟩
 have hbb:Below wa.heap.size wa wb:=by rw [hwb]; exact zC hb
 have HK2:=vH (show wb.heap[w2.heap.size]? = some (.cells #[.int .i64 a,.int .i64 b,.int .i64 e] 47 (0,0)) by rw [hwb]; exact heap_alloc_new w2 _)
 have HB2:=vH (zE HB1.out hbb HB1.out.size)
 rw [← hwb]
 clear hwb x0 x1
 obtain ⟨⟨x0,x1⟩,-⟩:=duo ((hbb.block _ (zA HO1.out)).trans HO1.out)
 have HT2:=vH ((hbb.block _ (zA HT1.out)).trans HT1.out)
 clear hb hbb
 go_wp2_with fail
 refine (HQ.out _ HB2.out).mono ?_
 rintro e3 w3 ⟨rfl,hb⟩
 go_upto_region 5 with fail
 obtain ⟨wz,hwz⟩:∃ wz,wz = w3.alloc (.cells #[.int .i64 a,.int .i64 b,.int .i64 e] 47):=⟨_,rfl⟩
 have hbz:Below wb.heap.size wb wz:=by rw [hwz]; exact zC hb
 have hk3:wz.heap[w3.heap.size]? = some (.cells #[.int .i64 a,.int .i64 b,.int .i64 e] 47 (0,0)):=by rw [hwz]; exact heap_alloc_new w3 _
 have HB3:=vH (zE HB2.out hbz HB2.out.size)
 rw [← hwz]
 clear hwz x0 x1
 have hcs:(wz.cell? ⟨w2.heap.size,0,none⟩ = some (.int .i64 a) ∧ wz.cell? ⟨w2.heap.size,1,none⟩ = some (.int .i64 b) ∧ wz.cell? ⟨w2.heap.size,2,none⟩ = some (.int .i64 e)) ∧ (wz.cell? ⟨w3.heap.size,0,none⟩ = some (.int .i64 a) ∧ wz.cell? ⟨w3.heap.size,1,none⟩ = some (.int .i64 b) ∧ wz.cell? ⟨w3.heap.size,2,none⟩ = some (.int .i64 e)) ∧ (wz.cell? ⟨w.heap.size + 1,0,none⟩ = some (.int .i64 tb) ∧ wz.cell? ⟨w.heap.size + 1,1,none⟩ = some (.int .i64 tr) ∧ wz.cell? ⟨w.heap.size + 1,2,none⟩ = some (.int .i64 td)):=
  ⟨(tri ((hbz.block _ (zA HK2.out)).trans HK2.out)).1,(tri hk3).1,(tri ((hbz.block _ (zA HT2.out)).trans HT2.out)).1⟩
 have HSB:=vH (show ∀ u,Below wz.heap.size wz u → (u.cell? ⟨w2.heap.size,0,none⟩ = some (.int .i64 a) ∧ u.cell? ⟨w2.heap.size,1,none⟩ = some (.int .i64 b) ∧ u.cell? ⟨w2.heap.size,2,none⟩ = some (.int .i64 e)) ∧ (u.cell? ⟨w3.heap.size,0,none⟩ = some (.int .i64 a) ∧ u.cell? ⟨w3.heap.size,1,none⟩ = some (.int .i64 b) ∧ u.cell? ⟨w3.heap.size,2,none⟩ = some (.int .i64 e)) ∧ (u.cell? ⟨w.heap.size + 1,0,none⟩ = some (.int .i64 tb) ∧ u.cell? ⟨w.heap.size + 1,1,none⟩ = some (.int .i64 tr) ∧ u.cell? ⟨w.heap.size + 1,2,none⟩ = some (.int .i64 td)) from
  fun u hb => ⟨⟨zK hb hcs.1.1,zK hb hcs.1.2.1,zK hb hcs.1.2.2⟩,⟨zK hb hcs.2.1.1,zK hb hcs.2.1.2.1,zK hb hcs.2.1.2.2⟩,⟨zK hb hcs.2.2.1,zK hb hcs.2.2.2.1,zK hb hcs.2.2.2.2⟩⟩)
 have heq:=fun u => eq_tyJ a b e u
 have HC:=vH (zAc (Below.refl wz.heap.size wz))
 clear hb hbz hk3 hcs HP HQ HK2 HT2
 cases ok with
 | false =>
   go_wp2_with fail
   obtain ⟨⟨c0,c1,c2⟩,⟨d0,d1,d2⟩,⟨t0,t1,t2⟩⟩:=HSB.out _ HC.out
   go_region_law (go_simp; go_wp2_with (first
    | (go_at_call 17; (with_reducible refine Calls.mono (zBS _ _ _ _) ?_); rintro e4 u1 ⟨rfl,hb⟩; have HCN:=vH (zE HC.out hb HC.out.size); have HC:=HCN; clear hb c0 c1 c2 d0 d1 d2 t0 t1 t2; obtain ⟨⟨c0,c1,c2⟩,⟨d0,d1,d2⟩,⟨t0,t1,t2⟩⟩:=HSB.out _ HC.out)
    | (go_at_call 18; (with_reducible refine Calls.mono (zKg _ _ _ _) ?_); rintro e4 u1 ⟨rfl,hb⟩; have HCN:=vH (zE HC.out hb HC.out.size); have HC:=HCN; clear hb c0 c1 c2 d0 d1 d2 t0 t1 t2; obtain ⟨⟨c0,c1,c2⟩,⟨d0,d1,d2⟩,⟨t0,t1,t2⟩⟩:=HSB.out _ HC.out)
    | (go_at_call 13; (with_reducible refine Calls.mono (zAt _) ?_); rintro e4 u1 ⟨rfl,hb⟩; have HCN:=vH (zE HC.out hb HC.out.size); have HC:=HCN; clear hb c0 c1 c2 d0 d1 d2 t0 t1 t2; obtain ⟨⟨c0,c1,c2⟩,⟨d0,d1,d2⟩,⟨t0,t1,t2⟩⟩:=HSB.out _ HC.out)))
   all_goals
    go_wp2_with fail
    go_ret
    exact ⟨rfl,zE HB3.out HC.out HB3.out.size⟩
 | true =>
   go_wp2_with fail
   go_region_held3 (fun u => (u.cell? ⟨w2.heap.size,0,none⟩ = some (.int .i64 a) ∧ u.cell? ⟨w2.heap.size,1,none⟩ = some (.int .i64 b) ∧ u.cell? ⟨w2.heap.size,2,none⟩ = some (.int .i64 e)) ∧ (u.cell? ⟨w3.heap.size,0,none⟩ = some (.int .i64 a) ∧ u.cell? ⟨w3.heap.size,1,none⟩ = some (.int .i64 b) ∧ u.cell? ⟨w3.heap.size,2,none⟩ = some (.int .i64 e)) ∧ (u.cell? ⟨w.heap.size + 1,0,none⟩ = some (.int .i64 tb) ∧ u.cell? ⟨w.heap.size + 1,1,none⟩ = some (.int .i64 tr) ∧ u.cell? ⟨w.heap.size + 1,2,none⟩ = some (.int .i64 td))) (with_reducible exact HSB.out _ HC.out)
    (first
    | (go_at_call 17; (with_reducible refine Calls.mono (zBS _ _ _ _) ?_); rintro e4 u1 ⟨rfl,hb⟩; have HCN:=vH (zE HC.out hb HC.out.size); have HC:=HCN; clear hb)
    | (go_at_call 18; (with_reducible refine Calls.mono (zKg _ _ _ _) ?_); rintro e4 u1 ⟨rfl,hb⟩; have HCN:=vH (zE HC.out hb HC.out.size); have HC:=HCN; clear hb)
    | (go_at_call 13; (with_reducible refine Calls.mono (zAt _) ?_); rintro e4 u2 ⟨rfl,hb⟩; have HCN:=vH (zE HC.out hb HC.out.size); have HC:=HCN; clear hb))
   all_goals
    go_wp2_with fail
    go_ret
    exact ⟨rfl,zE HB3.out HC.out HB3.out.size⟩
theorem headsTypes_walk (w:World)(rs:List Nm)(q:Option Addr)(c:Nat)(h:LAt NIs 1 w 0 q rs)(n:Nm)(d tb tr td:Int) :
 Calls Try.prog 5 #[.slice q rs.length c,.agg #[.string (cbs n),.int .i64 d],.agg #[.int .i64 tb,.int .i64 tr,.int .i64 td]] w fun e w' => e = .returned (.bool true) ∧ Below w.heap.size w w':=by
 by_cases hl:rs.length ≤ 30
 ·exact headsTypes_in w rs q c h hl n d tb tr td
 ·have hd1:decide ((30:Int) < (rs.length:Int)) = true:=decide_eq_true (by omega)
  clear h hl
  go_in
  go_wp2_with fail
  go_ret
  exact ⟨rfl,zC (zC (Below.refl _ _))⟩
end Go.Proofs.Ytjleggpbghmobaa
namespace Go.Proofs.Ytjleggpbghmobaa
namespace Hs
open Pg (Pm Rc Fc Gm)
def turn (n:Int)(t:TypH):TypH:=if t.b = 3 then ⟨t.b,n - 1 - t.r,t.d⟩ else t
def rev (g:Gm):Gm:=⟨g.recs.reverse,g.globals,g.funcs⟩
theorem find_rev:∀ {l:List Nm},l.Nodup → ∀ n,find l.reverse n = (find l n).map (fun i => l.length - 1 - i)
 | [],_,n => rfl
 | x :: l,h,n => by
   have h1:=(List.nodup_cons.1 h).1
   rw [List.reverse_cons,zAx,find_rev (List.nodup_cons.1 h).2,find]
   by_cases hx:x = n
   ·rw [if_pos hx,if_pos hx,find_none.2 (by rw [← hx]; exact h1)]
    simp
   ·rw [if_neg hx,if_neg hx]
    cases hf:find l n with
    | none => rfl
    | some i =>
      have:=zBI hf
      simp
      omega
theorem tyOf_rev {l:List Nm}(h:l.Nodup)(n:Nm)(d:Int):tyOf l.reverse n d = (turn l.length (tyOf l n d).1,(tyOf l n d).2):=by
 unfold tyOf
 by_cases h1:d < 0 ∨ 3 < d
 ·rw [if_pos h1,if_pos h1]; rfl
 ·rw [if_neg h1,if_neg h1]
  by_cases h2:n = intN
  ·rw [if_pos h2,if_pos h2]; rfl
  ·rw [if_neg h2,if_neg h2]
   by_cases h3:n = boolN
   ·rw [if_pos h3,if_pos h3]; rfl
   ·rw [if_neg h3,if_neg h3,find_rev h]
    cases hf:find l n with
    | none => rfl
    | some i =>
      have:=zBI hf
      show ((⟨3,((l.length - 1 - i:Nat):Int),d⟩:TypH),true) = (turn l.length ⟨3,(i:Int),d⟩,true)
      unfold turn
      rw [if_pos rfl,show ((l.length - 1 - i:Nat):Int) = (l.length:Int) - 1 - (i:Int) by omega]
theorem fltRs_fine:∀ {l:List Rc}{prev:List Nm},fltRs prev l = none → (l.map (·.name)).Nodup ∧ ∀ x ∈ l,x.name ∉ prev
 | [],prev,_ => ⟨List.nodup_nil,(fun x hx => by cases hx)⟩
 | r :: l,prev,h => by
   rw [fltRs] at h
   by_cases hr:r.name ∈ prev
   ·rw [if_pos hr] at h; cases h
   ·rw [if_neg hr] at h
    obtain ⟨h1,h2⟩:=fltRs_fine h
    refine ⟨?_,?_⟩
    ·rw [List.map_cons,List.nodup_cons]
     refine ⟨fun hm => ?_,h1⟩
     obtain ⟨x,hx,he⟩:=List.mem_map.1 hm
     exact h2 x hx (List.mem_append.2 (.inr (by rw [he]; exact List.mem_singleton.2 rfl)))
    ·intro x hx
     rcases List.mem_cons.1 hx with rfl | hx
     ·exact hr
     ·exact fun hm => h2 x hx (List.mem_append.2 (.inl hm))
theorem fltRs_of:∀ {l:List Rc}{prev:List Nm},(l.map (·.name)).Nodup → (∀ x ∈ l,x.name ∉ prev) → fltRs prev l = none
 | [],prev,_,_ => rfl
 | r :: l,prev,h,hp => by
   rw [List.map_cons,List.nodup_cons] at h
   rw [fltRs,if_neg (hp r (List.mem_cons_self ..))]
   refine fltRs_of h.2 fun x hx hm => ?_
   rcases List.mem_append.1 hm with h1 | h1
   ·exact hp x (List.mem_cons_of_mem _ hx) h1
   ·exact h.1 (by rw [← List.mem_singleton.1 h1]; exact List.mem_map.2 ⟨x,hx,rfl⟩)
section
variable {rs rs':List Nm} (ht:∀ n d,(tyOf rs' n d).2 = (tyOf rs n d).2)
include ht
theorem fltPs_ty:∀ (prev:List Nm)(l:List Pm),fltPs rs' prev l = fltPs rs prev l
 | _,[] => rfl
 | prev,p :: l => by rw [fltPs,fltPs,ht,fltPs_ty]
theorem fltFs_ty:∀ l:List Rc,fltFs rs' l = fltFs rs l
 | [] => rfl
 | r :: l => by rw [fltFs,fltFs,fltPs_ty ht,fltFs_ty]
theorem fltFn_ty:∀ (prev:List Nm)(l:List Fc),fltFn rs' prev l = fltFn rs prev l
 | _,[] => rfl
 | prev,f :: l => by rw [fltFn,fltFn,fltPs_ty ht,fltFn_ty]; unfold badRes; rw [ht]
end
theorem fltFs_fine {rs:List Nm}:∀ {l:List Rc},fltFs rs l = none ↔ ∀ r ∈ l,fltPs rs [] r.fields = none
 | [] => ⟨(fun _ r hr => by cases hr),fun _ => rfl⟩
 | r :: l => by
   rw [fltFs]
   constructor
   ·intro h x hx
    cases hp:fltPs rs [] r.fields with
    | some a => rw [hp] at h; cases h
    | none =>
      rw [hp] at h
      rcases List.mem_cons.1 hx with rfl | hx
      ·exact hp
      ·exact fltFs_fine.1 h x hx
   ·intro h
    rw [h r (List.mem_cons_self ..)]
    exact fltFs_fine.2 fun x hx => h x (List.mem_cons_of_mem _ hx)
theorem recNames_rev (g:Gm):recNames (rev g) = (recNames g).reverse:=by unfold recNames rev; rw [List.map_reverse]
theorem or_fine {a b:Option Int}(h:a.or b = none):a = none ∧ b = none:=by cases a <;> simp_all
theorem fine_parts {g:Gm}(h:flt g = none):fltRs [] g.recs = none ∧ fltFs (recNames g) g.recs = none ∧ fltPs (recNames g) [] g.globals = none ∧ fltFn (recNames g) [] g.funcs = none ∧ fltMain g.funcs = none:=by
 unfold flt at h
 obtain ⟨h1,h⟩:=or_fine h
 obtain ⟨h2,h⟩:=or_fine h
 obtain ⟨h3,h⟩:=or_fine h
 obtain ⟨h4,h⟩:=or_fine h
 exact ⟨h1,h2,h3,h4,h⟩
theorem names_nodup {g:Gm}(h:flt g = none):(recNames g).Nodup:=(fltRs_fine (fine_parts h).1).1
theorem flt_rev {g:Gm}(h:flt g = none):flt (rev g) = none:=by
 have hn:=names_nodup h
 obtain ⟨h1,h2,h3,h4,h5⟩:=fine_parts h
 have ht:∀ n d,(tyOf (recNames (rev g)) n d).2 = (tyOf (recNames g) n d).2:=fun n d => by rw [recNames_rev,tyOf_rev hn]
 have g1:fltRs [] (rev g).recs = none:=fltRs_of (by show (g.recs.reverse.map _).Nodup; rw [List.map_reverse]; exact List.pairwise_reverse.2 (List.Pairwise.imp (fun h => Ne.symm h) hn)) (fun x _ hx => by cases hx)
 have g2:fltFs (recNames (rev g)) (rev g).recs = none:=by
  rw [fltFs_ty ht]
  exact fltFs_fine.2 fun r hr => fltFs_fine.1 h2 r (List.mem_reverse.1 hr)
 have g3:fltPs (recNames (rev g)) [] (rev g).globals = none:=by rw [fltPs_ty ht]; exact h3
 have g4:fltFn (recNames (rev g)) [] (rev g).funcs = none:=by rw [fltFn_ty ht]; exact h4
 have g5:fltMain (rev g).funcs = none:=h5
 unfold flt
 rw [g1,g2,g3,g4,g5]
 rfl
theorem make_rev {g:Gm}(h:flt g = none):make (rev g) = (hd (rev g),0,0):=by unfold make; rw [flt_rev h]
theorem make_fine {g:Gm}(h:flt g = none):make g = (hd g,0,0):=by unfold make; rw [h]
theorem fdOf_rev {l:List Nm}(h:l.Nodup)(p:Pm):fdOf l.reverse p = ⟨p.name,turn l.length (fdOf l p).ty⟩:=by unfold fdOf; rw [tyOf_rev h]
theorem resOf_rev {l:List Nm}(h:l.Nodup)(f:Fc):resOf l.reverse f = turn l.length (resOf l f):=by
 unfold resOf
 cases f.has
 ·rfl
 ·rw [if_pos rfl,if_pos rfl,tyOf_rev h]
theorem tyOf_lt (l:List Nm)(n:Nm)(d:Int):(tyOf l n d).1.b = 3 → 0 ≤ (tyOf l n d).1.r ∧ (tyOf l n d).1.r < l.length:=by
 unfold tyOf
 by_cases h1:d < 0 ∨ 3 < d
 ·rw [if_pos h1]; intro h; cases h
 ·rw [if_neg h1]
  by_cases h2:n = intN
  ·rw [if_pos h2]; intro h; cases h
  ·rw [if_neg h2]
   by_cases h3:n = boolN
   ·rw [if_pos h3]; intro h; cases h
   ·rw [if_neg h3]
    cases hf:find l n with
    | none => intro h; cases h
    | some i => have:=zBI hf; intro _; exact ⟨Int.natCast_nonneg _,by show (i:Int) < _; omega⟩
end Hs
open Go.RowKit
open Pg (Pm Rc Fc Gm)
open Hs (Nm TypH FldH ShpH SigH HdsH make flt hd turn rev)
def IdC (_:World)(_:Nat)(x:List Value)(vs:List Value):Prop:=vs = x ∧ vs.length = 3
theorem rows_of {w:World}{q:Option Addr}{l:List Rc}(h:LAt RcIs 3 w 0 q l):∃ cs:List (List Value),cs.length = l.length ∧ ∀ (i:Nat) vs,cs[i]? = some vs → ∀ x,l[i]? = some x →
 RcIs w 0 x vs ∧ ∃ bl off,q = some ⟨bl,off,none⟩ ∧ bl < w.heap.size ∧ ∀ (j:Nat) v,j < 3 → vs[j]? = some v → w.cell? ⟨bl,off + i * 3 + j,none⟩ = some v:=by
 refine list_of l.length fun i hi => ?_
 obtain ⟨bl,off,vs,hq,hbl,hr,hc⟩:=h.get (List.getElem?_eq_getElem hi)
 refine ⟨vs,fun x hx => ?_⟩
 rw [List.getElem?_eq_getElem hi] at hx
 obtain rfl:=Option.some.inj hx
 exact ⟨hr,bl,off,hq,hbl,hc⟩
theorem rows_back {w:World}{B:Nat}{p:Option Addr}{l:List Rc}{cs:List (List Value)}(h:LAt IdC 3 w B p cs.reverse)(hl:cs.length = l.length)(hr:∀ (i:Nat) vs,cs[i]? = some vs → ∀ x,l[i]? = some x → RcIs w 0 x vs):LAt RcIs 3 w 0 p l.reverse:=by
 rcases h with h0 | ⟨bl,off,hp,hbl,-,ha⟩
 ·left
  have h1:cs.length = 0:=by rw [← List.length_reverse,h0]; rfl
  rw [List.eq_nil_of_length_eq_zero (by omega:l.length = 0)]
  rfl
 ·refine .inr ⟨bl,off,hp,hbl,Nat.zero_le _,fun i x hx => ?_⟩
  have hi:i < l.length:=by have:=(List.getElem?_eq_some_iff.1 hx).1; rw [List.length_reverse] at this; exact this
  rw [List.getElem?_reverse hi] at hx
  have hci:cs.reverse[i]? = cs[l.length - 1 - i]?:=by rw [List.getElem?_reverse (by omega),hl]
  have hc:cs.reverse[i]? = some (cs[l.length - 1 - i]'(by omega)):=hci.trans (List.getElem?_eq_getElem _)
  obtain ⟨vs,⟨rfl,-⟩,hcc⟩:=ha i _ hc
  exact ⟨_,hr _ _ (List.getElem?_eq_getElem _) x hx,hcc⟩
theorem GmSm.rev {g:Gm}(h:GmSm g):GmSm (Hs.rev g):=
 ⟨by show g.recs.reverse.length ≤ _; rw [List.length_reverse]; exact h.recs,h.globals,h.funcs,fun r hr => h.rec1 r (List.mem_reverse.1 hr),h.glob1,h.func1⟩
end Go.Proofs.Ytjleggpbghmobaa
