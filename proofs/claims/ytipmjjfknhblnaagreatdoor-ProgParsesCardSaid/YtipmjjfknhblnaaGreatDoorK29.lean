/-
  The project's reader of programs: a function.
-/
import Derived.Test.YtipmjjfknhblnaaGreatDoorK28
import Derived.Test.YtipmjjfknhblnaaGreatDoorK02
import Derived.Deep.RegionLawGrows
set_option maxRecDepth 8000
set_option maxHeartbeats 8000000
namespace Go.Proofs.YtipmjjfknhblnaaGreatDoor
open Go.RowKit
open Px (RT tokAt)
open Pe
open Ps (Sm PX)
open Pg (BX Pm Rc Fc Gm)
theorem zCi {w1:World}{R:Nat}{S:Value}{ts:List RT}{s s2:Cs}{g:Nat}(hg:g ≤ 900000000){pl:List Pm}(hP:Pg.params ts g s = some (pl,s2))(h:Cg w1 R S ts s) :
 Calls Tryz.prog 65 #[.pointer (some ⟨R,0,none⟩)] w1 fun e w' => ∃ p c,e = .returned (.slice p pl.length c) ∧ PsAt w' w1.heap.size p pl ∧ Cu w' R 43 S [] ts s2 ∧ Gr R w1 w':=
 zDm w1 R S ts s h g hg _ hP
theorem zE0 (w:World)(R:Nat)(S:Value)(ts:List RT)(s:Cs)(h:Cg w R S ts s)(B:BX)(hB:BOk ts B)(g:Nat)(hg:g ≤ 900000000)(x:Fc × Cs)(hx:Pg.function ts B g s = some x) :
 Calls Tryz.prog 41 #[.pointer (some ⟨R,0,none⟩)] w (FcPost w R S ts x):=by
 obtain ⟨nm,s1,hN⟩:∃ nm s1,name ts (next s) = (nm,s1):=⟨_,_,rfl⟩
 obtain ⟨t,hT⟩:∃ t,peek ts (next s) = t:=⟨_,rfl⟩
 obtain ⟨pl,s2,h3,hx2⟩:∃ pl s2,Pg.params ts g s1 = some (pl,s2) ∧ x = (⟨nm,pl,(Pg.resultOf ts s2).1,(Pg.resultOf ts s2).2.1,(Pg.resultOf ts s2).2.2.1,(Pg.rdB B (Pg.resultOf ts s2).2.2.2).1,t.at_⟩,(Pg.rdB B (Pg.resultOf ts s2).2.2.2).2):=by
  unfold Pg.function at hx
  rw [hN,hT] at hx
  split at hx
  ·cases hx
  ·rename_i l s2 hl
   exact ⟨l,s2,hl,(Option.some.inj hx).symm⟩
 have HN:=vH hN
 have HT:=vH hT
 have H3:=vH h3
 have HH:=vH h
 have HG9:=vH hg
 have HBB:=vH hB
 have HX:=vH hx2
 have hlt:=h.lt
 have F0:=vH ((Fr.og h).alloc (.cells #[.string ⟨#[]⟩,.slice none 0 0,.bool false,.string ⟨#[]⟩,.int .i64 0,.slice none 0 0,.int .i64 0] 66))
 have hfd:∀ w1:World,(Instr.field 52 (.agg #[.int .i64 t.kind,.string (cbs t.text),.int .i64 t.num,.int .i64 t.at_]) 3).run Tryz.prog w1 = .ok (.int .i64 t.at_) w1:=fun _ => by kernel_rfl
 clear h hx hN hT h3 hg hB hx2
 go_in
 go_wp2_with fail
 refine (zL _ R _ S _ ts s F0.out.cg.cu).mono ?_
 rintro e u ⟨rfl,hc,hg⟩
 have F:=vH (F0.out.cuG hc hg)
 clear hc hg F0
 go_wp2_with fail
 go_region_held3 (fun _ => True) (trivial) (first
  | (go_at_call 36; (with_reducible refine Calls.mono (zAG (w1:=u.drew) HT.out F.out.drew.cg) ?_); rintro e w3 ⟨rfl,hb⟩; have F1:=vH (F.out.drew.go hb); clear hb)
  | (go_at_call 36; (with_reducible refine Calls.mono (zAG (w1:=(u.alloc (.cells #[.string ⟨#[]⟩,.slice none 0 0,.bool false,.string ⟨#[]⟩,.int .i64 0,.slice none 0 0,.int .i64 0] 66)).drew) HT.out (F.out.alloc (.cells #[.string ⟨#[]⟩,.slice none 0 0,.bool false,.string ⟨#[]⟩,.int .i64 0,.slice none 0 0,.int .i64 0] 66)).drew.cg) ?_); rintro e w3 ⟨rfl,hb⟩; have FA:=vH ((F.out.alloc (.cells #[.string ⟨#[]⟩,.slice none 0 0,.bool false,.string ⟨#[]⟩,.int .i64 0,.slice none 0 0,.int .i64 0] 66)).drew.go hb); clear hb)
  | (go_at_call 61; (with_reducible refine Calls.mono (zAP (w1:=w3) HN.out F1.out.cg) ?_); rintro e w4 ⟨rfl,hc,hg⟩; have F2:=vH (F1.out.cuG hc hg); clear hc hg)
  | (go_at_call 61; (with_reducible refine Calls.mono (zAP (w1:=w3) HN.out FA.out.cg) ?_); rintro e w4 ⟨rfl,hc,hg⟩; have FM:=vH (FA.out.cuG hc hg); clear hc hg)
  | (go_at_call 61; (with_reducible refine Calls.mono (zAP (w1:=w3.alloc (.cells #[.string ⟨#[]⟩,.slice none 0 0,.bool false,.string ⟨#[]⟩,.int .i64 0,.slice none 0 0,.int .i64 0] 66)) HN.out (F1.out.alloc (.cells #[.string ⟨#[]⟩,.slice none 0 0,.bool false,.string ⟨#[]⟩,.int .i64 0,.slice none 0 0,.int .i64 0] 66)).cg) ?_); rintro e w4 ⟨rfl,hc,hg⟩; have FM:=vH ((F1.out.alloc (.cells #[.string ⟨#[]⟩,.slice none 0 0,.bool false,.string ⟨#[]⟩,.int .i64 0,.slice none 0 0,.int .i64 0] 66)).cuG hc hg); clear hc hg)
  | (go_at_call 65; (with_reducible refine Calls.mono (zCi (w1:=w4) HG9.out H3.out F2.out.cg) ?_); rintro e w6 ⟨pp,pc,rfl,hp,hc,hg⟩; have HP0:=vH hp; have F3:=vH (F2.out.call (F2.out.cg.gr hg hc) hg); clear hc hg hp)
  | (go_at_call 65; (with_reducible refine Calls.mono (zCi (w1:=w4) HG9.out H3.out FM.out.cg) ?_); rintro e w6 ⟨pp,pc,rfl,hp,hc,hg⟩; have HP0:=vH hp; have FB:=vH (FM.out.call (FM.out.cg.gr hg hc) hg); clear hc hg hp; have hk:=FB.out.keep _ vA; obtain ⟨⟨d0,d1,d2,d3,d4,d5,d6⟩,p0,p1,p2,p3,p4,p5,p6⟩:=sept hk.1; have hld:=zA hk.1; have hmd:=hk.2; clear hk)
  | (go_at_call 65; (with_reducible refine Calls.mono (zCi (w1:=w4.alloc (.cells #[.string ⟨#[]⟩,.slice none 0 0,.bool false,.string ⟨#[]⟩,.int .i64 0,.slice none 0 0,.int .i64 0] 66)) HG9.out H3.out (F2.out.alloc (.cells #[.string ⟨#[]⟩,.slice none 0 0,.bool false,.string ⟨#[]⟩,.int .i64 0,.slice none 0 0,.int .i64 0] 66)).cg) ?_); rintro e w6 ⟨pp,pc,rfl,hp,hc,hg⟩; have HP0:=vH hp; have FB:=vH ((F2.out.alloc (.cells #[.string ⟨#[]⟩,.slice none 0 0,.bool false,.string ⟨#[]⟩,.int .i64 0,.slice none 0 0,.int .i64 0] 66)).call ((F2.out.alloc (.cells #[.string ⟨#[]⟩,.slice none 0 0,.bool false,.string ⟨#[]⟩,.int .i64 0,.slice none 0 0,.int .i64 0] 66)).cg.gr hg hc) hg); clear hc hg hp; have hk:=FB.out.keep _ vA; obtain ⟨⟨d0,d1,d2,d3,d4,d5,d6⟩,p0,p1,p2,p3,p4,p5,p6⟩:=sept hk.1; have hld:=zA hk.1; have hmd:=hk.2; clear hk))
 all_goals (first
  | (obtain ⟨b,w5,B0,hb5,hw5,hp5,f5⟩:∃ b w5 B0,b = w6.heap.size ∧ w5 = w6.alloc (.cells #[.string (cbs nm),.slice pp pl.length pc,.bool false,.string ⟨#[]⟩,.int .i64 0,.slice none 0 0,.int .i64 t.at_] 66) ∧ PsAt w6 B0 pp pl ∧ Fr w R (CgK R S ts) s2 [(b,.cells #[.string (cbs nm),.slice pp pl.length pc,.bool false,.string ⟨#[]⟩,.int .i64 0,.slice none 0 0,.int .i64 t.at_] 66 (0,0)),(w.heap.size,.cells #[.string ⟨#[]⟩,.slice none 0 0,.bool false,.string ⟨#[]⟩,.int .i64 0,.slice none 0 0,.int .i64 0] 66 (0,0))] [(B0,w6)] w5:=⟨_,_,_,rfl,rfl,HP0.out,F3.out.alloc _⟩; rw [← hw5,← hb5]; have G:=vH f5; have HP:=vH hp5; clear hb5 hw5 f5 hp5)
  | (obtain ⟨b,w5,B0,hb5,hw5,hp5,f5⟩:∃ b w5 B0,b = w4.heap.size ∧ w5 = (((((((w6.setCell ⟨w4.heap.size,0,none⟩ (.string (cbs nm))).setCell ⟨w4.heap.size,1,none⟩ (.slice pp pl.length pc)).setCell ⟨w4.heap.size,2,none⟩ (.bool false)).setCell ⟨w4.heap.size,3,none⟩ (.string ⟨#[]⟩)).setCell ⟨w4.heap.size,4,none⟩ (.int .i64 0)).setCell ⟨w4.heap.size,5,none⟩ (.slice none 0 0)).setCell ⟨w4.heap.size,6,none⟩ (.int .i64 t.at_)) ∧ PsAt w6 B0 pp pl ∧ Fr w R (CgK R S ts) s2 [(b,.cells #[.string (cbs nm),.slice pp pl.length pc,.bool false,.string ⟨#[]⟩,.int .i64 0,.slice none 0 0,.int .i64 t.at_] 66 (0,0)),(w.heap.size,.cells #[.string ⟨#[]⟩,.slice none 0 0,.bool false,.string ⟨#[]⟩,.int .i64 0,.slice none 0 0,.int .i64 0] 66 (0,0))] [(B0,w6)] w5:=⟨_,_,_,rfl,rfl,HP0.out,FB.out.put7 0 rfl⟩; rw [← hw5,← hb5]; have G:=vH f5; have HP:=vH hp5; clear hb5 hw5 f5 hp5)
  | (obtain ⟨b,w5,B0,hb5,hw5,hp5,f5⟩:∃ b w5 B0,b = w3.heap.size ∧ w5 = (((((((w6.setCell ⟨w3.heap.size,0,none⟩ (.string (cbs nm))).setCell ⟨w3.heap.size,1,none⟩ (.slice pp pl.length pc)).setCell ⟨w3.heap.size,2,none⟩ (.bool false)).setCell ⟨w3.heap.size,3,none⟩ (.string ⟨#[]⟩)).setCell ⟨w3.heap.size,4,none⟩ (.int .i64 0)).setCell ⟨w3.heap.size,5,none⟩ (.slice none 0 0)).setCell ⟨w3.heap.size,6,none⟩ (.int .i64 t.at_)) ∧ PsAt w6 B0 pp pl ∧ Fr w R (CgK R S ts) s2 [(b,.cells #[.string (cbs nm),.slice pp pl.length pc,.bool false,.string ⟨#[]⟩,.int .i64 0,.slice none 0 0,.int .i64 t.at_] 66 (0,0)),(w.heap.size,.cells #[.string ⟨#[]⟩,.slice none 0 0,.bool false,.string ⟨#[]⟩,.int .i64 0,.slice none 0 0,.int .i64 0] 66 (0,0))] [(B0,w6)] w5:=⟨_,_,_,rfl,rfl,HP0.out,FB.out.put7 0 rfl⟩; rw [← hw5,← hb5]; have G:=vH f5; have HP:=vH hp5; clear hb5 hw5 f5 hp5)
  | (obtain ⟨b,w5,B0,hb5,hw5,hp5,f5⟩:∃ b w5 B0,b = u.heap.size ∧ w5 = (((((((w6.setCell ⟨u.heap.size,0,none⟩ (.string (cbs nm))).setCell ⟨u.heap.size,1,none⟩ (.slice pp pl.length pc)).setCell ⟨u.heap.size,2,none⟩ (.bool false)).setCell ⟨u.heap.size,3,none⟩ (.string ⟨#[]⟩)).setCell ⟨u.heap.size,4,none⟩ (.int .i64 0)).setCell ⟨u.heap.size,5,none⟩ (.slice none 0 0)).setCell ⟨u.heap.size,6,none⟩ (.int .i64 t.at_)) ∧ PsAt w6 B0 pp pl ∧ Fr w R (CgK R S ts) s2 [(b,.cells #[.string (cbs nm),.slice pp pl.length pc,.bool false,.string ⟨#[]⟩,.int .i64 0,.slice none 0 0,.int .i64 t.at_] 66 (0,0)),(w.heap.size,.cells #[.string ⟨#[]⟩,.slice none 0 0,.bool false,.string ⟨#[]⟩,.int .i64 0,.slice none 0 0,.int .i64 0] 66 (0,0))] [(B0,w6)] w5:=⟨_,_,_,rfl,rfl,HP0.out,FB.out.put7 0 rfl⟩; rw [← hw5,← hb5]; have G:=vH f5; have HP:=vH hp5; clear hb5 hw5 f5 hp5))
 all_goals
  have hnd:=G.out.below1
  have hne:=Ne.symm hnd
  dsimp only at hnd hne
  try clear d0 d1 d2 d3 d4 d5 d6 p0 p1 p2 p3 p4 p5 p6 hld hmd
  cases hv:sees ts s2 4 [58] with
  | true =>
    obtain ⟨on,d,s3,hO⟩:∃ on d s3,Pg.rdOf ts (next s2) = (on,d,s3):=⟨_,_,_,rfl⟩
    obtain ⟨bl,s4,hBl⟩:∃ bl s4,Pg.rdB B s3 = (bl,s4):=⟨_,_,rfl⟩
    have hx:=HX.out
    rw [show Pg.resultOf ts s2 = (true,Pg.rdOf ts (next s2)) from if_pos hv,hO] at hx
    dsimp only at hx
    rw [hBl] at hx
    subst hx
    have HO:=vH hO
    have HBl:=vH hBl
    have HV:=vH hv
    clear hO hBl HX hv
    go_wp2_with fail
    refine (zG _ R _ S _ ts s2 G.out.cg.cu ⟨#[58]⟩).mono ?_
    rw [show sees ts s2 4 [58] = true from HV.out]
    rintro e u1 ⟨rfl,hb⟩
    replace G:=vH (G.out.go hb)
    clear hb
    go_wp2_with fail
    refine (zL _ R _ S _ ts s2 G.out.cg.cu).mono ?_
    rintro e u2 ⟨rfl,hc,hg⟩
    replace G:=vH (G.out.cuG hc hg)
    clear hc hg
    have hk:=G.out.keep _ vA
    obtain ⟨⟨d0,d1,d2,d3,d4,d5,d6⟩,p0,p1,p2,p3,p4,p5,p6⟩:=sept hk.1
    have hld:=zA hk.1
    clear hk
    go_wp2_with fail
    clear d0 d1 d2 d3 d4 d5 d6 p0 p1 p2 p3 p4 p5 p6 hld
    replace G:=vH (G.out.put1 0 rfl 2 (.bool true) rfl)
    have hO:Pg.rdOf ts (next s2) = (on,d,s3):=HO.out
    have hro:=zCV _ R _ [] S ts _ G.out.cg.cu
    rw [hO] at hro
    refine hro.mono ?_
    rintro e u3 ⟨rfl,hc,hg⟩
    replace G:=vH (G.out.cuG hc hg)
    clear hc hg hro hO
    have hk:=G.out.keep _ vA
    obtain ⟨⟨d0,d1,d2,d3,d4,d5,d6⟩,p0,p1,p2,p3,p4,p5,p6⟩:=sept hk.1
    have hld:=zA hk.1
    clear hk
    go_wp2_with fail
    clear d0 d1 d2 d3 d4 d5 d6 p0 p1 p2 p3 p4 p5 p6 hld
    replace G:=vH (G.out.put1 0 rfl 3 (.string (cbs on)) rfl)
    replace G:=vH (G.out.put1 0 rfl 4 (.int .i64 (d:Nat)) rfl)
    have hBl:Pg.rdB B s3 = (bl,s4):=HBl.out
    have hrb:=zEC _ R _ [] S ts _ G.out.cg.cu G.out.cg.ops B HBB.out
    rw [hBl] at hrb
    refine hrb.mono ?_
    rintro e u5 ⟨bp,bc,rfl,hat,hc,hg⟩
    replace G:=vH (G.out.call (G.out.cg.gr hg hc) hg)
    have HA:=vH hat
    clear hc hg hat hrb hBl
    have hk:=G.out.keep _ vA
    obtain ⟨⟨d0,d1,d2,d3,d4,d5,d6⟩,p0,p1,p2,p3,p4,p5,p6⟩:=sept hk.1
    have hld:=zA hk.1
    clear hk
    have hk:=G.out.keep _ vB
    obtain ⟨⟨a0,a1,a2,a3,a4,a5,a6⟩,q0,q1,q2,q3,q4,q5,q6⟩:=sept hk.1
    have hla:=zA hk.1
    clear hk
    go_wp2_with fail
    replace G:=vH (G.out.put1 0 rfl 5 (.slice bp bl.length bc) rfl)
    replace G:=vH (G.out.put7 1 rfl (c0:=.string (cbs nm)) (c1:=.slice pp pl.length pc) (c2:=.bool true) (c3:=.string (cbs on)) (c4:=.int .i64 (d:Nat)) (c5:=.slice bp bl.length bc) (c6:=.int .i64 t.at_))
    exact bodyPost_ret (v:=.agg #[.string (cbs nm),.slice pp pl.length pc,.bool true,.string (cbs on),.int .i64 (d:Nat),.slice bp bl.length bc,.int .i64 t.at_]) (by simp [results,Tryz.results41,go_sem,a0,a1,a2,a3,a4,a5,a6]) rfl
        ⟨_,_,_,_,_,_,_,_,_,_,_,rfl,⟨pp,pc,bp,bc,rfl,(HP.out.ag (G.out.ag _ vB).1).lower (G.out.ag _ vB).2,(HA.out.ag (G.out.ag _ vA).1).lower (G.out.ag _ vA).2⟩,G.out.cg.cu,G.out.gr⟩
  | false =>
    obtain ⟨bl,s4,hBl⟩:∃ bl s4,Pg.rdB B s2 = (bl,s4):=⟨_,_,rfl⟩
    have hx:=HX.out
    rw [show Pg.resultOf ts s2 = (false,[],0,s2) from if_neg (by rw [hv]; decide)] at hx
    dsimp only at hx
    rw [hBl] at hx
    subst hx
    have HBl:=vH hBl
    have HV:=vH hv
    clear hBl HX hv
    go_wp2_with fail
    refine (zG _ R _ S _ ts s2 G.out.cg.cu ⟨#[58]⟩).mono ?_
    rw [show sees ts s2 4 [58] = false from HV.out]
    rintro e u1 ⟨rfl,hb⟩
    replace G:=vH (G.out.go hb)
    clear hb
    go_wp2_with fail
    have hBl:Pg.rdB B s2 = (bl,s4):=HBl.out
    have hrb:=zEC _ R _ [] S ts _ G.out.cg.cu G.out.cg.ops B HBB.out
    rw [hBl] at hrb
    refine hrb.mono ?_
    rintro e u5 ⟨bp,bc,rfl,hat,hc,hg⟩
    replace G:=vH (G.out.call (G.out.cg.gr hg hc) hg)
    have HA:=vH hat
    clear hc hg hat hrb hBl
    have hk:=G.out.keep _ vA
    obtain ⟨⟨d0,d1,d2,d3,d4,d5,d6⟩,p0,p1,p2,p3,p4,p5,p6⟩:=sept hk.1
    have hld:=zA hk.1
    clear hk
    have hk:=G.out.keep _ vB
    obtain ⟨⟨a0,a1,a2,a3,a4,a5,a6⟩,q0,q1,q2,q3,q4,q5,q6⟩:=sept hk.1
    have hla:=zA hk.1
    clear hk
    go_wp2_with fail
    replace G:=vH (G.out.put1 0 rfl 5 (.slice bp bl.length bc) rfl)
    replace G:=vH (G.out.put7 1 rfl (c0:=.string (cbs nm)) (c1:=.slice pp pl.length pc) (c2:=.bool false) (c3:=.string ⟨#[]⟩) (c4:=.int .i64 0) (c5:=.slice bp bl.length bc) (c6:=.int .i64 t.at_))
    exact bodyPost_ret (v:=.agg #[.string (cbs nm),.slice pp pl.length pc,.bool false,.string ⟨#[]⟩,.int .i64 0,.slice bp bl.length bc,.int .i64 t.at_]) (by simp [results,Tryz.results41,go_sem,a0,a1,a2,a3,a4,a5,a6]) rfl
        ⟨_,_,_,_,_,_,_,_,_,_,_,rfl,⟨pp,pc,bp,bc,rfl,(HP.out.ag (G.out.ag _ vB).1).lower (G.out.ag _ vB).2,(HA.out.ag (G.out.ag _ vA).1).lower (G.out.ag _ vA).2⟩,G.out.cg.cu,G.out.gr⟩
def But (I:World → Prop)(ex:Nat → Prop)(B:Nat)(w:World):Prop:=
 ∀ w':World,w.heap.size ≤ w'.heap.size → (∀ bl,B ≤ bl → bl < w.heap.size → ¬ ex bl → w'.heap[bl]? = w.heap[bl]?) → I w'
section
variable {I:World → Prop} {ex ex':Nat → Prop} {B B2:Nat} {w w1:World}
theorem But.now (h:But I ex B w):I w:=h w (Nat.le_refl _) fun _ _ _ _ => rfl
theorem But.move (h:But I ex B w)(hs:w.heap.size ≤ w1.heap.size)(hk:∀ bl,B ≤ bl → bl < w.heap.size → ¬ ex bl → w1.heap[bl]? = w.heap[bl]?)(he:∀ k,ex' k → ex k ∨ w.heap.size ≤ k):But I ex' B w1:=
 fun w' hs' hk' => h w' (Nat.le_trans hs hs') fun bl h1 h2 h3 => (hk' bl h1 (Nat.lt_of_lt_of_le h2 hs) (fun hx => by
  rcases he bl hx with hy | hy
  ·exact h3 hy
  ·omega)).trans (hk bl h1 h2 h3)
theorem But.of (h:∀ w',Ag B2 w w' → I w')(hB:B ≤ B2)(hx:∀ k,ex k → k < B2):But I ex B w:=
 fun w' hs hk => h w' ⟨hs,fun bl h1 h2 => hk bl (Nat.le_trans hB h1) h2 (fun he => by have:=hx bl he; omega)⟩
end
def OwnL {α:Type}(I:World → Nat → α → List Value → Prop)(T:TypeId)(n:Nat)(ex:Nat → Prop)(B:Nat)(v:Value)(l:List α)(w:World):Prop:=
 ∃ vss:List (List Value),vss.length = l.length ∧ w.ownsRow B T n v l.length vss.flatten ∧ ∀ (i:Nat) x vs,l[i]? = some x → vss[i]? = some vs → But (fun w => I w B x vs) ex B w
section
variable {α:Type} {I:World → Nat → α → List Value → Prop} {T:TypeId} {n:Nat} {ex ex':Nat → Prop} {B:Nat} {v v':Value} {l:List α} {w w1:World}
theorem OwnL.nil (w:World):OwnL I T n ex B (.slice none 0 0) [] w:=⟨[],rfl,World.ownsRow_nil _ _ _ _,fun i x vs h _ => by simp at h⟩
theorem OwnL.lt (h:OwnL I T n ex B v l w):∀ k,v.ownBlock = some k → B ≤ k ∧ k < w.heap.size:=by
 obtain ⟨vss,-,h2,-⟩:=h
 exact fun k hk => h2.lt k hk
theorem OwnL.slice (h:OwnL I T n ex B v l w):∃ p c,v = .slice p l.length c:=by
 obtain ⟨vss,-,h2,-⟩:=h
 exact zAi h2
theorem zF9 {base m sz:Nat}{xs:List Value}(h:w.ownsRow base T sz v m xs)(hk:∀ k,v.ownBlock = some k → w1.heap[k]? = w.heap[k]?):w1.ownsRow base T sz v m xs:=by
 refine ⟨h.1,?_⟩
 rcases h.2 with h0 | ⟨g,cap,cur,hv,hb,hc,hr⟩
 ·exact .inl h0
 ·exact .inr ⟨g,cap,cur,hv,hb,(hk g (by rw [hv]; rfl)).trans hc,hr⟩
theorem OwnL.move (h:OwnL I T n ex B v l w)(hs:w.heap.size ≤ w1.heap.size)(hv:∀ k,v.ownBlock = some k → w1.heap[k]? = w.heap[k]?)(hk:∀ bl,B ≤ bl → bl < w.heap.size → ¬ ex bl → w1.heap[bl]? = w.heap[bl]?)(he:∀ k,ex' k → ex k ∨ w.heap.size ≤ k):OwnL I T n ex' B v l w1:=by
 obtain ⟨vss,h1,h2,h3⟩:=h
 exact ⟨vss,h1,zF9 h2 hv,fun i x vs hx hvs => (h3 i x vs hx hvs).move hs hk he⟩
theorem OwnL.go (h:OwnL I T n ex B v l w)(hs:w.heap.size ≤ w1.heap.size)(hk:∀ bl,B ≤ bl → bl < w.heap.size → w1.heap[bl]? = w.heap[bl]?):OwnL I T n ex B v l w1:=
 h.move hs (fun k hv => hk k (h.lt k hv).1 (h.lt k hv).2) (fun bl h1 h2 _ => hk bl h1 h2) (fun _ hx => .inl hx)
theorem OwnL.push {x : α}{vs:List Value}{vss:List (List Value)}(h1:vss.length = l.length)(h3:∀ (i:Nat) x vs,l[i]? = some x → vss[i]? = some vs → But (fun w => I w B x vs) ex B w)(hi:But (fun w => I w B x vs) ex B w)
 (hown:w1.ownsRow B T n v' (l.length + 1) (vss.flatten ++ vs)) (hs:w.heap.size ≤ w1.heap.size) (hk:∀ bl,B ≤ bl → bl < w.heap.size → ¬ ex bl → w1.heap[bl]? = w.heap[bl]?) (he:∀ k,ex' k → ex k ∨ w.heap.size ≤ k):OwnL I T n ex' B v' (l ++ [x]) w1:=by
 refine ⟨vss ++ [vs],by simp [h1],by simpa using hown,fun i e' vs' hx hv => ?_⟩
 by_cases hlt:i < l.length
 ·rw [List.getElem?_append_left hlt] at hx
  rw [List.getElem?_append_left (by omega)] at hv
  exact (h3 i e' vs' hx hv).move hs hk he
 ·have hieq:i = l.length:=by
   have:=(List.getElem?_eq_some_iff.1 hx).1
   simp at this
   omega
  subst hieq
  simp at hx
  rw [← h1] at hv
  simp at hv
  subst hx hv
  exact hi.move hs hk he
end
def LAt {α:Type}(I:World → Nat → α → List Value → Prop)(n:Nat)(w:World)(B:Nat)(q:Option Addr)(l:List α):Prop:=
 l = [] ∨ ∃ bl off,q = some ⟨bl,off,none⟩ ∧ bl < w.heap.size ∧ B ≤ bl ∧ ∀ (i:Nat) x,l[i]? = some x → ∃ vs,I w B x vs ∧ ∀ (j:Nat) v,j < n → vs[j]? = some v → w.cell? ⟨bl,off + i * n + j,none⟩ = some v
section
variable {α:Type} {I:World → Nat → α → List Value → Prop} {T:TypeId} {n:Nat} {ex:Nat → Prop} {B B2:Nat} {v:Value} {q:Option Addr} {l:List α} {w w1:World}
theorem LAt.ag (hI:∀ x vs,I w B x vs → I w1 B x vs)(h:LAt I n w B q l)(g:Ag B w w1):LAt I n w1 B q l:=by
 rcases h with h0 | ⟨bl,off,hp,hb,hne,ha⟩
 ·exact .inl h0
 ·refine .inr ⟨bl,off,hp,Nat.lt_of_lt_of_le hb g.size,hne,fun i x hx => ?_⟩
  obtain ⟨vs,h1,h2⟩:=ha i x hx
  exact ⟨vs,hI x vs h1,fun j v hj hv => by rw [zBB (g.block bl hne hb)]; exact h2 j v hj hv⟩
theorem LAt.lower (hI:∀ x vs,I w B x vs → I w B2 x vs)(h:LAt I n w B q l)(hB:B2 ≤ B):LAt I n w B2 q l:=by
 rcases h with h0 | ⟨bl,off,hp,hb,hne,ha⟩
 ·exact .inl h0
 ·refine .inr ⟨bl,off,hp,hb,Nat.le_trans hB hne,fun i x hx => ?_⟩
  obtain ⟨vs,h1,h2⟩:=ha i x hx
  exact ⟨vs,hI x vs h1,h2⟩
theorem zMf {vss:List (List Value)}(hn:∀ vs ∈ vss,vs.length = n):∀ (i j:Nat) vs v,vss[i]? = some vs → j < n → vs[j]? = some v → vss.flatten[i * n + j]? = some v:=by
 induction vss with
 | nil => intro i j vs v h; simp at h
 | cons us vss ih =>
   intro i j vs v h hj hv
   have hu:us.length = n:=hn us vA
   cases i with
   | zero =>
     simp at h
     subst h
     rw [List.flatten_cons,List.getElem?_append_left (by omega),Nat.zero_mul,Nat.zero_add,hv]
   | succ i =>
     have:=ih (fun vs hvs => hn vs (List.Mem.tail _ hvs)) i j vs v (by simpa using h) hj hv
     rw [List.flatten_cons,List.getElem?_append_right (by rw [hu,Nat.add_mul]; omega),hu,Nat.add_mul,show i * n + 1 * n + j - n = i * n + j by omega]
     exact this
theorem OwnL.done (hn:∀ w B x vs,I w B x vs → vs.length = n)(h:OwnL I T n ex B v l w):∃ p c,v = .slice p l.length c ∧ LAt I n w B p l:=by
 obtain ⟨vss,h1,h2,h3⟩:=h
 rcases h2.2 with ⟨hv,h0⟩ | ⟨g,cap,cur,hv,hb,hc,hm,hcap,hsize,htake⟩
 ·obtain rfl:=List.eq_nil_of_length_eq_zero h0
  exact ⟨none,0,hv,.inl rfl⟩
 ·refine ⟨_,cap,hv,.inr ⟨g,0,rfl,zA hc,hb,fun i x hx => ?_⟩⟩
  have hi:i < vss.length:=by rw [h1]; exact (List.getElem?_eq_some_iff.1 hx).1
  have hvs:=List.getElem?_eq_getElem hi
  refine ⟨vss[i],(h3 i x _ hx hvs).now,fun j v hj hvj => ?_⟩
  have hall:∀ vs ∈ vss,vs.length = n:=fun vs hm => by
   obtain ⟨k,hk⟩:=List.mem_iff_getElem?.1 hm
   have hkl:k < l.length:=by rw [← h1]; exact (List.getElem?_eq_some_iff.1 hk).1
   exact hn _ _ _ _ (h3 k _ vs (List.getElem?_eq_getElem hkl) hk).now
  have hf:=zMf hall i j _ v hvs hj hvj
  have:=World.ownsRow.cells h2 (g:=g) (by rw [hv]; rfl) _ v hf
  have hadd:∀ k,(⟨g,0,none⟩:Addr).add k = ⟨g,k,none⟩:=fun k => by unfold Addr.add; split <;> simp_all
  rw [hadd] at this
  rw [Nat.zero_add]
  exact this
end
def PIs (_:World)(_:Nat)(x:Pm)(vs:List Value):Prop:=vs = pmCells x
theorem PIs.len (w:World)(B:Nat)(x:Pm)(vs:List Value)(h:PIs w B x vs):vs.length = 4:=by rw [PIs] at h; rw [h]; rfl
theorem RIs.len (w:World)(B:Nat)(x:Rc)(vs:List Value)(h:RIs w B x vs):vs.length = 3:=by obtain ⟨p,c,rfl,-⟩:=h; rfl
theorem FIs.len (w:World)(B:Nat)(x:Fc)(vs:List Value)(h:FIs w B x vs):vs.length = 7:=by obtain ⟨p,c,q,d,rfl,-⟩:=h; rfl
theorem RIs.ag {w w1:World}{B:Nat}{x:Rc}{vs:List Value}(h:RIs w B x vs)(g:Ag B w w1):RIs w1 B x vs:=by obtain ⟨p,c,hv,hp⟩:=h; exact ⟨p,c,hv,hp.ag g⟩
theorem FIs.ag {w w1:World}{B:Nat}{x:Fc}{vs:List Value}(h:FIs w B x vs)(g:Ag B w w1):FIs w1 B x vs:=by obtain ⟨p,c,q,d,hv,hp,hb⟩:=h; exact ⟨p,c,q,d,hv,hp.ag g,hb.ag g⟩
theorem RIs.lower {w:World}{B B2:Nat}{x:Rc}{vs:List Value}(h:RIs w B x vs)(hB:B2 ≤ B):RIs w B2 x vs:=by obtain ⟨p,c,hv,hp⟩:=h; exact ⟨p,c,hv,hp.lower hB⟩
theorem FIs.lower {w:World}{B B2:Nat}{x:Fc}{vs:List Value}(h:FIs w B x vs)(hB:B2 ≤ B):FIs w B2 x vs:=by obtain ⟨p,c,q,d,hv,hp,hb⟩:=h; exact ⟨p,c,q,d,hv,hp.lower hB,hb.lower hB⟩
theorem zK9:(Tryz.prog.info? 56).map (fun i => (i.zero,i.size,i.bytes)) = some (some (.agg #[.string ⟨#[]⟩,.slice none 0 0,.int .i64 0]),3,48):=by kernel_rfl
theorem zLa:(Tryz.prog.info? 66).map (fun i => (i.zero,i.size,i.bytes)) = some (some (.agg #[.string ⟨#[]⟩,.slice none 0 0,.bool false,.string ⟨#[]⟩,.int .i64 0,.slice none 0 0,.int .i64 0]),7,104):=by kernel_rfl
theorem zY {P:Program}{ops:Array Oper}{o:Oper}{a:Act}{w:World}{K:Act → World → Prop}{Q:Exit → Act → World → Prop}{E:Prop}
 (hg:o.guard = none) (s x:Operand) (t:TypeId) (hop:o.op = Op.call { callee:=Callee.builtin Builtin.append,args:=#[s,x],argTypes:=#[t,t] }) (base:Nat)
 (e:TypeId) (i:TypeInfo) (z:Value) (size bytes:Nat) (h1:P.underlying t = some (.slice e)) (h2:P.info? e = some i) (h3:i.zero = some z) (h4:i.size = size) (h5:i.bytes = bytes) (h6:z.cells.size = size) (h7 : 0 < size)
 (v:Value) (n:Nat) (xs:List Value) (hs:a.eval s = v) (hown:w.ownsRow base e size v n xs)
 (ad:Addr) (m c:Nat) (news:List Value) (hx:a.eval x = .slice (some ad) m c) (hn:news.length = m * size) (hc:∀ j u,news[j]? = some u → w.cell? (ad.add j) = some u) (h1c:∀ u ∈ news,u.oneCell' = true)
 (b1:n + m ≤ maxLen) (b2:(n + m) * bytes ≤ 140737488355328) (hbase:base ≤ w.heap.size)
 (hK:∀ v' w',w'.ownsRow base e size v' (n + m) (xs ++ news) → w.grownBy w' v.ownBlock → (v'.ownBlock = v.ownBlock ∨ v'.ownBlock = some w.heap.size) → K (a.put o.dst v') w') :
 if Region.wanted o (yielded ops a.tmps) = true then Oper.wp P o a w K Q else E:=by
 have hw:Region.wanted o (yielded ops a.tmps) = true:=by simp [Region.wanted,hg]
 rw [if_pos hw]
 obtain ⟨v',w',hrun,r1,r2,_,r3⟩:=run_append_own_at (P:=P) w base t o.type e i z size bytes h1 h2 h3 h4 h5 h6 h7 v n xs hown ad m c news hn hc h1c b1 b2 hbase
 unfold Oper.wp
 simp [execOp,hop,resolve,invoke,builtin,hs,hx,hrun,Result.andThen]
 exact hK v' w' r1 r2 r3
def ex3 (vr vg vf:Value)(k:Nat):Prop:=vr.ownBlock = some k ∨ vg.ownBlock = some k ∨ vf.ownBlock = some k
structure GSt (w:World) (R:Nat) (S:Value) (ts:List RT) (B b:Nat) (vr vg vf c0 c1 c2:Value) (p:Gm) (s:Cs) (wr:World):Prop where
 cg:Cg wr R S ts s
 gr:Gr R w wr
 row:wr.heap[b]? = some (.cells #[c0,c1,c2] 26 (0,0))
 res:wr.heap[w.heap.size]? = some (.cells #[.slice none 0 0,.slice none 0 0,.slice none 0 0] 26 (0,0))
 l1:w.heap.size < b
 l2:b < B
 l3:B ≤ wr.heap.size
 rs:OwnL RIs 56 3 (ex3 vr vg vf) B vr p.recs wr
 gs:OwnL PIs 61 4 (ex3 vr vg vf) B vg p.globals wr
 fs:OwnL FIs 66 7 (ex3 vr vg vf) B vf p.funcs wr
 d1:∀ k,vr.ownBlock = some k → vg.ownBlock ≠ some k
 d2:∀ k,vr.ownBlock = some k → vf.ownBlock ≠ some k
 d3:∀ k,vg.ownBlock = some k → vf.ownBlock ≠ some k
 h0:∃ s0,Cg w R S ts s0
section
variable {w wr w':World} {R B b:Nat} {S vr vg vf c0 c1 c2 c v':Value} {ts:List RT} {p:Gm} {s s':Cs}
theorem GSt.rlt (h:GSt w R S ts B b vr vg vf c0 c1 c2 p s wr):R < w.heap.size:=by obtain ⟨s0,h0⟩:=h.h0; exact h0.lt
theorem GSt.exlt (h:GSt w R S ts B b vr vg vf c0 c1 c2 p s wr):∀ k,ex3 vr vg vf k → B ≤ k ∧ k < wr.heap.size:=fun k hk => by
 rcases hk with hk | hk | hk
 ·exact h.rs.lt k hk
 ·exact h.gs.lt k hk
 ·exact h.fs.lt k hk
theorem GSt.step (h:GSt w R S ts B b vr vg vf c0 c1 c2 p s wr)(hc:Cu w' R 43 S [] ts s')(hg:Gr R wr w'):GSt w R S ts B b vr vg vf c0 c1 c2 p s' w':=by
 have hr:=h.rlt
 have h1:=h.l1
 have h2:=h.l2
 have hk:∀ bl,B ≤ bl → bl < wr.heap.size → w'.heap[bl]? = wr.heap[bl]?:=fun bl hb hl => hg.block bl hl (by omega)
 exact ⟨h.cg.gr hg hc,h.gr.trans hg,hg.box h.row (by omega),hg.box h.res (by omega),h1,h2,Nat.le_trans h.l3 hg.size,h.rs.go hg.size hk,h.gs.go hg.size hk,h.fs.go hg.size hk,h.d1,h.d2,h.d3,h.h0⟩
theorem GSt.go (h:GSt w R S ts B b vr vg vf c0 c1 c2 p s wr)(hb:Below wr.heap.size wr w'):GSt w R S ts B b vr vg vf c0 c1 c2 p s w':=h.step (h.cg.go hb).cu (Gr.of hb)
theorem GSt.drew (h:GSt w R S ts B b vr vg vf c0 c1 c2 p s wr):GSt w R S ts B b vr vg vf c0 c1 c2 p s wr.drew:=h.go (Below.refl _ _).drew
theorem GSt.alloc (h:GSt w R S ts B b vr vg vf c0 c1 c2 p s wr)(o:Obj):GSt w R S ts B b vr vg vf c0 c1 c2 p s (wr.alloc o):=h.go ((Below.refl _ _).alloc (Nat.le_refl _) _)
theorem GSt.put {d0 d1 d2:Value}(h:GSt w R S ts B b vr vg vf c0 c1 c2 p s wr)(i:Nat)(u:Value)(hA:(#[c0,c1,c2]:Array Value).setIfInBounds i u = #[d0,d1,d2]):GSt w R S ts B b vr vg vf d0 d1 d2 p s (wr.setCell ⟨b,i,none⟩ u):=by
 have hr:=h.rlt
 have h1:=h.l1
 have h2:=h.l2
 have hn:=(Nw.start h.gr).set (p:=⟨b,i,none⟩) (by show w.heap.size ≤ b; omega) u
 have hk:∀ bl,bl ≠ b → (wr.setCell ⟨b,i,none⟩ u).heap[bl]? = wr.heap[bl]?:=fun bl hb => Below.heap_setCell wr ⟨b,i,none⟩ u bl hb
 have hk2:∀ bl,B ≤ bl → bl < wr.heap.size → (wr.setCell ⟨b,i,none⟩ u).heap[bl]? = wr.heap[bl]?:=fun bl hb _ => hk bl (by omega)
 have hs:wr.heap.size ≤ (wr.setCell ⟨b,i,none⟩ u).heap.size:=by rw [zI]; exact Nat.le_refl _
 obtain ⟨s0,h0⟩:=h.h0
 exact ⟨h0.gr hn.gr (h0.cu.fin h.cg.cu hn),hn.gr,zAl h.row i u hA,(hk _ (by omega)).trans h.res,h1,h2,Nat.le_trans h.l3 hs,h.rs.go hs hk2,h.gs.go hs hk2,h.fs.go hs hk2,h.d1,h.d2,h.d3,s0,h0⟩
theorem GSt.kept {w1 w3:World}{o:Obj}{v:Value}(h:GSt w R S ts B b vr vg vf c0 c1 c2 p s w1)(hgrow:(w1.alloc o).grownBy w3 v.ownBlock)(hv:∀ k,v.ownBlock = some k → B ≤ k) :
 Cg w3 R S ts s ∧ Gr R w w3 ∧ w3.heap[b]? = some (.cells #[c0,c1,c2] 26 (0,0)) ∧ w3.heap[w.heap.size]? = some (.cells #[.slice none 0 0,.slice none 0 0,.slice none 0 0] 26 (0,0)) ∧ w1.heap.size ≤ w3.heap.size ∧
 ∀ bl,bl < w1.heap.size → v.ownBlock ≠ some bl → w3.heap[bl]? = w1.heap[bl]?:=by
 have hr:=h.rlt
 have h1:=h.l1
 have h2:=h.l2
 have h3:=h.l3
 have hs:w1.heap.size ≤ w3.heap.size:=by have:=hgrow.size; rw [zB] at this; omega
 have hk:∀ bl,bl < w1.heap.size → v.ownBlock ≠ some bl → w3.heap[bl]? = w1.heap[bl]?:=fun bl hb hne =>
  (hgrow.block bl (by rw [zB]; omega) (fun e => hne e.symm)).trans (heap_alloc_old _ _ hb)
 have hlow:∀ bl,bl < B → w3.heap[bl]? = w1.heap[bl]?:=fun bl hb => hk bl (by omega) (fun e => by have:=hv bl e; omega)
 have hgr:Gr R w w3:=⟨hgrow.os.trans h.gr.os,hgrow.tape.trans h.gr.tape,hgrow.output.trans h.gr.output,Nat.le_trans h.gr.size hs,fun i hi hn => (hlow i (by omega)).trans (h.gr.block i hi hn)⟩
 obtain ⟨s0,h0⟩:=h.h0
 exact ⟨h0.gr hgr (h0.cu.fin h.cg.cu ⟨⟨hgrow.os,hgrow.tape,hgrow.output,hs,fun i hi => hlow i (by omega)⟩,hgr⟩),hgr,(hlow b h2).trans h.row,(hlow _ (by omega)).trans h.res,hs,hk⟩
theorem GSt.pushR {w1 w3:World}{o:Obj}{x:Rc}{vs:List Value}{vss:List (List Value)}(h:GSt w R S ts B b vr vg vf c0 c1 c2 p s w1)(hl:vss.length = p.recs.length)(hk3:∀ (i:Nat) x vs,p.recs[i]? = some x → vss[i]? = some vs → But (fun w => RIs w B x vs) (ex3 vr vg vf) B w1)
 (hi:But (fun w => RIs w B x vs) (ex3 vr vg vf) B w1) (hown:w3.ownsRow B 56 3 v' (p.recs.length + 1) (vss.flatten ++ vs)) (hgrow:(w1.alloc o).grownBy w3 vr.ownBlock) (hat:v'.ownBlock = vr.ownBlock ∨ v'.ownBlock = some (w1.heap.size + 1)) :
 GSt w R S ts B b v' vg vf c0 c1 c2 (p.addR x) s w3:=by
 obtain ⟨k1,k2,k3,k4,hs,hk⟩:=h.kept hgrow fun k hk => (h.rs.lt k hk).1
 have hkx:∀ bl,B ≤ bl → bl < w1.heap.size → ¬ ex3 vr vg vf bl → w3.heap[bl]? = w1.heap[bl]?:=fun bl _ hb hne => hk bl hb fun e => hne ((Or.inl) e)
 have hex:∀ k,ex3 v' vg vf k → ex3 vr vg vf k ∨ w1.heap.size ≤ k:=fun k hx => by
  rcases hx with hx | hx | hx
  ·rcases hat with hat | hat <;> rw [hat] at hx
   ·exact .inl ((Or.inl) hx)
   ·injection hx with hx; exact .inr (by omega)
  ·exact .inl (.inr (.inl hx))
  ·exact .inl (.inr (.inr hx))
 exact ⟨k1,k2,k3,k4,h.l1,h.l2,Nat.le_trans h.l3 hs,OwnL.push hl hk3 hi hown hs hkx hex,h.gs.move hs (fun k hk' => hk k (h.gs.lt k hk').2 (fun e => h.d1 k e hk')) hkx hex,h.fs.move hs (fun k hk' => hk k (h.fs.lt k hk').2 (fun e => h.d2 k e hk')) hkx hex,fun k e e2 => by rcases hat with hat | hat <;> rw [hat] at e <;> first | exact h.d1 k e e2 | (injection e with e; have:=(h.gs.lt k e2).2; omega),fun k e e2 => by rcases hat with hat | hat <;> rw [hat] at e <;> first | exact h.d2 k e e2 | (injection e with e; have:=(h.fs.lt k e2).2; omega),h.d3,h.h0⟩
theorem GSt.pushG {w1 w3:World}{o:Obj}{x:Pm}{vs:List Value}{vss:List (List Value)}(h:GSt w R S ts B b vr vg vf c0 c1 c2 p s w1)(hl:vss.length = p.globals.length)(hk3:∀ (i:Nat) x vs,p.globals[i]? = some x → vss[i]? = some vs → But (fun w => PIs w B x vs) (ex3 vr vg vf) B w1)
 (hi:But (fun w => PIs w B x vs) (ex3 vr vg vf) B w1) (hown:w3.ownsRow B 61 4 v' (p.globals.length + 1) (vss.flatten ++ vs)) (hgrow:(w1.alloc o).grownBy w3 vg.ownBlock) (hat:v'.ownBlock = vg.ownBlock ∨ v'.ownBlock = some (w1.heap.size + 1)) :
 GSt w R S ts B b vr v' vf c0 c1 c2 (p.addG x) s w3:=by
 obtain ⟨k1,k2,k3,k4,hs,hk⟩:=h.kept hgrow fun k hk => (h.gs.lt k hk).1
 have hkx:∀ bl,B ≤ bl → bl < w1.heap.size → ¬ ex3 vr vg vf bl → w3.heap[bl]? = w1.heap[bl]?:=fun bl _ hb hne => hk bl hb fun e => hne ((fun e => Or.inr (Or.inl e)) e)
 have hex:∀ k,ex3 vr v' vf k → ex3 vr vg vf k ∨ w1.heap.size ≤ k:=fun k hx => by
  rcases hx with hx | hx | hx
  ·exact .inl (.inl hx)
  ·rcases hat with hat | hat <;> rw [hat] at hx
   ·exact .inl ((fun e => Or.inr (Or.inl e)) hx)
   ·injection hx with hx; exact .inr (by omega)
  ·exact .inl (.inr (.inr hx))
 exact ⟨k1,k2,k3,k4,h.l1,h.l2,Nat.le_trans h.l3 hs,h.rs.move hs (fun k hk' => hk k (h.rs.lt k hk').2 (fun e => h.d1 k hk' e)) hkx hex,OwnL.push hl hk3 hi hown hs hkx hex,h.fs.move hs (fun k hk' => hk k (h.fs.lt k hk').2 (fun e => h.d3 k e hk')) hkx hex,fun k e e2 => by rcases hat with hat | hat <;> rw [hat] at e2 <;> first | exact h.d1 k e e2 | (injection e2 with e2; have:=(h.rs.lt k e).2; omega),h.d2,fun k e e2 => by rcases hat with hat | hat <;> rw [hat] at e <;> first | exact h.d3 k e e2 | (injection e with e; have:=(h.fs.lt k e2).2; omega),h.h0⟩
theorem GSt.pushF {w1 w3:World}{o:Obj}{x:Fc}{vs:List Value}{vss:List (List Value)}(h:GSt w R S ts B b vr vg vf c0 c1 c2 p s w1)(hl:vss.length = p.funcs.length)(hk3:∀ (i:Nat) x vs,p.funcs[i]? = some x → vss[i]? = some vs → But (fun w => FIs w B x vs) (ex3 vr vg vf) B w1)
 (hi:But (fun w => FIs w B x vs) (ex3 vr vg vf) B w1) (hown:w3.ownsRow B 66 7 v' (p.funcs.length + 1) (vss.flatten ++ vs)) (hgrow:(w1.alloc o).grownBy w3 vf.ownBlock) (hat:v'.ownBlock = vf.ownBlock ∨ v'.ownBlock = some (w1.heap.size + 1)) :
 GSt w R S ts B b vr vg v' c0 c1 c2 (p.addF x) s w3:=by
 obtain ⟨k1,k2,k3,k4,hs,hk⟩:=h.kept hgrow fun k hk => (h.fs.lt k hk).1
 have hkx:∀ bl,B ≤ bl → bl < w1.heap.size → ¬ ex3 vr vg vf bl → w3.heap[bl]? = w1.heap[bl]?:=fun bl _ hb hne => hk bl hb fun e => hne ((fun e => Or.inr (Or.inr e)) e)
 have hex:∀ k,ex3 vr vg v' k → ex3 vr vg vf k ∨ w1.heap.size ≤ k:=fun k hx => by
  rcases hx with hx | hx | hx
  ·exact .inl (.inl hx)
  ·exact .inl (.inr (.inl hx))
  ·rcases hat with hat | hat <;> rw [hat] at hx
   ·exact .inl ((fun e => Or.inr (Or.inr e)) hx)
   ·injection hx with hx; exact .inr (by omega)
 exact ⟨k1,k2,k3,k4,h.l1,h.l2,Nat.le_trans h.l3 hs,h.rs.move hs (fun k hk' => hk k (h.rs.lt k hk').2 (fun e => h.d2 k hk' e)) hkx hex,h.gs.move hs (fun k hk' => hk k (h.gs.lt k hk').2 (fun e => h.d3 k hk' e)) hkx hex,OwnL.push hl hk3 hi hown hs hkx hex,h.d1,fun k e e2 => by rcases hat with hat | hat <;> rw [hat] at e2 <;> first | exact h.d2 k e e2 | (injection e2 with e2; have:=(h.rs.lt k e).2; omega),fun k e e2 => by rcases hat with hat | hat <;> rw [hat] at e2 <;> first | exact h.d3 k e e2 | (injection e2 with e2; have:=(h.gs.lt k e).2; omega),h.h0⟩
end
end Go.Proofs.YtipmjjfknhblnaaGreatDoor
