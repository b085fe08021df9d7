/-
  The project's reader of programs: parameters, a global varia
-/
import Derived.Test.YtipmjjfknhblnaaGreatDoorK27
import Derived.Test.YtipmjjfknhblnaaGreatDoorK02
import Derived.Deep.RegionHeld3
set_option maxRecDepth 8000
set_option maxHeartbeats 8000000
namespace Go.Proofs.YtipmjjfknhblnaaGreatDoor
open Go.RowKit
open Px (RT tokAt)
open Pe
open Ps (Sm PX)
open Pg (BX Pm Rc Fc Gm)
def PsAt (w:World)(B:Nat)(q:Option Addr)(l:List Pm):Prop:=
 l = [] ∨ ∃ bl off,q = some ⟨bl,off,none⟩ ∧ bl < w.heap.size ∧ B ≤ bl ∧ ∀ (i:Nat) v,(l.flatMap pmCells)[i]? = some v → w.cell? ⟨bl,off + i,none⟩ = some v
theorem PsAt.nil {w:World}{B:Nat}{q:Option Addr}:PsAt w B q []:=.inl rfl
theorem PsAt.ag {w w':World}{B:Nat}{p:Option Addr}{l:List Pm}(h:PsAt w B p l)(g:Ag B w w'):PsAt w' B p l:=by
 rcases h with h0 | ⟨bl,off,hp,hb,hne,ha⟩
 ·exact .inl h0
 ·exact .inr ⟨bl,off,hp,Nat.lt_of_lt_of_le hb g.size,hne,fun i v hv => by rw [zBB (g.block bl hne hb)]; exact ha i v hv⟩
theorem PsAt.lower {w:World}{B B2:Nat}{q:Option Addr}{l:List Pm}(h:PsAt w B q l)(hB:B2 ≤ B):PsAt w B2 q l:=by
 rcases h with h0 | ⟨bl,off,hp,hb,hne,ha⟩
 ·exact .inl h0
 ·exact .inr ⟨bl,off,hp,hb,Nat.le_trans hB hne,ha⟩
theorem PsAt.own {w:World}{B:Nat}{p:Option Addr}{n c:Nat}{l:List Pm}{T:TypeId}(h:w.ownsRow B T 4 (.slice p n c) l.length (l.flatMap pmCells)):n = l.length ∧ PsAt w B p l:=by
 rcases h.2 with ⟨hv,h0⟩ | ⟨g,cap,cur,hv,hb,hc,hn,hcap,hsize,htake⟩
 ·obtain rfl:=List.eq_nil_of_length_eq_zero h0
  injection hv with _ hn
  exact ⟨hn,.inl rfl⟩
 ·injection hv with hp hn' _
  refine ⟨hn',.inr ⟨g,0,hp,zA hc,hb,fun i v hv => ?_⟩⟩
  have:=World.ownsRow.cells ⟨h.1,.inr ⟨g,cap,cur,rfl,hb,hc,hn,hcap,hsize,htake⟩⟩ (g:=g) rfl i v hv
  have hadd:(⟨g,0,none⟩:Addr).add i = ⟨g,i,none⟩:=by unfold Addr.add; split <;> simp_all
  rw [hadd] at this
  rw [Nat.zero_add]
  exact this
theorem PmSt.start {w wr:World}{R:Nat}{S:Value}{ts:List RT}{s s0:Cs}{B:Nat}(h0:Cg w R S ts s0)(h:Cg wr R S ts s)(hg:Gr R w wr)(h1:w.heap.size ≤ B)(h2:B ≤ wr.heap.size):PmSt w R S ts B (.slice none 0 0) [] s wr:=
 ⟨h,hg,h1,h2,World.ownsRow_nil _ _ _ _,s0,h0⟩
theorem zMZ {ts:List RT}{g:Nat}{l:List Pm}{s:Cs}{x:List Pm × Cs}(h:Pg.parLoop ts (g + 1) l s = some x)(hv:sees ts s 4 [44] = false):x = (l,s):=by
 rw [Pg.parLoop,if_neg (by rw [hv]; simp)] at h
 exact (Option.some.inj h).symm
theorem zK3 {ts:List RT}{g:Nat}{l:List Pm}{s:Cs}{x:List Pm × Cs}(h:Pg.parLoop ts (g + 1) l s = some x)(hv:sees ts s 4 [44] = true):Pg.parLoop ts g (Pg.oneMore ts l 6 (next s)).1 (Pg.oneMore ts l 6 (next s)).2 = some x:=by
 rw [Pg.parLoop,if_pos hv] at h
 exact h
theorem zNx {ts:List RT}{g:Nat}{l:List Pm}{s:Cs}{x:List Pm × Cs}(h:Pg.fieldLoop ts (g + 1) l s = some x)(hv:¬ (peek ts s).kind = 1):x = (l,s):=by
 rw [Pg.fieldLoop,if_neg hv] at h
 exact (Option.some.inj h).symm
theorem zNb {ts:List RT}{g:Nat}{l:List Pm}{s:Cs}{x:List Pm × Cs}(h:Pg.fieldLoop ts (g + 1) l s = some x)(hv:(peek ts s).kind = 1):Pg.fieldLoop ts g (Pg.oneMore ts l 8 s).1 (Pg.sg ts (Pg.oneMore ts l 8 s).2 [59]) = some x:=by
 rw [Pg.fieldLoop,if_pos hv] at h
 exact h
theorem zBY (ts:List RT)(l:List Pm)(m:Int)(s:Cs):(Pg.oneMore ts l m s).1.length = l.length + 1:=by simp [Pg.oneMore]
def PlPost (w:World)(R:Nat)(S:Value)(ts:List RT)(x:List Pm × Cs)(e:Ending)(w':World):Prop:=
 ∃ (p:Option Addr) (c:Nat),e = .returned (.slice p x.1.length c) ∧ PsAt w' w.heap.size p x.1 ∧ Cu w' R 43 S [] ts x.2 ∧ Gr R w w'
theorem zDm (w:World)(R:Nat)(S:Value)(ts:List RT)(s:Cs)(h:Cg w R S ts s)(g:Nat)(hg:g ≤ 900000000)(x:List Pm × Cs)(hx:Pg.params ts g s = some x) :
 Calls Tryz.prog 65 #[.pointer (some ⟨R,0,none⟩)] w (PlPost w R S ts x):=by
 obtain ⟨l3,s3,h3,rfl⟩:∃ l3 s3,Pg.parLoop ts g (Pg.parFirst ts (Pg.sg ts s [40])).1 (Pg.parFirst ts (Pg.sg ts s [40])).2 = some (l3,s3) ∧ x = (l3,Pg.sg ts s3 [41]):=by
  unfold Pg.params at hx
  split at hx
  ·cases hx
  ·rename_i l s2 hl
   exact ⟨l,s2,hl,(Option.some.inj hx).symm⟩
 obtain ⟨s1,hs1⟩:∃ s1,Pg.sg ts s [40] = s1:=⟨_,rfl⟩
 rw [hs1] at h3
 have HS1:=vH hs1
 have H3:=vH h3
 have HH:=vH h
 have HG9:=vH hg
 have hlt:=h.lt
 clear h hx hs1 h3 hg
 cases hv:sees ts s1 4 [41] with
 | true =>
   have HV:=vH hv
   have hpf:Pg.parFirst ts s1 = ([],s1):=if_pos hv
   have H4:=H3.out
   rw [hpf] at H4
   replace H3:=vH H4
   clear H4 hpf hv
   go_in
   go_wp2_with fail
   refine (zJ _ R _ S _ ts s HH.out.cu ⟨#[40]⟩).mono ?_
   rw [show (sign ts s [40]).2 = s1 from HS1.out]
   rintro e w1 ⟨rfl,hc,hg⟩
   have G:=vH (PmSt.start HH.out (HH.out.gr hg hc) hg (Nat.le_refl _) hg.size)
   clear hc hg
   go_wp2_with fail
   refine (zG _ R _ S _ ts s1 G.out.cg.cu ⟨#[41]⟩).mono ?_
   rw [show sees ts s1 4 [41] = true from HV.out]
   rintro e w2 ⟨rfl,hb⟩
   replace G:=vH (G.out.go hb)
   clear hb
   go_wp2_with fail
   go_loopg [3] g (fun n v wr => ∃ l s4,PmSt w R S ts w.heap.size v l s4 wr ∧ Pg.parLoop ts n l s4 = some (l3,s3) ∧ l.length + n ≤ 1000000000)
   case atStart => exact ⟨_,_,G.out,H3.out,by have:=HG9.out; (try rw [zBY]); simp; omega⟩
   case round =>
    obtain ⟨l,s4,ha,h3,hbd⟩:=hrel
    have GA:=vH ha
    have H4:=vH h3
    have HBD:=vH hbd
    clear ha h3 hbd G H3
    cases gk with
    | zero => exact absurd H4.out (by rw [Pg.parLoop]; simp)
    | succ m =>
      go_wp2_with fail
      refine (zG _ R _ S _ ts s4 GA.out.cg.cu ⟨#[44]⟩).mono ?_
      rintro e w5 ⟨rfl,hb⟩
      replace GA:=vH (GA.out.go hb)
      clear hb
      cases hv:sees ts s4 4 [44] with
      | false =>
        obtain ⟨rfl,rfl⟩:=Prod.mk.inj (zMZ H4.out hv)
        try rw [hv]
        clear hv
        go_wp2_with fail
        refine (zJ _ R _ S _ ts _ GA.out.cg.cu ⟨#[41]⟩).mono ?_
        rintro e w7 ⟨rfl,hc,hg⟩
        replace GA:=vH (GA.out.step hc hg)
        clear hc hg
        go_wp2_with fail
        obtain ⟨p,c,hpv⟩:=zAi GA.out.own
        have hown:=GA.out.own
        rw [hpv] at hown
        exact bodyPost_ret (v:=u3) (by simp [results,Tryz.results65,go_sem]) rfl ⟨p,c,by rw [hpv],(PsAt.own hown).2,GA.out.cg.cu,GA.out.gr⟩
      | true =>
        have H5:=vH (zK3 H4.out hv)
        try rw [hv]
        clear hv H4
        go_wp2_with fail
        refine (zL _ R _ S _ ts s4 GA.out.cg.cu).mono ?_
        rintro e w6 ⟨rfl,hc,hg⟩
        replace GA:=vH (GA.out.step hc hg)
        clear hc hg
        go_wp2_with fail
        refine (zBm w _ R S ts _ _ l (next s4) GA.out (by have:=HBD.out; omega) 6).mono ?_
        rintro e w8 ⟨v8,rfl,hG,-⟩
        replace GA:=vH hG
        clear hG
        go_wp2_with fail
        go_roundg m
        case measure => omega
        case rel => exact ⟨_,_,GA.out,H5.out,by rw [zBY]; have:=HBD.out; omega⟩
 | false =>
   have HV:=vH hv
   have hpf:Pg.parFirst ts s1 = Pg.oneMore ts [] 6 s1:=if_neg (by rw [hv]; decide)
   have H4:=H3.out
   rw [hpf] at H4
   replace H3:=vH H4
   clear H4 hpf hv
   go_in
   go_wp2_with fail
   refine (zJ _ R _ S _ ts s HH.out.cu ⟨#[40]⟩).mono ?_
   rw [show (sign ts s [40]).2 = s1 from HS1.out]
   rintro e w1 ⟨rfl,hc,hg⟩
   have G:=vH (PmSt.start HH.out (HH.out.gr hg hc) hg (Nat.le_refl _) hg.size)
   clear hc hg
   go_wp2_with fail
   refine (zG _ R _ S _ ts s1 G.out.cg.cu ⟨#[41]⟩).mono ?_
   rw [show sees ts s1 4 [41] = false from HV.out]
   rintro e w2 ⟨rfl,hb⟩
   replace G:=vH (G.out.go hb)
   clear hb
   go_wp2_with fail
   refine (zBm w _ R S ts _ _ [] s1 G.out (Nat.zero_le _) 6).mono ?_
   rintro e w3 ⟨v3,rfl,hG,-⟩
   replace G:=vH hG
   clear hG
   go_wp2_with fail
   go_loopg [3] g (fun n v wr => ∃ l s4,PmSt w R S ts w.heap.size v l s4 wr ∧ Pg.parLoop ts n l s4 = some (l3,s3) ∧ l.length + n ≤ 1000000000)
   case atStart => exact ⟨_,_,G.out,H3.out,by have:=HG9.out; (try rw [zBY]); simp; omega⟩
   case round =>
    obtain ⟨l,s4,ha,h3,hbd⟩:=hrel
    have GA:=vH ha
    have H4:=vH h3
    have HBD:=vH hbd
    clear ha h3 hbd G H3
    cases gk with
    | zero => exact absurd H4.out (by rw [Pg.parLoop]; simp)
    | succ m =>
      go_wp2_with fail
      refine (zG _ R _ S _ ts s4 GA.out.cg.cu ⟨#[44]⟩).mono ?_
      rintro e w5 ⟨rfl,hb⟩
      replace GA:=vH (GA.out.go hb)
      clear hb
      cases hv:sees ts s4 4 [44] with
      | false =>
        obtain ⟨rfl,rfl⟩:=Prod.mk.inj (zMZ H4.out hv)
        try rw [hv]
        clear hv
        go_wp2_with fail
        refine (zJ _ R _ S _ ts _ GA.out.cg.cu ⟨#[41]⟩).mono ?_
        rintro e w7 ⟨rfl,hc,hg⟩
        replace GA:=vH (GA.out.step hc hg)
        clear hc hg
        go_wp2_with fail
        obtain ⟨p,c,hpv⟩:=zAi GA.out.own
        have hown:=GA.out.own
        rw [hpv] at hown
        exact bodyPost_ret (v:=u3) (by simp [results,Tryz.results65,go_sem]) rfl ⟨p,c,by rw [hpv],(PsAt.own hown).2,GA.out.cg.cu,GA.out.gr⟩
      | true =>
        have H5:=vH (zK3 H4.out hv)
        try rw [hv]
        clear hv H4
        go_wp2_with fail
        refine (zL _ R _ S _ ts s4 GA.out.cg.cu).mono ?_
        rintro e w6 ⟨rfl,hc,hg⟩
        replace GA:=vH (GA.out.step hc hg)
        clear hc hg
        go_wp2_with fail
        refine (zBm w _ R S ts _ _ l (next s4) GA.out (by have:=HBD.out; omega) 6).mono ?_
        rintro e w8 ⟨v8,rfl,hG,-⟩
        replace GA:=vH hG
        clear hG
        go_wp2_with fail
        go_roundg m
        case measure => omega
        case rel => exact ⟨_,_,GA.out,H5.out,by rw [zBY]; have:=HBD.out; omega⟩
theorem zHy (w:World)(R:Nat)(S:Value)(ts:List RT)(s:Cs)(h:Cg w R S ts s) :
 Calls Tryz.prog 40 #[.pointer (some ⟨R,0,none⟩)] w fun e w' => e = .returned (pmW (Pg.global ts s).1) ∧ Cu w' R 43 S [] ts (Pg.global ts s).2 ∧ Gr R w w':=by
 obtain ⟨d,s1,hD⟩:∃ d s1,Pg.declared ts (next s) = (d,s1):=⟨_,_,rfl⟩
 have hx:Pg.global ts s = (d,Pg.sg ts s1 [59]):=by simp only [Pg.global,hD]
 rw [hx]
 have HD:=vH hD
 have hlt:=h.lt
 have G:=vH ((Fr.og h).alloc (.cells #[.string ⟨#[]⟩,.string ⟨#[]⟩,.int .i64 0,.int .i64 0] 61))
 clear h hx hD
 obtain ⟨nm,on,dm,a⟩:=d
 go_in
 go_wp2_with fail
 refine (zL _ R _ S _ ts s G.out.cg.cu).mono ?_
 rintro e u1 ⟨rfl,hc,hg⟩
 replace G:=vH (G.out.cuG hc hg)
 clear hc hg
 go_wp2_with fail
 refine (zBA _ R S ts _ G.out.cg).mono ?_
 rw [HD.out]
 rintro e u2 ⟨rfl,hc,hg⟩
 replace G:=vH (G.out.cuG hc hg)
 clear hc hg
 unfold pmW
 go_wp2_with fail
 replace G:=vH (G.out.alloc (.cells #[.string (cbs nm),.string (cbs on),.int .i64 dm,.int .i64 a] 61))
 have hnd:=G.out.below1
 have hne:=Ne.symm hnd
 dsimp only at hnd hne
 refine (zJ _ R _ S _ ts s1 G.out.cg.cu ⟨#[59]⟩).mono ?_
 rintro e u3 ⟨rfl,hc,hg⟩
 replace G:=vH (G.out.cuG hc hg)
 clear hc hg
 have hk:=G.out.keep _ vA
 obtain ⟨⟨d0,d1,d2,d3⟩,p0,p1,p2,p3⟩:=quad hk.1
 have hld:=zA hk.1
 clear hk
 have hk:=G.out.keep _ vB
 obtain ⟨⟨a0,a1,a2,a3⟩,q0,q1,q2,q3⟩:=quad hk.1
 have hla:=zA hk.1
 clear hk
 go_wp2_with fail
 replace G:=vH (G.out.put4 1 rfl (c0:=.string (cbs nm)) (c1:=.string (cbs on)) (c2:=.int .i64 dm) (c3:=.int .i64 a))
 exact bodyPost_ret (v:=.agg #[.string (cbs nm),.string (cbs on),.int .i64 dm,.int .i64 a]) (by simp [results,Tryz.results40,go_sem,a0,a1,a2,a3]) rfl ⟨rfl,G.out.cg.cu,G.out.gr⟩
theorem tri {w1:World}{B:Nat}{T:TypeId}{c0 c1 c2:Value}(h:w1.heap[B]? = some (.cells #[c0,c1,c2] T (0,0))) :
 (w1.cell? ⟨B,0,none⟩ = some c0 ∧ w1.cell? ⟨B,1,none⟩ = some c1 ∧ w1.cell? ⟨B,2,none⟩ = some c2) ∧
 w1.frozen? ⟨B,0,none⟩ = false ∧ w1.frozen? ⟨B,1,none⟩ = false ∧ w1.frozen? ⟨B,2,none⟩ = false:=by
 refine ⟨⟨?_,?_,?_⟩,?_,?_,?_⟩ <;> first | exact frozen_of_row _ _ _ _ _ h | (rw [cell_of_row _ _ _ _ _ _ h]; rfl)
theorem sept {w1:World}{B:Nat}{T:TypeId}{c0 c1 c2 c3 c4 c5 c6:Value}(h:w1.heap[B]? = some (.cells #[c0,c1,c2,c3,c4,c5,c6] T (0,0))) :
 (w1.cell? ⟨B,0,none⟩ = some c0 ∧ w1.cell? ⟨B,1,none⟩ = some c1 ∧ w1.cell? ⟨B,2,none⟩ = some c2 ∧ w1.cell? ⟨B,3,none⟩ = some c3 ∧ w1.cell? ⟨B,4,none⟩ = some c4 ∧ w1.cell? ⟨B,5,none⟩ = some c5 ∧ w1.cell? ⟨B,6,none⟩ = some c6) ∧
 w1.frozen? ⟨B,0,none⟩ = false ∧ w1.frozen? ⟨B,1,none⟩ = false ∧ w1.frozen? ⟨B,2,none⟩ = false ∧ w1.frozen? ⟨B,3,none⟩ = false ∧ w1.frozen? ⟨B,4,none⟩ = false ∧ w1.frozen? ⟨B,5,none⟩ = false ∧ w1.frozen? ⟨B,6,none⟩ = false:=by
 refine ⟨⟨?_,?_,?_,?_,?_,?_,?_⟩,?_,?_,?_,?_,?_,?_,?_⟩ <;> first | exact frozen_of_row _ _ _ _ _ h | (rw [cell_of_row _ _ _ _ _ _ h]; rfl)
theorem Fr.put3 {σ:Type}{w wr:World}{R:Nat}{K : σ → World → Prop}{s : σ}{L:List (Nat × Obj)}{T:List (Nat × World)}{b:Nat}{Ty:TypeId}{c0 c1 c2 x0 x1 x2:Value}(h:Fr w R K s L T wr)(i:Nat)(hi:L[i]? = some (b,.cells #[x0,x1,x2] Ty (0,0))) :
 Fr w R K s (L.set i (b,.cells #[c0,c1,c2] Ty (0,0))) T (((wr.setCell ⟨b,0,none⟩ c0).setCell ⟨b,1,none⟩ c1).setCell ⟨b,2,none⟩ c2):=by
 have h0:=h.put1 i hi 0 c0 (A2:=#[c0,x1,x2]) rfl
 have h1:=h0.put1 i (zAf hi _) 1 c1 (A2:=#[c0,c1,x2]) rfl
 rw [List.set_set] at h1
 have h2:=h1.put1 i (zAf hi _) 2 c2 (A2:=#[c0,c1,c2]) rfl
 rw [List.set_set] at h2
 exact h2
theorem Fr.put7 {σ:Type}{w wr:World}{R:Nat}{K : σ → World → Prop}{s : σ}{L:List (Nat × Obj)}{T:List (Nat × World)}{b:Nat}{Ty:TypeId}{c0 c1 c2 c3 c4 c5 c6 x0 x1 x2 x3 x4 x5 x6:Value}(h:Fr w R K s L T wr)(i:Nat)(hi:L[i]? = some (b,.cells #[x0,x1,x2,x3,x4,x5,x6] Ty (0,0))) :
 Fr w R K s (L.set i (b,.cells #[c0,c1,c2,c3,c4,c5,c6] Ty (0,0))) T (((((((wr.setCell ⟨b,0,none⟩ c0).setCell ⟨b,1,none⟩ c1).setCell ⟨b,2,none⟩ c2).setCell ⟨b,3,none⟩ c3).setCell ⟨b,4,none⟩ c4).setCell ⟨b,5,none⟩ c5).setCell ⟨b,6,none⟩ c6):=by
 have h0:=h.put1 i hi 0 c0 (A2:=#[c0,x1,x2,x3,x4,x5,x6]) rfl
 have h1:=h0.put1 i (zAf hi _) 1 c1 (A2:=#[c0,c1,x2,x3,x4,x5,x6]) rfl
 rw [List.set_set] at h1
 have h2:=h1.put1 i (zAf hi _) 2 c2 (A2:=#[c0,c1,c2,x3,x4,x5,x6]) rfl
 rw [List.set_set] at h2
 have h3:=h2.put1 i (zAf hi _) 3 c3 (A2:=#[c0,c1,c2,c3,x4,x5,x6]) rfl
 rw [List.set_set] at h3
 have h4:=h3.put1 i (zAf hi _) 4 c4 (A2:=#[c0,c1,c2,c3,c4,x5,x6]) rfl
 rw [List.set_set] at h4
 have h5:=h4.put1 i (zAf hi _) 5 c5 (A2:=#[c0,c1,c2,c3,c4,c5,x6]) rfl
 rw [List.set_set] at h5
 have h6:=h5.put1 i (zAf hi _) 6 c6 (A2:=#[c0,c1,c2,c3,c4,c5,c6]) rfl
 rw [List.set_set] at h6
 exact h6
def RIs (w:World)(B:Nat)(x:Rc)(vs:List Value):Prop:=∃ p c,vs = [.string (cbs x.name),.slice p x.fields.length c,.int .i64 x.at_] ∧ PsAt w B p x.fields
def FIs (w:World)(B:Nat)(x:Fc)(vs:List Value):Prop:=
 ∃ p c q d,vs = [.string (cbs x.name),.slice p x.params.length c,.bool x.has,.string (cbs x.rn),.int .i64 x.rd,.slice q x.body.length d,.int .i64 x.at_] ∧ PsAt w B p x.params ∧ SsAt w B q x.body
def RcPost (w:World)(R:Nat)(S:Value)(ts:List RT)(x:Rc × Cs)(e:Ending)(w':World):Prop:=
 ∃ v0 p n c a,e = .returned (.agg #[.string v0,.slice p n c,.int .i64 a]) ∧ RIs w' w.heap.size x.1 [.string v0,.slice p n c,.int .i64 a] ∧ Cu w' R 43 S [] ts x.2 ∧ Gr R w w'
def FcPost (w:World)(R:Nat)(S:Value)(ts:List RT)(x:Fc × Cs)(e:Ending)(w':World):Prop:=
 ∃ v0 p n c b v3 r q m d a,e = .returned (.agg #[.string v0,.slice p n c,.bool b,.string v3,.int .i64 r,.slice q m d,.int .i64 a]) ∧ FIs w' w.heap.size x.1 [.string v0,.slice p n c,.bool b,.string v3,.int .i64 r,.slice q m d,.int .i64 a] ∧ Cu w' R 43 S [] ts x.2 ∧ Gr R w w'
structure RecSt (w:World) (R:Nat) (S:Value) (ts:List RT) (B b:Nat) (nm:List UInt8) (a:Int) (v:Value) (l:List Pm) (s:Cs) (wr:World):Prop where
 pm:PmSt w R S ts B v l s wr
 row:wr.heap[b]? = some (.cells #[.string (cbs nm),v,.int .i64 a] 56 (0,0))
 res:wr.heap[w.heap.size]? = some (.cells #[.string ⟨#[]⟩,.slice none 0 0,.int .i64 0] 56 (0,0))
 lt1:w.heap.size < b
 lt2:b < B
section
variable {w wr w':World} {R B b:Nat} {S v v':Value} {ts:List RT} {nm:List UInt8} {a:Int} {l l':List Pm} {s s':Cs}
theorem RecSt.rlt (h:RecSt w R S ts B b nm a v l s wr):R < w.heap.size:=by obtain ⟨s0,h0⟩:=h.pm.h0; exact h0.lt
theorem RecSt.step (h:RecSt w R S ts B b nm a v l s wr)(hc:Cu w' R 43 S [] ts s')(hg:Gr R wr w'):RecSt w R S ts B b nm a v l s' w':=
 ⟨h.pm.step hc hg,hg.box h.row (by have:=h.rlt; have:=h.lt1; omega),hg.box h.res (by have:=h.rlt; omega),h.lt1,h.lt2⟩
theorem RecSt.go (h:RecSt w R S ts B b nm a v l s wr)(hb:Below wr.heap.size wr w'):RecSt w R S ts B b nm a v l s w':=h.step (h.pm.cg.go hb).cu (Gr.of hb)
theorem RecSt.store (h:RecSt w R S ts B b nm a v l s wr)(hp:PmSt w R S ts B v' l' s' w')(hg:Gb B R wr w'):RecSt w R S ts B b nm a v' l' s' (w'.setCell ⟨b,1,none⟩ v'):=by
 have hr:=h.rlt
 have h1:=h.lt1
 have h2:=h.lt2
 have hrow:=(hg.block b h2 (by omega)).trans h.row
 have hset:(w'.setCell ⟨b,1,none⟩ v').heap[b]? = some (.cells #[.string (cbs nm),v',.int .i64 a] 56 (0,0)):=by
  have:=Lib.heap_setCell_same hrow (i:=1) (v:=v')
  simpa using this
 have hk:∀ i,i ≠ b → (w'.setCell ⟨b,1,none⟩ v').heap[i]? = w'.heap[i]?:=fun i hi => Below.heap_setCell w' ⟨b,1,none⟩ v' i hi
 have hn:=(Nw.start hp.gr).set (p:=⟨b,1,none⟩) (by show w.heap.size ≤ b; omega) v'
 obtain ⟨s0,h0⟩:=hp.h0
 refine ⟨⟨h0.gr hn.gr (h0.cu.fin hp.cg.cu hn),hn.gr,hp.le,by rw [zI]; exact hp.leB,?_,s0,h0⟩,hset,?_,h1,h2⟩
 ·refine ⟨hp.own.1,?_⟩
  rcases hp.own.2 with h0 | ⟨g,cap,cur,hv,hb,hc,hr⟩
  ·exact .inl h0
  ·exact .inr ⟨g,cap,cur,hv,hb,(hk g (by omega)).trans hc,hr⟩
 ·rw [hk _ (by omega),hg.block _ (by omega) (by omega)]
  exact h.res
end
theorem zGZ (w:World)(R:Nat)(S:Value)(ts:List RT)(s:Cs)(h:Cg w R S ts s)(g:Nat)(hg:g ≤ 900000000)(x:Rc × Cs)(hx:Pg.record ts g s = some x) :
 Calls Tryz.prog 39 #[.pointer (some ⟨R,0,none⟩)] w (RcPost w R S ts x):=by
 obtain ⟨nm,s1,hN⟩:∃ nm s1,name ts (next s) = (nm,s1):=⟨_,_,rfl⟩
 obtain ⟨t,hT⟩:∃ t,peek ts (next s) = t:=⟨_,rfl⟩
 obtain ⟨l3,s3,h3,rfl⟩:∃ l3 s3,Pg.fieldLoop ts g [] (Pg.sg ts s1 [123]) = some (l3,s3) ∧ x = (⟨nm,l3,t.at_⟩,Pg.sg ts s3 [125]):=by
  unfold Pg.record at hx
  rw [hN,hT] at hx
  split at hx
  ·cases hx
  ·rename_i l s2 hl
   exact ⟨l,s2,hl,(Option.some.inj hx).symm⟩
 have HN:=vH hN
 have HT:=vH hT
 have H3:=vH h3
 have HH:=vH h
 have HG9:=vH hg
 have hlt:=h.lt
 have F0:=vH ((Fr.og h).alloc (.cells #[.string ⟨#[]⟩,.slice none 0 0,.int .i64 0] 56))
 have hfd:∀ w1:World,(Instr.field 52 (.agg #[.int .i64 t.kind,.string (cbs t.text),.int .i64 t.num,.int .i64 t.at_]) 3).run Tryz.prog w1 = .ok (.int .i64 t.at_) w1:=fun _ => by kernel_rfl
 have hfk:∀ (w1:World) (t:RT),(Instr.field 52 (.agg #[.int .i64 t.kind,.string (cbs t.text),.int .i64 t.num,.int .i64 t.at_]) 0).run Tryz.prog w1 = .ok (.int .i64 t.kind) w1:=fun _ _ => by kernel_rfl
 clear h hx hN hT h3 hg
 go_in
 go_wp2_with fail
 refine (zL _ R _ S _ ts s F0.out.cg.cu).mono ?_
 rintro e u ⟨rfl,hc,hg⟩
 have F:=vH (F0.out.cuG hc hg)
 clear hc hg F0
 go_wp2_with fail
 go_region_held3 (fun _ => True) (trivial) (first
  | (go_at_call 36; (with_reducible refine Calls.mono (zAG (w1:=u.drew) HT.out F.out.drew.cg) ?_); rintro e w3 ⟨rfl,hb⟩; have F1:=vH (F.out.drew.go hb); clear hb)
  | (go_at_call 36; (with_reducible refine Calls.mono (zAG (w1:=(u.alloc (.cells #[.string ⟨#[]⟩,.slice none 0 0,.int .i64 0] 56)).drew) HT.out (F.out.alloc (.cells #[.string ⟨#[]⟩,.slice none 0 0,.int .i64 0] 56)).drew.cg) ?_); rintro e w3 ⟨rfl,hb⟩; have FA:=vH ((F.out.alloc (.cells #[.string ⟨#[]⟩,.slice none 0 0,.int .i64 0] 56)).drew.go hb); clear hb)
  | (go_at_call 61; (with_reducible refine Calls.mono (zAP (w1:=w3) HN.out F1.out.cg) ?_); rintro e w4 ⟨rfl,hc,hg⟩; have F2:=vH (F1.out.cuG hc hg); clear hc hg)
  | (go_at_call 61; (with_reducible refine Calls.mono (zAP (w1:=w3) HN.out FA.out.cg) ?_); rintro e w4 ⟨rfl,hc,hg⟩; have FB:=vH (FA.out.cuG hc hg); clear hc hg; have hk:=FB.out.keep _ vA; obtain ⟨⟨d0,d1,d2⟩,p0,p1,p2⟩:=tri hk.1; have hld:=zA hk.1; have hmd:=hk.2; clear hk)
  | (go_at_call 61; (with_reducible refine Calls.mono (zAP (w1:=w3.alloc (.cells #[.string ⟨#[]⟩,.slice none 0 0,.int .i64 0] 56)) HN.out (F1.out.alloc (.cells #[.string ⟨#[]⟩,.slice none 0 0,.int .i64 0] 56)).cg) ?_); rintro e w4 ⟨rfl,hc,hg⟩; have FB:=vH ((F1.out.alloc (.cells #[.string ⟨#[]⟩,.slice none 0 0,.int .i64 0] 56)).cuG hc hg); clear hc hg; have hk:=FB.out.keep _ vA; obtain ⟨⟨d0,d1,d2⟩,p0,p1,p2⟩:=tri hk.1; have hld:=zA hk.1; have hmd:=hk.2; clear hk))
 all_goals (first
  | (obtain ⟨b,w5,hb5,hw5,f5⟩:∃ b w5,b = w4.heap.size ∧ w5 = w4.alloc (.cells #[.string (cbs nm),.slice none 0 0,.int .i64 t.at_] 56) ∧ Fr w R (CgK R S ts) s1 [(b,.cells #[.string (cbs nm),.slice none 0 0,.int .i64 t.at_] 56 (0,0)),(w.heap.size,.cells #[.string ⟨#[]⟩,.slice none 0 0,.int .i64 0] 56 (0,0))] [] w5:=⟨_,_,rfl,rfl,F2.out.alloc _⟩; rw [← hw5,← hb5]; have G:=vH f5; clear hb5 hw5 f5)
  | (obtain ⟨b,w5,hb5,hw5,f5⟩:∃ b w5,b = u.heap.size ∧ w5 = (((w4.setCell ⟨u.heap.size,0,none⟩ (.string (cbs nm))).setCell ⟨u.heap.size,1,none⟩ (.slice none 0 0)).setCell ⟨u.heap.size,2,none⟩ (.int .i64 t.at_)) ∧ Fr w R (CgK R S ts) s1 [(b,.cells #[.string (cbs nm),.slice none 0 0,.int .i64 t.at_] 56 (0,0)),(w.heap.size,.cells #[.string ⟨#[]⟩,.slice none 0 0,.int .i64 0] 56 (0,0))] [] w5:=⟨_,_,rfl,rfl,FB.out.put3 0 rfl⟩; rw [← hw5,← hb5]; have G:=vH f5; clear hb5 hw5 f5)
  | (obtain ⟨b,w5,hb5,hw5,f5⟩:∃ b w5,b = w3.heap.size ∧ w5 = (((w4.setCell ⟨w3.heap.size,0,none⟩ (.string (cbs nm))).setCell ⟨w3.heap.size,1,none⟩ (.slice none 0 0)).setCell ⟨w3.heap.size,2,none⟩ (.int .i64 t.at_)) ∧ Fr w R (CgK R S ts) s1 [(b,.cells #[.string (cbs nm),.slice none 0 0,.int .i64 t.at_] 56 (0,0)),(w.heap.size,.cells #[.string ⟨#[]⟩,.slice none 0 0,.int .i64 0] 56 (0,0))] [] w5:=⟨_,_,rfl,rfl,FB.out.put3 0 rfl⟩; rw [← hw5,← hb5]; have G:=vH f5; clear hb5 hw5 f5))
 all_goals
  have hnd:=G.out.below1
  have hne:=Ne.symm hnd
  have hbw:=(G.out.keep _ vA).2
  dsimp only at hnd hne hbw
  try clear d0 d1 d2 p0 p1 p2 hld hmd
  go_wp2_with fail
  refine (zJ _ R _ S _ ts s1 G.out.cg.cu ⟨#[123]⟩).mono ?_
  rintro e u1 ⟨rfl,hc,hg⟩
  replace G:=vH (G.out.cuG hc hg)
  clear hc hg
  have hZ:RecSt w R S ts u1.heap.size b nm t.at_ (.slice none 0 0) [] (sign ts s1 [123]).2 u1:=
   ⟨PmSt.start HH.out G.out.cg G.out.gr G.out.gr.size (Nat.le_refl _),(G.out.keep _ vA).1,(G.out.keep _ vB).1,by omega,zA (G.out.keep _ vA).1⟩
  have Z:=vH hZ
  obtain ⟨Bq,hBq⟩:∃ Bq,Bq = u1.heap.size:=⟨_,rfl⟩
  have Z2:=Z.out
  rw [← hBq] at Z2
  have Z:=vH Z2
  clear hZ Z2 hBq G
  go_wp2_with fail
  go_loopg [] g (fun n wr => ∃ v l s4,RecSt w R S ts Bq b nm t.at_ v l s4 wr ∧ Pg.fieldLoop ts n l s4 = some (l3,s3) ∧ l.length + n ≤ 1000000000)
  case atStart => exact ⟨_,_,_,Z.out,H3.out,by have:=HG9.out; simp; omega⟩
  case round =>
   obtain ⟨v,l,s4,ha,h3,hbd⟩:=hrel
   have GA:=vH ha
   have H4:=vH h3
   have HBD:=vH hbd
   clear ha h3 hbd Z H3
   cases gk with
   | zero => exact absurd H4.out (by rw [Pg.fieldLoop]; simp)
   | succ m =>
     obtain ⟨t4,hT4⟩:∃ t4,peek ts s4 = t4:=⟨_,rfl⟩
     have HT4:=vH hT4
     clear hT4
     have hft:=fun w1 => hfk w1 t4
     go_wp2_with fail
     refine (zAG HT4.out GA.out.pm.cg).mono ?_
     rintro e w5 ⟨rfl,hb⟩
     replace GA:=vH (GA.out.go hb)
     clear hb
     by_cases hv:(peek ts s4).kind = 1
     ·have H5:=vH (zNb H4.out hv)
      have hkb:(t4.kind == 1) = true:=by rw [HT4.out] at hv; simpa using hv
      obtain ⟨⟨d0,d1,d2⟩,p0,p1,p2⟩:=tri GA.out.row
      have hld:=zA GA.out.row
      clear hv H4
      go_wp2_with fail
      refine (zBm w _ R S ts _ _ l s4 GA.out.pm (by have:=HBD.out; omega) 8).mono ?_
      rintro e w8 ⟨v8,rfl,hG,hgb⟩
      have GB:=vH (GA.out.store hG hgb)
      have hrw:=(hgb.block b GA.out.lt2 (by have:=GA.out.rlt; have:=GA.out.lt1; omega)).trans GA.out.row
      clear d0 d1 d2 p0 p1 p2 hld
      obtain ⟨⟨d0,d1,d2⟩,p0,p1,p2⟩:=tri hrw
      have hld:=zA hrw
      obtain ⟨pq,cq,hpq⟩:=zAi hG.own
      subst hpq
      clear hG hgb hrw
      go_wp2_with fail
      refine (zJ _ R _ S _ ts _ GB.out.pm.cg.cu ⟨#[59]⟩).mono ?_
      rintro e w9 ⟨rfl,hc,hg⟩
      replace GB:=vH (GB.out.step hc hg)
      clear hc hg d0 d1 d2 p0 p1 p2 hld
      go_wp2_with fail
      go_roundg m
      case measure => omega
      case rel => exact ⟨_,_,_,GB.out,H5.out,by rw [zBY]; have:=HBD.out; omega⟩
     ·obtain ⟨rfl,rfl⟩:=Prod.mk.inj (zNx H4.out hv)
      have hkb:(t4.kind == 1) = false:=by rw [HT4.out] at hv; simpa using hv
      clear hv
      go_wp2_with fail
      refine (zJ _ R _ S _ ts _ GA.out.pm.cg.cu ⟨#[125]⟩).mono ?_
      rintro e w7 ⟨rfl,hc,hg⟩
      replace GA:=vH (GA.out.step hc hg)
      clear hc hg
      obtain ⟨p,c,hpv⟩:=zAi GA.out.pm.own
      subst hpv
      obtain ⟨⟨d0,d1,d2⟩,p0,p1,p2⟩:=tri GA.out.row
      have hld:=zA GA.out.row
      obtain ⟨⟨a0,a1,a2⟩,q0,q1,q2⟩:=tri GA.out.res
      have hla:=zA GA.out.res
      go_wp2_with fail
      have hn:=(((Nw.start GA.out.pm.gr).set (p:=⟨w.heap.size,0,none⟩) (Nat.le_refl _) (.string (cbs nm))).set (p:=⟨w.heap.size,1,none⟩) (Nat.le_refl _) (.slice p l3.length c)).set (p:=⟨w.heap.size,2,none⟩) (Nat.le_refl _) (.int .i64 t.at_)
      have hag:Ag Bq w7 (((w7.setCell ⟨w.heap.size,0,none⟩ (.string (cbs nm))).setCell ⟨w.heap.size,1,none⟩ (.slice p l3.length c)).setCell ⟨w.heap.size,2,none⟩ (.int .i64 t.at_)):=
       (((Ag.refl _ _).set (.inl (Nat.lt_trans GA.out.lt1 GA.out.lt2)) _).set (.inl (Nat.lt_trans GA.out.lt1 GA.out.lt2)) _).set (.inl (Nat.lt_trans GA.out.lt1 GA.out.lt2)) _
      exact bodyPost_ret (v:=.agg #[.string (cbs nm),.slice p l3.length c,.int .i64 t.at_]) (by simp [results,Tryz.results39,go_sem,a0,a1,a2]) rfl
       ⟨_,p,_,c,_,rfl,⟨p,c,rfl,((PsAt.own GA.out.pm.own).2.ag hag).lower GA.out.pm.le⟩,HH.out.cu.fin GA.out.pm.cg.cu hn,hn.gr⟩
end Go.Proofs.YtipmjjfknhblnaaGreatDoor
