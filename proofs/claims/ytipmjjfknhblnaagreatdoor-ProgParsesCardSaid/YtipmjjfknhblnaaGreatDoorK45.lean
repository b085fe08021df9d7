/-
  What the project's Parse answers of any text, in plain data;
-/
import Derived.Test.YtipmjjfknhblnaaGreatDoorK13
import Derived.Test.YtipmjjfknhblnaaGreatDoorK38
import Derived.Test.YtipmjjfknhblnaaGreatDoorK39
import Derived.Test.YtipmjjfknhblnaaGreatDoorK02
import Derived.Test.YtipmjjfknhblnaaGreatDoorK37
import Derived.Test.YtipmjjfknhblnaaGreatDoorK43
import Derived.Test.YtipmjjfknhblnaaGreatDoorK44
import Derived.Deep.RegionHeld3
set_option maxRecDepth 8000
set_option maxHeartbeats 8000000
namespace Go.Proofs.YtipmjjfknhblnaaGreatDoor
open Go.RowKit
open Px (RT tokAt)
open Pe
open Ps (Sm PX)
open Pg (BX Pm Rc Fc Gm)
theorem zLU {ts:List RT}(hl:ts.length ≤ 90000000){P:PX}(hP:Sim.IsP ts P):POk ts P:=by
 intro w R0 S k o h hops
 exact zIK w R0 S ts k o h hops (Sim.enough ts) (by unfold Sim.enough; omega) _ (hP k o)
def pxB (us:List Ln.Lx.Tk)(f:Nat):PX:=fun k o => (parse (us.map toRT) f k o).getD (Ex.zero,0,0,0)
def bxB (us:List Ln.Lx.Tk)(f:Nat):BX:=fun k => (Ps.parseB (us.map toRT) (pxB us f) f k 0).getD ([],0,0,0)
def fuelOf (us:List Ln.Lx.Tk):Nat:=10 * us.length + 20
theorem zBy (us:List Ln.Lx.Tk):Sim.enough (us.map toRT) = fuelOf us:=by unfold Sim.enough fuelOf; rw [List.length_map]
theorem zEI {us:List Ln.Lx.Tk}(hs:us.length ≤ 6001):Sim.IsP (us.map toRT) (pxB us (fuelOf us)):=by
 intro k o
 obtain ⟨x,h,-⟩:=Sim.parse_same (ts:=us.map toRT) (by rw [List.length_map]; omega) k o
 rw [h]
 rw [zBy] at h
 unfold pxB
 rw [h]
 rfl
theorem zGu {us:List Ln.Lx.Tk}(hs:us.length ≤ 6001):Sim.IsB (us.map toRT) (pxB us (fuelOf us)) (bxB us (fuelOf us)):=by
 intro k
 obtain ⟨x,h,-⟩:=Sim.block_same (ts:=us.map toRT) (by rw [List.length_map]; omega) (zEI hs) k 0
 rw [h]
 rw [zBy] at h
 unfold bxB
 rw [h]
 rfl
theorem zNh {us:List Ln.Lx.Tk}(hs:us.length ≤ 6001):BOk (us.map toRT) (bxB us (fuelOf us)):=by
 have hl:(us.map toRT).length ≤ 90000000:=by rw [List.length_map]; omega
 refine zDY (zLU hl (zEI hs)) (f:=fuelOf us) (by unfold fuelOf; omega) fun k => ?_
 have:=zGu hs k
 rw [zBy] at this
 exact this
def runOf (us:List Ln.Lx.Tk):Option (Gm × Int × Int):=Pg.run (us.map toRT) (bxB us (fuelOf us)) (fuelOf us)
theorem zGS {us:List Ln.Lx.Tk}(hs:us.length ≤ 6001):∃ x,runOf us = some x:=by
 obtain ⟨x,h,-⟩:=Sim.prog_same (ts:=us.map toRT) (by rw [List.length_map]; omega) (zEI hs) (zGu hs)
 rw [zBy] at h
 exact ⟨x,h⟩
def answer (l:List UInt8):Gm × Int × Int:=
 if (Ln.Lx.toks l).2.1 = 0 then (runOf (Ln.Lx.toks l).1).getD (Gm.zero,0,0) else (Gm.zero,((Ln.Lx.toks l).2.1:Nat),((Ln.Lx.toks l).2.2:Nat))
theorem zKd (s:ByteArray)(hs:s.size ≤ maxLen)(w:World)(he:EnvG w):Calls Tryz.prog 5 #[.string s] w (PaPost w (answer s.data.toList)):=by
 obtain ⟨us,E,K,h⟩:∃ us E K,Ln.Lx.toks s.data.toList = (us,E,K):=⟨_,_,_,rfl⟩
 have hl:=Ln.Lx.toks_len s.data.toList
 unfold answer
 rw [h] at hl ⊢
 dsimp only at hl ⊢
 by_cases hE:E = 0
 ·subst hE
  rw [if_pos rfl]
  obtain ⟨x,hx⟩:=zGS hl
  rw [hx]
  exact zKc s hs us K h w he _ (zNh hl) (fuelOf us) (by unfold fuelOf; omega) x hx
 ·rw [if_neg hE]
  exact zIJ s hs us E K h hE w he
def k5T:List UInt8:=[114,101,99,111,114,100,32,82,32,123,32,97,58,32,105,110,116,59,32,125,32,102,117,110,99,32,109,97,105,110,40,41,32,123,32,112,114,105,110,116,32,49,59,32,125,32,103,108,111,98,97,108,32,103,58,32,91,82,93,59]
def k5G:Gm:=⟨[⟨[82],[⟨[97],[105,110,116],0,11⟩],7⟩],[⟨[103],[82],1,53⟩],[⟨[109,97,105,110],[],false,[],0,[.mk 8 [] [] 0 [Ex.of 1 1 [] [] 0 [] 41] [] [] 35 0],26⟩]⟩
set_option maxRecDepth 100000 in
theorem zI2:answer k5T = (k5G,0,0):=by kernel_rfl
theorem zKv:sameG k5G k5G = true:=by kernel_rfl
theorem zKu:sameG k5G Gm.zero = false:=by kernel_rfl
theorem zK7:fitG k5G:=by
 refine ⟨by decide,by decide,by decide,fun x hx => ?_,fun x hx => ?_⟩
 ·simp only [k5G,List.mem_singleton] at hx
  subst hx
  show 1 ≤ 9000000000
  decide
 ·simp only [k5G,List.mem_singleton] at hx
  subst hx
  exact ⟨by show 0 ≤ 9000000000; decide,by show 1 ≤ 9000000000; decide,by kernel_rfl⟩
set_option maxHeartbeats 16000000 in
theorem zMy (w:World)(he:EnvG w) :
 Calls Tryz.prog 9 #[] w fun e w' => e = .returned (.bool true) ∧ Below w.heap.size w w':=by
 have hp:=zKd ⟨#[114,101,99,111,114,100,32,82,32,123,32,97,58,32,105,110,116,59,32,125,32,102,117,110,99,32,109,97,105,110,40,41,32,123,32,112,114,105,110,116,32,49,59,32,125,32,103,108,111,98,97,108,32,103,58,32,91,82,93,59]⟩ (by decide) w he
 rw [show answer (⟨#[114,101,99,111,114,100,32,82,32,123,32,97,58,32,105,110,116,59,32,125,32,102,117,110,99,32,109,97,105,110,40,41,32,123,32,112,114,105,110,116,32,49,59,32,125,32,103,108,111,98,97,108,32,103,58,32,91,82,93,59]⟩:ByteArray).data.toList = (k5G,0,0) from zI2] at hp
 have HP:=vH hp
 clear hp he
 go_in
 go_wp2_with fail
 refine HP.out.mono ?_
 rintro e w1 ⟨p1,n1,c1,p2,n2,c2,p4,n4,c4,rfl,hgi,hb1⟩
 obtain ⟨q1,d1,q2,d2,q4,d4,hv,hl1,hl2,hl4⟩:=id hgi
 have hv1:=(List.cons.inj hv).1
 have hv2:=(List.cons.inj (List.cons.inj hv).2).1
 have hv4:=(List.cons.inj (List.cons.inj (List.cons.inj hv).2).2).1
 injection hv1 with a1 a2 a3
 injection hv2 with a4 a5 a6
 injection hv4 with a7 a8 a9
 obtain rfl:n1 = 1:=a2
 obtain rfl:n2 = 1:=a5
 obtain rfl:n4 = 1:=a8
 subst a1 a3 a4 a6 a7 a9
 clear hv
 obtain ⟨b1,o1,vs1,rfl,hbl1,⟨rp,rc,rfl,-⟩,hc1⟩:=hl1.get (i:=0) rfl
 obtain ⟨b2,o2,vs2,rfl,hbl2,hi2,hc2⟩:=hl2.get (i:=0) rfl
 rw [PIs] at hi2
 subst hi2
 have hr:=hc1 2 _ (by decide) rfl
 have hg:=hc2 2 _ (by decide) rfl
 simp only [Nat.zero_mul,Nat.add_zero] at hr hg
 have HGI:=vH hgi
 have HB1:=vH hb1
 have hne1:b1 ≠ w1.heap.size:=Nat.ne_of_lt hbl1
 have hne2:b2 ≠ w1.heap.size:=Nat.ne_of_lt hbl2
 have hne3:b1 ≠ w1.heap.size + 1:=by omega
 have hne4:b2 ≠ w1.heap.size + 1:=by omega
 clear hgi hb1 hl1 hl2 hl4 hc1 hc2 HP
 go_wp2_with fail
 have hba:Below w1.heap.size w1 ((w1.alloc (.cells #[.slice (some ⟨b1,o1,none⟩) 1 c1,.slice (some ⟨b2,o2,none⟩) 1 c2,.slice p4 1 c4] 26)).alloc (.cells vF 29)):=((Below.refl _ _).alloc (Nat.le_refl _) _).alloc (by rw [zB]; omega) _
 have HG2:=vH (HGI.out.ag (Ag.below hba))
 have HB2:=vH (zC HB1.out hba HB1.out.size)
 have hk:=zE (.cells vF 29) (heap_alloc_new w1 (.cells #[.slice (some ⟨b1,o1,none⟩) 1 c1,.slice (some ⟨b2,o2,none⟩) 1 c2,.slice p4 1 c4] 26))
 have HK:=vH hk
 clear hk hba hr hg hne1 hne2 hne3 hne4 hbl1 hbl2
 have hs1:=zEv _ k5G k5G HG2.out HG2.out zK7
 rw [zKv] at hs1
 refine hs1.mono ?_
 rintro e w2 ⟨rfl,hb2⟩
 have HG3:=vH (HG2.out.ag (Ag.below hb2))
 have HB3:=vH (zC HB2.out hb2 HB2.out.size)
 obtain ⟨⟨x0,x1,x2⟩,-⟩:=tri ((hb2.block _ (zA HK.out)).trans HK.out)
 clear hb2 hs1
 go_wp2_with fail
 have hs2:=zEv _ k5G Gm.zero HG3.out (GIs.zero (B:=0)) zK7
 rw [zKu] at hs2
 refine hs2.mono ?_
 rintro e w3 ⟨rfl,hb3⟩
 go_wp2_with fail
 go_ret
 exact ⟨rfl,zC HB3.out hb3 HB3.out.size⟩
end Go.Proofs.YtipmjjfknhblnaaGreatDoor
namespace Go.Proofs.YtipmjjfknhblnaaGreatDoor
open Go.RowKit
open Px (RT tokAt)
open Ps (Sm PX)
open Pg (BX Pm Rc Fc Gm)
theorem zLJ (ts:List RT)(f:Nat)(hf:f ≤ 900000000)(he:Sim.enough ts ≤ 900000000):QBlOk ts (Qs.run ts (Sim.rx ts) f).2:=
 (zIs (zNp ts (Sim.enough ts) (by omega)) f (by omega)).2
theorem zMU (s:ByteArray)(hs:s.size ≤ maxLen)(w:World):Calls Tryz.prog 6 #[.string s] w (PaPost w (answer s.data.toList)):=by
 obtain ⟨us,E,K,h⟩:∃ us E K,Ln.Lx.toks s.data.toList = (us,E,K):=⟨_,_,_,rfl⟩
 have hl:=Ln.Lx.toks_len s.data.toList
 unfold answer
 rw [h] at hl ⊢
 dsimp only at hl ⊢
 by_cases hE:E = 0
 ·subst hE
  rw [if_pos rfl]
  obtain ⟨x,h1,h2⟩:=Sim.prog_same (ts:=us.map toRT) (by rw [List.length_map]; omega) (zEI hl) (zGu hl)
  have he:Sim.enough (us.map toRT) ≤ 900000000:=by rw [zBy]; unfold fuelOf; omega
  have h3:runOf us = some x:=by rw [zBy] at h1; exact h1
  rw [h3]
  exact zJU s hs us K h w (us.map toRT) rfl _ (zLJ _ _ he he) _ he x h2
 ·rw [if_neg hE]
  exact zIt s hs us E K h hE w
open Qe (Q)
open Pe (Ex)
mutual
theorem zGP:∀ e:Ex,sameE e e = true
 | .mk k n s o d ks a b r e f => by
   rw [sameE,zCd ks]
   simp
theorem zCd:∀ es:List Ex,sameL es es = true
 | [] => by rw [sameL]
 | e :: es => by rw [sameL,zGP e,zCd es]; rfl
end
mutual
theorem zGN:∀ x:Sm,sameM x x = true
 | .mk k n o d es bs ls a r => by
   rw [sameM,zCd,zAT bs,zAT ls]
   simp
theorem zAT:∀ xs:List Sm,sameML xs xs = true
 | [] => by rw [sameML]
 | x :: xs => by rw [sameML,zGN x,zAT xs]; rfl
end
theorem zAu {α:Type}{f : α → α → Bool}(h:∀ x,f x x = true):∀ l,sameLs f l l = true
 | [] => by rw [sameLs]
 | x :: xs => by rw [sameLs,h,zAu h xs]; rfl
theorem zBF (x:Pm):sameP x x = true:=by simp [sameP]
theorem zB1 {ts:List RT}:∀ (g:Nat){l:List Pm}{q:Q}{x:List Pm × Q},Qg.fieldLoop ts g l q = some x → x.1.length ≤ l.length + g
 | 0,_,_,_,h => by cases h
 | g + 1,l,q,x,h => by
   rw [Qg.fieldLoop] at h
   split at h
   ·split at h
    ·obtain rfl:=Option.some.inj h
     show l.length ≤ _
     omega
    ·have:=zB1 g h
     rw [List.length_append,List.length_singleton] at this
     omega
   ·obtain rfl:=Option.some.inj h
    show l.length ≤ _
    omega
theorem zC9 {ts:List RT}:∀ (g:Nat){l:List Pm}{q:Q}{x:List Pm × Q},Qg.parLoop ts g l q = some x → x.1.length ≤ l.length + g
 | 0,_,_,_,h => by cases h
 | g + 1,l,q,x,h => by
   rw [Qg.parLoop] at h
   split at h
   ·split at h
    ·obtain rfl:=Option.some.inj h
     show l.length ≤ _
     omega
    ·have:=zC9 g h
     rw [List.length_append,List.length_singleton] at this
     omega
   ·obtain rfl:=Option.some.inj h
    show l.length ≤ _
    omega
theorem zHC {ts:List RT}{g:Nat}(hg:g ≤ 9000000000){q:Q}{x:Rc × Q}(h:Qg.record ts g q = some x):fitR x.1:=by
 unfold Qg.record at h
 split at h
 ·cases h
 ·rename_i l q2 hl
  obtain rfl:=Option.some.inj h
  have:=zB1 g hl
  show l.length ≤ _
  dsimp only at this
  rw [List.length_nil] at this
  omega
theorem zE1 {ts:List RT}{recB:Q → Qs.OutB}(hb:Sim.FB recB){g:Nat}(hg:g ≤ 9000000000){q:Q}{x:Fc × Q}(h:Qg.function ts recB g q = some x):fitF x.1:=by
 unfold Qg.function at h
 split at h
 ·cases h
 ·rename_i l q2 hl
  dsimp only at h
  split at h
  ·cases h
  ·rename_i b q3 hbl
   obtain rfl:=Option.some.inj h
   have:=zC9 g hl
   have h2:=hb _ _ hbl
   dsimp only at this
   rw [List.length_nil] at this
   exact ⟨by show l.length ≤ _; omega,h2.2,h2.1⟩
def fitN (n:Nat)(p:Gm):Prop:=p.recs.length ≤ n ∧ p.globals.length ≤ n ∧ p.funcs.length ≤ n ∧ (∀ x ∈ p.recs,fitR x) ∧ ∀ x ∈ p.funcs,fitF x
theorem zGd {α:Type}{P : α → Prop}{l:List α}{y : α}(h:∀ x ∈ l,P x)(hy:P y):∀ x ∈ l ++ [y],P x:=by
 intro x hx
 rcases List.mem_append.1 hx with h1 | h1
 ·exact h x h1
 ·rw [List.mem_singleton.1 h1]
  exact hy
theorem zBI {ts:List RT}{recB:Q → Qs.OutB}(hb:Sim.FB recB):∀ (g:Nat),g ≤ 9000000000 → ∀ (n:Nat){p:Gm}{q:Q}{x:Gm × Q},fitN n p → Qg.loop ts recB g p q = some x → fitN (n + g) x.1
 | 0,_,_,_,_,_,_,h => by cases h
 | g + 1,hg,n,p,q,x,hp,h => by
   have up:∀ {p2:Gm},fitN (n + 1 + g) p2 → fitN (n + (g + 1)) p2:=fun h => by rw [show n + (g + 1) = n + 1 + g by omega]; exact h
   have hp1:fitN (n + 1) p:=⟨by have:=hp.1; omega,by have:=hp.2.1; omega,by have:=hp.2.2.1; omega,hp.2.2.2.1,hp.2.2.2.2⟩
   rw [Qg.loop] at h
   split at h
   ·split at h
    ·exact up (zBI hb g (by omega) (n + 1) hp1 h)
    ·split at h
     ·split at h
      ·cases h
      ·rename_i y q2 hy
       refine up (zBI hb g (by omega) (n + 1) (p:=p.addR y) ⟨?_,hp1.2.1,hp1.2.2.1,zGd hp.2.2.2.1 (zHC (by omega) hy),hp.2.2.2.2⟩ h)
       show (p.recs ++ [y]).length ≤ _
       rw [List.length_append,List.length_singleton]
       have:=hp.1
       omega
     ·split at h
      ·refine up (zBI hb g (by omega) (n + 1) (p:=p.addG _) ⟨hp1.1,?_,hp1.2.2.1,hp.2.2.2.1,hp.2.2.2.2⟩ h)
       show (p.globals ++ [_]).length ≤ _
       rw [List.length_append,List.length_singleton]
       have:=hp.2.1
       omega
      ·split at h
       ·split at h
        ·cases h
        ·rename_i y q2 hy
         refine up (zBI hb g (by omega) (n + 1) (p:=p.addF y) ⟨hp1.1,hp1.2.1,?_,hp.2.2.2.1,zGd hp.2.2.2.2 (zE1 hb (by omega) hy)⟩ h)
         show (p.funcs ++ [y]).length ≤ _
         rw [List.length_append,List.length_singleton]
         have:=hp.2.2.1
         omega
       ·exact up (zBI hb g (by omega) (n + 1) hp1 h)
   ·obtain rfl:=Option.some.inj h
    exact ⟨Nat.le_trans hp.1 (by omega),Nat.le_trans hp.2.1 (by omega),Nat.le_trans hp.2.2.1 (by omega),hp.2.2.2.1,hp.2.2.2.2⟩
theorem zE2:fitG Gm.zero:=⟨by show 0 ≤ _; omega,by show 0 ≤ _; omega,by show 0 ≤ _; omega,(fun x h => by cases h),(fun x h => by cases h)⟩
theorem zMB (l:List UInt8):fitG (answer l).1:=by
 have hl:=Ln.Lx.toks_len l
 unfold answer
 generalize Ln.Lx.toks l = t at hl ⊢
 obtain ⟨us,E,K⟩:=t
 dsimp only at hl ⊢
 split
 ·obtain ⟨x,h1,h2⟩:=Sim.prog_same (ts:=us.map toRT) (by rw [List.length_map]; omega) (zEI hl) (zGu hl)
  have h3:runOf us = some x:=by rw [zBy] at h1; exact h1
  rw [h3]
  show fitG x.1
  unfold Qg.run at h2
  split at h2
  ·cases h2
  ·rename_i p q hp
   obtain rfl:=Option.some.inj h2
   have hfu:Sim.enough (us.map toRT) ≤ 900000000:=by rw [zBy]; unfold fuelOf; omega
   have hlt:(us.map toRT).length ≤ 800000000:=by rw [List.length_map]; omega
   have hz:fitN 0 Gm.zero:=⟨by show 0 ≤ _; omega,by show 0 ≤ _; omega,by show 0 ≤ _; omega,(fun x h => by cases h),(fun x h => by cases h)⟩
   have:=zBI (Sim.fit_runs (Sim.fit_rx hlt) _ (by omega)).2 _ (by omega) 0 hz hp
   unfold Qg.pgEnd
   split
   ·exact ⟨by have:=this.1; dsimp only at *; omega,by have:=this.2.1; dsimp only at *; omega,by have:=this.2.2.1; dsimp only at *; omega,this.2.2.2.1,this.2.2.2.2⟩
   ·exact zE2
 ·exact zE2
end Go.Proofs.YtipmjjfknhblnaaGreatDoor
namespace Go.Proofs.YtipmjjfknhblnaaGreatDoor
open Go.RowKit
open Pe
open Ps (Sm PX)
open Pg (BX Pm Rc Fc Gm)
theorem zCz (a:List UInt8):((cbs a).toList != (cbs a).toList) = false:=bne_self_eq_false _
theorem zFX (a:List UInt8)(d:Int)(w:World):(binOp .neq 59 (.agg #[.string (cbs a),.int .i64 d]) (.agg #[.string (cbs a),.int .i64 d])).run Tryz.prog w = .ok (.bool false) w:=by
 rw [zK4]
 simp
theorem zA8 (w:World)(ks:List Pm)(p q:Option Addr)(c d:Nat)(hp:LAt PIs 4 w 0 p ks)(hq:LAt PIs 4 w 0 q ks)(hl:ks.length ≤ 9223372036854775807) :
 Calls Tryz.prog 24 #[.slice p ks.length c,.slice q ks.length d] w fun e w' => e = .returned (.bool true) ∧ Below w.heap.size w w':=by
 have:=zDi w ks ks p q c d hp hq hl
 rwa [zAu zBF] at this
theorem zDP (w:World)(ks:List Sm)(p q:Option Addr)(c d:Nat)(hp:SsAt w 0 p ks)(hq:SsAt w 0 q ks)(hl:ks.length ≤ 9000000000)(hf:fitML ks = true) :
 Calls Tryz.prog 25 #[.slice p ks.length c,.slice q ks.length d] w fun e w' => e = .returned (.bool true) ∧ Below w.heap.size w w':=by
 have:=zBk w ks ks p q c d hp hq (by omega) (fun e he e2 => zF5 _ e e2 (Nat.le_refl _) (zAX hf he) _)
 rwa [zAT] at this
theorem zMx (w:World)(x:Gm){vs vs2:List Value}{B B2:Nat}(hx:GIs w B x vs)(hy:GIs w B2 x vs2)(hf:fitG x) :
 Calls Tryz.prog 7 #[.agg ⟨vs⟩,.agg ⟨vs2⟩] w fun e w' => e = .returned (.bool true) ∧ Below w.heap.size w w':=by
 obtain ⟨p,c,p2,c2,p3,c3,rfl,hp,hp2,hp3⟩:=hx.lower (Nat.zero_le _)
 obtain ⟨q,d,q2,d2,q3,d3,rfl,hq,hq2,hq3⟩:=hy.lower (Nat.zero_le _)
 obtain ⟨hf1,hf2,hf3,hf4,hf5⟩:=hf
 obtain ⟨xr,xg,xf⟩:=x
 dsimp only at hf1 hf2 hf3 hf4 hf5 hp hp2 hp3 hq hq2 hq3 ⊢
 obtain ⟨wa,hwa⟩:∃ wa,wa = (w.alloc (.cells #[.slice p xr.length c,.slice p2 xg.length c2,.slice p3 xf.length c3] 26)).alloc (.cells #[.slice q xr.length d,.slice q2 xg.length d2,.slice q3 xf.length d3] 26):=⟨_,rfl⟩
 have hbb:Below w.heap.size w wa:=by rw [hwa]; exact zA6 (zA6 (Below.refl _ _))
 have HBB:=vH hbb
 have HK2:=vH (zA8 wa xg p2 q2 c2 d2 (LAt.ag (w:=w) (w1:=wa) (fun _ _ h => h) hp2 (Ag.below hbb)) (LAt.ag (w:=w) (w1:=wa) (fun _ _ h => h) hq2 (Ag.below hbb)) (by omega))
 have HX:=vH (show wa.heap[w.heap.size]? = some (.cells #[.slice p xr.length c,.slice p2 xg.length c2,.slice p3 xf.length c3] 26 (0,0)) by rw [hwa]; exact zE _ (heap_alloc_new w _))
 have HY:=vH (show wa.heap[w.heap.size + 1]? = some (.cells #[.slice q xr.length d,.slice q2 xg.length d2,.slice q3 xf.length d3] 26 (0,0)) by rw [hwa]; have:=heap_alloc_new (w.alloc (.cells #[.slice p xr.length c,.slice p2 xg.length c2,.slice p3 xf.length c3] 26)) (.cells #[.slice q xr.length d,.slice q2 xg.length d2,.slice q3 xf.length d3] 26); rw [zB] at this; exact this)
 have HF1:=vH hf1
 have HF3:=vH hf3
 have HE1:=vH hf4
 have HE3:=vH hf5
 have HP1:=vH hp
 have HQ1:=vH hq
 have HP3:=vH hp3
 have HQ3:=vH hq3
 show Calls Tryz.prog _ #[.agg #[.slice p xr.length c,.slice p2 xg.length c2,.slice p3 xf.length c3],.agg #[.slice q xr.length d,.slice q2 xg.length d2,.slice q3 xf.length d3]] w fun e w' => e = .returned (.bool true) ∧ Below w.heap.size w w'
 obtain ⟨⟨x0,x1,x2⟩,-⟩:=tri HX.out
 obtain ⟨⟨y0,y1,y2⟩,-⟩:=tri HY.out
 have hnb:w.heap.size ≠ w.heap.size + 1:=by omega
 have hnb2:=Ne.symm hnb
 clear hx hy hp hp2 hp3 hq hq2 hq3 hf1 hf2 hf3 hf4 hf5 hbb
 have hlb1:((xr.length:Int) != (xr.length:Int)) = false:=bne_self_eq_false _
 have hlb3:((xf.length:Int) != (xf.length:Int)) = false:=bne_self_eq_false _
 go_in
 go_upto_region 1 with fail
 rw [← hwa]
 clear hwa
 obtain ⟨bY,hbY⟩:∃ bY,bY = w.heap.size + 1:=⟨_,rfl⟩
 rw [← hbY]
 rw [← hbY] at HY y0 y1 y2 hnb hnb2
 clear hbY
 go_wp2_with fail
 refine HK2.out.mono ?_
 rintro e w1 ⟨rfl,hb⟩
 have HB1:=vH hb
 clear hb x0 x1 x2 y0 y1 y2
 go_wp2_with fail
 go_loopg [5] xr.length (fun n v wr => ∃ j:Nat,n + j = xr.length ∧ v = .int .i64 (j:Int) ∧ Below wa.heap.size wa wr)
 case atStart => exact ⟨0,rfl,rfl,HB1.out⟩
 case round =>
  obtain ⟨j,hj,rfl,hb⟩:=hrel
  have HB:=vH hb
  have HJ:=vH hj
  clear hb hj
  have HXj:=vH ((HB.out.block _ (zA HX.out)).trans HX.out)
  have HYj:=vH ((HB.out.block _ (zA HY.out)).trans HY.out)
  obtain ⟨⟨x0,x1,x2⟩,-⟩:=tri HXj.out
  obtain ⟨⟨y0,y1,y2⟩,-⟩:=tri HYj.out
  cases gk with
  | zero =>
    obtain rfl:j = xr.length:=by have:=HJ.out; omega
    have hd1:decide ((xr.length:Int) < (xr.length:Int)) = false:=decide_eq_false (by omega)
    have HB2:=HB
    go_wp2_with fail
    clear x0 x1 x2 y0 y1 y2 HJ HXj HYj HB
    go_loopg [6] xf.length (fun n v wr => ∃ j:Nat,n + j = xf.length ∧ v = .int .i64 (j:Int) ∧ Below wa.heap.size wa wr)
    case atStart => exact ⟨0,rfl,rfl,HB2.out⟩
    case round =>
        obtain ⟨j,hj,rfl,hb⟩:=hrel
        have HB:=vH hb
        have HJ:=vH hj
        clear hb hj
        have HXj:=vH ((HB.out.block _ (zA HX.out)).trans HX.out)
        have HYj:=vH ((HB.out.block _ (zA HY.out)).trans HY.out)
        obtain ⟨⟨x0,x1,x2⟩,-⟩:=tri HXj.out
        obtain ⟨⟨y0,y1,y2⟩,-⟩:=tri HYj.out
        cases gk with
        | zero =>
          obtain rfl:j = xf.length:=by have:=HJ.out; omega
          have hd1:decide ((xf.length:Int) < (xf.length:Int)) = false:=decide_eq_false (by omega)
          go_wp2_with fail
          go_ret
          exact ⟨rfl,zC HBB.out HB.out HBB.out.size⟩
        | succ m =>
          have hjl:j < xf.length:=by have:=HJ.out; omega
          have hd1:decide ((j:Int) < (xf.length:Int)) = true:=decide_eq_true (by omega)
          have hi1:(j:Int) < (xf.length:Int):=by omega
          have hi3:(0:Int) ≤ (j:Int):=by omega
          have hd2:decide (xf.length ≤ j) = false:=decide_eq_false (by omega)
          have hdw:wrap64 ((j:Int) + 1) = ((j + 1:Nat):Int):=by have:=HF3.out; simp [wrap64]; omega
          have he1:=List.getElem?_eq_getElem hjl
          have hfe:=HE3.out _ (List.getElem_mem hjl)
          generalize xf[j] = e1 at he1 hfe
          have HBW:=vH (zC HBB.out HB.out HBB.out.size)
          obtain ⟨bl,off,vs,rfl,hbl,hi,hc⟩:=(LAt.ag (w:=w) (w1:=wr) (fun _ _ h => h.ag (Ag.below HBW.out)) HP3.out (Ag.below HBW.out)).get he1
          obtain ⟨bl2,off2,vs2,rfl,hbl2,hi',hc2⟩:=(LAt.ag (w:=w) (w1:=wr) (fun _ _ h => h.ag (Ag.below HBW.out)) HQ3.out (Ag.below HBW.out)).get he1
          clear he1
          obtain ⟨xs,xfs,xh,xo,xd,xbs,xa⟩:=e1
          obtain ⟨xp,xc,xq,xe,rfl,hxp,hxq⟩:=hi
          obtain ⟨yp,yc,yq,ye,rfl,hyp,hyq⟩:=hi'
          dsimp only at hxp hxq hyp hyq hc hc2
          have z0:=hc 0 _ (by decide) rfl
          have z1:=hc 1 _ (by decide) rfl
          have z2:=hc 2 _ (by decide) rfl
          have z3:=hc 3 _ (by decide) rfl
          have z4:=hc 4 _ (by decide) rfl
          have z5:=hc 5 _ (by decide) rfl
          have z6:=hc 6 _ (by decide) rfl
          have t0:=hc2 0 _ (by decide) rfl
          have t1:=hc2 1 _ (by decide) rfl
          have t2:=hc2 2 _ (by decide) rfl
          have t3:=hc2 3 _ (by decide) rfl
          have t4:=hc2 4 _ (by decide) rfl
          have t5:=hc2 5 _ (by decide) rfl
          have t6:=hc2 6 _ (by decide) rfl
          simp only [Nat.add_zero] at z0 t0
          obtain ⟨hg1,hg2,hg3⟩:=hfe
          dsimp only at hg1 hg2 hg3
          have HG1:=vH (show xfs.length ≤ 9223372036854775807 by omega)
          have HG2:=vH hg2
          have HG3:=vH hg3
          have HXP:=vH hxp
          have HYP:=vH hyp
          have HXQ:=vH hxq
          have HYQ:=vH hyq
          clear hc hc2 hg1 hg2 hg3 hxp hyp hxq hyq
          have hn1:bl ≠ wr.heap.size:=Nat.ne_of_lt hbl
          have hn2:bl2 ≠ wr.heap.size:=Nat.ne_of_lt hbl2
          have hn3:bl ≠ wr.heap.size + 1:=by omega
          have hn4:bl2 ≠ wr.heap.size + 1:=by omega
          have hk5:w.heap.size < wr.heap.size:=zA HXj.out
          have hk6:bY < wr.heap.size:=zA HYj.out
          have hn5:w.heap.size ≠ wr.heap.size:=by omega
          have hn6:bY ≠ wr.heap.size:=by omega
          have hn7:w.heap.size ≠ wr.heap.size + 1:=by omega
          have hn8:bY ≠ wr.heap.size + 1:=by omega
          have hm1:=Ne.symm hn1
          have hm2:=Ne.symm hn2
          have hm3:=Ne.symm hn3
          have hm4:=Ne.symm hn4
          have hm5:=Ne.symm hn5
          have hm6:=Ne.symm hn6
          have hm7:=Ne.symm hn7
          have hm8:=Ne.symm hn8
          go_wp2_with fail
          go_region
          all_goals clear z0 z1 z2 z3 z4 z5 z6 t0 t1 t2 t3 t4 t5 t6 hn1 hn2 hn3 hn4 hn5 hn6 hn7 hn8 hm1 hm2 hm3 hm4 hm5 hm6 hm7 hm8 hk5 hk6 x0 x1 x2 y0 y1 y2
          all_goals (first
           | (obtain ⟨b7,b8,wq,h7,h8,hq,hX7,hY8⟩:∃ b7 b8 wq,b7 = wr.heap.size ∧ b8 = wr.heap.size + 1 ∧ wq = ((wr.alloc (.cells #[.string (cbs xs),.slice xp xfs.length xc,.bool xh,.string (cbs xo),.int .i64 xd,.slice xq xbs.length xe,.int .i64 xa] 66)).alloc (.cells #[.string (cbs xs),.slice yp xfs.length yc,.bool xh,.string (cbs xo),.int .i64 xd,.slice yq xbs.length ye,.int .i64 xa] 66)).drew ∧ wq.heap[b7]? = some (.cells #[.string (cbs xs),.slice xp xfs.length xc,.bool xh,.string (cbs xo),.int .i64 xd,.slice xq xbs.length xe,.int .i64 xa] 66 (0,0)) ∧ wq.heap[b8]? = some (.cells #[.string (cbs xs),.slice yp xfs.length yc,.bool xh,.string (cbs xo),.int .i64 xd,.slice yq xbs.length ye,.int .i64 xa] 66 (0,0)):=⟨_,_,_,rfl,rfl,rfl,zE _ (heap_alloc_new wr _),(by have:=heap_alloc_new (wr.alloc (.cells #[.string (cbs xs),.slice xp xfs.length xc,.bool xh,.string (cbs xo),.int .i64 xd,.slice xq xbs.length xe,.int .i64 xa] 66)) (.cells #[.string (cbs xs),.slice yp xfs.length yc,.bool xh,.string (cbs xo),.int .i64 xd,.slice yq xbs.length ye,.int .i64 xa] 66); rw [zB] at this; exact this)⟩; have hbq:Below wr.heap.size wr wq:=(by rw [hq]; exact (zA6 (zA6 (Below.refl _ _))).drew); rw [← hq,← h8,← h7]; have HX7:=vH hX7; have HY8:=vH hY8; have HBQ:=vH hbq; have hne:b7 ≠ b8:=(by omega); clear h7 h8 hq hX7 hY8 hbq)
           | (obtain ⟨b8,b7,wq,h7,h8,hq,hX7,hY8⟩:∃ b8 b7 wq,b8 = wr.heap.size ∧ b7 = wr.heap.size + 1 ∧ wq = ((wr.alloc (.cells #[.string (cbs xs),.slice yp xfs.length yc,.bool xh,.string (cbs xo),.int .i64 xd,.slice yq xbs.length ye,.int .i64 xa] 66)).alloc (.cells #[.string (cbs xs),.slice xp xfs.length xc,.bool xh,.string (cbs xo),.int .i64 xd,.slice xq xbs.length xe,.int .i64 xa] 66)).drew ∧ wq.heap[b7]? = some (.cells #[.string (cbs xs),.slice xp xfs.length xc,.bool xh,.string (cbs xo),.int .i64 xd,.slice xq xbs.length xe,.int .i64 xa] 66 (0,0)) ∧ wq.heap[b8]? = some (.cells #[.string (cbs xs),.slice yp xfs.length yc,.bool xh,.string (cbs xo),.int .i64 xd,.slice yq xbs.length ye,.int .i64 xa] 66 (0,0)):=⟨_,_,_,rfl,rfl,rfl,(by have:=heap_alloc_new (wr.alloc (.cells #[.string (cbs xs),.slice yp xfs.length yc,.bool xh,.string (cbs xo),.int .i64 xd,.slice yq xbs.length ye,.int .i64 xa] 66)) (.cells #[.string (cbs xs),.slice xp xfs.length xc,.bool xh,.string (cbs xo),.int .i64 xd,.slice xq xbs.length xe,.int .i64 xa] 66); rw [zB] at this; exact this),zE _ (heap_alloc_new wr _)⟩; have hbq:Below wr.heap.size wr wq:=(by rw [hq]; exact (zA6 (zA6 (Below.refl _ _))).drew); rw [← hq,← h8,← h7]; have HX7:=vH hX7; have HY8:=vH hY8; have HBQ:=vH hbq; have hne:b7 ≠ b8:=(by omega); clear h7 h8 hq hX7 hY8 hbq))
          all_goals
           have hnr:=Ne.symm hne
           have HBR:=vH (zC HBW.out HBQ.out HBW.out.size)
           have HSP:=vH (zA8 wq xfs xp yp xc yc (HXP.out.ag (Ag.below HBQ.out)).lat (HYP.out.ag (Ag.below HBQ.out)).lat HG1.out)
           have hsy:=zCz xs
           have hN:=zFX xo xd
           have hxb:(xh != xh) = false:=bne_self_eq_false _
           obtain ⟨⟨x0,x1,x2,x3,x4,x5,x6⟩,-⟩:=sept HX7.out
           obtain ⟨⟨y0,y1,y2,y3,y4,y5,y6⟩,-⟩:=sept HY8.out
           go_wp2_with fail
           refine HSP.out.mono ?_
           rintro e w3 ⟨rfl,hb⟩
           have HBT:=vH (zC HBQ.out hb HBQ.out.size)
           have HX9:=vH ((hb.block _ (zA HX7.out)).trans HX7.out)
           have HY9:=vH ((hb.block _ (zA HY8.out)).trans HY8.out)
           clear hb x0 x1 x2 x3 x4 x5 x6 y0 y1 y2 y3 y4 y5 y6
           obtain ⟨⟨x0,x1,x2,x3,x4,x5,x6⟩,-⟩:=sept HX9.out
           obtain ⟨⟨y0,y1,y2,y3,y4,y5,y6⟩,-⟩:=sept HY9.out
           have HSS:=vH (zDP w3 xbs xq yq xe ye (SsAt.lower (HXQ.out.ag (Ag.below HBT.out)) (Nat.le_refl 0)) (SsAt.lower (HYQ.out.ag (Ag.below HBT.out)) (Nat.le_refl 0)) HG2.out HG3.out)
           go_wp2_with fail
           refine HSS.out.mono ?_
           rintro e w5 ⟨rfl,hb⟩
           have HBV:=vH (zC HBT.out hb HBT.out.size)
           clear hb
           go_wp2_with fail
           go_roundg m
           case measure => omega
           case rel => exact ⟨j + 1,by have:=HJ.out; omega,by first | rfl | simp [hdw],zC HB.out HBV.out HB.out.size⟩
  | succ m =>
    have hjl:j < xr.length:=by have:=HJ.out; omega
    have hd1:decide ((j:Int) < (xr.length:Int)) = true:=decide_eq_true (by omega)
    have hi1:(j:Int) < (xr.length:Int):=by omega
    have hi3:(0:Int) ≤ (j:Int):=by omega
    have hd2:decide (xr.length ≤ j) = false:=decide_eq_false (by omega)
    have hdw:wrap64 ((j:Int) + 1) = ((j + 1:Nat):Int):=by have:=HF1.out; simp [wrap64]; omega
    have he1:=List.getElem?_eq_getElem hjl
    have hfe:=HE1.out _ (List.getElem_mem hjl)
    generalize xr[j] = e1 at he1 hfe
    have HBW:=vH (zC HBB.out HB.out HBB.out.size)
    obtain ⟨bl,off,vs,rfl,hbl,hi,hc⟩:=(LAt.ag (w:=w) (w1:=wr) (fun _ _ h => h.ag (Ag.below HBW.out)) HP1.out (Ag.below HBW.out)).get he1
    obtain ⟨bl2,off2,vs2,rfl,hbl2,hi',hc2⟩:=(LAt.ag (w:=w) (w1:=wr) (fun _ _ h => h.ag (Ag.below HBW.out)) HQ1.out (Ag.below HBW.out)).get he1
    clear he1
    obtain ⟨xs,xfs,xa⟩:=e1
    obtain ⟨xp,xc,rfl,hxp⟩:=hi
    obtain ⟨yp,yc,rfl,hyp⟩:=hi'
    dsimp only at hxp hyp hc hc2
    have z0:=hc 0 _ (by decide) rfl
    have z1:=hc 1 _ (by decide) rfl
    have t0:=hc2 0 _ (by decide) rfl
    have t1:=hc2 1 _ (by decide) rfl
    simp only [Nat.add_zero] at z0 t0
    have hls:xfs.length ≤ 9223372036854775807:=Nat.le_trans hfe (by decide)
    have HSP:=vH (show ∀ w1:World,Below wr.heap.size wr w1 → Calls Tryz.prog 24 #[.slice xp xfs.length xc,.slice yp xfs.length yc] w1 (fun en w' => en = .returned (.bool true) ∧ Below w1.heap.size w1 w') from
        fun w1 hb => zA8 w1 xfs xp yp xc yc (hxp.ag (Ag.below hb)).lat (hyp.ag (Ag.below hb)).lat hls)
    have hsy:=zCz xs
    have HGO:=vH (show ∀ w':World,Below wr.heap.size wr w' → (w'.cell? ⟨w.heap.size,0,none⟩ = some (.slice (some ⟨bl,off,none⟩) xr.length c) ∧ w'.cell? ⟨bY,0,none⟩ = some (.slice (some ⟨bl2,off2,none⟩) xr.length d) ∧ w'.cell? ⟨bl,off + j * 3,none⟩ = some (.string (cbs xs)) ∧ w'.cell? ⟨bl,off + j * 3 + 1,none⟩ = some (.slice xp xfs.length xc) ∧ w'.cell? ⟨bl2,off2 + j * 3,none⟩ = some (.string (cbs xs)) ∧ w'.cell? ⟨bl2,off2 + j * 3 + 1,none⟩ = some (.slice yp xfs.length yc)) from
        fun w' hb => ⟨(hb.cell (p:=⟨w.heap.size,0,none⟩) (zA HXj.out)).trans x0,(hb.cell (p:=⟨bY,0,none⟩) (zA HYj.out)).trans y0,(hb.cell (p:=⟨bl,off + j * 3,none⟩) hbl).trans z0,(hb.cell (p:=⟨bl,off + j * 3 + 1,none⟩) hbl).trans z1,(hb.cell (p:=⟨bl2,off2 + j * 3,none⟩) hbl2).trans t0,(hb.cell (p:=⟨bl2,off2 + j * 3 + 1,none⟩) hbl2).trans t1⟩)
    have HB0:Hid (Below wr.heap.size wr wr.drew):=(Below.refl _ _).drew
    clear hxp hyp hc hc2 hls hfe
    go_wp2_with fail
    go_region_held3 (fun w' => w'.cell? ⟨w.heap.size,0,none⟩ = some (.slice (some ⟨bl,off,none⟩) xr.length c) ∧ w'.cell? ⟨bY,0,none⟩ = some (.slice (some ⟨bl2,off2,none⟩) xr.length d) ∧ w'.cell? ⟨bl,off + j * 3,none⟩ = some (.string (cbs xs)) ∧ w'.cell? ⟨bl,off + j * 3 + 1,none⟩ = some (.slice xp xfs.length xc) ∧ w'.cell? ⟨bl2,off2 + j * 3,none⟩ = some (.string (cbs xs)) ∧ w'.cell? ⟨bl2,off2 + j * 3 + 1,none⟩ = some (.slice yp xfs.length yc)) (first | exact HGO.out _ HB0.out | exact HGO.out _ HB1.out) (first
        | (go_at_call 24; (with_reducible refine Calls.mono (HSP.out _ HB0.out) ?_); rintro en w3 ⟨rfl,hb⟩; have HB1:=vH (zC HB0.out hb HB0.out.size); clear hb))
    go_wp2_with fail
    go_roundg m
    case measure => omega
    case rel => exact ⟨j + 1,by have:=HJ.out; omega,by first | rfl | simp [hdw],zC HB.out HB1.out HB.out.size⟩
end Go.Proofs.YtipmjjfknhblnaaGreatDoor
