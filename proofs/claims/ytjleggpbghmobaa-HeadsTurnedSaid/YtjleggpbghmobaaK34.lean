/-
  The project's Make.
-/
import Derived.Test.YtjleggpbghmobaaK01
import Derived.Test.YtjleggpbghmobaaK29
import Derived.Test.YtjleggpbghmobaaK25
import Derived.Test.YtjleggpbghmobaaK33
set_option maxRecDepth 8000
set_option maxHeartbeats 8000000
namespace Go.Proofs.Ytjleggpbghmobaa
open Go.RowKit
open Pg (Pm Rc Fc Gm)
open Hs (Nm TypH FldH ShpH SigH HdsH find refuse tyOf zAg zBe fdOf shOf sgOf resOf recNames flt fltPs fltRs fltFs fltFn fltMain hd make mainOf)
theorem zAy {a b:Option Int}(h:a.or b = none):b = none:=by cases a <;> simp_all
theorem zK2 {g:Gm}(h:flt g = none):hdX g = hd g:=by
 have h2:fltMain g.funcs = none:=zAy (zAy (zAy (zAy h)))
 unfold hdX hd
 rw [zF5 h2]
def MkPost (w:World)(x:HdsH × Int × Int)(e:Ending)(w':World):Prop:=
 ∃ p n c q m d r k f mn,e = .returned (.tuple #[.agg #[.slice p n c,.slice q m d,.slice r k f,.int .i64 mn],.agg #[.int .i64 x.2.1,.int .i64 x.2.2]]) ∧ HdIs w' w.heap.size x.1 [.slice p n c,.slice q m d,.slice r k f,.int .i64 mn] ∧ Below w.heap.size w w'
theorem zKG {R b:Nat}{w u w':World}(h:GrTw R b u w')(h0:Below w.heap.size w u)(hR:w.heap.size ≤ R)(hb:w.heap.size ≤ b):Below w.heap.size w w':=zJD h0 h hR hb
theorem zF2 (w:World)(g:Gm)(q1 q2 q3:Option Addr)(k1 k2 k3:Nat)(hg:GmIs w 0 g [.slice q1 g.recs.length k1,.slice q2 g.globals.length k2,.slice q3 g.funcs.length k3])(hs:GmSm g) :
 Calls Try.prog 10 #[.agg #[.slice q1 g.recs.length k1,.slice q2 g.globals.length k2,.slice q3 g.funcs.length k3]] w (MkPost w (make g)):=by
 have hmm:∀ (t:TypeId) (w:World),(Instr.makeMap t none).run Try.prog w = .ok (.map (some w.heap.size)) (w.alloc (.map #[] 0)):=fun _ _ => rfl
 obtain ⟨p,c,q,d,r,f,hv,h1,h2,h3⟩:=hg
 have hv1:=(List.cons.inj hv).1
 have hv2:=(List.cons.inj (List.cons.inj hv).2).1
 have hv3:=(List.cons.inj (List.cons.inj (List.cons.inj hv).2).2).1
 injection hv1 with e1 _ e4
 injection hv2 with e2 _ e5
 injection hv3 with e3 _ e6
 subst e1 e2 e3 e4 e5 e6
 clear hv
 have HPR:=vH (fun (u:World) (R M:Nat) (h0:Below w.heap.size w u) (hR0:w.heap.size ≤ R) (hM0:w.heap.size ≤ M) (hc:ChkM u R M none) (hm:NamM u M []) (hne:M ≠ R) => zDj w u R M g q1 q2 q3 k1 k2 k3 h0 hR0 hM0 h1 h2 h3 hc hm hne hs)
 clear h1 h2 h3 hs
 obtain ⟨u2,hu2⟩:∃ u2,u2 = ((w.alloc (.cells #[.slice q1 g.recs.length k1,.slice q2 g.globals.length k2,.slice q3 g.funcs.length k3] 26)).alloc (.cells #[.slice none 0 0,.slice none 0 0,.slice none 0 0,.int .i64 0] 36)).alloc (.cells #[.int .i64 (0),.int .i64 0] 29):=⟨_,rfl⟩
 obtain ⟨u4,hu4⟩:∃ u4,u4 = (u2.alloc (.map #[] 0)).alloc (.cells #[.map (some u2.heap.size),.int .i64 0,.int .i64 0] 86):=⟨_,rfl⟩
 have hb2:Below w.heap.size w u2:=by rw [hu2]; exact zC (zC (zC (Below.refl _ _)))
 have hs2:u2.heap.size = w.heap.size + 1 + 1 + 1:=by rw [hu2]; simp only [zB]
 have hb4:Below u2.heap.size u2 u4:=by rw [hu4]; exact zC (zC (Below.refl _ _))
 have hbx:u2.heap[w.heap.size]? = some (.cells #[.slice q1 g.recs.length k1,.slice q2 g.globals.length k2,.slice q3 g.funcs.length k3] 26 (0,0)):=by rw [hu2]; exact zD _ (zD _ (heap_alloc_new w _))
 have hrs:u2.heap[w.heap.size + 1]? = some (.cells #[.slice none 0 0,.slice none 0 0,.slice none 0 0,.int .i64 0] 36 (0,0)):=by rw [hu2]; refine zD _ ?_; have:=heap_alloc_new (w.alloc (.cells #[.slice q1 g.recs.length k1,.slice q2 g.globals.length k2,.slice q3 g.funcs.length k3] 26)) (.cells #[.slice none 0 0,.slice none 0 0,.slice none 0 0,.int .i64 0] 36); rw [zB] at this; exact this
 have hft:u2.heap[w.heap.size + 1 + 1]? = some (.cells #[.int .i64 (0),.int .i64 0] 29 (0,0)):=by rw [hu2]; have:=heap_alloc_new ((w.alloc (.cells #[.slice q1 g.recs.length k1,.slice q2 g.globals.length k2,.slice q3 g.funcs.length k3] 26)).alloc (.cells #[.slice none 0 0,.slice none 0 0,.slice none 0 0,.int .i64 0] 36)) (.cells #[.int .i64 (0),.int .i64 0] 29); rw [zB,zB] at this; exact this
 have hck:ChkM u4 (u2.heap.size + 1) u2.heap.size none:=by unfold ChkM; rw [hu4]; have:=heap_alloc_new (u2.alloc (.map #[] 0)) (.cells #[.map (some u2.heap.size),.int .i64 0,.int .i64 0] 86); rw [zB] at this; exact this
 have hnm:NamM u4 u2.heap.size []:=by rw [hu4]; exact (NamM.made u2).below (zC (Below.refl _ _))
 have HPX:=vH (HPR.out u4 (u2.heap.size + 1) u2.heap.size (zE hb2 hb4 hb2.size) (Nat.le_succ_of_le hb2.size) hb2.size hck hnm (Nat.ne_of_lt (Nat.lt_succ_self _)))
 have HB4:=vH (zE hb2 hb4 hb2.size)
 have HBX:=vH ((hb4.block _ (zA hbx)).trans hbx)
 have HRS:=vH ((hb4.block _ (zA hrs)).trans hrs)
 have HFT:=vH ((hb4.block _ (zA hft)).trans hft)
 have HB2:=vH hb2
 have HS2:=vH hs2
 have HSZ4:=vH (show u4.heap.size = u2.heap.size + 1 + 1 by rw [hu4]; simp only [zB])
 obtain ⟨⟨x0,x1,x2⟩,-⟩:=tri HBX.out
 clear hb2 hb4 hbx hrs hft hck hnm HPR
 obtain ⟨x,hx⟩:∃ x,make g = x:=⟨_,rfl⟩
 rw [hx]
 have HX:=vH hx
 clear hx
 go_in
 go_upto_region 1 with fail
 rw [← hu2]
 clear hu2 hs2
 go_upto_region 2 with fail
 rw [← hu4]
 clear hu4
 go_wp2_with fail
 refine HPX.out.mono ?_
 rintro e w5 ⟨p,n,c,q,m,d,r,k,f,mn,rfl,hh,hck,hgt⟩
 have hsz:=HS2.out
 have hsz4:=HSZ4.out
 have HB5:=vH (zKG hgt HB4.out (by omega) (by omega))
 obtain ⟨wz,hwz⟩:∃ wz,wz = w5.alloc (.cells #[.slice p n c,.slice q m d,.slice r k f,.int .i64 mn] 36):=⟨_,rfl⟩
 have hbz:Below w5.heap.size w5 wz:=by rw [hwz]; exact zC (Below.refl _ _)
 have HBZ:=vH (zE HB5.out hbz HB5.out.size)
 have hkr:∀ i,i < u2.heap.size → wz.heap[i]? = u4.heap[i]?:=fun i hi => (hbz.block i (by have:=hgt.size; omega)).trans (hgt.block i (by omega) (by omega) (by omega))
 have HRZ:=vH ((hkr _ (by omega)).trans HRS.out)
 have HFZ:=vH ((hkr _ (by omega)).trans HFT.out)
 have HHZ:=vH (hh.ag (Ag.below hbz))
 have HNW:=vH (show wz.heap[w5.heap.size]? = some (.cells #[.slice p n c,.slice q m d,.slice r k f,.int .i64 mn] 36 (0,0)) by rw [hwz]; exact heap_alloc_new w5 _)
 have HCK:=vH (hck.below hbz)
 have hck2:=HCK.out
 unfold ChkM at hck2
 have HSW:=vH (show u4.heap.size ≤ w5.heap.size from hgt.size)
 clear hbz hkr hh hck hgt HRS HFT HPX HBX x0 x1 x2
 obtain ⟨⟨c0,c1,c2⟩,-⟩:=tri hck2
 clear hck2
 obtain ⟨⟨n0,n1,n2,n3⟩,-⟩:=quad HNW.out
 obtain ⟨⟨r0,r1,r2,r3⟩,s0,s1,s2,s3⟩:=quad HRZ.out
 obtain ⟨⟨f0,f1⟩,t0,t1⟩:=duo HFZ.out
 have hlr:=zA HRZ.out
 have hlf:=zA HFZ.out
 have hne1:w.heap.size + 1 ≠ w.heap.size + 1 + 1:=by omega
 have hne2:=Ne.symm hne1
 have hne3:u2.heap.size + 1 ≠ w.heap.size + 1:=by omega
 have hne4:w5.heap.size ≠ w.heap.size + 1:=by have:=HSW.out; omega
 clear hsz hsz4
 cases hfl:flt g with
 | none =>
   obtain rfl:(hd g,(0:Int),(0:Int)) = x:=by rw [← HX.out]; unfold make; rw [hfl]
   rw [hfl] at c1 c2
   simp only [fE,fA,Option.isSome_none,Option.getD_none,Bool.false_eq_true,if_false] at c1 c2
   have HH:=vH (zK2 hfl)
   clear hfl
   go_upto_region 3 with fail
   rw [← hwz]
   clear hwz
   go_wp2_with fail
   exact bodyPost_ret (v:=.tuple #[.agg #[.slice p n c,.slice q m d,.slice r k f,.int .i64 mn],.agg #[.int .i64 (0),.int .i64 0]]) (by simp [results,Try.results10,go_sem,r0,r1,r2,r3,f0,f1]) rfl
    ⟨p,n,c,q,m,d,r,k,f,mn,rfl,by
        have hsz:=HS2.out
        have hsz4:=HSZ4.out
        have h1:=HHZ.out.ag (((((((Ag.refl u4.heap.size wz).set (p:=⟨w.heap.size + 1,0,none⟩) (.inl (by show w.heap.size + 1 < u4.heap.size; omega)) (.slice p n c)).set (p:=⟨w.heap.size + 1,1,none⟩) (.inl (by show w.heap.size + 1 < u4.heap.size; omega)) (.slice q m d)).set (p:=⟨w.heap.size + 1,2,none⟩) (.inl (by show w.heap.size + 1 < u4.heap.size; omega)) (.slice r k f)).set (p:=⟨w.heap.size + 1,3,none⟩) (.inl (by show w.heap.size + 1 < u4.heap.size; omega)) (.int .i64 mn)).set (p:=⟨w.heap.size + 1 + 1,0,none⟩) (.inl (by show w.heap.size + 1 + 1 < u4.heap.size; omega)) (.int .i64 (0))).set (p:=⟨w.heap.size + 1 + 1,1,none⟩) (.inl (by show w.heap.size + 1 + 1 < u4.heap.size; omega)) (.int .i64 (0)))
        rw [HH.out] at h1
        exact h1.lower (B2:=w.heap.size) (by omega),zJ (zJ (zJ (zJ (zJ (zJ HBZ.out (p:=⟨w.heap.size + 1,0,none⟩) (by show w.heap.size ≤ w.heap.size + 1; omega) _) (p:=⟨w.heap.size + 1,1,none⟩) (by show w.heap.size ≤ w.heap.size + 1; omega) _) (p:=⟨w.heap.size + 1,2,none⟩) (by show w.heap.size ≤ w.heap.size + 1; omega) _) (p:=⟨w.heap.size + 1,3,none⟩) (by show w.heap.size ≤ w.heap.size + 1; omega) _) (p:=⟨w.heap.size + 1 + 1,0,none⟩) (by show w.heap.size ≤ w.heap.size + 1 + 1; omega) _) (p:=⟨w.heap.size + 1 + 1,1,none⟩) (by show w.heap.size ≤ w.heap.size + 1 + 1; omega) _⟩
 | some a =>
   obtain rfl:(HdsH.zero,(3:Int),a) = x:=by rw [← HX.out]; unfold make; rw [hfl]
   rw [hfl] at c1 c2
   simp only [fE,fA,Option.isSome_some,Option.getD_some,if_true] at c1 c2
   clear hfl
   go_upto_region 3 with fail
   rw [← hwz]
   clear hwz
   go_wp2_with fail
   go_region
   all_goals
    go_wp2_with fail
    exact bodyPost_ret (v:=.tuple #[.agg #[.slice none 0 0,.slice none 0 0,.slice none 0 0,.int .i64 (0)],.agg #[.int .i64 3,.int .i64 a]]) (by simp [results,Try.results10,go_sem,r0,r1,r2,r3,f0,f1]) rfl
        ⟨none,0,0,none,0,0,none,0,0,0,rfl,HdIs.zero,zAc (zJ (zJ (zJ (zJ (zJ (zJ HBZ.out (p:=⟨w.heap.size + 1,0,none⟩) (by show w.heap.size ≤ w.heap.size + 1; omega) _) (p:=⟨w.heap.size + 1,1,none⟩) (by show w.heap.size ≤ w.heap.size + 1; omega) _) (p:=⟨w.heap.size + 1,2,none⟩) (by show w.heap.size ≤ w.heap.size + 1; omega) _) (p:=⟨w.heap.size + 1,3,none⟩) (by show w.heap.size ≤ w.heap.size + 1; omega) _) (p:=⟨w.heap.size + 1 + 1,0,none⟩) (by show w.heap.size ≤ w.heap.size + 1 + 1; omega) _) (p:=⟨w.heap.size + 1 + 1,1,none⟩) (by show w.heap.size ≤ w.heap.size + 1 + 1; omega) _)⟩
end Go.Proofs.Ytjleggpbghmobaa
namespace Go.Proofs.Ytjleggpbghmobaa
open Go.RowKit
open Px (RT tokAt)
open Ps (Sm PX)
open Pg (BX Pm Rc Fc Gm)
theorem zIa (ts:List RT)(f:Nat)(hf:f ≤ 900000000)(he:Sim.enough ts ≤ 900000000):QBlOk ts (Qs.run ts (Sim.rx ts) f).2:=
 (zFy (zKR ts (Sim.enough ts) (by omega)) f (by omega)).2
theorem zDh (s:ByteArray)(hs:s.size ≤ maxLen)(w:World):Calls Try.prog 9 #[.string s] w (PaPost w (answer s.data.toList)):=by
 obtain ⟨us,E,K,h⟩:∃ us E K,Ln.Lx.toks s.data.toList = (us,E,K):=⟨_,_,_,rfl⟩
 have hl:=Ln.Lx.toks_len s.data.toList
 unfold answer
 rw [h] at hl ⊢
 dsimp only at hl ⊢
 by_cases hE:E = 0
 ·subst hE
  rw [if_pos rfl]
  obtain ⟨x,h1,h2⟩:=Sim.prog_same (ts:=us.map toRT) (by rw [List.length_map]; omega) (zD6 hl) (zGw hl)
  have he:Sim.enough (us.map toRT) ≤ 900000000:=by rw [zBl]; unfold fuelOf; omega
  have h3:runOf us = some x:=by rw [zBl] at h1; exact h1
  rw [h3]
  exact zGO s hs us K h w (us.map toRT) rfl _ (zIa _ _ he he) _ he x h2
 ·rw [if_neg hE]
  exact zFz s hs us E K h hE w
open Sim (zEf zBa)
open Qe (Q)
open Pe (Ex)
theorem zBs {ts:List RT}:∀ (g:Nat){l:List Pm}{q:Q}{x:List Pm × Q},Qg.fieldLoop ts g l q = some x → x.1.length ≤ l.length + g
 | 0,_,_,_,h => by cases h
 | g + 1,l,q,x,h => by
   rw [Qg.fieldLoop] at h
   split at h
   ·split at h
    ·obtain rfl:=Option.some.inj h
     show l.length ≤ _
     omega
    ·have:=zBs g h
     rw [List.length_append,List.length_singleton] at this
     omega
   ·obtain rfl:=Option.some.inj h
    show l.length ≤ _
    omega
theorem zCj {ts:List RT}:∀ (g:Nat){l:List Pm}{q:Q}{x:List Pm × Q},Qg.parLoop ts g l q = some x → x.1.length ≤ l.length + g
 | 0,_,_,_,h => by cases h
 | g + 1,l,q,x,h => by
   rw [Qg.parLoop] at h
   split at h
   ·split at h
    ·obtain rfl:=Option.some.inj h
     show l.length ≤ _
     omega
    ·have:=zCj g h
     rw [List.length_append,List.length_singleton] at this
     omega
   ·obtain rfl:=Option.some.inj h
    show l.length ≤ _
    omega
theorem zE3 {ts:List RT}{g:Nat}(hg:g ≤ 9000000000){q:Q}{x:Rc × Q}(h:Qg.record ts g q = some x):fitR x.1:=by
 unfold Qg.record at h
 split at h
 ·cases h
 ·rename_i l q2 hl
  obtain rfl:=Option.some.inj h
  have:=zBs g hl
  show l.length ≤ _
  dsimp only at this
  rw [List.length_nil] at this
  omega
theorem zDt {ts:List RT}{recB:Q → Qs.OutB}(hb:Sim.FB recB){g:Nat}(hg:g ≤ 9000000000){q:Q}{x:Fc × Q}(h:Qg.function ts recB g q = some x):fitF x.1:=by
 unfold Qg.function at h
 split at h
 ·cases h
 ·rename_i l q2 hl
  dsimp only at h
  split at h
  ·cases h
  ·rename_i b q3 hbl
   obtain rfl:=Option.some.inj h
   have:=zCj g hl
   have h2:=hb _ _ hbl
   dsimp only at this
   rw [List.length_nil] at this
   exact ⟨by show l.length ≤ _; omega,h2.2,h2.1⟩
def fitN (n:Nat)(p:Gm):Prop:=p.recs.length ≤ n ∧ p.globals.length ≤ n ∧ p.funcs.length ≤ n ∧ (∀ x ∈ p.recs,fitR x) ∧ ∀ x ∈ p.funcs,fitF x
theorem zEa {α:Type}{P : α → Prop}{l:List α}{y : α}(h:∀ x ∈ l,P x)(hy:P y):∀ x ∈ l ++ [y],P x:=by
 intro x hx
 rcases List.mem_append.1 hx with h1 | h1
 ·exact h x h1
 ·rw [List.mem_singleton.1 h1]
  exact hy
theorem zBb {ts:List RT}{recB:Q → Qs.OutB}(hb:Sim.FB recB):∀ (g:Nat),g ≤ 9000000000 → ∀ (n:Nat){p:Gm}{q:Q}{x:Gm × Q},fitN n p → Qg.loop ts recB g p q = some x → fitN (n + g) x.1
 | 0,_,_,_,_,_,_,h => by cases h
 | g + 1,hg,n,p,q,x,hp,h => by
   have up:∀ {p2:Gm},fitN (n + 1 + g) p2 → fitN (n + (g + 1)) p2:=fun h => by rw [show n + (g + 1) = n + 1 + g by omega]; exact h
   have hp1:fitN (n + 1) p:=⟨by have:=hp.1; omega,by have:=hp.2.1; omega,by have:=hp.2.2.1; omega,hp.2.2.2.1,hp.2.2.2.2⟩
   rw [Qg.loop] at h
   split at h
   ·split at h
    ·exact up (zBb hb g (by omega) (n + 1) hp1 h)
    ·split at h
     ·split at h
      ·cases h
      ·rename_i y q2 hy
       refine up (zBb hb g (by omega) (n + 1) (p:=p.addR y) ⟨?_,hp1.2.1,hp1.2.2.1,zEa hp.2.2.2.1 (zE3 (by omega) hy),hp.2.2.2.2⟩ h)
       show (p.recs ++ [y]).length ≤ _
       rw [List.length_append,List.length_singleton]
       have:=hp.1
       omega
     ·split at h
      ·refine up (zBb hb g (by omega) (n + 1) (p:=p.addG _) ⟨hp1.1,?_,hp1.2.2.1,hp.2.2.2.1,hp.2.2.2.2⟩ h)
       show (p.globals ++ [_]).length ≤ _
       rw [List.length_append,List.length_singleton]
       have:=hp.2.1
       omega
      ·split at h
       ·split at h
        ·cases h
        ·rename_i y q2 hy
         refine up (zBb hb g (by omega) (n + 1) (p:=p.addF y) ⟨hp1.1,hp1.2.1,?_,hp.2.2.2.1,zEa hp.2.2.2.2 (zDt hb (by omega) hy)⟩ h)
         show (p.funcs ++ [y]).length ≤ _
         rw [List.length_append,List.length_singleton]
         have:=hp.2.2.1
         omega
       ·exact up (zBb hb g (by omega) (n + 1) hp1 h)
   ·obtain rfl:=Option.some.inj h
    exact ⟨Nat.le_trans hp.1 (by omega),Nat.le_trans hp.2.1 (by omega),Nat.le_trans hp.2.2.1 (by omega),hp.2.2.2.1,hp.2.2.2.2⟩
theorem zDu:fitG Gm.zero:=⟨by show 0 ≤ _; omega,by show 0 ≤ _; omega,by show 0 ≤ _; omega,(fun x h => by cases h),(fun x h => by cases h)⟩
theorem zE4 (l:List UInt8):fitG (answer l).1:=by
 have hl:=Ln.Lx.toks_len l
 unfold answer
 generalize Ln.Lx.toks l = t at hl ⊢
 obtain ⟨us,E,K⟩:=t
 dsimp only at hl ⊢
 split
 ·obtain ⟨x,h1,h2⟩:=Sim.prog_same (ts:=us.map toRT) (by rw [List.length_map]; omega) (zD6 hl) (zGw hl)
  have h3:runOf us = some x:=by rw [zBl] at h1; exact h1
  rw [h3]
  show fitG x.1
  unfold Qg.run at h2
  split at h2
  ·cases h2
  ·rename_i p q hp
   obtain rfl:=Option.some.inj h2
   have hfu:Sim.enough (us.map toRT) ≤ 900000000:=by rw [zBl]; unfold fuelOf; omega
   have hlt:(us.map toRT).length ≤ 800000000:=by rw [List.length_map]; omega
   have hz:fitN 0 Gm.zero:=⟨by show 0 ≤ _; omega,by show 0 ≤ _; omega,by show 0 ≤ _; omega,(fun x h => by cases h),(fun x h => by cases h)⟩
   have:=zBb (zBa (zEf hlt) _ (by omega)).2 _ (by omega) 0 hz hp
   unfold Qg.pgEnd
   split
   ·exact ⟨by have:=this.1; dsimp only at *; omega,by have:=this.2.1; dsimp only at *; omega,by have:=this.2.2.1; dsimp only at *; omega,this.2.2.2.1,this.2.2.2.2⟩
   ·exact zDu
 ·exact zDu
end Go.Proofs.Ytjleggpbghmobaa
namespace Go.Proofs.Ytjleggpbghmobaa
open Go.RowKit
open Px (RT tokAt)
open Pe
open Ps (Sm)
open Pg (BX Pm Rc Fc Gm)
def TxSm (ts:List RT):Prop:=∀ t ∈ ts,t.text.length ≤ 281474976710656
section
variable {ts:List RT}
theorem zGC (H:TxSm ts)(k:Int):(tokAt ts k).text.length ≤ 281474976710656:=by
 unfold tokAt
 split
 ·rw [List.getD_eq_getElem?_getD]
  cases h:ts[k.toNat]? with
  | none => exact Nat.zero_le _
  | some t => exact H t (List.mem_of_getElem? h)
 ·exact Nat.zero_le _
theorem zFO (H:TxSm ts)(s:Cs):(peek ts s).text.length ≤ 281474976710656:=by
 unfold peek
 split
 ·exact zGC H _
 ·exact Nat.zero_le _
theorem zCV (H:TxSm ts)(s:Cs):(Pe.name ts s).1.length ≤ 281474976710656:=zFO H _
theorem zIS (H:TxSm ts)(s:Cs):(Pe.base ts s).1.length ≤ 281474976710656:=by
 unfold Pe.base
 split
 ·exact zFO H _
 ·exact zCV H _
theorem zDF (H:TxSm ts)(s:Cs):(readType ts s).1.length ≤ 281474976710656:=zIS H _
theorem zHa (H:TxSm ts)(k:Int):(ofAns ts k).1.length ≤ 281474976710656:=by
 unfold ofAns ofEnd
 split
 ·exact zDF H _
 ·exact Nat.zero_le _
theorem zFt (H:TxSm ts)(s:Cs):(Pg.rdOf ts s).1.length ≤ 281474976710656:=by
 unfold Pg.rdOf
 split
 ·split
  ·exact zHa H _
  ·exact Nat.zero_le _
 ·exact Nat.zero_le _
theorem zCm (H:TxSm ts)(s:Cs):PmSm (Pg.declared ts s).1:=⟨zCV H _,zFt H _⟩
theorem zBD (H:TxSm ts){l:List Pm}(hl:∀ p ∈ l,PmSm p)(m:Int)(s:Cs):∀ p ∈ (Pg.oneMore ts l m s).1,PmSm p:=by
 intro p hp
 unfold Pg.oneMore at hp
 dsimp only at hp
 rcases List.mem_append.1 hp with h | h
 ·exact hl p h
 ·obtain rfl:=List.mem_singleton.1 h
  exact zCm H _
theorem zCy (H:TxSm ts):∀ (g:Nat){l:List Pm}{s:Cs}{x:List Pm × Cs},Pg.parLoop ts g l s = some x → (∀ p ∈ l,PmSm p) → ∀ p ∈ x.1,PmSm p
 | 0,_,_,_,h,_ => by cases h
 | g + 1,l,s,x,h,hl => by
   rw [Pg.parLoop] at h
   split at h
   ·exact zCy H g h (zBD H hl _ _)
   ·cases h; exact hl
theorem zBN (H:TxSm ts):∀ (g:Nat){l:List Pm}{s:Cs}{x:List Pm × Cs},Pg.fieldLoop ts g l s = some x → (∀ p ∈ l,PmSm p) → ∀ p ∈ x.1,PmSm p
 | 0,_,_,_,h,_ => by cases h
 | g + 1,l,s,x,h,hl => by
   rw [Pg.fieldLoop] at h
   split at h
   ·exact zBN H g h (zBD H hl _ _)
   ·cases h; exact hl
theorem zFQ (H:TxSm ts){g:Nat}{s:Cs}{x:List Pm × Cs}(h:Pg.params ts g s = some x):∀ p ∈ x.1,PmSm p:=by
 unfold Pg.params at h
 split at h
 ·cases h
 ·rename_i l s2 he
  cases h
  refine zCy (x:=(l,s2)) H g he ?_
  unfold Pg.parFirst
  split
  ·intro p hp; cases hp
  ·exact zBD H (fun p hp => by cases hp) _ _
def RcSm (r:Rc):Prop:=r.name.length ≤ 281474976710656 ∧ ∀ p ∈ r.fields,PmSm p
def FcSm (f:Fc):Prop:=f.name.length ≤ 281474976710656 ∧ f.rn.length ≤ 281474976710656 ∧ ∀ p ∈ f.params,PmSm p
structure NmSm (g:Gm):Prop where
 recs:∀ r ∈ g.recs,RcSm r
 globals:∀ p ∈ g.globals,PmSm p
 funcs:∀ f ∈ g.funcs,FcSm f
theorem zFs (H:TxSm ts){g:Nat}{s:Cs}{x:Rc × Cs}(h:Pg.record ts g s = some x):RcSm x.1:=by
 unfold Pg.record at h
 split at h
 ·cases h
 ·rename_i l s2 he
  cases h
  exact ⟨zCV H _,zBN (x:=(l,s2)) H g he (fun p hp => by cases hp)⟩
theorem zDY (H:TxSm ts){B:BX}{g:Nat}{s:Cs}{x:Fc × Cs}(h:Pg.function ts B g s = some x):FcSm x.1:=by
 unfold Pg.function at h
 split at h
 ·cases h
 ·rename_i ps s1 he
  cases h
  refine ⟨zCV H _,?_,zFQ H he⟩
  show (Pg.resultOf ts s1).2.1.length ≤ _
  unfold Pg.resultOf
  split
  ·exact zFt H _
  ·exact Nat.zero_le _
theorem zAZ (H:TxSm ts){B:BX}:∀ (g:Nat){p:Gm}{s:Cs}{x:Gm × Cs},Pg.loop ts B g p s = some x → NmSm p → NmSm x.1
 | 0,_,_,_,h,_ => by cases h
 | g + 1,p,s,x,h,hp => by
   rw [Pg.loop] at h
   split at h
   ·cases h; exact hp
   ·split at h
    ·split at h
     ·cases h
     ·rename_i y s2 he
      refine zAZ H g h ⟨fun r hr => ?_,hp.globals,hp.funcs⟩
      rcases List.mem_append.1 hr with h1 | h1
      ·exact hp.recs r h1
      ·obtain rfl:=List.mem_singleton.1 h1
       exact zFs H he
    ·split at h
     ·refine zAZ H g h ⟨hp.recs,fun r hr => ?_,hp.funcs⟩
      rcases List.mem_append.1 hr with h1 | h1
      ·exact hp.globals r h1
      ·obtain rfl:=List.mem_singleton.1 h1
       exact zCm H _
     ·split at h
      ·split at h
       ·cases h
       ·rename_i y s2 he
        refine zAZ H g h ⟨hp.recs,hp.globals,fun r hr => ?_⟩
        rcases List.mem_append.1 hr with h1 | h1
        ·exact hp.funcs r h1
        ·obtain rfl:=List.mem_singleton.1 h1
         exact zDY H he
      ·exact zAZ H g h hp
end
theorem zGz (l:List UInt8):NmSm (answer l).1:=by
 have hz:NmSm Gm.zero:=⟨fun r hr => (by cases hr),fun r hr => (by cases hr),fun r hr => (by cases hr)⟩
 have ht:=zC7 l
 unfold answer
 split
 ·unfold runOf Pg.run
  split
  ·exact hz
  ·rename_i p s he
   show NmSm (Pg.pgEnd p s).1
   unfold Pg.pgEnd
   split
   ·refine zAZ (fun t htm => ?_) _ he hz
    obtain ⟨u,hu,rfl⟩:=List.mem_map.1 htm
    exact ht u hu
   ·exact hz
 ·exact hz
theorem zDx (l:List UInt8):GmSm (answer l).1:=by
 have h1:=zGz l
 have h2:=zE4 l
 exact ⟨h2.1,h2.2.1,h2.2.2.1,fun r hr => ⟨(h1.recs r hr).1,h2.2.2.2.1 r hr,(h1.recs r hr).2⟩,h1.globals,fun f hf => ⟨(h1.funcs f hf).1,(h1.funcs f hf).2.1,(h2.2.2.2.2 f hf).1,(h1.funcs f hf).2.2⟩⟩
end Go.Proofs.Ytjleggpbghmobaa
namespace Go.Proofs.Ytjleggpbghmobaa
open Go.RowKit
open Pg (Pm Rc Fc Gm)
open Hs (Nm TypH FldH ShpH SigH HdsH make)
theorem zDo (w:World)(g:Gm)(p1 p2 p3:Option Addr)(n1 n2 n3 c1 c2 c3:Nat)(hg:GmIs w 0 g [.slice p1 n1 c1,.slice p2 n2 c2,.slice p3 n3 c3])(hs:GmSm g) :
 Calls Try.prog 10 #[.agg #[.slice p1 n1 c1,.slice p2 n2 c2,.slice p3 n3 c3]] w (MkPost w (make g)):=by
 obtain ⟨p,c,q,d,r,f,hv,h1,h2,h3⟩:=id hg
 have hv1:=(List.cons.inj hv).1
 have hv2:=(List.cons.inj (List.cons.inj hv).2).1
 have hv3:=(List.cons.inj (List.cons.inj (List.cons.inj hv).2).2).1
 injection hv1 with e1 e2 e3
 injection hv2 with e4 e5 e6
 injection hv3 with e7 e8 e9
 subst e1 e2 e3 e4 e5 e6 e7 e8 e9
 exact zF2 w g _ _ _ _ _ _ hg hs
def refT (t:TypH):Bool:=t.b == 3 || decide (0 < t.d)
theorem zBS (w:World)(a b c:Int) :
 Calls Try.prog 17 #[.agg #[.int .i64 a,.int .i64 b,.int .i64 c]] w fun e w' => e = .returned (.bool (refT ⟨a,b,c⟩)) ∧ Below w.heap.size w w':=by
 obtain ⟨x,hx⟩:∃ x,refT ⟨a,b,c⟩ = x:=⟨_,rfl⟩
 rw [hx]
 unfold refT at hx
 dsimp only at hx
 by_cases h1:a = 3
 ·have hb1:(a == 3) = true:=by simpa using h1
  have hxt:x = true:=by rw [← hx,hb1]; rfl
  subst hxt
  clear hx h1
  go_in
  go_wp2_with fail
  go_ret
  exact ⟨rfl,zC (Below.refl _ _)⟩
 ·have hb1:(a == 3) = false:=by simpa using h1
  rw [hb1,Bool.false_or] at hx
  clear h1
  go_in
  go_wp2_with fail
  go_ret
  exact ⟨by rw [← hx]; rfl,zC (Below.refl _ _)⟩
def k7T:List UInt8:=[114,101,99,111,114,100,32,65,32,123,32,97,58,32,65,59,32,98,58,32,105,110,116,59,32,125,32,103,108,111,98,97,108,32,103,58,32,91,98,111,111,108,93,59,32,102,117,110,99,32,109,97,105,110,40,41,32,123,32,125]
def k7H:HdsH:=⟨[⟨[65],[⟨[97],⟨3,0,0⟩⟩,⟨[98],⟨1,0,0⟩⟩]⟩],[⟨[103],⟨2,0,1⟩⟩],[⟨[109,97,105,110],[],false,⟨0,0,0⟩⟩],0⟩
set_option maxRecDepth 100000 in
theorem zIw:(answer k7T).2 = (0,0):=by kernel_rfl
set_option maxRecDepth 100000 in
theorem zIv:make (answer k7T).1 = (k7H,0,0):=by kernel_rfl
theorem zAt (w:World) :
 Calls Try.prog 13 #[] w fun e w' => e = .returned (.bool true) ∧ Below w.heap.size w w':=by
 have hq:=zDh ⟨#[114,101,99,111,114,100,32,65,32,123,32,97,58,32,65,59,32,98,58,32,105,110,116,59,32,125,32,103,108,111,98,97,108,32,103,58,32,91,98,111,111,108,93,59,32,102,117,110,99,32,109,97,105,110,40,41,32,123,32,125]⟩ (by decide) w
 rw [show (⟨#[114,101,99,111,114,100,32,65,32,123,32,97,58,32,65,59,32,98,58,32,105,110,116,59,32,125,32,103,108,111,98,97,108,32,103,58,32,91,98,111,111,108,93,59,32,102,117,110,99,32,109,97,105,110,40,41,32,123,32,125]⟩:ByteArray).data.toList = k7T from rfl] at hq
 have hf:=zIw
 have hmk:=zIv
 have hsm:=zDx k7T
 generalize answer k7T = y at hq hf hmk hsm
 obtain ⟨g,E,K⟩:=y
 dsimp only at hf hmk hsm
 injection hf with hE hK
 subst hE hK
 have hcm:=fun w2 p1 p2 p3 n1 n2 n3 c1 c2 c3 h => zDo w2 g p1 p2 p3 n1 n2 n3 c1 c2 c3 h hsm
 rw [hmk] at hcm
 have HQ:=vH hq
 have HCM:=vH hcm
 clear hq hcm hmk hsm
 go_in
 go_wp2_with fail
 refine HQ.out.mono ?_
 rintro e w1 ⟨p1,n1,c1,p2,n2,c2,p3,n3,c3,rfl,hgi,hb⟩
 have HG1:=vH (hgi.lower (Nat.zero_le _)).gm
 have HB1:=vH hb
 clear hgi hb HQ
 go_wp2_with fail
 have hba:Below w1.heap.size w1 ((w1.alloc (.cells #[.slice p1 n1 c1,.slice p2 n2 c2,.slice p3 n3 c3] 26)).alloc (.cells #[.int .i64 (0),.int .i64 0] 29)):=zC (zC (Below.refl _ _))
 have HB2:=vH (zE HB1.out hba HB1.out.size)
 refine (HCM.out _ _ _ _ _ _ _ _ _ _ (HG1.out.ag (Ag.below hba))).mono ?_
 rintro e w2 ⟨q1,m1,e1,q2,m2,e2,q3,m3,e3,mn,rfl,hh,hb⟩
 have HB3:=vH (zE HB2.out hb HB2.out.size)
 clear hb hba
 go_upto_region 3 with fail
 obtain ⟨wz,hwz⟩:∃ wz,wz = (w2.alloc (.cells #[.slice q1 m1 e1,.slice q2 m2 e2,.slice q3 m3 e3,.int .i64 mn] 36)).alloc (.cells #[.int .i64 (0),.int .i64 0] 29):=⟨_,rfl⟩
 have hbz:Below w2.heap.size w2 wz:=by rw [hwz]; exact zC (zC (Below.refl _ _))
 have hkh:wz.heap[w2.heap.size]? = some (.cells #[.slice q1 m1 e1,.slice q2 m2 e2,.slice q3 m3 e3,.int .i64 mn] 36 (0,0)):=by rw [hwz]; exact zD _ (heap_alloc_new w2 _)
 have hkf:wz.heap[w2.heap.size + 1]? = some (.cells #[.int .i64 (0),.int .i64 0] 29 (0,0)):=by rw [hwz]; have:=heap_alloc_new (w2.alloc (.cells #[.slice q1 m1 e1,.slice q2 m2 e2,.slice q3 m3 e3,.int .i64 mn] 36)) (.cells #[.int .i64 (0),.int .i64 0] 29); rw [zB] at this; exact this
 rw [← hwz]
 clear hwz
 have HB4:=vH (zE HB3.out hbz HB3.out.size)
 obtain ⟨p,c,q,d,r,f,hv,h1,h2,h3⟩:=hh.ag (Ag.below hbz)
 have hv1:=(List.cons.inj hv).1
 have hv2:=(List.cons.inj (List.cons.inj hv).2).1
 injection hv1 with e1 e2 e3
 injection hv2 with e4 e5 e6
 obtain rfl:m1 = 1:=e2
 obtain rfl:m2 = 1:=e5
 subst e1 e3 e4 e6
 clear hv
 obtain ⟨bl,off,vs,rfl,hbl,⟨fp,fc,rfl,hF⟩,hc1⟩:=h1.get (i:=0) (x:=⟨[65],[⟨[97],⟨3,0,0⟩⟩,⟨[98],⟨1,0,0⟩⟩]⟩) rfl
 obtain ⟨bl2,off2,vs2,rfl,hbl2,hi2,hc2⟩:=hF.get (i:=0) (x:=⟨[97],⟨3,0,0⟩⟩) rfl
 obtain ⟨bl3,off3,vs3,rfl,hbl3,hi3,hc3⟩:=h2.get (i:=0) (x:=⟨[103],⟨2,0,1⟩⟩) rfl
 rw [FdIs] at hi2 hi3
 subst hi2 hi3
 have x1:=hc1 1 _ (by decide) rfl
 have y1:=hc2 1 _ (by decide) rfl
 have y2:=hc2 2 _ (by decide) rfl
 have y3:=hc2 3 _ (by decide) rfl
 have z1:=hc3 1 _ (by decide) rfl
 have z2:=hc3 2 _ (by decide) rfl
 have z3:=hc3 3 _ (by decide) rfl
 simp only [Nat.zero_mul,Nat.add_zero] at x1 y1 y2 y3 z1 z2 z3
 obtain ⟨⟨k0,k1,k2,k3⟩,-⟩:=quad hkh
 obtain ⟨⟨f0,f1⟩,-⟩:=duo hkf
 have t1:=fun w => zBO 3 0 0 3 0 0 w
 have t2:=fun w => zBO 2 0 1 2 0 1 w
 clear hh h1 h2 h3 hc1 hc2 hc3 hF hbl hbl2 hbl3 hkh hkf hbz
 go_wp2_with fail
 refine (zBS wz 1 0 1).mono ?_
 rintro e w5 ⟨rfl,hb⟩
 have HB5:=vH (zE HB4.out hb HB4.out.size)
 clear hb x1 y1 y2 y3 z1 z2 z3 k0 k1 k2 k3 f0 f1 t1 t2
 go_wp2_with fail
 refine (zBS w5 1 0 0).mono ?_
 rintro e w6 ⟨rfl,hb⟩
 go_wp2_with fail
 go_ret
 exact ⟨rfl,zE HB5.out hb HB5.out.size⟩
end Go.Proofs.Ytjleggpbghmobaa
namespace Go.Proofs.Ytjleggpbghmobaa
open Go.RowKit
open Hs (Nm TypH)
theorem zKg (w:World)(a b c:Int) :
 Calls Try.prog 18 #[.agg #[.int .i64 a,.int .i64 b,.int .i64 c]] w fun e w' => e = .returned (.bool (refT ⟨a,b,c⟩)) ∧ Below w.heap.size w w':=by
 obtain ⟨x,hx⟩:∃ x,refT ⟨a,b,c⟩ = x:=⟨_,rfl⟩
 rw [hx]
 unfold refT at hx
 dsimp only at hx
 by_cases h1:a = 3
 ·have hb1:(a == 3) = true:=by simpa using h1
  have hxt:x = true:=by rw [← hx,hb1]; rfl
  subst hxt
  clear hx h1
  go_in
  go_wp2_with fail
  go_ret
  exact ⟨rfl,zC (Below.refl _ _)⟩
 ·have hb1:(a == 3) = false:=by simpa using h1
  rw [hb1,Bool.false_or] at hx
  clear h1
  go_in
  go_wp2_with fail
  go_ret
  exact ⟨by rw [← hx]; rfl,zC (Below.refl _ _)⟩
end Go.Proofs.Ytjleggpbghmobaa
