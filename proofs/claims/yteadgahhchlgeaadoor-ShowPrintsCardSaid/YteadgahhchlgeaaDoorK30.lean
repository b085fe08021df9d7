/-
  Statements as the printer writes them are read back (plain).
-/
import Derived.Test.YteadgahhchlgeaaDoorK29
namespace Go.Proofs.YteadgahhchlgeaaDoor
namespace Rt
open Go.RowKit
open Px (RT tokAt isT levelT signsOf)
open Qe (Q)
open Pe (Ex inc dec)
open Ps (Sm kindOf nameOf)
open Al (E2 L2 B2 zCx)
mutual
inductive SP:Sm → Nat → List PT → Prop
 | var (t ty:List UInt8) (d:Nat) (a:Int) (hd:d ≤ 3):SP (.mk 1 t ty d [] [] [] a 0) 0 (wd [118,97,114] :: nm t :: sg [58] :: (tyT ty d ++ [sg [59]]))
 | let_ (t ty:List UInt8) (d:Nat) (a:Int) (e:Ex) (de:Nat) (l:List PT) (hd:d ≤ 3) (h:EW 1 e de l):SP (.mk 2 t ty d [e] [] [] a 0) de (wd [108,101,116] :: nm t :: sg [58] :: (tyT ty d ++ (sg [61] :: (l ++ [sg [59]]))))
 | set (t:List UInt8) (a:Int) (e:Ex) (de:Nat) (l:List PT) (h:EW 1 e de l):SP (.mk 3 t [] 0 [e] [] [] a 0) de (nm t :: sg [61] :: (l ++ [sg [59]]))
 | put (x:Ex) (dx:Nat) (lx:List PT) (a:Int) (e:Ex) (de:Nat) (l:List PT) (hk:kindOf x = 5 ∨ kindOf x = 6) (hx:EW 1 x dx lx) (h:EW 1 e de l):SP (.mk 4 [] [] 0 [x,e] [] [] a 0) (max dx de) (lx ++ (sg [61] :: (l ++ [sg [59]])))
 | ifs (e:Ex) (de:Nat) (l:List PT) (b:List Sm) (db:Nat) (lb:List PT) (a:Int) (h:EW 1 e de l) (hb:BP b db lb):SP (.mk 5 [] [] 0 [e] b [] a 0) (max de db) (wd [105,102] :: (l ++ lb))
 | ife (e:Ex) (de:Nat) (l:List PT) (b:List Sm) (db:Nat) (lb:List PT) (b2:List Sm) (db2:Nat) (lb2:List PT) (a:Int) (h:EW 1 e de l) (hb:BP b db lb) (hb2:BP b2 db2 lb2):SP (.mk 5 [] [] 0 [e] b b2 a 0) (max de (max db db2)) (wd [105,102] :: (l ++ (lb ++ (wd [101,108,115,101] :: lb2))))
 | loop (e:Ex) (de:Nat) (l:List PT) (b:List Sm) (db:Nat) (lb:List PT) (a:Int) (h:EW 1 e de l) (hb:BP b db lb):SP (.mk 6 [] [] 0 [e] b [] a 0) (max de db) (wd [119,104,105,108,101] :: (l ++ lb))
 | ret0 (a:Int):SP (.mk 7 [] [] 0 [] [] [] a 0) 0 [wd [114,101,116,117,114,110],sg [59]]
 | ret (a:Int) (e:Ex) (de:Nat) (l:List PT) (h:EW 1 e de l):SP (.mk 7 [] [] 0 [e] [] [] a 0) de (wd [114,101,116,117,114,110] :: (l ++ [sg [59]]))
 | print (a:Int) (e:Ex) (de:Nat) (l:List PT) (h:EW 1 e de l):SP (.mk 8 [] [] 0 [e] [] [] a 0) de (wd [112,114,105,110,116] :: (l ++ [sg [59]]))
 | do_ (a:Int) (e:Ex) (de:Nat) (l:List PT) (hk:kindOf e = 7) (h:EW 1 e de l):SP (.mk 9 [] [] 0 [e] [] [] a 0) de (l ++ [sg [59]])
inductive BP:List Sm → Nat → List PT → Prop
 | mk (b:List Sm) (d:Nat) (l:List PT) (h:LP b d l):BP b (d + 1) (sg [123] :: (l ++ [sg [125]]))
inductive LP:List Sm → Nat → List PT → Prop
 | nil:LP [] 0 []
 | cons (x:Sm) (d:Nat) (l:List PT) (xs:List Sm) (d2:Nat) (l2:List PT) (h:SP x d l) (h2:LP xs d2 l2):LP (x :: xs) (max d d2) (l ++ l2)
end
def EHead (l:List PT):Prop:=∃ p r,l = p :: r ∧ p.1 ≠ 0 ∧ (p.1 = 4 → p.2.1 = [40] ∨ p.2.1 = [45] ∨ p.2.1 = [33]) ∧ (p.1 = 3 → p.2.1 ∈ [[116,114,117,101],[102,97,108,115,101],[110,117,108,108],[110,101,119],[108,101,110],[114,101,97,100]])
theorem EHead.app {l r:List PT}(h:EHead l):EHead (l ++ r):=by
 obtain ⟨p,q,rfl,h1,h2⟩:=h
 exact ⟨p,q ++ r,rfl,h1,h2⟩
theorem eh_w {t:List UInt8}{l:List PT}(h:t ∈ [[116,114,117,101],[102,97,108,115,101],[110,117,108,108],[110,101,119],[108,101,110],[114,101,97,100]]):EHead (wd t :: l):=⟨_,_,rfl,n3,fun h => absurd h n34,fun _ => h⟩
theorem eh_n {t:List UInt8}{l:List PT}:EHead (nm t :: l):=⟨_,_,rfl,n1,fun h => absurd h n14,fun h => absurd h n13⟩
theorem eh_s {t:List UInt8}{l:List PT}(h:t = [40] ∨ t = [45] ∨ t = [33]):EHead (sg t :: l):=⟨_,_,rfl,n4,fun _ => h,fun h => absurd h n43⟩
theorem zOF {e:Ex}{lv d:Nat}{l:List PT}(h:EP e lv d l):EHead l:=
 EP.rec (motive_1:=fun _ _ _ l _ => EHead l) (motive_2:=fun _ _ _ l _ => EHead l) (motive_3:=fun _ _ _ _ => True)
  (fun _ _ => ⟨_,_,rfl,n2,fun h => absurd h n24,fun h => absurd h n23⟩) (fun _ => eh_w (by decide)) (fun _ => eh_w (by decide)) (fun _ _ _ _ => eh_w (by decide)) (fun _ _ => eh_n)
  (fun _ _ _ _ _ _ h => h.app) (fun _ _ _ _ _ _ _ _ _ h _ => h.app) (fun _ _ => eh_n) (fun _ _ _ _ _ _ _ _ _ _ _ _ => eh_n) (fun _ _ => eh_w (by decide)) (fun _ _ _ _ _ _ _ _ _ => eh_w (by decide))
  (fun _ _ _ _ _ _ => eh_w (by decide)) (fun _ => eh_w (by decide)) (fun _ _ _ _ _ _ => eh_s (by decide)) (fun _ _ _ _ _ _ => eh_s (by decide)) (fun _ _ _ _ _ _ _ _ _ _ _ _ _ h _ => h.app)
  (fun _ _ _ _ _ _ _ h => h) (fun _ _ _ _ _ _ _ _ => eh_s (by decide)) trivial (fun _ _ _ _ _ _ _ _ _ _ => trivial) h
theorem zDT {n:Nat}{e:Ex}{d:Nat}{l:List PT}(h:EW n e d l):EHead l:=by
 cases h with
 | bare _ _ _ _ _ h _ => exact zOF h
 | par => exact eh_s (by decide)
section
variable {ts:List RT}
theorem zC2 {l r:List PT}(hh:EHead l){k o:Nat}(h:Has ts k (l ++ r)){w:List UInt8}(hw:w ∉ [[116,114,117,101],[102,97,108,115,101],[110,117,108,108],[110,101,119],[108,101,110],[114,101,97,100]]):Qe.is ts (st k o) true w = false:=by
 obtain ⟨p,q,rfl,-,-,hp⟩:=hh
 show ((0:Int) == 0 && isT ts k true w) = false
 unfold isT
 by_cases hk:(tokAt ts k).kind = 3
 ·have h3:p.1 = 3:=h.1.1.symm.trans hk
  have:((tokAt ts k).text == w) = false:=by
   rw [show (tokAt ts k).text = p.2.1 from h.1.2.1]
   rw [beq_eq_false_iff_ne]
   intro hc
   exact hw (hc ▸ hp h3)
  rw [this,Bool.and_false,Bool.and_false]
 ·rw [show (if true = true then (3:Int) else 4) = 3 from rfl,decide_eq_false hk]; rfl
theorem zOG {l r:List PT}(hh:EHead l){k o:Nat}(h:Has ts k (l ++ r)){t:List UInt8}(ht:¬ (t = [40] ∨ t = [45] ∨ t = [33])):Qe.is ts (st k o) false t = false:=by
 obtain ⟨p,q,rfl,-,hp,-⟩:=hh
 refine zCh fun hc => ?_
 have h4:p.1 = 4:=h.1.1.symm.trans hc.1
 have h5:p.2.1 = t:=h.1.2.1.symm.trans hc.2
 exact ht (h5 ▸ hp h4)
def NoElse (ts:List RT)(k:Nat):Prop:=¬ ((tokAt ts k).kind = 3 ∧ (tokAt ts k).text = [101,108,115,101])
theorem zN8 {k o:Nat}(h:NoElse ts k):Qe.is ts (st k o) true [101,108,115,101] = false:=by
 show ((0:Int) == 0 && isT ts k true _) = false
 unfold isT
 by_cases hk:(tokAt ts k).kind = 3
 ·have:((tokAt ts k).text == [101,108,115,101]) = false:=by simpa using fun hh => h ⟨hk,hh⟩
  rw [this,Bool.and_false,Bool.and_false]
 ·rw [show (if true = true then (3:Int) else 4) = 3 from rfl,decide_eq_false hk]; rfl
def SHead (l:List PT):Prop:=∃ p r,l = p :: r ∧ p.1 ≠ 0 ∧ ¬ (p.1 = 4 ∧ p.2.1 = [125]) ∧ ¬ (p.1 = 3 ∧ p.2.1 = [101,108,115,101])
end
section
variable (ts:List RT)
def stR (x:Sm)(k o k':Nat):Prop:=∃ x' f0,Al.M2 x x' ∧ ∀ F,f0 ≤ F → ∀ f,f0 ≤ f → Qs.stmt ts (Qe.run ts F 0) (Qs.run ts (Qe.run ts F 0) f).2 (st k o) = some (x',st k' o)
def blR (b:List Sm)(k o k':Nat):Prop:=∃ b' f0,B2 b b' ∧ ∀ F,f0 ≤ F → ∀ f,f0 ≤ f → (Qs.run ts (Qe.run ts F 0) f).2 (st k o) = some (b',st k' o)
def T1 (x:Sm)(d:Nat)(l:List PT):Prop:=SHead l ∧ ∀ k o,Has ts k l → d + o ≤ 50 → NoElse ts (k + l.length) → stR ts x k o (k + l.length)
def T2 (b:List Sm)(d:Nat)(l:List PT):Prop:=∀ k o,Has ts k l → d + o ≤ 50 → blR ts b k o (k + l.length)
def T3 (xs:List Sm)(d:Nat)(l:List PT):Prop:=∀ k o acc acc',B2 acc acc' → Has ts k (l ++ [sg [125]]) → d + o ≤ 50 →
 NoElse ts k ∧ ∃ ys f0,B2 (acc ++ xs) ys ∧ ∀ F,f0 ≤ F → ∀ f,f0 ≤ f → ∀ g,f0 ≤ g → Qs.stLoop ts (Qs.run ts (Qe.run ts F 0) f).1 g acc' (st k o) = some (ys,st (k + l.length) o)
end
section
variable {ts:List RT}
theorem run0 (hts:ts.length ≤ 900000000){e:Ex}{d:Nat}{l:List PT}(h:EW 1 e d l){k o:Nat}{t:List UInt8}(ht:t ∈ [[41],[93],[44],[59],[61],[123]]){r:List PT}(hk:Has ts k (l ++ (sg t :: r)))(ho:d + o ≤ 50):∃ e' f0,E2 e e' ∧ ∀ f,f0 ≤ f → Qe.run ts f 0 (st k o) = some (e',st (k + l.length) o):=
 have ha:=hk.app
 ((zHF hts h).2 k o ha.1 ho).2.1 0 (by omega) rfl (zCb ha.2.1 ht 0)
theorem zCN {l r:List PT}(hh:EHead l){k o:Nat}(h:Has ts k (l ++ r))(rx:Qs.RX)(rb:Q → Qs.OutB):Qs.stmt ts rx rb (st k o) = Qs.plain ts rx (tokAt ts k).at_ (st k o):=by
 unfold Qs.stmt
 rw [zC2 hh h (by decide),zC2 hh h (by decide),zC2 hh h (by decide),zC2 hh h (by decide),zC2 hh h (by decide),zC2 hh h (by decide)]
 rfl
theorem sh_w {w:List UInt8}{l:List PT}(h:w ≠ [101,108,115,101]):SHead (wd w :: l):=⟨_,_,rfl,n3,fun hc => absurd hc.1 n34,fun hc => h hc.2⟩
theorem sh_e {l r:List PT}(h:EHead l):SHead (l ++ r):=by
 obtain ⟨p,q,rfl,h1,h2,h3⟩:=h
 refine ⟨p,q ++ r,rfl,h1,fun hc => ?_,fun hc => ?_⟩
 ·have:=h2 hc.1; rw [hc.2] at this; exact absurd this (by decide)
 ·have:=h3 hc.1; rw [hc.2] at this; exact absurd this (by decide)
theorem zLf {l r:List PT}(hh:SHead l){k o:Nat}(h:Has ts k (l ++ r)):Qe.is ts (st k o) false [125] = false ∧ NoElse ts k:=by
 obtain ⟨p,q,rfl,-,h1,h2⟩:=hh
 exact ⟨zCh fun hc => h1 ⟨h.1.1.symm.trans hc.1,h.1.2.1.symm.trans hc.2⟩,fun hc => h2 ⟨h.1.1.symm.trans hc.1,h.1.2.1.symm.trans hc.2⟩⟩
theorem zGb {rx:Qs.RX}{s s2:Q}{t ty:List UInt8}{d:Nat}(hd:Qs.decl ts s = (t,ty,d,s2))(h:¬ (tokAt ts s.k).text = [108,101,116]):Qs.declared ts rx s = some (.mk 1 t ty d [] [] [] (tokAt ts s.k).at_ 0,Qe.take ts s2 false [59]):=by
 unfold Qs.declared
 rw [hd]
 exact if_neg h
theorem zGc {rx:Qs.RX}{s s2 s3:Q}{t ty:List UInt8}{d:Nat}{e:Ex}(hd:Qs.decl ts s = (t,ty,d,s2))(h:(tokAt ts s.k).text = [108,101,116])(he:rx (Qe.take ts s2 false [61]) = some (e,s3)):Qs.declared ts rx s = some (.mk 2 t ty d [e] [] [] (tokAt ts s.k).at_ 0,Qe.take ts s3 false [59]):=by
 unfold Qs.declared
 rw [hd]
 refine (if_pos h).trans ?_
 dsimp only
 rw [he]
theorem zHN (hts:ts.length ≤ 900000000){k o d:Nat}{w t ty:List UInt8}{r:List PT}(hd:d ≤ 3)(hk:Has ts k (wd w :: nm t :: sg [58] :: (tyT ty d ++ r))):Qs.decl ts (st k o) = (t,ty,d,st (k + ((tyT ty d).length + 3)) o):=by
 have ha:=hk.2.2.2.app
 unfold Qs.decl
 rw [zW hts hk.1 n3,zBO hts hk.2.1]
 show (t,Qe.of ts (Qe.take ts (st (k + 1 + 1) o) false [58])) = _
 rw [zAa hts hk.2.2.1,zEu hts hd ha.1,show k + 1 + 1 + 1 + (tyT ty d).length = k + ((tyT ty d).length + 3) by omega]
theorem zSO (hts:ts.length ≤ 900000000)(t ty:List UInt8)(d:Nat)(a:Int)(hd:d ≤ 3):T1 ts (.mk 1 t ty d [] [] [] a 0) 0 (wd [118,97,114] :: nm t :: sg [58] :: (tyT ty d ++ [sg [59]])):=by
 refine ⟨sh_w (by decide),fun k o hk ho hn => ⟨.mk 1 t ty d [] [] [] (tokAt ts k).at_ 0,0,Al.M2.mk _ _ _ _ _ _ _ Al.L2.nil Al.B2.nil Al.B2.nil,fun F hF f hf => ?_⟩⟩
 have ha:=hk.2.2.2.app.2.1
 rw [show k + 1 + 1 + 1 + (tyT ty d).length = k + ((tyT ty d).length + 3) by omega] at ha
 unfold Qs.stmt
 rw [zP hk.1,zP hk.1,if_pos (by decide),zGb (zHN hts hd hk) (fun hc => absurd (hk.1.2.1.symm.trans hc) (by decide)),zAa hts ha]
 simp only [List.length_cons,List.length_append,List.length_nil]
 rw [show k + ((tyT ty d).length + 3) + 1 = k + ((tyT ty d).length + (0 + 1) + 1 + 1 + 1) by omega]
 rfl
theorem zSS (hts:ts.length ≤ 900000000)(t ty:List UInt8)(d:Nat)(a:Int)(e:Ex)(de:Nat)(l:List PT)(hd:d ≤ 3)(h:EW 1 e de l):T1 ts (.mk 2 t ty d [e] [] [] a 0) de (wd [108,101,116] :: nm t :: sg [58] :: (tyT ty d ++ (sg [61] :: (l ++ [sg [59]])))):=by
 refine ⟨sh_w (by decide),fun k o hk ho hn => ?_⟩
 have ha:=hk.2.2.2.app.2
 rw [show k + 1 + 1 + 1 + (tyT ty d).length = k + ((tyT ty d).length + 3) by omega] at ha
 have hb:=ha.2.app
 obtain ⟨e',f0,he,hf⟩:=run0 hts h (by decide) ha.2 ho
 refine ⟨.mk 2 t ty d [e'] [] [] (tokAt ts k).at_ 0,f0,Al.M2.mk _ _ _ _ _ _ _ (Al.L2.one he) Al.B2.nil Al.B2.nil,fun F hF f _ => ?_⟩
 unfold Qs.stmt
 rw [zP hk.1,zP hk.1,if_pos (by decide),zGc (zHN hts hd hk) hk.1.2.1 (by rw [zAa hts ha.1]; exact hf F hF),zAa hts hb.2.1]
 simp only [List.length_cons,List.length_append,List.length_nil]
 rw [show k + ((tyT ty d).length + 3) + 1 + l.length + 1 = k + ((tyT ty d).length + (l.length + (0 + 1) + 1) + 1 + 1 + 1) by omega]
 rfl
theorem zSP (hts:ts.length ≤ 900000000)(t:List UInt8)(a:Int)(e:Ex)(de:Nat)(l:List PT)(h:EW 1 e de l):T1 ts (.mk 3 t [] 0 [e] [] [] a 0) de (nm t :: sg [61] :: (l ++ [sg [59]])):=by
 refine ⟨⟨_,_,rfl,n1,fun hc => absurd hc.1 n14,fun hc => absurd hc.1 n13⟩,fun k o hk ho hn => ?_⟩
 have hb:=hk.2.2.app
 obtain ⟨x',f1,hx,hg⟩:=run0 hts (.bare 1 _ 7 0 _ (.var t a) (by decide)) (k:=k) (o:=o) (t:=[61]) (by decide) (r:=l ++ [sg [59]]) hk (by omega)
 obtain ⟨e',f0,he,hf⟩:=run0 hts h (by decide) hk.2.2 ho
 have hkd:=zCx hx
 refine ⟨.mk 3 t [] 0 [e'] [] [] (tokAt ts k).at_ 0,f0 + f1,Al.M2.mk _ _ _ _ _ _ _ (Al.L2.one he) Al.B2.nil Al.B2.nil,fun F hF f _ => ?_⟩
 rw [zCN (l:=[nm t]) eh_n (r:=sg [61] :: (l ++ [sg [59]])) hk]
 unfold Qs.plain
 rw [hg F (by omega)]
 dsimp only
 rw [show k + [nm t].length = k + 1 from rfl,zA5 hk.2.1,if_pos (by decide)]
 unfold Qs.plainPut
 rw [hkd.1,hkd.2]
 rw [if_neg (show ¬ (kindOf (Ex.of 4 0 t [] 0 [] a) ≠ 4 ∧ kindOf (Ex.of 4 0 t [] 0 [] a) ≠ 5 ∧ kindOf (Ex.of 4 0 t [] 0 [] a) ≠ 6) from fun hc => hc.1 rfl),zAa hts hk.2.1]
 rw [show k + 1 + 1 = k + 1 + 1 from rfl,hf F (by omega)]
 dsimp only
 rw [if_pos (show kindOf (Ex.of 4 0 t [] 0 [] a) = 4 from rfl),zAa hts hb.2.1]
 simp only [List.length_cons,List.length_append,List.length_nil]
 rw [show k + 1 + 1 + l.length + 1 = k + (l.length + (0 + 1) + 1 + 1) by omega]
 rfl
theorem zSR (hts:ts.length ≤ 900000000)(x:Ex)(dx:Nat)(lx:List PT)(a:Int)(e:Ex)(de:Nat)(l:List PT)(hk0:kindOf x = 5 ∨ kindOf x = 6)(hx:EW 1 x dx lx)(h:EW 1 e de l):T1 ts (.mk 4 [] [] 0 [x,e] [] [] a 0) (max dx de) (lx ++ (sg [61] :: (l ++ [sg [59]]))):=by
 refine ⟨sh_e (zDT hx),fun k o hk ho hn => ?_⟩
 have ha:=hk.app
 have hb:=ha.2.2.app
 obtain ⟨x',f1,hx',hg⟩:=run0 hts hx (by decide) (o:=o) hk (by omega)
 obtain ⟨e',f0,he,hf⟩:=run0 hts h (by decide) (o:=o) ha.2.2 (by omega)
 have hkd:=zCx hx'
 refine ⟨.mk 4 [] [] 0 [x',e'] [] [] (tokAt ts k).at_ 0,f0 + f1,Al.M2.mk _ _ _ _ _ _ _ (Al.L2.two hx' he) Al.B2.nil Al.B2.nil,fun F hF f _ => ?_⟩
 rw [zCN (zDT hx) hk]
 unfold Qs.plain
 rw [hg F (by omega)]
 dsimp only
 rw [zA5 ha.2.1,if_pos (by decide)]
 unfold Qs.plainPut
 rw [hkd.1,if_neg (fun hc => by rcases hk0 with h5 | h6; exact hc.2.1 h5; exact hc.2.2 h6),zAa hts ha.2.1,hf F (by omega)]
 dsimp only
 rw [if_neg (fun hc => by rcases hk0 with h5 | h6; (rw [h5] at hc; cases hc); (rw [h6] at hc; cases hc)),zAa hts hb.2.1]
 simp only [List.length_cons,List.length_append,List.length_nil]
 rw [show k + lx.length + 1 + l.length + 1 = k + (lx.length + (l.length + (0 + 1) + 1)) by omega]
theorem zQY (hts:ts.length ≤ 900000000)(a:Int):T1 ts (.mk 7 [] [] 0 [] [] [] a 0) 0 [wd [114,101,116,117,114,110],sg [59]]:=by
 refine ⟨sh_w (by decide),fun k o hk ho hn => ⟨.mk 7 [] [] 0 [] [] [] (tokAt ts k).at_ 0,0,Al.M2.mk _ _ _ _ _ _ _ Al.L2.nil Al.B2.nil Al.B2.nil,fun F hF f hf => ?_⟩⟩
 unfold Qs.stmt
 rw [zP hk.1,zP hk.1,if_neg (by decide),zP hk.1,if_neg (by decide),zP hk.1,if_neg (by decide),zP hk.1,if_pos (by decide)]
 unfold Qs.result
 rw [zW hts hk.1 n3,zA5 hk.2.1,if_pos (by decide),zAa hts hk.2.1]
 rfl
theorem zSQ (hts:ts.length ≤ 900000000)(a:Int)(e:Ex)(de:Nat)(l:List PT)(h:EW 1 e de l):T1 ts (.mk 7 [] [] 0 [e] [] [] a 0) de (wd [114,101,116,117,114,110] :: (l ++ [sg [59]])):=by
 refine ⟨sh_w (by decide),fun k o hk ho hn => ?_⟩
 have hb:=hk.2.app
 obtain ⟨e',f0,he,hf⟩:=run0 hts h (by decide) hk.2 ho
 refine ⟨.mk 7 [] [] 0 [e'] [] [] (tokAt ts k).at_ 0,f0,Al.M2.mk _ _ _ _ _ _ _ (Al.L2.one he) Al.B2.nil Al.B2.nil,fun F hF f _ => ?_⟩
 unfold Qs.stmt
 rw [zP hk.1,zP hk.1,if_neg (by decide),zP hk.1,if_neg (by decide),zP hk.1,if_neg (by decide),zP hk.1,if_pos (by decide)]
 unfold Qs.result
 rw [zW hts hk.1 n3,zOG (zDT h) hk.2 (by decide),if_neg (by decide),hf F hF]
 dsimp only
 rw [zAa hts hb.2.1]
 simp only [List.length_cons,List.length_append,List.length_nil]
 rw [show k + 1 + l.length + 1 = k + (l.length + (0 + 1) + 1) by omega]
 rfl
theorem zOJ (hts:ts.length ≤ 900000000)(a:Int)(e:Ex)(de:Nat)(l:List PT)(h:EW 1 e de l):T1 ts (.mk 8 [] [] 0 [e] [] [] a 0) de (wd [112,114,105,110,116] :: (l ++ [sg [59]])):=by
 refine ⟨sh_w (by decide),fun k o hk ho hn => ?_⟩
 have hb:=hk.2.app
 obtain ⟨e',f0,he,hf⟩:=run0 hts h (by decide) hk.2 ho
 refine ⟨.mk 8 [] [] 0 [e'] [] [] (tokAt ts k).at_ 0,f0,Al.M2.mk _ _ _ _ _ _ _ (Al.L2.one he) Al.B2.nil Al.B2.nil,fun F hF f _ => ?_⟩
 unfold Qs.stmt
 rw [zP hk.1,zP hk.1,if_neg (by decide),zP hk.1,if_neg (by decide),zP hk.1,if_neg (by decide),zP hk.1,if_neg (by decide),zP hk.1,if_pos (by decide)]
 unfold Qs.output
 rw [zW hts hk.1 n3,hf F hF]
 dsimp only
 rw [zAa hts hb.2.1]
 simp only [List.length_cons,List.length_append,List.length_nil]
 rw [show k + 1 + l.length + 1 = k + (l.length + (0 + 1) + 1) by omega]
 rfl
theorem d_do (hts:ts.length ≤ 900000000)(a:Int)(e:Ex)(de:Nat)(l:List PT)(hk0:kindOf e = 7)(h:EW 1 e de l):T1 ts (.mk 9 [] [] 0 [e] [] [] a 0) de (l ++ [sg [59]]):=by
 refine ⟨sh_e (zDT h),fun k o hk ho hn => ?_⟩
 have hb:=hk.app
 obtain ⟨e',f0,he,hf⟩:=run0 hts h (by decide) hk ho
 have hkd:=zCx he
 refine ⟨.mk 9 [] [] 0 [e'] [] [] (tokAt ts k).at_ 0,f0,Al.M2.mk _ _ _ _ _ _ _ (Al.L2.one he) Al.B2.nil Al.B2.nil,fun F hF f _ => ?_⟩
 rw [zCN (zDT h) hk]
 unfold Qs.plain
 rw [hf F hF]
 dsimp only
 rw [zA5 hb.2.1,if_neg (by decide)]
 unfold Qs.plainDo
 rw [hkd.1,if_neg (fun hc => hc.2 hk0),zAa hts hb.2.1]
 simp only [List.length_cons,List.length_append,List.length_nil]
 rw [show k + l.length + 1 = k + (l.length + (0 + 1)) by omega]
theorem runb (hts:ts.length ≤ 900000000){e:Ex}{d:Nat}{l:List PT}(h:EW 1 e d l){b:List Sm}{db:Nat}{lb:List PT}(hb:BP b db lb){k o:Nat}{r:List PT}(hk:Has ts k (l ++ (lb ++ r)))(ho:d + o ≤ 50):∃ e' f0,E2 e e' ∧ ∀ f,f0 ≤ f → Qe.run ts f 0 (st k o) = some (e',st (k + l.length) o):=by
 cases hb with
 | mk b d lb hb => exact run0 hts h (t:=[123]) (by decide) (r:=(lb ++ [sg [125]]) ++ r) hk ho
theorem zST (hts:ts.length ≤ 900000000)(e:Ex)(de:Nat)(l:List PT)(b:List Sm)(db:Nat)(lb:List PT)(a:Int)(h:EW 1 e de l)(hb:BP b db lb)(h2:T2 ts b db lb):T1 ts (.mk 5 [] [] 0 [e] b [] a 0) (max de db) (wd [105,102] :: (l ++ lb)):=by
 refine ⟨sh_w (by decide),fun k o hk ho hn => ?_⟩
 have ha:=hk.2.app
 obtain ⟨e',f0,he,hf⟩:=runb hts h hb (o:=o) (r:=[]) (by rw [List.append_nil]; exact hk.2) (by omega)
 obtain ⟨b',f1,hb',hg⟩:=h2 (k + 1 + l.length) o ha.2 (by omega)
 refine ⟨.mk 5 [] [] 0 [e'] b' [] (tokAt ts k).at_ 0,f0 + f1,Al.M2.mk _ _ _ _ _ _ _ (Al.L2.one he) hb' Al.B2.nil,fun F hF f hff => ?_⟩
 have hend:k + 1 + l.length + lb.length = k + (wd [105,102] :: (l ++ lb)).length:=by rw [List.length_cons,List.length_append]; omega
 unfold Qs.stmt
 rw [zP hk.1,zP hk.1,if_neg (by decide),zP hk.1,if_pos (by decide)]
 unfold Qs.choice
 rw [zW hts hk.1 n3,hf F (by omega)]
 dsimp only
 rw [hg F (by omega) f (by omega),hend]
 dsimp only
 rw [zN8 hn,if_neg (by decide)]
 rfl
theorem zSU (hts:ts.length ≤ 900000000)(e:Ex)(de:Nat)(l:List PT)(b:List Sm)(db:Nat)(lb:List PT)(b2:List Sm)(db2:Nat)(lb2:List PT)(a:Int)(h:EW 1 e de l)(hb:BP b db lb)(h2:T2 ts b db lb)(h3:T2 ts b2 db2 lb2):T1 ts (.mk 5 [] [] 0 [e] b b2 a 0) (max de (max db db2)) (wd [105,102] :: (l ++ (lb ++ (wd [101,108,115,101] :: lb2)))):=by
 refine ⟨sh_w (by decide),fun k o hk ho hn => ?_⟩
 have ha:=hk.2.app
 have hc:=ha.2.app
 obtain ⟨e',f0,he,hf⟩:=runb hts h hb (o:=o) hk.2 (by omega)
 obtain ⟨b',f1,hb',hg⟩:=h2 (k + 1 + l.length) o hc.1 (by omega)
 obtain ⟨c',f2,hc',hg2⟩:=h3 (k + 1 + l.length + lb.length + 1) o hc.2.2 (by omega)
 refine ⟨.mk 5 [] [] 0 [e'] b' c' (tokAt ts k).at_ 0,f0 + f1 + f2,Al.M2.mk _ _ _ _ _ _ _ (Al.L2.one he) hb' hc',fun F hF f hff => ?_⟩
 have hend:k + 1 + l.length + lb.length + 1 + lb2.length = k + (wd [105,102] :: (l ++ (lb ++ (wd [101,108,115,101] :: lb2)))).length:=by simp only [List.length_cons,List.length_append]; omega
 unfold Qs.stmt
 rw [zP hk.1,zP hk.1,if_neg (by decide),zP hk.1,if_pos (by decide)]
 unfold Qs.choice
 rw [zW hts hk.1 n3,hf F (by omega)]
 dsimp only
 rw [hg F (by omega) f (by omega)]
 dsimp only
 rw [zP hc.2.1,if_pos (by decide),zW hts hc.2.1 n3,hg2 F (by omega) f (by omega),hend]
 rfl
theorem zQZ (hts:ts.length ≤ 900000000)(e:Ex)(de:Nat)(l:List PT)(b:List Sm)(db:Nat)(lb:List PT)(a:Int)(h:EW 1 e de l)(hb:BP b db lb)(h2:T2 ts b db lb):T1 ts (.mk 6 [] [] 0 [e] b [] a 0) (max de db) (wd [119,104,105,108,101] :: (l ++ lb)):=by
 refine ⟨sh_w (by decide),fun k o hk ho hn => ?_⟩
 have ha:=hk.2.app
 obtain ⟨e',f0,he,hf⟩:=runb hts h hb (o:=o) (r:=[]) (by rw [List.append_nil]; exact hk.2) (by omega)
 obtain ⟨b',f1,hb',hg⟩:=h2 (k + 1 + l.length) o ha.2 (by omega)
 refine ⟨.mk 6 [] [] 0 [e'] b' [] (tokAt ts k).at_ 0,f0 + f1,Al.M2.mk _ _ _ _ _ _ _ (Al.L2.one he) hb' Al.B2.nil,fun F hF f hff => ?_⟩
 have hend:k + 1 + l.length + lb.length = k + (wd [119,104,105,108,101] :: (l ++ lb)).length:=by rw [List.length_cons,List.length_append]; omega
 unfold Qs.stmt
 rw [zP hk.1,zP hk.1,if_neg (by decide),zP hk.1,if_neg (by decide),zP hk.1,if_pos (by decide)]
 unfold Qs.loop
 rw [zW hts hk.1 n3,hf F (by omega)]
 dsimp only
 rw [hg F (by omega) f (by omega),hend]
 rfl
theorem b_mk (hts:ts.length ≤ 900000000)(b:List Sm)(d:Nat)(l:List PT)(h:T3 ts b d l):T2 ts b (d + 1) (sg [123] :: (l ++ [sg [125]])):=by
 intro k o hk ho
 have ha:=hk.2.app
 obtain ⟨-,ys,f0,hy,hf⟩:=h (k + 1) (o + 1) [] [] Al.B2.nil hk.2 (by omega)
 refine ⟨ys,f0 + 1,hy,fun F hF f hff => ?_⟩
 rw [show f = (f - 1) + 1 by omega,Qs.run]
 show Qs.block ts (Qs.run ts (Qe.run ts F 0) (f - 1)).1 (f - 1) (st k o) = _
 unfold Qs.block
 rw [zBl hts hk.1 (by omega),hf F (by omega) (f - 1) (by omega) (f - 1) (by omega)]
 dsimp only
 rw [zBf hts ha.2.1 (by omega)]
 simp only [List.length_cons,List.length_append,List.length_nil]
 rw [show k + 1 + l.length + 1 = k + (l.length + (0 + 1) + 1) by omega]
theorem zSz:T3 ts [] 0 []:=by
 intro k o acc acc' hl hk _
 refine ⟨fun hc => absurd (hk.1.1.symm.trans hc.1) n43,acc',1,by rw [List.append_nil]; exact hl,fun F _ f _ g hg => ?_⟩
 rw [show g = (g - 1) + 1 by omega,Qs.stLoop,zA5 hk.1,if_neg (fun hc => absurd hc.2 (by decide))]
 rfl
theorem zQx (x:Sm)(d:Nat)(l:List PT)(xs:List Sm)(d2:Nat)(l2:List PT)(h:T1 ts x d l)(h2:T3 ts xs d2 l2):T3 ts (x :: xs) (max d d2) (l ++ l2):=by
 intro k o acc acc' hl hk ho
 rw [List.append_assoc] at hk
 have ha:=hk.app
 have hs:=zLf h.1 (o:=o) hk
 refine ⟨hs.2,?_⟩
 obtain ⟨hn,-⟩:=h2 (k + l.length) o [] [] Al.B2.nil ha.2 (by omega)
 obtain ⟨x',f0,hx,hf⟩:=h.2 k o ha.1 (by omega) hn
 obtain ⟨-,ys,f1,hy,hg⟩:=h2 (k + l.length) o (acc ++ [x]) (acc' ++ [x']) (hl.snoc hx) ha.2 (by omega)
 refine ⟨ys,f0 + f1 + 1,by rw [show acc ++ x :: xs = acc ++ [x] ++ xs by simp]; exact hy,fun F hF f hff g hgg => ?_⟩
 have h1:(Qs.run ts (Qe.run ts F 0) f).1 (st k o) = some (x',st (k + l.length) o):=by
  rw [show f = (f - 1) + 1 by omega,Qs.run]
  exact hf F (by omega) (f - 1) (by omega)
 rw [show g = (g - 1) + 1 by omega,Qs.stLoop,if_pos ⟨rfl,hs.1⟩,h1]
 dsimp only
 rw [hg F (by omega) f (by omega) (g - 1) (by omega),List.length_append,Nat.add_assoc]
theorem zLb (hts:ts.length ≤ 900000000){b:List Sm}{d:Nat}{l:List PT}(h:BP b d l):T2 ts b d l:=
 BP.rec (motive_1:=fun x d l _ => T1 ts x d l) (motive_2:=fun b d l _ => T2 ts b d l) (motive_3:=fun xs d l _ => T3 ts xs d l)
  (fun t ty d a hd => zSO hts t ty d a hd) (fun t ty d a e de l hd h => zSS hts t ty d a e de l hd h) (fun t a e de l h => zSP hts t a e de l h) (fun x dx lx a e de l hk hx h => zSR hts x dx lx a e de l hk hx h)
  (fun e de l b db lb a h hb h2 => zST hts e de l b db lb a h hb h2) (fun e de l b db lb b2 db2 lb2 a h hb _ h2 h3 => zSU hts e de l b db lb b2 db2 lb2 a h hb h2 h3) (fun e de l b db lb a h hb h2 => zQZ hts e de l b db lb a h hb h2)
  (fun a => zQY hts a) (fun a e de l h => zSQ hts a e de l h) (fun a e de l h => zOJ hts a e de l h) (fun a e de l hk h => d_do hts a e de l hk h)
  (fun b d l _ h => b_mk hts b d l h) zSz (fun x d l xs d2 l2 _ _ h h2 => zQx x d l xs d2 l2 h h2) h
end
end Rt
end Go.Proofs.YteadgahhchlgeaaDoor
