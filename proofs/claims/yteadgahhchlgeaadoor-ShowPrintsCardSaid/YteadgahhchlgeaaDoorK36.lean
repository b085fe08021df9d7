/-
  A reader takes a token, at least, for each part of what it r
-/
import Derived.Test.YteadgahhchlgeaaDoorK35
namespace Go.Proofs.YteadgahhchlgeaaDoor
namespace Rt
open Go.RowKit
open Px (RT tokAt isT levelT signsOf)
open Qe (Q)
open Pe (Ex inc dec)
open Ps (Sm kindOf nameOf)
open Pg (Pm Rc Fc Gm)
mutual
def szE:Ex → Nat
 | .mk _ _ _ _ _ ks _ _ _ _ _ => 1 + szL ks
def szL:List Ex → Nat
 | [] => 0
 | e :: es => szE e + szL es
end
mutual
def szS:Sm → Nat
 | .mk _ _ _ _ es b l _ _ => 1 + szL es + szB b + szB l
def szB:List Sm → Nat
 | [] => 0
 | x :: xs => szS x + szB xs
end
theorem zAN (k n:Int)(a b:List UInt8)(d:Int)(ks:List Ex)(p:Int):szE (Ex.of k n a b d ks p) = 1 + szL ks:=by rw [Ex.of,szE]
theorem zG7:∀ (l:List Ex)(e:Ex),szL (l ++ [e]) = szL l + szE e
 | [],e => by simp [szL]
 | x :: l,e => by rw [List.cons_append,szL,szL,zG7 l e]; omega
theorem zG8:∀ (l:List Sm)(e:Sm),szB (l ++ [e]) = szB l + szS e
 | [],e => by simp [szB]
 | x :: l,e => by rw [List.cons_append,szB,szB,zG8 l e]; omega
theorem zV (e:Ex):szL [e] = szE e:=by rw [szL,szL]; omega
theorem zCL (e i:Ex):szL [e,i] = szE e + szE i:=by rw [szL,zV]
def Up (ts:List RT)(s q:Q)(n:Nat):Prop:=q.E = 0 → s.E = 0 ∧ (s.k + n ≤ q.k ∧ q.k ≤ max s.k (ts.length:Int))
section
variable {ts:List RT}
theorem Up.refl (s:Q):Up ts s s 0:=fun h => ⟨h,by omega⟩
theorem Up.trans {a b c:Q}{n m:Nat}(h:Up ts a b n)(h2:Up ts b c m):Up ts a c (n + m):=fun h0 => by
 obtain ⟨h3,h4⟩:=h2 h0
 obtain ⟨h5,h6⟩:=h h3
 exact ⟨h5,by omega⟩
theorem Up.less {a b:Q}{n m:Nat}(h:Up ts a b n)(hm:m ≤ n):Up ts a b m:=fun h0 => ⟨(h h0).1,by have:=(h h0).2; omega⟩
theorem Up.fail {s q:Q}{e:Int}(he:e ≠ 0)(n:Nat):Up ts s (Qe.fail ts q e) n:=fun h0 => (zAv he h0).elim
end
section
variable {ts:List RT}
theorem zU (hl:ts.length ≤ 900000000){s:Q}(h:(tokAt ts s.k).kind ≠ 0):Up ts s (Qe.next s) 1:=fun h0 => by
 have hk : 0 ≤ s.k ∧ s.k < (ts.length:Int):=by
  by_cases hk : 0 ≤ s.k ∧ s.k < (ts.length:Int)
  ·exact hk
  ·rw [Px.tokAt_out hk] at h; exact absurd rfl h
 have hi:inc s.k = s.k + 1:=by unfold inc; simp [wrap64]; omega
 refine ⟨h0,?_⟩
 show s.k + 1 ≤ inc s.k ∧ inc s.k ≤ max s.k (ts.length:Int)
 rw [hi]
 omega
theorem is_kind {s:Q}{b:Bool}{t:List UInt8}(h:Qe.is ts s b t = true):(tokAt ts s.k).kind ≠ 0:=by
 have:=(zKq h).1
 cases b <;> rw [this] <;> decide
theorem zT (hl:ts.length ≤ 900000000)(s:Q)(b:Bool)(t:List UInt8):Up ts s (Qe.take ts s b t) 1:=fun h0 => by
 have h1:=zCq h0
 rw [h1.2] at h0 ⊢
 exact zU hl (is_kind h1.1) h0
theorem zBH (hl:ts.length ≤ 900000000)(s:Q)(t:List UInt8):Up ts s (Qe.opens ts s t) 1:=fun h0 => by
 unfold Qe.opens at h0 ⊢
 by_cases hc:(Qe.is ts s false t && decide (50 ≤ s.o)) = true
 ·rw [if_pos hc] at h0; exact (zAv (by decide) h0).elim
 ·rw [if_neg hc] at h0 ⊢; exact zT hl s false t h0
theorem zBt (hl:ts.length ≤ 900000000)(s:Q)(t:List UInt8):Up ts s (Qe.closes ts s t) 1:=fun h0 => zT hl s false t h0
theorem zBI (hl:ts.length ≤ 900000000)(s:Q):Up ts s (Qe.name ts s).2 1:=fun h0 => by
 obtain ⟨h1,h2,h3⟩:=zBq h0
 rw [h3] at h0 ⊢
 exact zU hl (by rw [h2]; decide) h0
theorem zIY (hl:ts.length ≤ 900000000):∀ (n:Nat)(s:Q),Up ts s (Qe.dims ts n s).2 0
 | 0,s => by
   rw [Qe.dims]
   split
   ·exact Up.fail (by decide) 0
   ·exact Up.refl s
 | n + 1,s => by
   rw [Qe.dims]
   split
   ·rename_i hi; exact ((zU hl (is_kind hi)).trans (zIY hl n _)).less (by omega)
   ·exact Up.refl s
theorem zNo (hl:ts.length ≤ 900000000)(s:Q):Up ts s (Qe.base ts s).2 1:=by
 unfold Qe.base
 split
 ·rename_i hi
  rw [Bool.or_eq_true] at hi
  exact zU hl (hi.elim is_kind is_kind)
 ·exact zBI hl s
theorem zIW (hl:ts.length ≤ 900000000):∀ (n:Nat)(s:Q),Up ts s (Qe.shut ts n s) 0
 | 0,s => Up.refl s
 | n + 1,s => ((zT hl s false [93]).trans (zIW hl n _)).less (by omega)
theorem zIX (hl:ts.length ≤ 900000000)(s:Q):Up ts s (Qe.of ts s).2.2 1:=by
 unfold Qe.of
 split
 ·rename_i hd
  intro h0
  obtain ⟨-,-,d,h1,-⟩:=zFo 3 (show (Qe.dims ts 3 s).2.E = 0 from h0)
  rw [hd] at h1
  cases h1
 ·exact (((zIY hl 3 s).trans (zNo hl _)).trans (zIW hl _ _)).less (by omega)
def RecU (ts:List RT)(r:Nat → Q → Qe.Out):Prop:=∀ n s x,r n s = some x → Up ts s x.2 (szE x.1)
variable {r:Nat → Q → Qe.Out}
theorem zFe (hl:ts.length ≤ 900000000)(hr:RecU ts r){s:Q}{x:Ex × Q}(h:Qe.inner ts r s = some x):Up ts s x.2 (1 + szE x.1):=by
 unfold Qe.inner at h
 split at h
 ·cases h
 ·rename_i he
  obtain rfl:=Option.some.inj h
  exact (((zBH hl s [40]).trans (hr _ _ _ he)).trans (zBt hl _ [41])).less (by dsimp only; omega)
theorem zEM (hl:ts.length ≤ 900000000)(hr:RecU ts r):∀ (g:Nat){l:List Ex}{s:Q}{x:List Ex × Q},Qe.argLoop ts r g l s = some x → x.2.E = 0 → s.E = 0 ∧ (s.k + szL x.1 ≤ x.2.k + szL l ∧ x.2.k ≤ max s.k (ts.length:Int))
 | 0,_,_,_,h,_ => by cases h
 | g + 1,l,s,x,h,hx => by
   rw [Qe.argLoop] at h
   by_cases hi:Qe.is ts s false [44] = true
   ·rw [if_pos hi] at h
    split at h
    ·cases h
    ·rename_i he
     obtain ⟨h1,h2⟩:=zEM hl hr g h hx
     obtain ⟨h3,h4⟩:=((zU hl (is_kind hi)).trans (hr _ _ _ he)) h1
     rw [zG7] at h2
     dsimp only at h4
     exact ⟨h3,by omega⟩
   ·rw [if_neg hi] at h
    obtain rfl:=Option.some.inj h
    exact ⟨hx,by dsimp only; omega⟩
theorem zOZ (hl:ts.length ≤ 900000000)(hr:RecU ts r){g:Nat}{s:Q}{x:List Ex × Q}(h:Qe.args ts r g s = some x):Up ts s x.2 (szL x.1):=by
 unfold Qe.args at h
 split at h
 ·obtain rfl:=Option.some.inj h
  rw [szL]
  exact ((zBH hl s [40]).trans (zBt hl _ [41])).less (by omega)
 ·split at h
  ·cases h
  ·rename_i he
   split at h
   ·cases h
   ·rename_i ha
    obtain rfl:=Option.some.inj h
    intro h0
    obtain ⟨h1,h2⟩:=zBt hl _ [41] h0
    obtain ⟨h3,h4⟩:=zEM hl hr g ha h1
    obtain ⟨h5,h6⟩:=((zBH hl s [40]).trans (hr _ _ _ he)) h3
    rw [zV] at h4
    dsimp only at h2 h4 h6 ⊢
    exact ⟨h5,by omega⟩
theorem zMa (hl:ts.length ≤ 900000000)(hr:RecU ts r){s:Q}{a:Int}{x:Ex × Q}(h:Qe.fresh ts r s a = some x):Up ts s x.2 (szE x.1):=by
 unfold Qe.fresh at h
 split at h
 ·rename_i hi
  dsimp only at h
  split at h
  ·cases h
  ·rename_i he
   obtain rfl:=Option.some.inj h
   dsimp only
   rw [zAN,zV]
   exact ((((zU hl (is_kind hi)).trans (zIX hl _)).trans (zT hl _ false [93])).trans (zFe hl hr he)).less (by dsimp only; omega)
 ·obtain rfl:=Option.some.inj h
  dsimp only
  rw [zAN,szL]
  exact zBI hl s
theorem zMp (hl:ts.length ≤ 900000000)(hr:RecU ts r){g:Nat}{s:Q}{x:Ex × Q}(h:Qe.first ts r g s = some x):Up ts s x.2 (szE x.1):=by
 unfold Qe.first at h
 dsimp only at h
 by_cases c1:s.E = 0 ∧ (tokAt ts s.k).kind = 2
 ·rw [if_pos c1] at h
  obtain rfl:=Option.some.inj h
  dsimp only
  rw [zAN,szL]
  exact zU hl (by rw [c1.2]; decide)
 rw [if_neg c1] at h
 by_cases c2:Qe.is ts s true [116,114,117,101] = true
 ·rw [if_pos c2] at h
  obtain rfl:=Option.some.inj h
  dsimp only
  rw [zAN,szL]
  exact zU hl (is_kind c2)
 rw [if_neg c2] at h
 by_cases c3:Qe.is ts s true [102,97,108,115,101] = true
 ·rw [if_pos c3] at h
  obtain rfl:=Option.some.inj h
  dsimp only
  rw [zAN,szL]
  exact zU hl (is_kind c3)
 rw [if_neg c3] at h
 by_cases c4:Qe.is ts s true [110,117,108,108] = true
 ·rw [if_pos c4] at h
  obtain rfl:=Option.some.inj h
  dsimp only
  rw [zAN,szL]
  exact ((zU hl (is_kind c4)).trans (zIX hl _)).less (by omega)
 rw [if_neg c4] at h
 by_cases c5:Qe.is ts s true [110,101,119] = true
 ·rw [if_pos c5] at h
  exact ((zU hl (is_kind c5)).trans (zMa hl hr h)).less (by omega)
 rw [if_neg c5] at h
 by_cases c6:Qe.is ts s true [108,101,110] = true
 ·rw [if_pos c6] at h
  split at h
  ·cases h
  ·rename_i he
   obtain rfl:=Option.some.inj h
   dsimp only
   rw [zAN,zV]
   exact ((zU hl (is_kind c6)).trans (zFe hl hr he)).less (by dsimp only; omega)
 rw [if_neg c6] at h
 by_cases c7:Qe.is ts s true [114,101,97,100] = true
 ·rw [if_pos c7] at h
  obtain rfl:=Option.some.inj h
  dsimp only
  rw [zAN,szL]
  exact (((zU hl (is_kind c7)).trans (zBH hl _ [40])).trans (zBt hl _ [41])).less (by omega)
 rw [if_neg c7] at h
 by_cases c8:Qe.is ts s false [40] = true
 ·rw [if_pos c8] at h
  exact (zFe hl hr h).less (by omega)
 rw [if_neg c8] at h
 by_cases c9:Qe.is ts (Qe.name ts s).2 false [40] = true
 ·rw [if_pos c9] at h
  split at h
  ·cases h
  ·rename_i he
   obtain rfl:=Option.some.inj h
   dsimp only
   rw [zAN]
   exact (zBI hl s).trans (zOZ hl hr he)
 ·rw [if_neg c9] at h
  obtain rfl:=Option.some.inj h
  dsimp only
  rw [zAN,szL]
  exact zBI hl s
theorem zDZ (hl:ts.length ≤ 900000000)(hr:RecU ts r):∀ (g:Nat){e:Ex}{s:Q}{x:Ex × Q},Qe.behind ts r g e s = some x → x.2.E = 0 → s.E = 0 ∧ (s.k + szE x.1 ≤ x.2.k + szE e ∧ x.2.k ≤ max s.k (ts.length:Int))
 | 0,_,_,_,h,_ => by cases h
 | g + 1,e,s,x,h,hx => by
   rw [Qe.behind] at h
   by_cases hc:Qe.is ts s false [46] = true
   ·rw [if_pos hc] at h
    obtain ⟨h1,h2⟩:=zDZ hl hr g h hx
    obtain ⟨h3,h4⟩:=((zU hl (is_kind hc)).trans (zBI hl _)) h1
    rw [zAN,zV] at h2
    exact ⟨h3,by omega⟩
   rw [if_neg hc] at h
   by_cases hd:Qe.is ts s false [91] = true
   ·rw [if_pos hd] at h
    split at h
    ·cases h
    ·rename_i he
     obtain ⟨h1,h2⟩:=zDZ hl hr g h hx
     obtain ⟨h3,h4⟩:=(((zBH hl s [91]).trans (hr _ _ _ he)).trans (zBt hl _ [93])) h1
     rw [zAN,zCL] at h2
     dsimp only at h4
     exact ⟨h3,by omega⟩
   ·rw [if_neg hd] at h
    obtain rfl:=Option.some.inj h
    exact ⟨hx,by dsimp only; omega⟩
theorem zDy (hl:ts.length ≤ 900000000)(hr:RecU ts r){s:Q}{t:List UInt8}{k:Int}{x:Ex × Q}(h:Qe.prefixed ts r s t k = some x):Up ts s x.2 (szE x.1):=by
 unfold Qe.prefixed at h
 split at h
 ·cases h
 ·rename_i he
  obtain rfl:=Option.some.inj h
  dsimp only
  rw [zAN,zV]
  exact fun h0 => ((zBH hl s t).trans (hr _ _ _ he)) h0
theorem zK5 (hl:ts.length ≤ 900000000)(hr:RecU ts r){g:Nat}{s:Q}{x:Ex × Q}(h:Qe.unary ts r g s = some x):Up ts s x.2 (szE x.1):=by
 unfold Qe.unary at h
 split at h
 ·exact zDy hl hr h
 split at h
 ·exact zDy hl hr h
 split at h
 ·cases h
 ·rename_i he
  intro h0
  obtain ⟨h1,h2⟩:=zDZ hl hr g h h0
  obtain ⟨h3,h4⟩:=zMp hl hr he h1
  dsimp only at h4
  exact ⟨h3,by omega⟩
theorem zJf {s:Q}{n:Nat}(h:Qe.sign ts s n ≠ 0):(tokAt ts s.k).kind ≠ 0:=by
 intro hk
 refine h ?_
 unfold Qe.sign levelT
 rw [hk]
 split <;> rfl
theorem zEI (hl:ts.length ≤ 900000000)(hr:RecU ts r){n:Nat}:∀ (g:Nat){e:Ex}{s:Q}{x:Ex × Q},Qe.binLoop ts r n g e s = some x → x.2.E = 0 → s.E = 0 ∧ (s.k + szE x.1 ≤ x.2.k + szE e ∧ x.2.k ≤ max s.k (ts.length:Int))
 | 0,_,_,_,h,_ => by cases h
 | g + 1,e,s,x,h,hx => by
   rw [Qe.binLoop] at h
   by_cases hc:Qe.sign ts s n = 0
   ·rw [if_pos hc] at h
    obtain rfl:=Option.some.inj h
    exact ⟨hx,by dsimp only; omega⟩
   ·rw [if_neg hc] at h
    split at h
    ·cases h
    ·rename_i he
     obtain ⟨h1,h2⟩:=zEI hl hr g h hx
     obtain ⟨h3,h4⟩:=((zU hl (zJf hc)).trans (hr _ _ _ he)) h1
     rw [zAN,zCL] at h2
     dsimp only at h4
     exact ⟨h3,by omega⟩
theorem run_up (hl:ts.length ≤ 900000000):∀ (f:Nat),RecU ts (Qe.run ts f)
 | 0 => fun _ _ _ h => by cases h
 | f + 1 => fun n s x h => by
   have ih:=run_up hl f
   rw [Qe.run] at h
   dsimp only at h
   by_cases hn:n = 5
   ·rw [if_pos hn] at h; exact zK5 hl ih h
   ·rw [if_neg hn] at h
    split at h
    ·cases h
    ·rename_i he
     intro h0
     obtain ⟨h1,h2⟩:=zEI hl ih f h h0
     obtain ⟨h3,h4⟩:=ih _ _ _ he h1
     dsimp only at h4
     exact ⟨h3,by omega⟩
def RxU (ts:List RT)(x:Qs.RX):Prop:=∀ s y,x s = some y → Up ts s y.2 (szE y.1)
def RbU (ts:List RT)(b:Q → Qs.OutB):Prop:=∀ s y,b s = some y → Up ts s y.2 (szB y.1)
def RsU (ts:List RT)(a:Q → Qs.Out):Prop:=∀ s y,a s = some y → Up ts s y.2 (szS y.1)
variable {x:Qs.RX} {b:Q → Qs.OutB} {a:Q → Qs.Out}
theorem zBh (k:Int)(n o:List UInt8)(d:Int)(es:List Ex)(b l:List Sm)(p z:Int):szS (.mk k n o d es b l p z) = 1 + szL es + szB b + szB l:=by rw [szS]
theorem zET:szL [] = 0:=by rw [szL]
theorem zAq:szB [] = 0:=by rw [szB]
theorem zIZ (hl:ts.length ≤ 900000000){s:Q}(h:(tokAt ts s.k).kind ≠ 0):Up ts s (Qs.decl ts s).2.2.2 1:=by
 unfold Qs.decl
 exact ((((zU hl h).trans (zBI hl _)).trans (zT hl _ false [58])).trans (zIX hl _)).less (by omega)
theorem zG1 (hl:ts.length ≤ 900000000)(hx:RxU ts x){s:Q}(hk:(tokAt ts s.k).kind ≠ 0){y:Sm × Q}(h:Qs.declared ts x s = some y):Up ts s y.2 (szS y.1):=by
 unfold Qs.declared at h
 by_cases hc:(tokAt ts s.k).text = [108,101,116]
 ·replace h:=(if_pos hc).symm.trans h
  split at h
  ·cases h
  ·rename_i he
   obtain rfl:=Option.some.inj h
   dsimp only
   rw [zBh,zV,zAq]
   exact ((((zIZ hl hk).trans (zT hl _ false [61])).trans (hx _ _ he)).trans (zT hl _ false [59])).less (by dsimp only; omega)
 ·replace h:=(if_neg hc).symm.trans h
  obtain rfl:=Option.some.inj h
  dsimp only
  rw [zBh,zET,zAq]
  exact ((zIZ hl hk).trans (zT hl _ false [59])).less (by omega)
theorem zNx (hl:ts.length ≤ 900000000)(hx:RxU ts x)(hb:RbU ts b):RsU ts (Qs.stmt ts x b):=by
 intro s y h
 unfold Qs.stmt at h
 by_cases c1:(Qe.is ts s true [118,97,114] || Qe.is ts s true [108,101,116]) = true
 ·rw [if_pos c1] at h
  rw [Bool.or_eq_true] at c1
  exact zG1 hl hx (c1.elim is_kind is_kind) h
 rw [if_neg c1] at h
 by_cases c2:Qe.is ts s true [105,102] = true
 ·rw [if_pos c2] at h
  unfold Qs.choice at h
  split at h
  ·cases h
  rename_i he
  split at h
  ·cases h
  rename_i hbl
  split at h
  ·rename_i hc
   split at h
   ·cases h
   ·rename_i hb2
    obtain rfl:=Option.some.inj h
    dsimp only
    rw [zBh,zV]
    exact (((((zU hl (is_kind c2)).trans (hx _ _ he)).trans (hb _ _ hbl)).trans (zU hl (is_kind hc))).trans (hb _ _ hb2)).less (by dsimp only; omega)
  ·obtain rfl:=Option.some.inj h
   dsimp only
   rw [zBh,zV,zAq]
   exact (((zU hl (is_kind c2)).trans (hx _ _ he)).trans (hb _ _ hbl)).less (by dsimp only; omega)
 rw [if_neg c2] at h
 by_cases c3:Qe.is ts s true [119,104,105,108,101] = true
 ·rw [if_pos c3] at h
  unfold Qs.loop at h
  split at h
  ·cases h
  rename_i he
  split at h
  ·cases h
  ·rename_i hbl
   obtain rfl:=Option.some.inj h
   dsimp only
   rw [zBh,zV,zAq]
   exact (((zU hl (is_kind c3)).trans (hx _ _ he)).trans (hb _ _ hbl)).less (by dsimp only; omega)
 rw [if_neg c3] at h
 by_cases c4:Qe.is ts s true [114,101,116,117,114,110] = true
 ·rw [if_pos c4] at h
  unfold Qs.result at h
  by_cases hc:Qe.is ts (Qe.next s) false [59] = true
  ·rw [if_pos hc] at h
   obtain rfl:=Option.some.inj h
   dsimp only
   rw [zBh,zET,zAq]
   exact ((zU hl (is_kind c4)).trans (zT hl _ false [59])).less (by omega)
  ·rw [if_neg hc] at h
   split at h
   ·cases h
   ·rename_i he
    obtain rfl:=Option.some.inj h
    dsimp only
    rw [zBh,zV,zAq]
    exact (((zU hl (is_kind c4)).trans (hx _ _ he)).trans (zT hl _ false [59])).less (by dsimp only; omega)
 rw [if_neg c4] at h
 by_cases c5:Qe.is ts s true [112,114,105,110,116] = true
 ·rw [if_pos c5] at h
  unfold Qs.output at h
  split at h
  ·cases h
  ·rename_i he
   obtain rfl:=Option.some.inj h
   dsimp only
   rw [zBh,zV,zAq]
   exact (((zU hl (is_kind c5)).trans (hx _ _ he)).trans (zT hl _ false [59])).less (by dsimp only; omega)
 rw [if_neg c5] at h
 unfold Qs.plain at h
 split at h
 ·cases h
 rename_i e s1 he
 split at h
 ·rename_i hc
  unfold Qs.plainPut at h
  split at h
  ·cases h
  ·rename_i b2 s2 hp
   obtain rfl:=Option.some.inj h
   by_cases hk:kindOf e ≠ 4 ∧ kindOf e ≠ 5 ∧ kindOf e ≠ 6
   ·intro h0
    rw [if_pos hk] at hp
    obtain ⟨h2,-⟩:=zT hl s2 false [59] h0
    obtain ⟨h3,-⟩:=hx _ _ hp h2
    obtain ⟨h4,-⟩:=zT hl _ false [61] h3
    exact (zAv (by decide) h4).elim
   ·rw [if_neg hk] at hp
    dsimp only
    split
    ·rw [zBh,zV,zAq]
     exact ((((hx _ _ he).trans (zT hl s1 false [61])).trans (hx _ _ hp)).trans (zT hl _ false [59])).less (by dsimp only; omega)
    ·rw [zBh,zCL,zAq]
     exact ((((hx _ _ he).trans (zT hl s1 false [61])).trans (hx _ _ hp)).trans (zT hl _ false [59])).less (by dsimp only; omega)
 ·obtain rfl:=Option.some.inj h
  unfold Qs.plainDo
  dsimp only
  rw [zBh,zV,zAq]
  by_cases hk:Qe.is ts s1 false [59] = true ∧ kindOf e ≠ 7
  ·rw [if_pos hk]
   intro h0
   obtain ⟨h4,-⟩:=zT hl _ false [59] h0
   exact (zAv (by decide) h4).elim
  ·rw [if_neg hk]
   exact ((hx _ _ he).trans (zT hl s1 false [59])).less (by dsimp only; omega)
theorem zFz (hl:ts.length ≤ 900000000)(ha:RsU ts a):∀ (g:Nat){l:List Sm}{s:Q}{y:List Sm × Q},Qs.stLoop ts a g l s = some y → y.2.E = 0 → s.E = 0 ∧ (s.k + szB y.1 ≤ y.2.k + szB l ∧ y.2.k ≤ max s.k (ts.length:Int))
 | 0,_,_,_,h,_ => by cases h
 | g + 1,l,s,y,h,hy => by
   rw [Qs.stLoop] at h
   by_cases hc:s.E = 0 ∧ Qe.is ts s false [125] = false
   ·rw [if_pos hc] at h
    split at h
    ·cases h
    ·rename_i he
     obtain ⟨h1,h2⟩:=zFz hl ha g h hy
     obtain ⟨h3,h4⟩:=ha _ _ he h1
     rw [zG8] at h2
     dsimp only at h4
     exact ⟨h3,by omega⟩
   ·rw [if_neg hc] at h
    obtain rfl:=Option.some.inj h
    exact ⟨hy,by dsimp only; omega⟩
theorem zMF (hl:ts.length ≤ 900000000)(ha:RsU ts a)(g:Nat):RbU ts (Qs.block ts a g):=by
 intro s y h
 unfold Qs.block at h
 split at h
 ·cases h
 ·rename_i he
  obtain rfl:=Option.some.inj h
  intro h0
  obtain ⟨h1,h2⟩:=zBt hl _ [125] h0
  obtain ⟨h3,h4⟩:=zFz hl ha g he h1
  obtain ⟨h5,h6⟩:=zBH hl s [123] h3
  rw [zAq] at h4
  dsimp only at h2 h4 h6 ⊢
  exact ⟨h5,by omega⟩
theorem zGl (hl:ts.length ≤ 900000000)(hx:RxU ts x):∀ (f:Nat),RsU ts (Qs.run ts x f).1 ∧ RbU ts (Qs.run ts x f).2
 | 0 => ⟨(fun _ _ h => by cases h),(fun _ _ h => by cases h)⟩
 | f + 1 => ⟨zNx hl hx (zGl hl hx f).2,zMF hl (zGl hl hx f).1 f⟩
def szR (x:Rc):Nat:=1 + x.fields.length
def szF (x:Fc):Nat:=1 + x.params.length + szB x.body
def sum {α:Type}(f : α → Nat):List α → Nat
 | [] => 0
 | x :: l => f x + sum f l
theorem zEU {α:Type}(f : α → Nat):∀ (l:List α)(x : α),sum f (l ++ [x]) = sum f l + f x
 | [],x => by simp [sum]
 | y :: l,x => by rw [List.cons_append,sum,sum,zEU f l x]; omega
def szG (p:Gm):Nat:=sum szR p.recs + p.globals.length + sum szF p.funcs
theorem zE7 (hl:ts.length ≤ 900000000)(s:Q):Up ts s (Qg.param ts s).2 1:=by
 unfold Qg.param
 exact (((zBI hl s).trans (zT hl _ false [58])).trans (zIX hl _)).less (by omega)
theorem zMB (hl:ts.length ≤ 900000000)(s:Q):Up ts s (Qg.comma ts s) 0:=by
 unfold Qg.comma
 split
 ·exact Up.refl s
 split
 ·exact Up.fail (by decide) 0
 ·exact (zT hl s false [44]).less (by omega)
theorem zDa (hl:ts.length ≤ 900000000):∀ (g:Nat){l:List Pm}{s:Q}{y:List Pm × Q},Qg.fieldLoop ts g l s = some y → y.2.E = 0 → s.E = 0 ∧ (s.k + y.1.length ≤ y.2.k + l.length ∧ y.2.k ≤ max s.k (ts.length:Int))
 | 0,_,_,_,h,_ => by cases h
 | g + 1,l,s,y,h,hy => by
   rw [Qg.fieldLoop] at h
   by_cases hc:s.E = 0 ∧ Qe.is ts s false [125] = false
   ·rw [if_pos hc] at h
    by_cases hk:(tokAt ts s.k).kind = 1 ∧ l.length = 8
    ·rw [if_pos hk] at h
     obtain rfl:=Option.some.inj h
     exact (zAv (by decide) hy).elim
    ·rw [if_neg hk] at h
     obtain ⟨h1,h2⟩:=zDa hl g h hy
     obtain ⟨h3,h4⟩:=((zE7 hl s).trans (zT hl _ false [59])) h1
     rw [List.length_append,List.length_singleton] at h2
     exact ⟨h3,by omega⟩
   ·rw [if_neg hc] at h
    obtain rfl:=Option.some.inj h
    exact ⟨hy,by dsimp only; omega⟩
theorem zEq (hl:ts.length ≤ 900000000):∀ (g:Nat){l:List Pm}{s:Q}{y:List Pm × Q},Qg.parLoop ts g l s = some y → y.2.E = 0 → s.E = 0 ∧ (s.k + y.1.length ≤ y.2.k + l.length ∧ y.2.k ≤ max s.k (ts.length:Int))
 | 0,_,_,_,h,_ => by cases h
 | g + 1,l,s,y,h,hy => by
   rw [Qg.parLoop] at h
   by_cases hc:s.E = 0 ∧ Qe.is ts s false [41] = false
   ·rw [if_pos hc] at h
    by_cases hk:(tokAt ts s.k).kind = 1 ∧ l.length = 6
    ·rw [if_pos hk] at h
     obtain rfl:=Option.some.inj h
     exact (zAv (by decide) hy).elim
    ·rw [if_neg hk] at h
     obtain ⟨h1,h2⟩:=zEq hl g h hy
     obtain ⟨h3,h4⟩:=((zE7 hl s).trans (zMB hl _)) h1
     rw [List.length_append,List.length_singleton] at h2
     exact ⟨h3,by omega⟩
   ·rw [if_neg hc] at h
    obtain rfl:=Option.some.inj h
    exact ⟨hy,by dsimp only; omega⟩
theorem zJv (hl:ts.length ≤ 900000000){g:Nat}{s:Q}{y:Rc × Q}(h:Qg.record ts g s = some y):Up ts s y.2 (szR y.1):=by
 unfold Qg.record at h
 split at h
 ·cases h
 ·rename_i he
  obtain rfl:=Option.some.inj h
  intro h0
  obtain ⟨h1,h2⟩:=zT hl _ false [125] h0
  obtain ⟨h3,h4⟩:=zDa hl g he h1
  obtain ⟨h5,h6⟩:=((zBI hl s).trans (zT hl _ false [123])) h3
  rw [List.length_nil] at h4
  unfold szR
  dsimp only at h2 h4 h6 ⊢
  exact ⟨h5,by omega⟩
theorem zJq (hl:ts.length ≤ 900000000)(s:Q):Up ts s (Qg.resultOf ts s).2.2.2 0:=by
 unfold Qg.resultOf
 split
 ·rename_i hi; exact ((zU hl (is_kind hi)).trans (zIX hl _)).less (by omega)
 ·exact Up.refl s
theorem zGT (hl:ts.length ≤ 900000000)(hb:RbU ts b){g:Nat}{s:Q}{y:Fc × Q}(h:Qg.function ts b g s = some y):Up ts s y.2 (szF y.1):=by
 unfold Qg.function at h
 split at h
 ·cases h
 rename_i he
 dsimp only at h
 split at h
 ·cases h
 ·rename_i hbl
  obtain rfl:=Option.some.inj h
  intro h0
  obtain ⟨h1,h2⟩:=(((zT hl _ false [41]).trans (zJq hl _)).trans (hb _ _ hbl)) h0
  obtain ⟨h3,h4⟩:=zEq hl g he h1
  obtain ⟨h5,h6⟩:=((zBI hl s).trans (zT hl _ false [40])) h3
  rw [List.length_nil] at h4
  unfold szF
  dsimp only at h2 h4 h6 ⊢
  exact ⟨h5,by omega⟩
theorem zCE (hl:ts.length ≤ 900000000)(hb:RbU ts b):∀ (g:Nat){p:Gm}{s:Q}{y:Gm × Q},Qg.loop ts b g p s = some y → y.2.E = 0 → s.E = 0 ∧ (s.k + szG y.1 ≤ y.2.k + szG p ∧ y.2.k ≤ max s.k (ts.length:Int))
 | 0,_,_,_,h,_ => by cases h
 | g + 1,p,s,y,h,hy => by
   rw [Qg.loop] at h
   by_cases hc:s.E = 0 ∧ (tokAt ts s.k).kind ≠ 0
   ·rw [if_pos hc] at h
    by_cases ho:Qg.over ts p s
    ·rw [if_pos ho] at h
     exact (zAv (by decide) (zA1 h hy)).elim
    rw [if_neg ho] at h
    by_cases c1:Qe.is ts s true [114,101,99,111,114,100] = true
    ·rw [if_pos c1] at h
     split at h
     ·cases h
     ·rename_i he
      obtain ⟨h1,h2⟩:=zCE hl hb g h hy
      obtain ⟨h3,h4⟩:=((zU hl (is_kind c1)).trans (zJv hl he)) h1
      unfold szG Gm.addR at h2
      unfold szG
      dsimp only at h2 h4 ⊢
      rw [zEU] at h2
      exact ⟨h3,by omega⟩
    rw [if_neg c1] at h
    by_cases c2:Qe.is ts s true [103,108,111,98,97,108] = true
    ·rw [if_pos c2] at h
     obtain ⟨h1,h2⟩:=zCE hl hb g h hy
     obtain ⟨h3,h4⟩:=(((zU hl (is_kind c2)).trans (zE7 hl _)).trans (zT hl _ false [59])) h1
     unfold szG Gm.addG at h2
     unfold szG
     dsimp only at h2 h4 ⊢
     rw [List.length_append,List.length_singleton] at h2
     exact ⟨h3,by omega⟩
    rw [if_neg c2] at h
    by_cases c3:Qe.is ts s true [102,117,110,99] = true
    ·rw [if_pos c3] at h
     split at h
     ·cases h
     ·rename_i he
      obtain ⟨h1,h2⟩:=zCE hl hb g h hy
      obtain ⟨h3,h4⟩:=((zU hl (is_kind c3)).trans (zGT hl hb he)) h1
      unfold szG Gm.addF at h2
      unfold szG
      dsimp only at h2 h4 ⊢
      rw [zEU] at h2
      exact ⟨h3,by omega⟩
    ·rw [if_neg c3] at h
     exact (zAv (by decide) (zA1 h hy)).elim
   ·rw [if_neg hc] at h
    obtain rfl:=Option.some.inj h
    exact ⟨hy,by dsimp only; omega⟩
end
end Rt
end Go.Proofs.YteadgahhchlgeaaDoor
