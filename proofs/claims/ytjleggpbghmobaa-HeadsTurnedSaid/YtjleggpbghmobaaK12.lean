/-
  The contracts of the answer's reader (runrigref3) over the p
-/
import Derived.Test.YtjleggpbghmobaaK01
import Derived.Test.YtjleggpbghmobaaK07
import Derived.Test.YtjleggpbghmobaaK11
set_option maxRecDepth 8000
set_option maxHeartbeats 8000000
namespace Go.Proofs.Ytjleggpbghmobaa
open Go.RowKit
open Px (RT tokAt isT)
open Pe (inc dec Ex)
open Qe (Q)
structure ArgSq (w wr:World) (R:Nat) (S:Value) (ts:List RT) (v:Value) (l:List Ex) (s:Q):Prop where
 qr:Qr wr R S ts s
 gr:Gr R w wr
 own:∃ vss:List (List Value),vss.length = l.length ∧ wr.ownsRow w.heap.size 120 11 v l.length vss.flatten ∧ ∀ (i:Nat) e vs,l[i]? = some e → vss[i]? = some vs → IsBut v.ownBlock wr w.heap.size e vs
theorem ArgSq.start {w wr:World}{R:Nat}{S:Value}{ts:List RT}{s:Q}(hr:Qr wr R S ts s)(hg:Gr R w wr):ArgSq w wr R S ts (.slice none 0 0) [] s:=
 ⟨hr,hg,[],rfl,World.ownsRow_nil _ _ _ _,fun i e vs h _ => by simp at h⟩
theorem ArgSq.go {w wr w':World}{R:Nat}{S:Value}{ts:List RT}{v:Value}{l:List Ex}{s s2:Q}(h:ArgSq w wr R S ts v l s)(hlt:R < w.heap.size)(hr:Qr w' R S ts s2)(hg:Gr R wr w'):ArgSq w w' R S ts v l s2:=by
 obtain ⟨vss,h1,h2,h3⟩:=h.own
 exact ⟨hr,h.gr.trans hg,vss,h1,zFT h2 hg hlt,fun i e vs he hv => (h3 i e vs he hv).go hg.size fun bl hb hl _ => hg.block bl hl (by omega)⟩
theorem ArgSq.own_lt {w wr:World}{R:Nat}{S:Value}{ts:List RT}{v:Value}{l:List Ex}{s:Q}(h:ArgSq w wr R S ts v l s):∀ k,v.ownBlock = some k → w.heap.size ≤ k ∧ k < wr.heap.size:=by
 obtain ⟨vss,h1,h2,h3⟩:=h.own
 exact fun k hk => h2.lt k hk
theorem ArgSq.push {w wr w1 w3:World}{R:Nat}{S:Value}{ts:List RT}{v v':Value}{l:List Ex}{s s2:Q}{e:Ex}{vs:List Value}{T:TypeId}{A:Array Value}(h0:Qr w R S ts s)(h:ArgSq w w1 R S ts v l s2)(hwr:∀ k,v.ownBlock = some k → k < wr.heap.size)(hB:w.heap.size ≤ wr.heap.size)
 (hi:Is w1 wr.heap.size e vs) {vss:List (List Value)} (hl:vss.length = l.length) (hk:∀ (i:Nat) e vs,l[i]? = some e → vss[i]? = some vs → IsBut v.ownBlock w1 w.heap.size e vs)
 (hown:w3.ownsRow w.heap.size 120 11 v' (l.length + 1) (vss.flatten ++ vs)) (hgrow:(w1.alloc (.cells A T)).grownBy w3 v.ownBlock) (hat:v'.ownBlock = v.ownBlock ∨ v'.ownBlock = some (w1.heap.size + 1)) :
 ArgSq w w3 R S ts v' (l ++ [e]) s2:=by
 have hlt:=h0.lt
 have hsz:w.heap.size ≤ w1.heap.size:=h.gr.size
 have ha:∀ bl,bl < w1.heap.size → (w1.alloc (.cells A T)).heap[bl]? = w1.heap[bl]?:=fun bl hb => heap_alloc_old _ _ hb
 have hgb:∀ bl,bl < w1.heap.size → some bl ≠ v.ownBlock → w3.heap[bl]? = w1.heap[bl]?:=fun bl hb hne => (hgrow.block bl (by rw [zB]; omega) hne).trans (ha bl hb)
 have hs3:w1.heap.size ≤ w3.heap.size:=by have:=hgrow.size; rw [zB] at this; omega
 have hlow:∀ bl,bl < w.heap.size → w3.heap[bl]? = w1.heap[bl]?:=fun bl hb => hgb bl (by omega) (fun e => by have:=(h.own_lt bl e.symm).1; omega)
 have hn:Nw R w w1 w3:=⟨⟨hgrow.os,hgrow.tape,hgrow.output,hs3,hlow⟩,⟨hgrow.os.trans h.gr.os,hgrow.tape.trans h.gr.tape,hgrow.output.trans h.gr.output,Nat.le_trans hsz hs3,fun i hi hne => (hlow i hi).trans (h.gr.block i hi hne)⟩⟩
 refine ⟨h0.fin h.qr hn,hn.gr,vss ++ [vs],by simp [hl],by simpa using hown,fun i e' vs' he hv => ?_⟩
 have hnew:v'.ownBlock = v.ownBlock ∨ ∃ k,v'.ownBlock = some k ∧ w1.heap.size ≤ k:=by
  rcases hat with h1 | h1
  ·exact .inl h1
  ·exact .inr ⟨_,h1,by omega⟩
 have hlen:vss.length = l.length:=hl
 by_cases hi':i < l.length
 ·rw [List.getElem?_append_left hi'] at he
  rw [List.getElem?_append_left (by omega)] at hv
  exact (hk i e' vs' he hv).move hs3 (fun bl _ hb hne => hgb bl hb hne) hnew
 ·have hieq:i = l.length:=by
   have:=(List.getElem?_eq_some_iff.1 he).1
   simp at this
   omega
  subst hieq
  simp at he
  rw [← hlen] at hv
  simp at hv
  subst he hv
  exact (IsBut.of (g:=v.ownBlock) hi hB hwr).move hs3 (fun bl _ hb hne => hgb bl hb hne) hnew
def ArgsPq (w:World)(R:Nat)(S:Value)(ts:List RT)(x:List Ex × Q)(e:Ending)(w':World):Prop:=
 ∃ p c,e = .returned (.slice p x.1.length c) ∧ (x.1 = [] ∨ ∃ bl off,p = some ⟨bl,off,none⟩ ∧ bl < w'.heap.size ∧ w.heap.size ≤ bl ∧ At w' w.heap.size bl off x.1) ∧ Qr w' R S ts x.2 ∧ Gr R w w'
theorem ArgSq.done {w wr:World}{R:Nat}{S:Value}{ts:List RT}{v:Value}{l:List Ex}{s:Q}(h:ArgSq w wr R S ts v l s):ArgsPq w R S ts (l,s) (.returned v) wr:=by
 obtain ⟨vss,h1,h2,h3⟩:=h.own
 rcases h2.2 with ⟨hv,h0⟩ | ⟨g,cap,cur,hv,hb,hc,hn,hcap,hsize,htake⟩
 ·have:l = []:=List.eq_nil_of_length_eq_zero h0
  subst this
  exact ⟨none,0,by rw [hv]; rfl,.inl rfl,h.qr,h.gr⟩
 ·refine ⟨_,cap,by rw [hv],.inr ⟨g,0,rfl,zA hc,hb,At.of_row hc l 0 vss h1 (fun i e vs he hvs => (h3 i e vs he hvs).now) fun i hlt => ?_⟩,h.qr,h.gr⟩
  rw [← htake] at hlt ⊢
  have hlt2:i < l.length * 11:=by simp at hlt; omega
  simp [hlt2]
theorem zEN {ts:List RT}{rec:Nat → Q → Qe.Out}{g:Nat}{s:Q}{x:List Ex × Q}(h:Qe.args ts rec g s = some x)(hv:Qe.is ts (Qe.opens ts s [40]) false [41] = true):x = ([],Qe.closes ts (Qe.opens ts s [40]) [41]):=by
 unfold Qe.args at h
 rw [if_pos hv] at h
 simpa using h.symm
theorem zEM {ts:List RT}{rec:Nat → Q → Qe.Out}{g:Nat}{s:Q}{x:List Ex × Q}(h:Qe.args ts rec g s = some x)(hv:Qe.is ts (Qe.opens ts s [40]) false [41] = false) :
 ∃ e s2 l3 s3,rec 0 (Qe.opens ts s [40]) = some (e,s2) ∧ Qe.argLoop ts rec g [e] s2 = some (l3,s3) ∧ x = (l3,Qe.closes ts s3 [41]):=by
 unfold Qe.args at h
 rw [if_neg (by rw [hv]; decide)] at h
 split at h
 ·cases h
 ·rename_i e s2 he
  split at h
  ·cases h
  ·rename_i l3 s3 h3
   exact ⟨e,s2,l3,s3,he,h3,by simpa using h.symm⟩
theorem zFA {ts:List RT}{rec:Nat → Q → Qe.Out}{g:Nat}{l:List Ex}{s:Q}{x:List Ex × Q}(h:Qe.argLoop ts rec (g + 1) l s = some x)(hv:Qe.is ts s false [44] = true):∃ e s2,rec 0 (Qe.next s) = some (e,s2) ∧ Qe.argLoop ts rec g (l ++ [e]) s2 = some x:=by
 rw [Qe.argLoop,if_pos hv] at h
 split at h
 ·cases h
 ·rename_i e s2 he
  exact ⟨e,s2,he,h⟩
theorem zGP {ts:List RT}{rec:Nat → Q → Qe.Out}{g:Nat}{l:List Ex}{s:Q}{x:List Ex × Q}(h:Qe.argLoop ts rec (g + 1) l s = some x)(hv:Qe.is ts s false [44] = false):x = (l,s):=by
 rw [Qe.argLoop,hv] at h
 simpa using h.symm
theorem zEG {ts:List RT}{rec:Nat → Q → Qe.Out}{l:List Ex}{s:Q}{x:List Ex × Q}(h:Qe.argLoop ts rec 0 l s = some x):False:=by
 rw [Qe.argLoop] at h; cases h
theorem zEW (w:World)(R:Nat)(S:Value)(ts:List RT)(s:Q)(h:Qr w R S ts s)(hv:Qe.is ts (Qe.opens ts s [40]) false [41] = true) :
 Calls Try.prog 70 #[.pointer (some ⟨R,0,none⟩)] w (ArgsPq w R S ts ([],Qe.closes ts (Qe.opens ts s [40]) [41])):=by
 have HV:=vH hv
 clear hv
 have hlt:=h.lt
 have HH:=vH h
 have F:=vH (Fq.start h)
 clear h
 go_in
 go_wp2_with fail
 refine (zAm _ R S ts _ F.out.qr ⟨#[40]⟩ (zAb _ (by decide))).mono ?_
 rintro e u1 ⟨rfl,hr,hg⟩
 replace F:=vH (F.out.step hr hg)
 clear hr hg
 go_wp2_with fail
 refine (zG _ R S ts _ F.out.qr ⟨#[41]⟩ (by decide) false (by decide)).mono ?_
 rintro e u2 ⟨rfl,hb⟩
 replace F:=vH (F.out.go hb)
 clear hb
 try rw [show Qe.is ts (Qe.opens ts s (⟨#[40]⟩:ByteArray).data.toList) false (⟨#[41]⟩:ByteArray).data.toList = true from HV.out]
 go_wp2_with fail
 refine (zAk _ R S ts _ F.out.qr ⟨#[41]⟩ (zAb _ (by decide))).mono ?_
 rintro e u3 ⟨rfl,hr,hg⟩
 replace F:=vH (F.out.step hr hg)
 clear hr hg
 go_wp2_with fail
 exact bodyPost_ret (v:=.slice none 0 0) (by simp [results,Try.results70,go_sem]) rfl ⟨none,0,rfl,.inl rfl,F.out.qr,F.out.gr⟩
theorem zEV (w:World)(R:Nat)(S:Value)(ts:List RT)(s:Q)(h:Qr w R S ts s)(rec:Nat → Q → Qe.Out)(hrec:QRecOk ts rec)(g:Nat)(hg:g ≤ 1000000000)(hv:Qe.is ts (Qe.opens ts s [40]) false [41] = false)(e0:Ex)(s2:Q)(he:rec 0 (Qe.opens ts s [40]) = some (e0,s2))(l3:List Ex)(s3:Q)(h3:Qe.argLoop ts rec g [e0] s2 = some (l3,s3)) :
 Calls Try.prog 70 #[.pointer (some ⟨R,0,none⟩)] w (ArgsPq w R S ts (l3,Qe.closes ts s3 [41])):=by
 have HEX:=vH (fun s2 y (hy:rec 0 s2 = some y) w1 hh => hrec 0 s2 y (by decide) hy w1 R S hh)
 have HV:=vH hv
 have HREC:=vH he
 have H3:=vH h3
 have HG9:=vH hg
 have HBD:=vH (show ([]:List Ex).length + 1 ≤ 1000000001 by decide)
 obtain ⟨i0,hi0,hz0,hz1,hz2⟩:=info_parts zJQ
 clear hrec hv he h3 hg
 have hlt:=h.lt
 have HH:=vH h
 have F:=vH (Fq.start h)
 clear h
 go_in
 go_wp2_with fail
 refine (zAm _ R S ts _ F.out.qr ⟨#[40]⟩ (zAb _ (by decide))).mono ?_
 rintro e u1 ⟨rfl,hr,hg⟩
 replace F:=vH (F.out.step hr hg)
 clear hr hg
 go_wp2_with fail
 refine (zG _ R S ts _ F.out.qr ⟨#[41]⟩ (by decide) false (by decide)).mono ?_
 rintro e w2 ⟨rfl,hb⟩
 replace F:=vH (F.out.go hb)
 clear hb
 try rw [show Qe.is ts (Qe.opens ts s (⟨#[40]⟩:ByteArray).data.toList) false (⟨#[41]⟩:ByteArray).data.toList = false from HV.out]
 have HA2:=vH (ArgSq.start F.out.qr F.out.gr)
 clear F HV
 go_wp2_with fail
 have hwrHA8:∀ k,Value.ownBlock (.slice none 0 0) = some k → k < w2.heap.size:=fun k hk => (HA2.out.own_lt k hk).2
 have HWR:=vH hwrHA8
 clear hwrHA8
 have hsB:w.heap.size ≤ w2.heap.size:=HA2.out.gr.size
 refine (HEX.out _ _ HREC.out _ HA2.out.qr).mono ?_
 rintro e w7 ⟨qk,qn,qs,qo,qd,qp,ql,qc,qa,qb,qr,qe,qf,rfl,hi,hr,hg⟩
 have HIQ:=vH hi
 have HX:=vH (HA2.out.go hlt hr hg)
 clear hi hr hg
 obtain ⟨vss,hv1,hown,hkid⟩:=HX.out.own
 have HO:=vH hown
 have HK:=vH hkid
 have HV1:=vH hv1
 have hsX:w.heap.size ≤ w7.heap.size:=HX.out.gr.size
 clear hown hkid hv1
 go_wp2_with (at_builtin; refine wpList_append_own_at _ rfl _ _ 112 rfl w.heap.size 120 i0 _ 11 120 Try.underlying112 hi0 hz0 hz1 hz2 rfl (by decide) _ ([]:List Ex).length _ rfl (HO.out.alloc _) ⟨w7.heap.size,0,none⟩ 1 1 (exCells qk qn qs qo qd (.slice qp ql qc) qa qb qr qe qf) rfl rfl ?c1 ?c2 ?c3 ?c4 ?c5 ?_)
 case c1 => exact zAE rfl rfl
 case c2 => exact zHP _ _ _ _ _ _ _ _ _ _ _ _ _
 case c3 => have:=HBD.out; unfold maxLen; omega
 case c4 => have:=HBD.out; omega
 case c5 => rw [zB]; omega
 intro v' w8 hown' hgrow _ hat
 have HA8:=vH (ArgSq.push HH.out HX.out HWR.out hsB HIQ.out HV1.out HK.out hown' hgrow hat)
 clear hown' hgrow hat HO HK HV1 HX HIQ HWR hsX hsB HREC HBD HA2
 go_wp2_with fail
 go_loopg [3] g (fun n v wr => ∃ l s4,ArgSq w wr R S ts v l s4 ∧ Qe.argLoop ts rec n l s4 = some (l3,s3) ∧ l.length + n ≤ 1000000001)
 case atStart => exact ⟨_,_,HA8.out,H3.out,by have:=HG9.out; simp; omega⟩
 case round =>
  obtain ⟨l,s4,ha,h3,hbd⟩:=hrel
  have HA4:=vH ha
  have H34:=vH h3
  clear ha h3 HA8
  cases gk with
  | zero => exact (zEG H34.out).elim
  | succ m =>
    have HBD:=vH (show l.length + 1 ≤ 1000000001 by omega)
    have HBM:=vH hbd
    clear hbd
    go_wp2_with fail
    refine (zG _ R S ts s4 HA4.out.qr ⟨#[44]⟩ (by decide) false (by decide)).mono ?_
    rintro e w5 ⟨rfl,hb⟩
    have HA5:=vH (HA4.out.go hlt (HA4.out.qr.go hb) (Gr.of hb))
    clear hb HA4
    cases hv:Qe.is ts s4 false [44] with
    | false =>
      have hx:=zGP H34.out hv
      injection hx with hx1 hx2
      subst hx1 hx2
      try rw [hv]
      clear hv
      go_wp2_with fail
      refine (zAk _ R S ts s3 HA5.out.qr ⟨#[41]⟩ (zAb _ (by decide))).mono ?_
      rintro e w6 ⟨rfl,hr,hg⟩
      have HA6:=vH (HA5.out.go hlt hr hg)
      clear hr hg HA5
      go_wp2_with fail
      exact bodyPost_ret (v:=u3) (by simp [results,Try.results70,go_sem]) rfl HA6.out.done
    | true =>
      obtain ⟨e0,s5,he,h5⟩:=zFA H34.out hv
      try rw [hv]
      have HREC:=vH he
      have H5:=vH h5
      clear hv he h5 H34
      obtain ⟨⟨c0,c1,c2,c3,c4⟩,fr,hRl⟩:=HA5.out.qr.cells
      have fr1:=fr 1
      clear fr
      go_wp2_with fail
      have HA6:=vH (HA5.out.go hlt (HA5.out.qr.set_k (inc s4.k)) ((Gr.refl R _).set 1 _))
      clear c0 c1 c2 c3 c4 fr1 hRl
      obtain ⟨w6,hw6⟩:∃ w6,w6 = w5.setCell ⟨R,1,none⟩ (.int .i64 (inc s4.k)):=⟨_,rfl⟩
      rw [← hw6] at HA6
      change Calls _ _ _ (w5.setCell ⟨R,1,none⟩ (.int .i64 (inc s4.k))) _
      rw [← hw6]
      clear hw6 HA5
      have hwrHA8:∀ k,Value.ownBlock (u3) = some k → k < w6.heap.size:=fun k hk => (HA6.out.own_lt k hk).2
      have HWR:=vH hwrHA8
      clear hwrHA8
      have hsB:w.heap.size ≤ w6.heap.size:=HA6.out.gr.size
      refine (HEX.out _ _ HREC.out _ HA6.out.qr).mono ?_
      rintro e w7 ⟨qk,qn,qs,qo,qd,qp,ql,qc,qa,qb,qr,qe,qf,rfl,hi,hr,hg⟩
      have HIQ:=vH hi
      have HX:=vH (HA6.out.go hlt hr hg)
      clear hi hr hg
      obtain ⟨vss,hv1,hown,hkid⟩:=HX.out.own
      have HO:=vH hown
      have HK:=vH hkid
      have HV1:=vH hv1
      have hsX:w.heap.size ≤ w7.heap.size:=HX.out.gr.size
      clear hown hkid hv1
      go_wp2_with (at_builtin; refine wpList_append_own_at _ rfl _ _ 112 rfl w.heap.size 120 i0 _ 11 120 Try.underlying112 hi0 hz0 hz1 hz2 rfl (by decide) _ l.length _ rfl (HO.out.alloc _) ⟨w7.heap.size,0,none⟩ 1 1 (exCells qk qn qs qo qd (.slice qp ql qc) qa qb qr qe qf) rfl rfl ?c1 ?c2 ?c3 ?c4 ?c5 ?_)
      case c1 => exact zAE rfl rfl
      case c2 => exact zHP _ _ _ _ _ _ _ _ _ _ _ _ _
      case c3 => have:=HBD.out; unfold maxLen; omega
      case c4 => have:=HBD.out; omega
      case c5 => rw [zB]; omega
      intro v' w8 hown' hgrow _ hat
      have HA8:=vH (ArgSq.push HH.out HX.out HWR.out hsB HIQ.out HV1.out HK.out hown' hgrow hat)
      clear hown' hgrow hat HO HK HV1 HX HIQ HWR hsX hsB
      go_wp2_with fail
      go_roundg m
      case measure => omega
      case rel => exact ⟨_,_,HA8.out,H5.out,by have:=HBM.out; simp; omega⟩
theorem zDi (w:World)(R:Nat)(S:Value)(ts:List RT)(s:Q)(h:Qr w R S ts s)(rec:Nat → Q → Qe.Out)(hrec:QRecOk ts rec)(g:Nat)(hg:g ≤ 1000000000)(x:List Ex × Q)(hx:Qe.args ts rec g s = some x) :
 Calls Try.prog 70 #[.pointer (some ⟨R,0,none⟩)] w (ArgsPq w R S ts x):=by
 cases hv:Qe.is ts (Qe.opens ts s [40]) false [41] with
 | true =>
   rw [zEN hx hv]
   exact zEW w R S ts s h hv
 | false =>
   obtain ⟨e0,s2,l3,s3,he,h3,rfl⟩:=zEM hx hv
   exact zEV w R S ts s h rec hrec g hg hv e0 s2 he l3 s3 h3
end Go.Proofs.Ytjleggpbghmobaa
