/-
  A region that draws its order, one operation of which (numbe
-/
import Derived.Test.YteadgahhchlgeaaDoorK11
import Derived.Test.YteadgahhchlgeaaDoorK02
import Derived.OrdersHeld
import Derived.RegionTactic
set_option maxRecDepth 8000
set_option maxHeartbeats 8000000
namespace Go.Proofs.YteadgahhchlgeaaDoor
open Go
section
variable {P:Program} {ops:Array Oper} {Q:Exit → Act → World → Prop} {md:Region.Mode} {S:World → Prop} {z:Nat}
def Till (P:Program)(md:Region.Mode)(ops:Array Oper)(Q:Exit → Act → World → Prop)(S:World → Prop)(z:Nat):Nat → Array Bool → Act → World → Prop
 | 0,listed,a,w => Region.ready md ops listed = [] ∧ Q .normal a w
 | f + 1,listed,a,w => (Region.ready md ops listed = [] → Q .normal a w) ∧
     ∀ i ∈ Region.ready md ops listed,wpOp P ops Q i (fun a' w' => (i = z ∨ S w') ∧ Till P md ops Q S z f (listed.setIfInBounds i true) a' w') a w
theorem Till.any:∀ (f:Nat)(listed:Array Bool)(a:Act)(w:World),Till P md ops Q S z f listed a w → wpAny P md ops Q f listed a w
 | 0,_,_,_,h => h
 | f + 1,_,_,_,h => ⟨h.1,fun i hi => wpOp_mono (fun a' w' h' => Till.any f _ a' w' h'.2) (h.2 i hi)⟩
theorem zNi {i:Nat}{listed:Array Bool}(hz:∃ oz,ops[z]? = some oz ∧ ∃ e ∈ oz.after,Region.binds md e = true ∧ e.on = i)(hr:i ∈ Region.ready md ops listed):z ∉ Region.ready md ops listed:=fun hj => by
 obtain ⟨oz,hoz,e,he,hb,rfl⟩:=hz
 obtain ⟨-,o,ho,hall⟩:=mem_ready.1 hj
 rw [hoz] at ho
 injection ho with ho
 subst ho
 have h1:=hall e he hb
 have h0:=(mem_ready.1 hr).1
 rcases Nat.lt_or_ge e.on listed.size with h' | h'
 ·simp [h'] at h0 h1; rw [h0] at h1; cases h1
 ·simp [Array.getElem?_eq_none h'] at h1
theorem Till.first {i:Nat}{oi:Oper}{v:Value}(hi:ops[i]? = some oi)(hs:Region.noSelect ops = true)(hz:∃ oz,ops[z]? = some oz ∧ ∃ e ∈ oz.after,Region.binds md e = true ∧ e.on = i)
 (hQ:∀ c a w,Q (.panic c) (a.put oi.dst v) w → Q (.panic c) a w):∀ (f:Nat) (listed:Array Bool) (a:Act) (w:World),
  (∀ j oj,ops[j]? = some oj → j ≠ i → listed.getD j true = false → (∀ e ∈ oj.after,Region.binds md e = true → e.on ≠ i) → oi.apart ops oj = true) →
  i ∈ Region.ready md ops listed → YieldsIf P ops S oi v a → S w → Till P md ops Q S z f (listed.setIfInBounds i true) (a.put oi.dst v) w → Till P md ops Q S z (f + 1) listed a w:=by
 intro f
 induction f with
 | zero =>
   intro listed a w _ hr hy hS H
   refine ⟨fun h => absurd hr (by rw [h]; exact List.not_mem_nil),fun j hj => ?_⟩
   by_cases hji:j = i
   ·subst hji
    exact hy.wpOp hi hS ⟨.inr hS,H⟩
   ·exact absurd (ready_mono hj hji) (by rw [H.1]; exact List.not_mem_nil)
 | succ f ih =>
   intro listed a w hfree hr hy hS H
   refine ⟨fun h => absurd hr (by rw [h]; exact List.not_mem_nil),fun j hj => ?_⟩
   by_cases hji:j = i
   ·subst hji
    exact hy.wpOp hi hS ⟨.inr hS,H⟩
   ·have hjz:j ≠ z:=fun e => zNi hz hr (e ▸ hj)
    obtain ⟨hun,oj,hoj,hall⟩:=mem_ready.1 hj
    have h0:=(mem_ready.1 hr).1
    have hnot:∀ e ∈ oj.after,Region.binds md e = true → e.on ≠ i:=fun e he hb hq => by
        have h1:=hall e he hb
        rw [hq] at h1
        rcases Nat.lt_or_ge i listed.size with h' | h'
        ·simp [h'] at h0 h1; rw [h0] at h1; cases h1
        ·simp [Array.getElem?_eq_none h'] at h1
    have step:=wpOp_putIf hoj (hfree j oj hoj hji hun hnot) (fun cs b => Region.noSelect_spec hs i oi cs b hi) (fun cs b => Region.noSelect_spec hs j oj cs b hoj) hQ hy (H.2 j (ready_mono hj hji))
    refine wpOp_mono (fun a' w' h => ?_) step
    obtain ⟨hy',hS',hT⟩:=h
    have hS2:S w':=hS'.resolve_left hjz
    refine ⟨.inr hS2,ih (listed.setIfInBounds j true) a' w' (fun k ok hk hki hku hkn => hfree k ok hk hki ?_ hkn) (ready_mono hr (Ne.symm hji)) hy' hS2 ?_⟩
    ·by_cases hjk:j = k
     ·subst hjk; exact hun
     ·rw [getD_set_ne true hjk] at hku; exact hku
    ·rw [Array.setIfInBounds_comm _ _ hji]
     exact hT
theorem Till.take {i:Nat}{oi oz:Oper}{v:Value}{f:Nat}{listed:Array Bool}{a:Act}{w:World}(hi:ops[i]? = some oi)(hs:Region.noSelect ops = true)(hf:Region.free md ops listed i = true)(hr:(Region.ready md ops listed).contains i = true)
 (hz:ops[z]? = some oz) (hz2:oz.after.any (fun e => Region.binds md e && e.on == i) = true) (hQ:∀ c a w,Q (.panic c) (a.put oi.dst v) w → Q (.panic c) a w) (hy:YieldsIf P ops S oi v a) (hS:S w)
 (h:Till P md ops Q S z f (listed.setIfInBounds i true) (a.put oi.dst v) w):Till P md ops Q S z (f + 1) listed a w:=by
 obtain ⟨e,he,hb⟩:=Array.any_eq_true'.1 hz2
 simp only [Bool.and_eq_true,beq_iff_eq] at hb
 exact Till.first hi hs ⟨oz,hz,e,he,hb⟩ hQ f listed a w (Region.free_spec hi hf) (by simpa using hr) hy hS h
theorem Till.takeAt {i:Nat}{oi oz:Oper}(v:Value)(d:Nat){f:Nat}{listed:Array Bool}{a:Act}{w:World}(hi:ops[i]? = some oi)(hd:oi.dst = some d)(hs:Region.noSelect ops = true)(hf:Region.free md ops listed i = true)(hr:(Region.ready md ops listed).contains i = true)
 (hz:ops[z]? = some oz) (hz2:oz.after.any (fun e => Region.binds md e && e.on == i) = true) (hQ:∀ c a w,Q (.panic c) (a.put (some d) v) w → Q (.panic c) a w) (hy:YieldsIf P ops S oi v a) (hS:S w)
 (h:Till P md ops Q S z f (listed.setIfInBounds i true) (a.put (some d) v) w):Till P md ops Q S z (f + 1) listed a w:=by
 rw [← hd] at hQ h
 exact Till.take hi hs hf hr hz hz2 hQ hy hS h
theorem Till.done {listed:Array Bool}{a:Act}{w:World}(hr:Region.ready md ops listed = [])(h:Q .normal a w):∀ f,Till P md ops Q S z f listed a w
 | 0 => ⟨hr,h⟩
 | _ + 1 => ⟨fun _ => h,by rw [hr]; simp⟩
def Back (p:Prop):Prop:=p
theorem Back.out {p:Prop}(h:Back p):p:=h
def Step (P:Program)(ops:Array Oper)(Q:Exit → Act → World → Prop)(o:Oper)(a:Act)(w:World)(R:Act → World → Prop):Prop:=
 ∀ K:Act → World → Prop,Back (∀ a w,R a w → K a w) → if Region.wanted o (yielded ops a.tmps) = true then Oper.wp P o a w K Q else K (a.put o.dst undef) w
theorem Step.wpOp {i:Nat}{o:Oper}{a:Act}{w:World}{R:Act → World → Prop}(ho:ops[i]? = some o)(h:Step P ops Q o a w R):wpOp P ops Q i R a w:=wpOp_step ho fun K hK => h K hK
theorem Till.one {i:Nat}{o:Oper}{f:Nat}{listed:Array Bool}{a:Act}{w:World}(hr:Region.ready md ops listed = [i])(ho:ops[i]? = some o)
 (h:Step P ops Q o a w (fun a' w' => (i = z ∨ S w') ∧ Till P md ops Q S z f (listed.setIfInBounds i true) a' w')):Till P md ops Q S z (f + 1) listed a w:=by
 refine ⟨fun hn => ?_,fun j hj => ?_⟩
 ·rw [hr] at hn; cases hn
 ·rw [hr,List.mem_singleton] at hj
  subst hj
  exact h.wpOp ho
theorem Till.two {i j:Nat}{o o2:Oper}{f:Nat}{listed:Array Bool}{a:Act}{w:World}(hr:Region.ready md ops listed = [i,j])(ho:ops[i]? = some o)(ho2:ops[j]? = some o2)
 (h:Step P ops Q o a w (fun a' w' => (i = z ∨ S w') ∧ Till P md ops Q S z f (listed.setIfInBounds i true) a' w'))
 (h2:Step P ops Q o2 a w (fun a' w' => (j = z ∨ S w') ∧ Till P md ops Q S z f (listed.setIfInBounds j true) a' w')):Till P md ops Q S z (f + 1) listed a w:=by
 refine ⟨fun hn => ?_,fun k hk => ?_⟩
 ·rw [hr] at hn; cases hn
 ·rw [hr] at hk
  rcases List.mem_cons.1 hk with rfl | hk
  ·exact h.wpOp ho
  ·rw [List.mem_singleton] at hk
   subst hk
   exact h2.wpOp ho2
theorem zHW {id:Nat}{a:Act}{w:World}(S:World → Prop)(z:Nat)(hm:P.follows .mixedOrders = true)(h:Till P .any ops Q S z ops.size (Array.replicate ops.size false) a w.drew):(Code.region id ops true).wp P Q a w:=
 wp_region_any hm (Till.any _ _ _ _ h)
end
end Go.Proofs.YteadgahhchlgeaaDoor
namespace Go.Proofs.YteadgahhchlgeaaDoor
open Go.RowKit
open Px (RT tokAt isT)
open Pe (inc dec Ex)
open Qe (Q)
theorem IsOff.of2 {g:Nat → Prop}{w:World}{B B2:Nat}{e:Ex}{vs:List Value}(h:Is w B2 e vs)(hB:B ≤ B2)(hg:∀ k,g k → k < B2 ∨ w.heap.size ≤ k):IsOff g w B e vs:=
 fun w' hs hk => Is.lower hB _ (Is.keep hs (fun bl h1 h2 => hk bl (Nat.le_trans hB h1) h2 (fun e => by rcases hg _ e with h | h <;> omega)) _ h)
theorem zJK {ts:List RT}{rec:Nat → Q → Qe.Out}{n:Nat}{e:Ex}{s:Q}{x:Ex × Q}(h:Qe.binLoop ts rec n 0 e s = some x):False:=by
 rw [Qe.binLoop] at h; cases h
theorem zJL {ts:List RT}{rec:Nat → Q → Qe.Out}{n g:Nat}{e:Ex}{s:Q}{x:Ex × Q}(h:Qe.binLoop ts rec n (g + 1) e s = some x)(hv:Qe.sign ts s n = 0):x = (e,s):=by
 rw [Qe.binLoop,if_pos hv] at h
 simpa using h.symm
theorem zLr {ts:List RT}{rec:Nat → Q → Qe.Out}{n g:Nat}{e:Ex}{s:Q}{x:Ex × Q}(h:Qe.binLoop ts rec n (g + 1) e s = some x)(hv:¬ Qe.sign ts s n = 0):∃ r s2,rec (n + 1) (Qe.next s) = some (r,s2) ∧ Qe.binLoop ts rec n g (Ex.of (Qe.sign ts s n) 0 [] [] 0 [e,r] (tokAt ts s.k).at_) s2 = some x:=by
 rw [Qe.binLoop,if_neg hv] at h
 split at h
 ·cases h
 ·rename_i r s2 he
  exact ⟨r,s2,he,h⟩
theorem zJR (w:World)(R:Nat)(S:Value)(ts:List RT)(s:Q)(h:Qr w R S ts s)(rec:Nat → Q → Qe.Out)(hrec:QRecOk ts rec)(n:Nat)(hn:n < 5)(gg:Nat)(e0:Ex)(s1:Q)(he:rec (n + 1) s = some (e0,s1))(x:Ex × Q)(hx:Qe.binLoop ts rec n gg e0 s1 = some x) :
 Calls Tryd.prog 32 #[.pointer (some ⟨R,0,none⟩),.int .i64 (n:Int)] w (QPost w.heap.size w R S ts x):=by
 have HX:=vH hx
 have HREC:=vH (fun (s2:Q) (y:Ex × Q) (hy:rec (n + 1) s2 = some y) w1 hh => hrec (n + 1) s2 y (by omega) hy w1 R S hh)
 have HE:=vH he
 have HRB:=vH h.lt
 have hlt:=h.lt
 have HH:=vH h
 have F:=vH ((Fq.start h).alloc (.cells vE 45))
 have hd5:((n:Int) == 5) = false:=by simp; omega
 have hd5b:(n == 5) = false:=by simp; omega
 have hdw:wrap64 ((n:Int) + 1) = ((n + 1:Nat):Int):=by simp [wrap64]; omega
 have HLV:=vH (fun w1 t => zIv w1 n hn t)
 clear h hx hrec he
 go_in
 go_wp2_with fail
 have HNZ0:=zA (F.out.keep _ vA).1
 refine (HREC.out _ _ HE.out _ F.out.qr).mono ?_
 rintro e wl1 ⟨qk,qn,qs,qo,qd,qp,ql,qc,qa,qb,qr,qe,qf,rfl,hi,hr,hg⟩
 have HN1:Hid (w.heap.size < wl1.heap.size):=Nat.lt_of_lt_of_le HNZ0 hg.size
 have F2:=(F.out.step hr hg).alloc (.cells #[.int .i64 qk,.int .i64 qn,.string (cbs qs),.string (cbs qo),.int .i64 qd,.slice qp ql qc,.int .i64 qa,.int .i64 qb,.int .i64 qr,.int .i64 qe,.int .i64 qf] 45)
 have HO:=vH (show Hoq w (wl1.alloc (.cells #[.int .i64 qk,.int .i64 qn,.string (cbs qs),.string (cbs qo),.int .i64 qd,.slice qp ql qc,.int .i64 qa,.int .i64 qb,.int .i64 qr,.int .i64 qe,.int .i64 qf] 45)) R S ts w.heap.size wl1.heap.size w.heap.size qk qn qs qo qd qp ql qc qa qb qr qe qf e0 s1 from ⟨F2.sub (fun p hp => hp),(IsOff.of2 hi (Nat.le_of_lt HNZ0) (fun k hk => by rcases hk with rfl | rfl <;> omega)).alloc _⟩)
 clear hi hr hg F F2 HE HNZ0
 go_wp2_with fail
 go_loopg [] gg (fun m wr => ∃ e s4 kind num name ofn dims p ln c at_ b r d ref,Hoq w wr R S ts w.heap.size wl1.heap.size w.heap.size kind num name ofn dims p ln c at_ b r d ref e s4 ∧ Qe.binLoop ts rec n m e s4 = some x)
 case atStart => exact ⟨_,_,_,_,_,_,_,_,_,_,_,_,_,_,_,HO.out,HX.out⟩
 case round =>
  obtain ⟨e,s4,kind,num,name,ofn,dims,p,ln,c,at_,b,r,d,ref,ho,hx⟩:=hrel
  have F:=vH ho.f
  have I:=vH ho.is
  have HX1:=vH hx
  clear ho hx HO HX
  cases gk with
  | zero => exact (zJK HX1.out).elim
  | succ m =>
    have htk:=fun w1 hh => zAt w1 R S ts s4 hh
    have hok:=fun w1 hh => zAS w1 R S ts s4 hh
    generalize hgt:tokAt ts s4.k = t at htk
    have HGT:=vH hgt
    unfold tokW at htk HLV
    have HTK:=vH htk
    have HOK:=vH hok
    clear htk hok hgt
    have HLV2:=vH (fun w1 => HLV.out w1 t)
    by_cases hE:(s4.E == 0) = true
    ·by_cases hl:Px.levelT n t = 0
     ·have hsg:Qe.sign ts s4 n = 0:=by unfold Qe.sign; rw [if_pos (by simpa using hE),HGT.out]; exact hl
      have hx:=zJL HX1.out hsg
      subst hx
      clear hsg
      rw [hE] at HOK
      go_wp2_with fail
      refine (HOK.out _ F.out.qr).mono ?_
      rintro e wl2 ⟨rfl,rfl⟩
      go_wp2_with fail
      refine (HTK.out _ F.out.qr).mono ?_
      rintro e' wl3 ⟨rfl,hb⟩
      replace F:=vH (F.out.go hb)
      replace I:=vH (I.out.below hb)
      clear hb
      go_wp2_with fail
      refine (HLV.out _ t).mono ?_
      rintro e' wl4 ⟨rfl,hb⟩
      replace F:=vH (F.out.go hb)
      replace I:=vH (I.out.below hb)
      clear hb
      try rw [hl]
      have hk:=(F.out.keep _ vA)
      obtain ⟨⟨x0,x1,x2,x3,x4,x5,x6,x7,x8,x9,xX⟩,y0,y1,y2,y3,y4,y5,y6,y7,y8,y9,yX⟩:=hen hk.1
      have hlx:=zA hk.1
      have hnx:=hk.2
      clear hk
      have hmx:=Ne.symm hnx
      have hk:=(F.out.keep _ vB)
      obtain ⟨⟨d0,d1,d2,d3,d4,d5,d6,d7,d8,d9,dX⟩,g0,g1,g2,g3,g4,g5,g6,g7,g8,g9,gX⟩:=hen hk.1
      have hld:=zA hk.1
      have hnd:=hk.2
      clear hk
      go_wp2_with fail
      have hn:=(Nw.start F.out.gr).pv (.int .i64 kind) (.int .i64 num) (.string (cbs name)) (.string (cbs ofn)) (.int .i64 dims) (.slice p ln c) (.int .i64 at_) (.int .i64 b) (.int .i64 r) (.int .i64 d) (.int .i64 ref)
      exact bodyPost_ret (v:=.agg #[.int .i64 kind,.int .i64 num,.string (cbs name),.string (cbs ofn),.int .i64 dims,.slice p ln c,.int .i64 at_,.int .i64 b,.int .i64 r,.int .i64 d,.int .i64 ref]) (by simp [results,Tryd.results32,go_sem,d0,d1,d2,d3,d4,d5,d6,d7,d8,d9,dX]) rfl ⟨_,_,_,_,_,_,_,_,_,_,_,_,_,rfl,(I.out.put11 (.inr rfl)).now,HH.out.fin F.out.qr hn,hn.gr⟩
     ·have hsg:Qe.sign ts s4 n = Px.levelT n t:=by unfold Qe.sign; rw [if_pos (by simpa using hE),HGT.out]
      obtain ⟨r0,s5,he,h5⟩:=zLr HX1.out (by rw [hsg]; exact hl)
      rw [hsg,HGT.out] at h5
      have HE:=vH he
      have H5:=vH h5
      have hlb:(Px.levelT n t != 0) = true:=by simpa using hl
      have hlb2:(Px.levelT n t == 0) = false:=by simpa using hl
      generalize Px.levelT n t = LK at hl hlb hlb2 HLV2 H5
      clear he h5 hsg HX1
      rw [hE] at HOK
      go_wp2_with fail
      refine (HOK.out _ F.out.qr).mono ?_
      rintro e wl2 ⟨rfl,rfl⟩
      go_wp2_with fail
      refine (HTK.out _ F.out.qr).mono ?_
      rintro e' wl3 ⟨rfl,hb⟩
      replace F:=vH (F.out.go hb)
      replace I:=vH (I.out.below hb)
      clear hb
      go_wp2_with fail
      refine (HLV2.out _).mono ?_
      rintro e' wl4 ⟨rfl,hb⟩
      replace F:=vH (F.out.go hb)
      replace I:=vH (I.out.below hb)
      clear hb
      go_wp2_with fail
      refine (HTK.out _ F.out.qr).mono ?_
      rintro e' wl5 ⟨rfl,hb⟩
      replace F:=vH (F.out.go hb)
      replace I:=vH (I.out.below hb)
      clear hb
      have HNT:=vH (Nat.ne_of_gt (zA (F.out.keep _ vA).1))
      obtain ⟨⟨c0,c1,c2,c3,c4⟩,fr,hRl⟩:=F.out.qr.cells
      have fr1:=fr 1
      have fr2:=fr 2
      clear fr
      skip
      go_wp2_with fail
      clear c0 c1 c2 c3 c4 fr1 fr2 hRl
      have F2:=vH (F.out.set_k (inc s4.k))
      change Hid (Fq _ _ _ _ _ (Qe.next s4) _ _) at F2
      clear F
      have F:=F2
      clear F2
      replace I:=vH (I.out.gr HRB.out ((Gr.refl R _).set 1 (.int .i64 (inc s4.k))))
      obtain ⟨wn,hwn⟩:∃ wn,wn = wl5.setCell ⟨R,1,none⟩ (.int .i64 (inc s4.k)):=⟨_,rfl⟩
      rw [← hwn] at F I
      change Calls _ _ _ ((wl5.setCell ⟨R,1,none⟩ (.int .i64 (inc s4.k))).alloc (.cells (vT t) 71)) _
      rw [← hwn]
      have HWNS:Hid (wn.heap.size = wl5.heap.size):=by rw [hwn]; exact zY _ _ _
      clear hwn
      have HT5:Hid (wn.heap.size = wl5.heap.size):=HWNS
      replace F:=vH (F.out.alloc (.cells (vT t) 71))
      replace I:=vH (I.out.alloc (.cells (vT t) 71))
      have HNZ:=vH (zA (F.out.keep _ vC).1)
      have HNE:=vH (zA (F.out.keep _ vB).1)
      have hRB:=F.out.qr.lt
      have hNB:=zA (F.out.keep _ vC).1
      refine (HREC.out _ _ HE.out _ F.out.qr).mono ?_
      rintro e' wl6 ⟨zk,zn,zs,zo,zd,zp,zl,zc,za,zb,zr,ze,zf,rfl,hi,hr,hg⟩
      replace F:=vH ((F.out.step hr hg).tree hi hNB hRB)
      replace I:=vH (I.out.gr HRB.out hg)
      clear hi hr hg hRB hNB
      go_wp2_with fail
      have HNI:=vH (Nat.ne_of_gt (zA (F.out.keep _ vB).1))
      have HNR:=vH ((F.out.trees _ vA))
      replace F:=vH (F.out.alloc (.cells #[.int .i64 zk,.int .i64 zn,.string (cbs zs),.string (cbs zo),.int .i64 zd,.slice zp zl zc,.int .i64 za,.int .i64 zb,.int .i64 zr,.int .i64 ze,.int .i64 zf] 45))
      replace I:=vH (I.out.alloc (.cells #[.int .i64 zk,.int .i64 zn,.string (cbs zs),.string (cbs zo),.int .i64 zd,.slice zp zl zc,.int .i64 za,.int .i64 zb,.int .i64 zr,.int .i64 ze,.int .i64 zf] 45))
      replace F:=vH (F.out.go (Below.refl _ _).drew)
      replace I:=vH (I.out.below (Below.refl _ _).drew)
      have HS0:Hid ((fun w' => w'.heap[wl5.heap.size]? = some (.cells (vT t) 71 (0,0)) ∧ w'.heap[wl1.heap.size]? = some (.cells #[.int .i64 kind,.int .i64 num,.string (cbs name),.string (cbs ofn),.int .i64 dims,.slice p ln c,.int .i64 at_,.int .i64 b,.int .i64 r,.int .i64 d,.int .i64 ref] 45 (0,0)) ∧ w'.heap[wl6.heap.size]? = some (.cells #[.int .i64 zk,.int .i64 zn,.string (cbs zs),.string (cbs zo),.int .i64 zd,.slice zp zl zc,.int .i64 za,.int .i64 zb,.int .i64 zr,.int .i64 ze,.int .i64 zf] 45 (0,0))) (wl6.alloc (.cells #[.int .i64 zk,.int .i64 zn,.string (cbs zs),.string (cbs zo),.int .i64 zd,.slice zp zl zc,.int .i64 za,.int .i64 zb,.int .i64 zr,.int .i64 ze,.int .i64 zf] 45)).drew):=⟨HT5.out ▸ (F.out.keep _ vB).1,(F.out.keep _ vC).1,(F.out.keep _ vA).1⟩
      refine zHW (fun w' => w'.heap[wl5.heap.size]? = some (.cells (vT t) 71 (0,0)) ∧ w'.heap[wl1.heap.size]? = some (.cells #[.int .i64 kind,.int .i64 num,.string (cbs name),.string (cbs ofn),.int .i64 dims,.slice p ln c,.int .i64 at_,.int .i64 b,.int .i64 r,.int .i64 d,.int .i64 ref] 45 (0,0)) ∧ w'.heap[wl6.heap.size]? = some (.cells #[.int .i64 zk,.int .i64 zn,.string (cbs zs),.string (cbs zo),.int .i64 zd,.slice zp zl zc,.int .i64 za,.int .i64 zb,.int .i64 zr,.int .i64 ze,.int .i64 zf] 45 (0,0))) 9 (by kernel_rfl) ?_
      refine Till.takeAt (f:=9) (i:=0) (.int .i64 (n:Int)) 38 rfl rfl (by kernel_rfl) (by kernel_rfl) (by kernel_rfl) rfl (by kernel_rfl) (fun _ _ _ h => h) (Or.inl ⟨by rfl,fun w' hSw => ?_⟩) HS0.out ?_
      ·skip
       go_simp
      try simp only [Act.put,List.setIfInBounds_toArray,List.set_cons_zero,List.set_cons_succ]
      refine Till.takeAt (f:=8) (i:=1) ((.agg #[.int .i64 t.kind,.string (cbs t.text),.int .i64 t.num,.int .i64 t.at_])) 39 rfl rfl (by kernel_rfl) (by kernel_rfl) (by kernel_rfl) rfl (by kernel_rfl) (fun _ _ _ h => h) (Or.inl ⟨by rfl,fun w' hSw => ?_⟩) HS0.out ?_
      ·obtain ⟨⟨a0,a1,a2,a3⟩,-⟩:=quad hSw.1
       go_simp
      try simp only [Act.put,List.setIfInBounds_toArray,List.set_cons_zero,List.set_cons_succ]
      refine Till.takeAt (f:=7) (i:=6) (.pointer (some ⟨wl5.heap.size,3,none⟩)) 44 rfl rfl (by kernel_rfl) (by kernel_rfl) (by kernel_rfl) rfl (by kernel_rfl) (fun _ _ _ h => h) (Or.inl ⟨by rfl,fun w' hSw => ?_⟩) HS0.out ?_
      ·skip
       go_simp
      try simp only [Act.put,List.setIfInBounds_toArray,List.set_cons_zero,List.set_cons_succ]
      refine Till.takeAt (f:=6) (i:=7) (.int .i64 t.at_) 45 rfl rfl (by kernel_rfl) (by kernel_rfl) (by kernel_rfl) rfl (by kernel_rfl) (fun _ _ _ h => h) (Or.inl ⟨by rfl,fun w' hSw => ?_⟩) HS0.out ?_
      ·obtain ⟨⟨a0,a1,a2,a3⟩,-⟩:=quad hSw.1
       go_simp
      try simp only [Act.put,List.setIfInBounds_toArray,List.set_cons_zero,List.set_cons_succ]
      refine Till.takeAt (f:=5) (i:=3) (.agg #[.int .i64 kind,.int .i64 num,.string (cbs name),.string (cbs ofn),.int .i64 dims,.slice p ln c,.int .i64 at_,.int .i64 b,.int .i64 r,.int .i64 d,.int .i64 ref]) 41 rfl rfl (by kernel_rfl) (by kernel_rfl) (by kernel_rfl) rfl (by kernel_rfl) (fun _ _ _ h => h) (Or.inl ⟨by rfl,fun w' hSw => ?_⟩) HS0.out ?_
      ·obtain ⟨⟨a0,a1,a2,a3,a4,a5,a6,a7,a8,a9,aX⟩,-⟩:=hen hSw.2.1
       go_simp
      try simp only [Act.put,List.setIfInBounds_toArray,List.set_cons_zero,List.set_cons_succ]
      refine Till.takeAt (f:=4) (i:=4) (.agg #[.int .i64 zk,.int .i64 zn,.string (cbs zs),.string (cbs zo),.int .i64 zd,.slice zp zl zc,.int .i64 za,.int .i64 zb,.int .i64 zr,.int .i64 ze,.int .i64 zf]) 42 rfl rfl (by kernel_rfl) (by kernel_rfl) (by kernel_rfl) rfl (by kernel_rfl) (fun _ _ _ h => h) (Or.inl ⟨by rfl,fun w' hSw => ?_⟩) HS0.out ?_
      ·obtain ⟨⟨a0,a1,a2,a3,a4,a5,a6,a7,a8,a9,aX⟩,-⟩:=hen hSw.2.2
       go_simp
      try simp only [Act.put,List.setIfInBounds_toArray,List.set_cons_zero,List.set_cons_succ]
      refine Till.two (f:=3) (i:=2) (j:=5) (by kernel_rfl) rfl rfl ?_ ?_
      ·skip
       intro K hK
       rw [if_pos (by rfl)]
       go_simp
       refine (HLV2.out _).mono ?_
       rintro e' wk1 ⟨rfl,hb⟩
       replace F:=vH (F.out.go hb)
       replace I:=vH (I.out.below hb)
       clear hb
       try dsimp only
       refine hK.out _ _ ⟨.inr ⟨HT5.out ▸ (F.out.keep _ vB).1,(F.out.keep _ vC).1,(F.out.keep _ vA).1⟩,?_⟩
       clear hK K
       try simp only [Act.put,List.setIfInBounds_toArray,List.set_cons_zero,List.set_cons_succ]
       refine Till.one (f:=2) (i:=5) (by kernel_rfl) rfl ?_
       intro K hK
       rw [if_pos (by rfl)]
       go_simp
       have HLT:=vH (zA (F.out.keep _ vC).1)
       replace F:=vH (F.out.alloc (.cells #[.int .i64 kind,.int .i64 num,.string (cbs name),.string (cbs ofn),.int .i64 dims,.slice p ln c,.int .i64 at_,.int .i64 b,.int .i64 r,.int .i64 d,.int .i64 ref,.int .i64 zk,.int .i64 zn,.string (cbs zs),.string (cbs zo),.int .i64 zd,.slice zp zl zc,.int .i64 za,.int .i64 zb,.int .i64 zr,.int .i64 ze,.int .i64 zf] 45))
       replace I:=vH (I.out.alloc (.cells #[.int .i64 kind,.int .i64 num,.string (cbs name),.string (cbs ofn),.int .i64 dims,.slice p ln c,.int .i64 at_,.int .i64 b,.int .i64 r,.int .i64 d,.int .i64 ref,.int .i64 zk,.int .i64 zn,.string (cbs zs),.string (cbs zo),.int .i64 zd,.slice zp zl zc,.int .i64 za,.int .i64 zb,.int .i64 zr,.int .i64 ze,.int .i64 zf] 45))
       refine hK.out _ _ ⟨.inr ⟨HT5.out ▸ (F.out.keep _ vC).1,(F.out.keep _ vD).1,(F.out.keep _ vB).1⟩,?_⟩
       clear hK K
       try simp only [Act.put,List.setIfInBounds_toArray,List.set_cons_zero,List.set_cons_succ]
       obtain ⟨wk2,hwk2⟩:∃ wk2,wk2 = wk1.alloc (.cells #[.int .i64 kind,.int .i64 num,.string (cbs name),.string (cbs ofn),.int .i64 dims,.slice p ln c,.int .i64 at_,.int .i64 b,.int .i64 r,.int .i64 d,.int .i64 ref,.int .i64 zk,.int .i64 zn,.string (cbs zs),.string (cbs zo),.int .i64 zd,.slice zp zl zc,.int .i64 za,.int .i64 zb,.int .i64 zr,.int .i64 ze,.int .i64 zf] 45):=⟨_,rfl⟩
       rw [← hwk2] at F I ⊢
       clear hwk2
       refine Till.one (f:=1) (i:=8) (by kernel_rfl) rfl ?_
       intro K hK
       rw [if_pos (by rfl)]
       go_simp
       refine hK.out _ _ ⟨.inr ⟨HT5.out ▸ (F.out.keep _ vC).1,(F.out.keep _ vD).1,(F.out.keep _ vB).1⟩,?_⟩
       clear hK K
       try simp only [Act.put,List.setIfInBounds_toArray,List.set_cons_zero,List.set_cons_succ]
       have hk:=(F.out.keep _ vD)
       obtain ⟨⟨x0,x1,x2,x3,x4,x5,x6,x7,x8,x9,xX⟩,y0,y1,y2,y3,y4,y5,y6,y7,y8,y9,yX⟩:=hen hk.1
       have hlx:=zA hk.1
       have hnx:=hk.2
       clear hk
       have hmx:=Ne.symm hnx
       refine Till.one (f:=0) (i:=9) (by kernel_rfl) rfl ?_
       intro K hK
       rw [if_pos (by rfl)]
       go_simp
       refine hK.out _ _ ⟨.inl rfl,?_⟩
       clear hK K
       try simp only [Act.put,List.setIfInBounds_toArray,List.set_cons_zero,List.set_cons_succ]
       refine Till.done (by kernel_rfl) ?_ _
       go_wp2_with fail
       go_roundg m
       case measure => omega
       case rel =>
        have hz3:w.heap.size < wl1.heap.size:=HN1.out
        have hz4:wl1.heap.size < wk1.heap.size:=HLT.out
        have hbx:=zQ (N:=wl1.heap.size) (F.out.keep _ vA).1 (Nat.ne_of_gt hz4) (c0:=.int .i64 LK) (c1:=.int .i64 0) (c2:=.string ⟨#[]⟩) (c3:=.string ⟨#[]⟩) (c4:=.int .i64 0) (c5:=.slice (some ⟨wk1.heap.size,0,none⟩) 2 2) (c6:=.int .i64 t.at_) (c7:=.int .i64 0) (c8:=.int .i64 0) (c9:=.int .i64 0) (c10:=.int .i64 0)
        have htr:=(F.out.trees _ vA)
        dsimp only at hbx htr
        exact ⟨_,s5,_,_,_,_,_,_,_,_,_,_,_,_,_,⟨F.out.write HH.out vD (List.Mem.tail _ vD) (Nat.le_of_lt HN1.out) (Nat.ne_of_lt HN1.out) (c0:=.int .i64 LK) (c1:=.int .i64 0) (c2:=.string ⟨#[]⟩) (c3:=.string ⟨#[]⟩) (c4:=.int .i64 0) (c5:=.slice (some ⟨wk1.heap.size,0,none⟩) 2 2) (c6:=.int .i64 t.at_) (c7:=.int .i64 0) (c8:=.int .i64 0) (c9:=.int .i64 0) (c10:=.int .i64 0),IsOff.node2 hbx (by omega) (fun hh => by rcases hh with hh | hh <;> omega) (I.out.put11 (.inl rfl)) (IsOff.of (htr.1.put11 (N:=wl1.heap.size) HNE.out) (Nat.le_of_lt htr.2.1) (fun q hq => hq.elim (fun e => by rw [e]; exact HNE.out) (fun e => by rw [e]; exact htr.2.1))) rfl LK 0 [] [] 0 t.at_ 2⟩,H5.out⟩
      ·skip
       intro K hK
       rw [if_pos (by rfl)]
       go_simp
       have HLT:=vH (zA (F.out.keep _ vC).1)
       have HSZ:Hid ((wl6.alloc (.cells #[.int .i64 zk,.int .i64 zn,.string (cbs zs),.string (cbs zo),.int .i64 zd,.slice zp zl zc,.int .i64 za,.int .i64 zb,.int .i64 zr,.int .i64 ze,.int .i64 zf] 45)).drew.heap.size = wl6.heap.size + 1):=zC _ _
       replace F:=vH (F.out.alloc (.cells #[.int .i64 kind,.int .i64 num,.string (cbs name),.string (cbs ofn),.int .i64 dims,.slice p ln c,.int .i64 at_,.int .i64 b,.int .i64 r,.int .i64 d,.int .i64 ref,.int .i64 zk,.int .i64 zn,.string (cbs zs),.string (cbs zo),.int .i64 zd,.slice zp zl zc,.int .i64 za,.int .i64 zb,.int .i64 zr,.int .i64 ze,.int .i64 zf] 45))
       replace I:=vH (I.out.alloc (.cells #[.int .i64 kind,.int .i64 num,.string (cbs name),.string (cbs ofn),.int .i64 dims,.slice p ln c,.int .i64 at_,.int .i64 b,.int .i64 r,.int .i64 d,.int .i64 ref,.int .i64 zk,.int .i64 zn,.string (cbs zs),.string (cbs zo),.int .i64 zd,.slice zp zl zc,.int .i64 za,.int .i64 zb,.int .i64 zr,.int .i64 ze,.int .i64 zf] 45))
       refine hK.out _ _ ⟨.inr ⟨HT5.out ▸ (F.out.keep _ vC).1,(F.out.keep _ vD).1,(F.out.keep _ vB).1⟩,?_⟩
       clear hK K
       try simp only [Act.put,List.setIfInBounds_toArray,List.set_cons_zero,List.set_cons_succ]
       refine Till.one (f:=2) (i:=2) (by kernel_rfl) rfl ?_
       intro K hK
       rw [if_pos (by rfl)]
       go_simp
       refine (HLV2.out _).mono ?_
       rintro e' wk1 ⟨rfl,hb⟩
       replace F:=vH (F.out.go hb)
       replace I:=vH (I.out.below hb)
       clear hb
       try dsimp only
       refine hK.out _ _ ⟨.inr ⟨HT5.out ▸ (F.out.keep _ vC).1,(F.out.keep _ vD).1,(F.out.keep _ vB).1⟩,?_⟩
       clear hK K
       try simp only [Act.put,List.setIfInBounds_toArray,List.set_cons_zero,List.set_cons_succ]
       refine Till.one (f:=1) (i:=8) (by kernel_rfl) rfl ?_
       intro K hK
       rw [if_pos (by rfl)]
       go_simp
       refine hK.out _ _ ⟨.inr ⟨HT5.out ▸ (F.out.keep _ vC).1,(F.out.keep _ vD).1,(F.out.keep _ vB).1⟩,?_⟩
       clear hK K
       try simp only [Act.put,List.setIfInBounds_toArray,List.set_cons_zero,List.set_cons_succ]
       have hk:=(F.out.keep _ vD)
       obtain ⟨⟨x0,x1,x2,x3,x4,x5,x6,x7,x8,x9,xX⟩,y0,y1,y2,y3,y4,y5,y6,y7,y8,y9,yX⟩:=hen hk.1
       have hlx:=zA hk.1
       have hnx:=hk.2
       clear hk
       have hmx:=Ne.symm hnx
       refine Till.one (f:=0) (i:=9) (by kernel_rfl) rfl ?_
       intro K hK
       rw [if_pos (by rfl)]
       go_simp
       refine hK.out _ _ ⟨.inl rfl,?_⟩
       clear hK K
       try simp only [Act.put,List.setIfInBounds_toArray,List.set_cons_zero,List.set_cons_succ]
       refine Till.done (by kernel_rfl) ?_ _
       go_wp2_with fail
       go_roundg m
       case measure => omega
       case rel =>
        have hz3:w.heap.size < wl1.heap.size:=HN1.out
        have hz4:wl1.heap.size < wl6.heap.size + 1:=HSZ.out ▸ HLT.out
        have hbx:=zQ (N:=wl1.heap.size) (HSZ.out ▸ (F.out.keep _ vA).1) (Nat.ne_of_gt hz4) (c0:=.int .i64 LK) (c1:=.int .i64 0) (c2:=.string ⟨#[]⟩) (c3:=.string ⟨#[]⟩) (c4:=.int .i64 0) (c5:=.slice (some ⟨wl6.heap.size + 1,0,none⟩) 2 2) (c6:=.int .i64 t.at_) (c7:=.int .i64 0) (c8:=.int .i64 0) (c9:=.int .i64 0) (c10:=.int .i64 0)
        have htr:=(F.out.trees _ vA)
        dsimp only at hbx htr
        exact ⟨_,s5,_,_,_,_,_,_,_,_,_,_,_,_,_,⟨F.out.write HH.out vD (List.Mem.tail _ vD) (Nat.le_of_lt HN1.out) (Nat.ne_of_lt HN1.out) (c0:=.int .i64 LK) (c1:=.int .i64 0) (c2:=.string ⟨#[]⟩) (c3:=.string ⟨#[]⟩) (c4:=.int .i64 0) (c5:=.slice (some ⟨wl6.heap.size + 1,0,none⟩) 2 2) (c6:=.int .i64 t.at_) (c7:=.int .i64 0) (c8:=.int .i64 0) (c9:=.int .i64 0) (c10:=.int .i64 0),IsOff.node2 hbx (by omega) (fun hh => by rcases hh with hh | hh <;> omega) (I.out.put11 (.inl rfl)) (IsOff.of (htr.1.put11 (N:=wl1.heap.size) HNE.out) (Nat.le_of_lt htr.2.1) (fun q hq => hq.elim (fun e => by rw [e]; exact HNE.out) (fun e => by rw [e]; exact htr.2.1))) rfl LK 0 [] [] 0 t.at_ 2⟩,H5.out⟩
    ·have hE2:(s4.E == 0) = false:=by simpa using hE
     have hsg:Qe.sign ts s4 n = 0:=by unfold Qe.sign; rw [if_neg (by simpa using hE)]
     have hx:=zJL HX1.out hsg
     subst hx
     clear hsg
     rw [hE2] at HOK
     go_wp2_with fail
     refine (HOK.out _ F.out.qr).mono ?_
     rintro e wl2 ⟨rfl,rfl⟩
     have hk:=(F.out.keep _ vA)
     obtain ⟨⟨x0,x1,x2,x3,x4,x5,x6,x7,x8,x9,xX⟩,y0,y1,y2,y3,y4,y5,y6,y7,y8,y9,yX⟩:=hen hk.1
     have hlx:=zA hk.1
     have hnx:=hk.2
     clear hk
     have hmx:=Ne.symm hnx
     have hk:=(F.out.keep _ vB)
     obtain ⟨⟨d0,d1,d2,d3,d4,d5,d6,d7,d8,d9,dX⟩,g0,g1,g2,g3,g4,g5,g6,g7,g8,g9,gX⟩:=hen hk.1
     have hld:=zA hk.1
     have hnd:=hk.2
     clear hk
     go_wp2_with fail
     have hn:=(Nw.start F.out.gr).pv (.int .i64 kind) (.int .i64 num) (.string (cbs name)) (.string (cbs ofn)) (.int .i64 dims) (.slice p ln c) (.int .i64 at_) (.int .i64 b) (.int .i64 r) (.int .i64 d) (.int .i64 ref)
     exact bodyPost_ret (v:=.agg #[.int .i64 kind,.int .i64 num,.string (cbs name),.string (cbs ofn),.int .i64 dims,.slice p ln c,.int .i64 at_,.int .i64 b,.int .i64 r,.int .i64 d,.int .i64 ref]) (by simp [results,Tryd.results32,go_sem,d0,d1,d2,d3,d4,d5,d6,d7,d8,d9,dX]) rfl ⟨_,_,_,_,_,_,_,_,_,_,_,_,_,rfl,(I.out.put11 (.inr rfl)).now,HH.out.fin F.out.qr hn,hn.gr⟩
end Go.Proofs.YteadgahhchlgeaaDoor
