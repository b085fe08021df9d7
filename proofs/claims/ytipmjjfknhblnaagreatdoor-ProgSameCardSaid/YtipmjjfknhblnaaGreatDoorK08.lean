/-
  The contracts of the project's reader: the arguments of a ca
-/
import Derived.Test.YtipmjjfknhblnaaGreatDoorK07
import Derived.Test.YtipmjjfknhblnaaGreatDoorK02
import Derived.OwnWalk
import Derived.Maps.AppendAt
set_option maxRecDepth 8000
set_option maxHeartbeats 8000000
namespace Go.Proofs.YtipmjjfknhblnaaGreatDoor
open Go.RowKit
open Px (RT tokAt)
open Pe
def IsBut (g:Option Nat)(w:World)(B:Nat)(e:Ex)(vs:List Value):Prop:=
 ∀ w':World,w.heap.size ≤ w'.heap.size → (∀ bl,B ≤ bl → bl < w.heap.size → some bl ≠ g → w'.heap[bl]? = w.heap[bl]?) → Is w' B e vs
theorem IsBut.now {g:Option Nat}{w:World}{B:Nat}{e:Ex}{vs:List Value}(h:IsBut g w B e vs):Is w B e vs:=h w (Nat.le_refl _) fun _ _ _ _ => rfl
theorem IsBut.of {g:Option Nat}{w:World}{B B2:Nat}{e:Ex}{vs:List Value}(h:Is w B2 e vs)(hB:B ≤ B2)(hg:∀ k,g = some k → k < B2):IsBut g w B e vs:=
 fun w' hs hk => Is.lower hB _ (Is.keep hs (fun bl h1 h2 => hk bl (Nat.le_trans hB h1) h2 (fun e => by have:=hg _ e.symm; omega)) _ h)
theorem IsBut.go {g:Option Nat}{w w1:World}{B:Nat}{e:Ex}{vs:List Value}(h:IsBut g w B e vs)(hs:w.heap.size ≤ w1.heap.size)(hk:∀ bl,B ≤ bl → bl < w.heap.size → some bl ≠ g → w1.heap[bl]? = w.heap[bl]?):IsBut g w1 B e vs:=
 fun w' hs' hk' => h w' (Nat.le_trans hs hs') fun bl h1 h2 h3 => (hk' bl h1 (Nat.lt_of_lt_of_le h2 hs) h3).trans (hk bl h1 h2 h3)
theorem IsBut.move {g g':Option Nat}{w w1:World}{B:Nat}{e:Ex}{vs:List Value}(h:IsBut g w B e vs)(hs:w.heap.size ≤ w1.heap.size)(hk:∀ bl,B ≤ bl → bl < w.heap.size → some bl ≠ g → w1.heap[bl]? = w.heap[bl]?)(hg:g' = g ∨ ∃ k,g' = some k ∧ w.heap.size ≤ k):IsBut g' w1 B e vs:=by
 rcases hg with rfl | ⟨k,rfl,hge⟩
 ·exact h.go hs hk
 ·exact fun w' hs' hk' => h w' (Nat.le_trans hs hs') fun bl h1 h2 h3 => (hk' bl h1 (Nat.lt_of_lt_of_le h2 hs) (fun e => by injection e with e; omega)).trans (hk bl h1 h2 h3)
theorem zEJ {w w':World}{R base n sz:Nat}{T:TypeId}{v:Value}{xs:List Value}(h:w.ownsRow base T sz v n xs)(hg:Gr R w w')(hR:R < base):w'.ownsRow base T sz v n xs:=by
 refine ⟨h.1,?_⟩
 rcases h.2 with h0 | ⟨g,cap,cur,hv,hb,hc,hr⟩
 ·exact .inl h0
 ·exact .inr ⟨g,cap,cur,hv,hb,hg.box hc (by omega),hr⟩
structure ArgSt (w wr:World) (R M1 M2 M3:Nat) (S:Value) (ts:List RT) (v:Value) (l:List Ex) (s:St):Prop where
 rs:Rs wr R M1 M2 M3 S ts s
 gr:Gr R w wr
 own:∃ vss:List (List Value),vss.length = l.length ∧ wr.ownsRow w.heap.size 111 11 v l.length vss.flatten ∧ ∀ (i:Nat) e vs,l[i]? = some e → vss[i]? = some vs → IsBut v.ownBlock wr w.heap.size e vs
theorem ArgSt.start {w wr:World}{R M1 M2 M3:Nat}{S:Value}{ts:List RT}{s:St}(hr:Rs wr R M1 M2 M3 S ts s)(hg:Gr R w wr):ArgSt w wr R M1 M2 M3 S ts (.slice none 0 0) [] s:=
 ⟨hr,hg,[],rfl,World.ownsRow_nil _ _ _ _,fun i e vs h _ => by simp at h⟩
theorem ArgSt.go {w wr w':World}{R M1 M2 M3:Nat}{S:Value}{ts:List RT}{v:Value}{l:List Ex}{s s2:St}(h:ArgSt w wr R M1 M2 M3 S ts v l s)(hlt:R < w.heap.size)(hr:Rs w' R M1 M2 M3 S ts s2)(hg:Gr R wr w'):ArgSt w w' R M1 M2 M3 S ts v l s2:=by
 obtain ⟨vss,h1,h2,h3⟩:=h.own
 exact ⟨hr,h.gr.trans hg,vss,h1,zEJ h2 hg hlt,fun i e vs he hv => (h3 i e vs he hv).go hg.size fun bl hb hl _ => hg.block bl hl (by omega)⟩
theorem ArgSt.own_lt {w wr:World}{R M1 M2 M3:Nat}{S:Value}{ts:List RT}{v:Value}{l:List Ex}{s:St}(h:ArgSt w wr R M1 M2 M3 S ts v l s):∀ k,v.ownBlock = some k → w.heap.size ≤ k ∧ k < wr.heap.size:=by
 obtain ⟨vss,h1,h2,h3⟩:=h.own
 exact fun k hk => h2.lt k hk
theorem ArgSt.push {w wr w1 w3:World}{R M1 M2 M3:Nat}{S:Value}{ts:List RT}{v v':Value}{l:List Ex}{s s2:St}{e:Ex}{vs:List Value}{T:TypeId}{A:Array Value}(h0:Rs w R M1 M2 M3 S ts s)(h:ArgSt w w1 R M1 M2 M3 S ts v l s2)(hwr:∀ k,v.ownBlock = some k → k < wr.heap.size)(hB:w.heap.size ≤ wr.heap.size)
 (hi:Is w1 wr.heap.size e vs) {vss:List (List Value)} (hl:vss.length = l.length) (hk:∀ (i:Nat) e vs,l[i]? = some e → vss[i]? = some vs → IsBut v.ownBlock w1 w.heap.size e vs)
 (hown:w3.ownsRow w.heap.size 111 11 v' (l.length + 1) (vss.flatten ++ vs)) (hgrow:(w1.alloc (.cells A T)).grownBy w3 v.ownBlock) (hat:v'.ownBlock = v.ownBlock ∨ v'.ownBlock = some (w1.heap.size + 1)) :
 ArgSt w w3 R M1 M2 M3 S ts v' (l ++ [e]) s2:=by
 have hlt:=h0.lt
 have hsz:w.heap.size ≤ w1.heap.size:=h.gr.size
 have ha:∀ bl,bl < w1.heap.size → (w1.alloc (.cells A T)).heap[bl]? = w1.heap[bl]?:=fun bl hb => heap_alloc_old _ _ hb
 have hgb:∀ bl,bl < w1.heap.size → some bl ≠ v.ownBlock → w3.heap[bl]? = w1.heap[bl]?:=fun bl hb hne => (hgrow.block bl (by rw [zB]; omega) hne).trans (ha bl hb)
 have hs3:w1.heap.size ≤ w3.heap.size:=by have:=hgrow.size; rw [zB] at this; omega
 have hlow:∀ bl,bl < w.heap.size → w3.heap[bl]? = w1.heap[bl]?:=fun bl hb => hgb bl (by omega) (fun e => by have:=(h.own_lt bl e.symm).1; omega)
 have hn:Nw R w w1 w3:=⟨⟨hgrow.os,hgrow.tape,hgrow.output,hs3,hlow⟩,⟨hgrow.os.trans h.gr.os,hgrow.tape.trans h.gr.tape,hgrow.output.trans h.gr.output,Nat.le_trans hsz hs3,fun i hi hne => (hlow i hi).trans (h.gr.block i hi hne)⟩⟩
 refine ⟨h0.fin h.rs hn,hn.gr,vss ++ [vs],by simp [hl],by simpa using hown,fun i e' vs' he hv => ?_⟩
 have hnew:v'.ownBlock = v.ownBlock ∨ ∃ k,v'.ownBlock = some k ∧ w1.heap.size ≤ k:=by
  rcases hat with h1 | h1
  ·exact .inl h1
  ·exact .inr ⟨_,h1,by omega⟩
 have hlen:vss.length = l.length:=hl
 by_cases hi':i < l.length
 ·rw [List.getElem?_append_left hi'] at he
  rw [List.getElem?_append_left (by omega)] at hv
  exact (hk i e' vs' he hv).move hs3 (fun bl _ hb hne => hgb bl hb hne) hnew
 ·have hieq:i = l.length:=by
   have:=(List.getElem?_eq_some_iff.1 he).1
   simp at this
   omega
  subst hieq
  simp at he
  rw [← hlen] at hv
  simp at hv
  subst he hv
  exact (IsBut.of (g:=v.ownBlock) hi hB hwr).move hs3 (fun bl _ hb hne => hgb bl hb hne) hnew
def ArgsPost (w:World)(R M1 M2 M3:Nat)(S:Value)(ts:List RT)(x:List Ex × St)(e:Ending)(w':World):Prop:=
 ∃ p c,e = .returned (.slice p x.1.length c) ∧ (x.1 = [] ∨ ∃ bl off,p = some ⟨bl,off,none⟩ ∧ bl < w'.heap.size ∧ w.heap.size ≤ bl ∧ At w' w.heap.size bl off x.1) ∧ Rs w' R M1 M2 M3 S ts x.2 ∧ Gr R w w'
theorem ArgSt.done {w wr:World}{R M1 M2 M3:Nat}{S:Value}{ts:List RT}{v:Value}{l:List Ex}{s:St}(h:ArgSt w wr R M1 M2 M3 S ts v l s):ArgsPost w R M1 M2 M3 S ts (l,s) (.returned v) wr:=by
 obtain ⟨vss,h1,h2,h3⟩:=h.own
 rcases h2.2 with ⟨hv,h0⟩ | ⟨g,cap,cur,hv,hb,hc,hn,hcap,hsize,htake⟩
 ·have:l = []:=List.eq_nil_of_length_eq_zero h0
  subst this
  exact ⟨none,0,by rw [hv]; rfl,.inl rfl,h.rs,h.gr⟩
 ·refine ⟨_,cap,by rw [hv],.inr ⟨g,0,rfl,zA hc,hb,At.of_row hc l 0 vss h1 (fun i e vs he hvs => (h3 i e vs he hvs).now) fun i hlt => ?_⟩,h.rs,h.gr⟩
  rw [← htake] at hlt ⊢
  have hlt2:i < l.length * 11:=by simp at hlt; omega
  simp [hlt2]
theorem zJw {ts:List RT}{rec:Nat → St → Out}{g:Nat}{s:St}{x:List Ex × St}(h:args ts rec g s = some x) :
 ∃ l s2 l3 s3,(if sees ts (enter ts s [40]).2.c 4 [41] then some ([],(enter ts s [40]).2) else match rec 1 (enter ts s [40]).2 with | none => none | some (e,s2) => some ([e],s2)) = some (l,s2) ∧ argLoop ts rec g l s2 = some (l3,s3) ∧ x = (l3,leave ts s3 [41]):=by
 unfold args at h
 split at h
 ·cases h
 ·rename_i l s2 he
  split at h
  ·cases h
  ·rename_i l3 s3 h3
   exact ⟨l,s2,l3,s3,he,h3,by simpa using h.symm⟩
theorem zAy {W:World}{T:TypeId}{A:Array Value}{vs:List Value}{B:Nat}(hB:B = W.heap.size)(hA:A = ⟨vs⟩):∀ j u,vs[j]? = some u → (W.alloc (.cells A T)).cell? ((⟨B,0,none⟩:Addr).add j) = some u:=by
 intro j u hu
 subst hB hA
 have hadd:(⟨W.heap.size,0,none⟩:Addr).add j = ⟨W.heap.size,j,none⟩:=by unfold Addr.add; split <;> simp_all
 rw [hadd,cell_of_row _ _ j _ _ _ (heap_alloc_new W _)]
 simpa using hu
theorem zCx (kind num:Int)(name ofn:List UInt8)(dims:Int)(p:Option Addr)(n c:Nat)(at_ b r d ref:Int):∀ u ∈ exCells kind num name ofn dims (.slice p n c) at_ b r d ref,u.oneCell' = true:=by
 intro u hu
 simp [exCells] at hu
 rcases hu with rfl | rfl | rfl | rfl | rfl | rfl | rfl | rfl | rfl | rfl | rfl <;> rfl
theorem zGe {ts:List RT}{rec:Nat → St → Out}{g:Nat}{l:List Ex}{s:St}{x:List Ex × St}(h:argLoop ts rec (g + 1) l s = some x)(hv:sees ts s.c 4 [44] = true):∃ e s2,rec 1 ⟨next s.c,s.o⟩ = some (e,s2) ∧ argLoop ts rec g (l ++ [e]) s2 = some x:=by
 rw [argLoop,if_pos hv] at h
 split at h
 ·cases h
 ·rename_i e s2 he
  exact ⟨e,s2,he,h⟩
theorem zIX {ts:List RT}{rec:Nat → St → Out}{g:Nat}{l:List Ex}{s:St}{x:List Ex × St}(h:argLoop ts rec (g + 1) l s = some x)(hv:sees ts s.c 4 [44] = false):x = (l,s):=by
 rw [argLoop,hv] at h
 simpa using h.symm
theorem zER {ts:List RT}{rec:Nat → St → Out}{l:List Ex}{s:St}{x:List Ex × St}(h:argLoop ts rec 0 l s = some x):False:=by
 rw [argLoop] at h; cases h
theorem zEY:(Tryz.prog.info? 111).map (fun i => (i.zero,i.size,i.bytes)) = some (some (.agg #[.int .i64 0,.int .i64 0,.string ⟨#[]⟩,.string ⟨#[]⟩,.int .i64 0,.slice none 0 0,.int .i64 0,.int .i64 0,.int .i64 0,.int .i64 0,.int .i64 0]),11,120):=by kernel_rfl
theorem zKU (w:World)(R M1 M2 M3:Nat)(S:Value)(ts:List RT)(s:St)(h:Rs w R M1 M2 M3 S ts s)(rec:Nat → St → Out)(hrec:RecOk ts rec)(g:Nat)(hg:g ≤ 1000000000)(x:List Ex × St)(hx:args ts rec g s = some x) :
 Calls Tryz.prog 177 #[.pointer (some ⟨R,0,none⟩)] w (ArgsPost w R M1 M2 M3 S ts x):=by
 obtain ⟨l1,s1,l3,s3,h1,h3,rfl⟩:=zJw hx
 have hlt:=h.lt
 have HH:=vH h
 have HEX:=vH (fun s2 y (hy:rec 1 s2 = some y) w1 hh => zAI w1 R M1 M2 M3 S ts s2 hh rec hrec y hy)
 have hen:=zB4 w R M1 M2 M3 S ts s h ⟨#[40]⟩
 change Calls _ _ _ _ (fun e w' => e = .returned (tokW (enter ts s [40]).1) ∧ Rs w' R M1 M2 M3 S ts (enter ts s [40]).2 ∧ Gr R w w') at hen
 generalize enter ts s [40] = y at hen h1
 obtain ⟨t0,s0⟩:=y
 dsimp only at hen h1
 have HE:=vH hen
 have H1:=vH h1
 have H3:=vH h3
 obtain ⟨i0,hi0,hz0,hz1,hz2⟩:=info_parts zEY
 clear h hrec hx hen h1 h3
 go_in
 go_wp2_with fail
 refine (HE.out).mono ?_
 rintro e w1 ⟨rfl,hr,hg1⟩
 have HA:=vH (ArgSt.start hr hg1)
 clear hr hg1 HE
 go_wp2_with fail
 refine (zG _ R _ S _ ts s0.c HA.out.rs.cu ⟨#[41]⟩).mono ?_
 rintro e w2 ⟨rfl,hb⟩
 have HA2:=vH (HA.out.go hlt (HA.out.rs.go hb) (Gr.of hb))
 clear hb HA
 have HG9:=vH hg
 clear hg
 cases hv:sees ts s0.c 4 [41] with
 | true =>
   have h1:=H1.out
   rw [hv] at h1
   simp only [if_true,Option.some.injEq,Prod.mk.injEq] at h1
   obtain ⟨rfl,rfl⟩:=h1
   try rw [hv]
   clear hv H1
   go_wp2_with fail
   go_loopg [3] g (fun n v wr => ∃ l s4,ArgSt w wr R M1 M2 M3 S ts v l s4 ∧ argLoop ts rec n l s4 = some (l3,s3) ∧ l.length + n ≤ 1000000001)
   case atStart => exact ⟨_,_,HA2.out,H3.out,by have:=HG9.out; simp; omega⟩
   case round =>
    obtain ⟨l,s4,ha,h3,hbd⟩:=hrel
    have HA4:=vH ha
    have H34:=vH h3
    clear ha h3 HA2
    cases gk with
    | zero => exact (zER H34.out).elim
    | succ m =>
      have HBD:=vH (show l.length + 1 ≤ 1000000001 by omega)
      have HBM:=vH hbd
      clear hbd
      go_wp2_with fail
      refine (zG _ R _ S _ ts s4.c HA4.out.rs.cu ⟨#[44]⟩).mono ?_
      rintro e w5 ⟨rfl,hb⟩
      have HA5:=vH (HA4.out.go hlt (HA4.out.rs.go hb) (Gr.of hb))
      clear hb HA4
      cases hv:sees ts s4.c 4 [44] with
      | false =>
        have hx:=zIX H34.out hv
        injection hx with hx1 hx2
        subst hx1 hx2
        try rw [hv]
        clear hv
        go_wp2_with fail
        refine (zB0 _ R M1 M2 M3 S ts s3 HA5.out.rs ⟨#[41]⟩).mono ?_
        rintro e w6 ⟨rfl,hr,hg⟩
        have HA6:=vH (HA5.out.go hlt hr hg)
        clear hr hg HA5
        go_wp2_with fail
        exact bodyPost_ret (v:=u3) (by simp [results,Tryz.results177,go_sem]) rfl HA6.out.done
      | true =>
        obtain ⟨e0,s5,he,h5⟩:=zGe H34.out hv
        try rw [hv]
        have HREC:=vH he
        have H5:=vH h5
        clear hv he h5 H34
        go_wp2_with fail
        refine (zL _ R _ S _ ts s4.c HA5.out.rs.cu).mono ?_
        rintro e w6 ⟨rfl,hc,hg⟩
        have HA6:=vH (HA5.out.go hlt (HA5.out.rs.cur hg hc) hg)
        clear hc hg HA5
        go_wp2_with fail
        have hwrHA8:∀ k,Value.ownBlock (u3) = some k → k < w6.heap.size:=fun k hk => (HA6.out.own_lt k hk).2
        have HWR:=vH hwrHA8
        clear hwrHA8
        have hsB:w.heap.size ≤ w6.heap.size:=HA6.out.gr.size
        refine (HEX.out _ _ HREC.out _ HA6.out.rs).mono ?_
        rintro e w7 ⟨qk,qn,qs,qo,qd,qp,ql,qc,qa,qb,qr,qe,qf,rfl,hi,hr,hg⟩
        have HIQ:=vH hi
        have HX:=vH (HA6.out.go hlt hr hg)
        clear hi hr hg
        obtain ⟨vss,hv1,hown,hkid⟩:=HX.out.own
        have HO:=vH hown
        have HK:=vH hkid
        have HV1:=vH hv1
        have hsX:w.heap.size ≤ w7.heap.size:=HX.out.gr.size
        clear hown hkid hv1
        go_wp2_with (at_builtin; refine wpList_append_own_at _ rfl _ _ 88 rfl w.heap.size 111 i0 _ 11 120 Tryz.underlying88 hi0 hz0 hz1 hz2 rfl (by decide) _ l.length _ rfl (HO.out.alloc _) ⟨w7.heap.size,0,none⟩ 1 1 (exCells qk qn qs qo qd (.slice qp ql qc) qa qb qr qe qf) rfl rfl ?c1 ?c2 ?c3 ?c4 ?c5 ?_)
        case c1 => exact zAy rfl rfl
        case c2 => exact zCx _ _ _ _ _ _ _ _ _ _ _ _ _
        case c3 => have:=HBD.out; unfold maxLen; omega
        case c4 => have:=HBD.out; omega
        case c5 => rw [zB]; omega
        intro v' w8 hown' hgrow _ hat
        have HA8:=vH (ArgSt.push HH.out HX.out HWR.out hsB HIQ.out HV1.out HK.out hown' hgrow hat)
        clear hown' hgrow hat HO HK HV1 HX HIQ HWR hsX hsB
        go_wp2_with fail
        go_roundg m
        case measure => omega
        case rel => exact ⟨_,_,HA8.out,H5.out,by have:=HBM.out; simp; omega⟩
 | false =>
   have h1:=H1.out
   rw [hv] at h1
   simp only [Bool.false_eq_true,if_false] at h1
   split at h1
   ·cases h1
   rename_i e0 s5 he
   simp only [Option.some.injEq,Prod.mk.injEq] at h1
   obtain ⟨rfl,rfl⟩:=h1
   have HREC:=vH he
   have HBD:=vH (show ([]:List Ex).length + 1 ≤ 1000000001 by decide)
   try rw [hv]
   clear hv H1 he
   go_wp2_with fail
   have hwrHA8:∀ k,Value.ownBlock (.slice none 0 0) = some k → k < w2.heap.size:=fun k hk => (HA2.out.own_lt k hk).2
   have HWR:=vH hwrHA8
   clear hwrHA8
   have hsB:w.heap.size ≤ w2.heap.size:=HA2.out.gr.size
   refine (HEX.out _ _ HREC.out _ HA2.out.rs).mono ?_
   rintro e w7 ⟨qk,qn,qs,qo,qd,qp,ql,qc,qa,qb,qr,qe,qf,rfl,hi,hr,hg⟩
   have HIQ:=vH hi
   have HX:=vH (HA2.out.go hlt hr hg)
   clear hi hr hg
   obtain ⟨vss,hv1,hown,hkid⟩:=HX.out.own
   have HO:=vH hown
   have HK:=vH hkid
   have HV1:=vH hv1
   have hsX:w.heap.size ≤ w7.heap.size:=HX.out.gr.size
   clear hown hkid hv1
   go_wp2_with (at_builtin; refine wpList_append_own_at _ rfl _ _ 88 rfl w.heap.size 111 i0 _ 11 120 Tryz.underlying88 hi0 hz0 hz1 hz2 rfl (by decide) _ ([]:List Ex).length _ rfl (HO.out.alloc _) ⟨w7.heap.size,0,none⟩ 1 1 (exCells qk qn qs qo qd (.slice qp ql qc) qa qb qr qe qf) rfl rfl ?c1 ?c2 ?c3 ?c4 ?c5 ?_)
   case c1 => exact zAy rfl rfl
   case c2 => exact zCx _ _ _ _ _ _ _ _ _ _ _ _ _
   case c3 => have:=HBD.out; unfold maxLen; omega
   case c4 => have:=HBD.out; omega
   case c5 => rw [zB]; omega
   intro v' w8 hown' hgrow _ hat
   have HA8:=vH (ArgSt.push HH.out HX.out HWR.out hsB HIQ.out HV1.out HK.out hown' hgrow hat)
   clear hown' hgrow hat HO HK HV1 HX HIQ HWR hsX hsB HREC HBD HA2
   go_wp2_with fail
   go_loopg [3] g (fun n v wr => ∃ l s4,ArgSt w wr R M1 M2 M3 S ts v l s4 ∧ argLoop ts rec n l s4 = some (l3,s3) ∧ l.length + n ≤ 1000000001)
   case atStart => exact ⟨_,_,HA8.out,H3.out,by have:=HG9.out; simp; omega⟩
   case round =>
    obtain ⟨l,s4,ha,h3,hbd⟩:=hrel
    have HA4:=vH ha
    have H34:=vH h3
    clear ha h3 HA8
    cases gk with
    | zero => exact (zER H34.out).elim
    | succ m =>
      have HBD:=vH (show l.length + 1 ≤ 1000000001 by omega)
      have HBM:=vH hbd
      clear hbd
      go_wp2_with fail
      refine (zG _ R _ S _ ts s4.c HA4.out.rs.cu ⟨#[44]⟩).mono ?_
      rintro e w5 ⟨rfl,hb⟩
      have HA5:=vH (HA4.out.go hlt (HA4.out.rs.go hb) (Gr.of hb))
      clear hb HA4
      cases hv:sees ts s4.c 4 [44] with
      | false =>
        have hx:=zIX H34.out hv
        injection hx with hx1 hx2
        subst hx1 hx2
        try rw [hv]
        clear hv
        go_wp2_with fail
        refine (zB0 _ R M1 M2 M3 S ts s3 HA5.out.rs ⟨#[41]⟩).mono ?_
        rintro e w6 ⟨rfl,hr,hg⟩
        have HA6:=vH (HA5.out.go hlt hr hg)
        clear hr hg HA5
        go_wp2_with fail
        exact bodyPost_ret (v:=u3) (by simp [results,Tryz.results177,go_sem]) rfl HA6.out.done
      | true =>
        obtain ⟨e0,s5,he,h5⟩:=zGe H34.out hv
        try rw [hv]
        have HREC:=vH he
        have H5:=vH h5
        clear hv he h5 H34
        go_wp2_with fail
        refine (zL _ R _ S _ ts s4.c HA5.out.rs.cu).mono ?_
        rintro e w6 ⟨rfl,hc,hg⟩
        have HA6:=vH (HA5.out.go hlt (HA5.out.rs.cur hg hc) hg)
        clear hc hg HA5
        go_wp2_with fail
        have hwrHA8:∀ k,Value.ownBlock (u3) = some k → k < w6.heap.size:=fun k hk => (HA6.out.own_lt k hk).2
        have HWR:=vH hwrHA8
        clear hwrHA8
        have hsB:w.heap.size ≤ w6.heap.size:=HA6.out.gr.size
        refine (HEX.out _ _ HREC.out _ HA6.out.rs).mono ?_
        rintro e w7 ⟨qk,qn,qs,qo,qd,qp,ql,qc,qa,qb,qr,qe,qf,rfl,hi,hr,hg⟩
        have HIQ:=vH hi
        have HX:=vH (HA6.out.go hlt hr hg)
        clear hi hr hg
        obtain ⟨vss,hv1,hown,hkid⟩:=HX.out.own
        have HO:=vH hown
        have HK:=vH hkid
        have HV1:=vH hv1
        have hsX:w.heap.size ≤ w7.heap.size:=HX.out.gr.size
        clear hown hkid hv1
        go_wp2_with (at_builtin; refine wpList_append_own_at _ rfl _ _ 88 rfl w.heap.size 111 i0 _ 11 120 Tryz.underlying88 hi0 hz0 hz1 hz2 rfl (by decide) _ l.length _ rfl (HO.out.alloc _) ⟨w7.heap.size,0,none⟩ 1 1 (exCells qk qn qs qo qd (.slice qp ql qc) qa qb qr qe qf) rfl rfl ?c1 ?c2 ?c3 ?c4 ?c5 ?_)
        case c1 => exact zAy rfl rfl
        case c2 => exact zCx _ _ _ _ _ _ _ _ _ _ _ _ _
        case c3 => have:=HBD.out; unfold maxLen; omega
        case c4 => have:=HBD.out; omega
        case c5 => rw [zB]; omega
        intro v' w8 hown' hgrow _ hat
        have HA8:=vH (ArgSt.push HH.out HX.out HWR.out hsB HIQ.out HV1.out HK.out hown' hgrow hat)
        clear hown' hgrow hat HO HK HV1 HX HIQ HWR hsX hsB
        go_wp2_with fail
        go_roundg m
        case measure => omega
        case rel => exact ⟨_,_,HA8.out,H5.out,by have:=HBM.out; simp; omega⟩
end Go.Proofs.YtipmjjfknhblnaaGreatDoor
