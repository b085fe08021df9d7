/-
  The project's writer of functions.
-/
import Derived.Test.YtmiiplefgkcklaaDoorK04
import Derived.Test.YtmiiplefgkcklaaDoorK41
import Derived.Shelf.Strings.OnBuilder
import Derived.Lib.Join
import Derived.Laws.OwnMore
set_option maxRecDepth 8000
set_option maxHeartbeats 8000000
namespace Go.Proofs.YtmiiplefgkcklaaDoor
open Go.RowKit
open Pe (Ex)
open Ps (Sm kindOf)
open Pg (Pm Rc Fc Gm)
open Rt (tyB pad prB pmB paB fdB rcB fcB blT PmOk RcOk shB shS)
theorem zRB:Builder.Extra Tryd.prog Tryd.lays156_ren where
 sizeBuilder:=by kernel_rfl
 liesBuilder:=by kernel_rfl
 t5:=Tryd.underlying5
 a5:=Tryd.isAgg5
 z5:=Tryd.sizeOf5
 v5:=Tryd.zeroValue5
 infoByte:=by kernel_rfl
 cellsByte:=by kernel_rfl
 sizeByte:=by kernel_rfl
 neB5:=by decide
theorem zRH:∀ ps:List Pm,Lib.join (ps.map pmB) [44,32] = paB ps
 | [] => rfl
 | [x] => Lib.join_one _ _
 | x :: y :: l => by
   have h:=zRH (y :: l)
   rw [List.map_cons,Lib.join_cons] at h
   rw [List.map_cons,List.map_cons,Lib.join_cons,paB,← h]
   simp [Lib.joinTail]
theorem zRJ (bk:Nat)(ps:List Pm)(w:World)(h:∀ (j:Nat) x,ps[j]? = some x → w.cell? ⟨bk,j,none⟩ = some (.string (cbs (pmB x))))(hbk:bk < w.heap.size)(hn:ps.length ≤ 6)(hl:(paB ps).length ≤ 70368744177664) :
 Calls Tryd.prog 73 #[.slice (some ⟨bk,0,none⟩) ps.length ps.length,.string ⟨#[44,32]⟩] w fun e w' => e = .returned (.string (cbs (paB ps))) ∧ Below w.heap.size w w':=by
 have hm:(ps.map fun x => cbs (pmB x)).map (fun s => s.data.toList) = ps.map pmB:=by rw [List.map_map]; rfl
 have h2:=Any.strings_Join Tryd.lays156 zRB bk 0 ps.length (ps.map fun x => cbs (pmB x)) ⟨#[44,32]⟩ w (fun j s hs => by
  rw [List.getElem?_map] at hs
  cases hx:ps[j]? with
  | none => rw [hx] at hs; cases hs
  | some x =>
    rw [hx] at hs
    obtain rfl:=Option.some.inj hs
    rw [Nat.zero_add]
    exact h j x hx) hbk (by rw [List.length_map]; omega) (by rw [List.length_map]; exact Nat.le_refl _) (by rw [hm,show (⟨#[44,32]⟩:ByteArray).data.toList = [44,32] from rfl,zRH]; omega)
 rw [hm,List.length_map,show (⟨#[44,32]⟩:ByteArray).data.toList = [44,32] from rfl,zRH] at h2
 exact h2
theorem sev {w1:World}{B:Nat}{T:TypeId}{c0 c1 c2 c3 c4 c5 c6:Value}(h:w1.heap[B]? = some (.cells #[c0,c1,c2,c3,c4,c5,c6] T (0,0))) :
 w1.cell? ⟨B,0,none⟩ = some c0 ∧ w1.cell? ⟨B,1,none⟩ = some c1 ∧ w1.cell? ⟨B,2,none⟩ = some c2 ∧ w1.cell? ⟨B,3,none⟩ = some c3 ∧ w1.cell? ⟨B,4,none⟩ = some c4 ∧ w1.cell? ⟨B,5,none⟩ = some c5 ∧ w1.cell? ⟨B,6,none⟩ = some c6:=
 ⟨by rw [cell_of_row _ _ _ _ _ _ h]; rfl,by rw [cell_of_row _ _ _ _ _ _ h]; rfl,by rw [cell_of_row _ _ _ _ _ _ h]; rfl,by rw [cell_of_row _ _ _ _ _ _ h]; rfl,by rw [cell_of_row _ _ _ _ _ _ h]; rfl,by rw [cell_of_row _ _ _ _ _ _ h]; rfl,by rw [cell_of_row _ _ _ _ _ _ h]; rfl⟩
theorem Ws.set {b:Nat}{l:List UInt8}{n:Int}{w1 w:World}(h:Ws b l n w1 w){M i:Nat}{A:Array Value}{T:TypeId}{fr:Nat × Nat}(hM:w.heap[M]? = some (.cells A T fr))(hT:T ≠ 5)(hb:b < M)(h1:w1.heap.size ≤ M)(u:Value):Ws b l n w1 (w.setCell ⟨M,i,none⟩ u):=by
 obtain ⟨⟨p,hp,v,hbk,hown,hne,hnil⟩,hk⟩:=h
 have hgr:w.grownBy (w.setCell ⟨M,i,none⟩ u) (some M):=⟨rfl,rfl,rfl,by simp [World.setCell],fun k _ hk => Below.heap_setCell _ _ _ _ (fun e => hk (by simp [e]))⟩
 have hvM:v.ownBlock ≠ some M:=by
  intro hc
  obtain ⟨c,fz,h2⟩:=Lib.ownsRowF_kind (World.ownsRowF_of hown) M hc
  rw [hM] at h2
  injection h2 with h2
  injection h2 with _ h3 _
  exact hT h3
 refine ⟨⟨p,hp,v,(hgr.block b (zA hbk) (by simp; omega)).trans hbk,hown.kept hgr (Or.inr hvM),hne,hnil⟩,⟨hk.below.setCell (p:=⟨M,i,none⟩) (Nat.le_of_lt hb) _,fun k o hk1 hk2 hk3 => ?_⟩⟩
 have h4:=hk.kept k o hk1 hk2 hk3
 rw [hgr.block k (Array.getElem?_eq_some_iff.1 h4).1 (by
  have:=(Array.getElem?_eq_some_iff.1 hk1).1
  simp
  omega)]
 exact h4
def Names (wr:World)(M:Nat)(ps:List Pm)(j:Nat):Prop:=∃ A:Array Value,wr.heap[M]? = some (.cells A 9 (0,0)) ∧ A.size = ps.length ∧ ∀ i,i < j → ∀ x,ps[i]? = some x → A[i]? = some (.string (cbs (pmB x)))
theorem Names.go {wr w2:World}{M:Nat}{ps:List Pm}{j:Nat}(h:Names wr M ps j)(hb:Below wr.heap.size wr w2):Names w2 M ps j:=by
 obtain ⟨A,h1,h2,h3⟩:=h
 exact ⟨A,(hb.block _ (zA h1)).trans h1,h2,h3⟩
theorem Names.next {wr:World}{M:Nat}{ps:List Pm}{j:Nat}(h:Names wr M ps j){x:Pm}(hx:ps[j]? = some x):Names (wr.setCell ⟨M,j,none⟩ (.string (cbs (pmB x)))) M ps (j + 1):=by
 obtain ⟨A,h1,h2,h3⟩:=h
 have hj:=(List.getElem?_eq_some_iff.1 hx).1
 refine ⟨A.setIfInBounds j (.string (cbs (pmB x))),by simp [World.setCell,Array.getElem?_modify,h1],by simp [h2],fun i hi y hy => ?_⟩
 by_cases h4:i = j
 ·subst h4
  rw [hx] at hy
  obtain rfl:=Option.some.inj hy
  rw [Array.getElem?_setIfInBounds_self]
  simp [h2,hj]
 ·rw [Array.getElem?_setIfInBounds_ne (Ne.symm h4)]
  exact h3 i (by omega) y hy
theorem zSU:∀ {ps:List Pm}{x:Pm},x ∈ ps → (pmB x).length ≤ (paB ps).length
 | [y],x,h => by
   rw [List.mem_singleton] at h
   subst h
   exact Nat.le_refl _
 | y :: z :: l,x,h => by
   rw [paB,List.length_append,List.length_cons,List.length_cons]
   rcases List.mem_cons.1 h with rfl | h
   ·omega
   ·have:=zSU h
    omega
theorem zRA {b:Nat}{w0 w1:World}(hS:Sta b w0 w1)(nm:List UInt8)(p:Option Addr)(c:Nat)(has:Bool)(rn:List UInt8)(D:Nat)(hD:D ≤ 3)(q:Option Addr)(cb:Nat)(a:Int)(ps:List Pm)(body:List Sm)(hp:PsAt w0 0 p ps)(hok:∀ x ∈ ps,PmOk x)(hn:ps.length ≤ 6)(hq:SsAt w0 0 q body)(hsb:shB body 49) :
 GivW b ((0:Nat):Int) w1 51 #[.pointer (some ⟨b,0,none⟩),.agg #[.string (cbs nm),.slice p ps.length c,.bool has,.string (cbs rn),.int .i64 (D:Int),.slice q body.length cb,.int .i64 a]]
  ((pad 0 ++ (([[102,117,110,99,32],nm,[40],paB ps,[41],(if has = true then [58,32] ++ tyB rn D else []),[32,123]]:List (List UInt8)).flatten ++ [10])) ++ (prB body 1 ++ (pad 0 ++ (([[125]]:List (List UInt8)).flatten ++ [10])))):=by
 intro l w hW hlen
 have hlt:=hW.is.lt
 have hw1:w1.heap.size ≤ w.heap.size:=hW.k.below.size
 have H0:=vH hW
 have H00:=vH (hW.go (w':=w.alloc (.cells #[.string (cbs nm),.slice p ps.length c,.bool has,.string (cbs rn),.int .i64 (D:Int),.slice q body.length cb,.int .i64 a] 72)) ((Below.refl _ _).alloc (Nat.le_refl _) _))
 have HBX:=vH (heap_alloc_new w (.cells #[.string (cbs nm),.slice p ps.length c,.bool has,.string (cbs rn),.int .i64 (D:Int),.slice q body.length cb,.int .i64 a] 72))
 have SS:=vH hS
 have HL:=vH hlen
 have HP:=vH hp
 have HQ:=vH hq
 have HOK:=vH hok
 have HN:=vH hn
 have HD:=vH hD
 have HSB:=vH hsb
 have HLT:=vH hlt
 have HW1:=vH hw1
 obtain ⟨i0,hi,hz0,hz1,hz2⟩:=info_parts (show (Tryd.prog.info? 9).map (fun i => (i.zero,i.size,i.bytes)) = some (some (.string ⟨#[]⟩),1,16) by kernel_rfl)
 have hmk:=fun (w2:World) => run_makeSlice (P:=Tryd.prog) (w:=w2) 50 9 i0 (.string ⟨#[]⟩) Tryd.underlying50 hi hz0 .i64 .i64 (ps.length:Int) (ps.length:Int) (by omega) (Int.le_refl _) (by rw [hz1]; simp; omega) (by rw [hz2]; omega) (by omega)
 simp only [Int.toNat_natCast,hz1,Nat.mul_one] at hmk
 have hms:(madeCells (Value.string ⟨#[]⟩).cells ps.length).size = ps.length:=by have:=size_madeCells (Value.string ⟨#[]⟩).cells ps.length; simpa using this
 generalize madeCells (Value.string ⟨#[]⟩).cells ps.length = A0 at hmk hms
 have HMS:=vH hms
 clear hW hlen hp hok hS hn hq hD hlt hw1 hsb hi hz0 hz1 hz2 hms
 go_in
 go_wp2_with fail
 go_loopg [15] ps.length (fun g v wr => ∃ j:Nat,g + j = ps.length ∧ v = .int .i64 (j:Int) ∧ Ws b l ((0:Nat):Int) w1 wr ∧ wr.heap[w.heap.size]? = some (.cells #[.string (cbs nm),.slice p ps.length c,.bool has,.string (cbs rn),.int .i64 (D:Int),.slice q body.length cb,.int .i64 a] 72 (0,0)) ∧ Names wr (w.heap.size + 1) ps j)
 case atStart => exact ⟨0,rfl,rfl,H00.out.go ((Below.refl _ _).alloc (Nat.le_refl _) _),zK _ HBX.out,A0,by have:=heap_alloc_new (w.alloc (.cells #[.string (cbs nm),.slice p ps.length c,.bool has,.string (cbs rn),.int .i64 (D:Int),.slice q body.length cb,.int .i64 a] 72)) (.cells A0 9); rw [zB] at this; exact this,HMS.out,fun i hi => absurd hi (Nat.not_lt_zero _)⟩
 case round =>
  obtain ⟨j,hj,rfl,hF,hbx,hnm⟩:=hrel
  have F4:=vH hF
  have HB2:=vH hbx
  have HNM:=vH hnm
  have HJJ:=vH hj
  cases gk with
  | zero =>
    obtain rfl:j = ps.length:=by omega
    have hd1:decide ((ps.length:Int) < (ps.length:Int)) = false:=decide_eq_false (by omega)
    clear hF hbx hnm hj hmk
    cases has with
    | true =>
      have HL2:Hid (l.length + ((pad 0 ++ (([[102,117,110,99,32],nm,[40],paB ps,[41],([58,32] ++ tyB rn D),[32,123]]:List (List UInt8)).flatten ++ [10])) ++ (prB body 1 ++ (pad 0 ++ (([[125]]:List (List UInt8)).flatten ++ [10])))).length ≤ 70368744177664):=vH HL.out
      have F0:=vH (Ws.start F4.out.is)
      have S2:=vH (SS.out.at_ F4.out)
      have H1:Hid (l.length + (pad 0 ++ (([[102,117,110,99,32],nm,[40],paB ps,[41],([58,32] ++ tyB rn D),[32,123]]:List (List UInt8)).flatten ++ [10])).length ≤ 70368744177664):=vH (by
       have:=HL2.out
       simp only [List.length_append] at this ⊢
       omega)
      have H2:Hid ((l ++ (pad 0 ++ (([[102,117,110,99,32],nm,[40],paB ps,[41],([58,32] ++ tyB rn D),[32,123]]:List (List UInt8)).flatten ++ [10]))).length + (prB body 1).length ≤ 70368744177664):=vH (by
       have:=HL2.out
       simp only [List.length_append] at this ⊢
       omega)
      have H3:Hid ((l ++ (pad 0 ++ (([[102,117,110,99,32],nm,[40],paB ps,[41],([58,32] ++ tyB rn D),[32,123]]:List (List UInt8)).flatten ++ [10])) ++ prB body 1).length + (pad 0 ++ (([[125]]:List (List UInt8)).flatten ++ [10])).length ≤ 70368744177664):=vH (by
       have:=HL2.out
       simp only [List.length_append] at this ⊢
       omega)
      have hlj:(paB ps).length ≤ 70368744177664:=by
       have:=H1.out
       simp only [List.flatten_cons,List.length_append] at this
       omega
      have hbk:=zQ4 (d:=0) S2.out (by decide) q cb body HQ.out (by
       have:=HL2.out
       have h2:=zRj body 1
       simp only [List.length_append] at this
       omega) fun x hx bl off h1 => zRO (d:=1) (q:=49) (zRb HSB.out hx) (by decide) S2.out h1
      have HBK:=vH hbk
      clear hbk
      have hlr:rn.length ≤ 70368744177664:=by
       have:=H1.out
       simp only [List.flatten_cons,List.length_append,zQJ] at this
       omega
      have hcat:(⟨#[58,32]⟩:ByteArray).size + (cbs (tyB rn D)).size ≤ 9223372036854775807:=by rw [zN5,zQJ]; have:=HD.out; show 2 + _ ≤ _; omega
      have hcb:(⟨#[58,32]⟩:ByteArray) ++ cbs (tyB rn D) = cbs ([58,32] ++ tyB rn D):=zQR [58,32] (tyB rn D)
      have HTY:=vH (zQY wr rn D HD.out hlr)
      have HCB:=vH hcb
      clear hlr hcb
      obtain ⟨z0,z1,z2,z3,z4,z5,z6⟩:=sev HB2.out
      go_wp2_with fail
      refine HTY.out.mono ?_
      rintro e u ⟨rfl,hb⟩
      have G:=vH (F0.out.go hb)
      have HB3:=vH ((hb.block _ (zA HB2.out)).trans HB2.out)
      have NM:=vH (HNM.out.go hb)
      clear hb z0 z1 z2 z3 z4 z5 z6
      go_wp2_with fail
      rw [HCB.out]
      clear hcat
      have G2:=vH (G.out.go (zQT u))
      have HB4:=vH (show u.drew.heap[w.heap.size]? = _ from HB3.out)
      have HJ:=vH (zRJ (w.heap.size + 1) ps u.drew (fun j x hx => by
       obtain ⟨A,h1,h2,h3⟩:=NM.out
       rw [cell_of_row _ _ _ _ _ _ (show u.drew.heap[w.heap.size + 1]? = _ from h1)]
       exact h3 j (List.getElem?_eq_some_iff.1 hx).1 x hx) (by
       obtain ⟨A,h1,-⟩:=NM.out
       exact zA h1) HN.out hlj)
      clear hlj G
      have G:=G2
      have HBD:=HB4
      clear G2
      have HNE:=vH (Nat.ne_of_gt HLT.out)
      go_region_held3 (fun w' => w'.cell? ⟨w.heap.size,0,none⟩ = some (.string (cbs nm))) (first | exact (sev HBD.out).1 | exact (sev (zK _ HBD.out)).1)
       (first
       | (go_at_call 73; (with_reducible refine Calls.mono HJ.out ?_); rintro e u2 ⟨rfl,hb⟩; have G2:=vH (G.out.go hb); have G:=G2; have HB5:=vH ((hb.block _ (zA HBD.out)).trans HBD.out); have HBD:=HB5)
       | (go_at_call 49; (refine Calls.mono (zQS [[102,117,110,99,32],nm,[40],paB ps,[41],([58,32] ++ tyB rn D),[32,123]] G.out (by decide) H1.out (by simp) _ rfl 7 rfl) ?_); rintro e u2 ⟨rfl,hW2⟩; have G2:=vH hW2; have G:=G2; have HB5:=vH (G.out.box HB2.out HNE.out (by decide)); have HBD:=HB5))
      all_goals
       obtain ⟨z0,z1,z2,z3,z4,z5,z6⟩:=sev HBD.out
       go_wp2_with fail
       refine (HBK.out _ _ G.out H2.out).mono ?_
       rintro e u3 ⟨rfl,hW3⟩
       have G3:=vH hW3
       clear hW3 z0 z1 z2 z3 z4 z5 z6
       go_wp2_with fail
       refine (zQS [[125]] G3.out (by decide) H3.out (by simp) _ rfl 1 rfl).mono ?_
       rintro e u4 ⟨rfl,hW4⟩
       have G4:=vH hW4
       clear hW4
       go_wp2_with fail
       go_end0
       exact ⟨rfl,(F4.out.join G4.out).cast (by simp)⟩
    | false =>
      have HL2:Hid (l.length + ((pad 0 ++ (([[102,117,110,99,32],nm,[40],paB ps,[41],([]:List UInt8),[32,123]]:List (List UInt8)).flatten ++ [10])) ++ (prB body 1 ++ (pad 0 ++ (([[125]]:List (List UInt8)).flatten ++ [10])))).length ≤ 70368744177664):=vH HL.out
      have F0:=vH (Ws.start F4.out.is)
      have S2:=vH (SS.out.at_ F4.out)
      have H1:Hid (l.length + (pad 0 ++ (([[102,117,110,99,32],nm,[40],paB ps,[41],([]:List UInt8),[32,123]]:List (List UInt8)).flatten ++ [10])).length ≤ 70368744177664):=vH (by
       have:=HL2.out
       simp only [List.length_append] at this ⊢
       omega)
      have H2:Hid ((l ++ (pad 0 ++ (([[102,117,110,99,32],nm,[40],paB ps,[41],([]:List UInt8),[32,123]]:List (List UInt8)).flatten ++ [10]))).length + (prB body 1).length ≤ 70368744177664):=vH (by
       have:=HL2.out
       simp only [List.length_append] at this ⊢
       omega)
      have H3:Hid ((l ++ (pad 0 ++ (([[102,117,110,99,32],nm,[40],paB ps,[41],([]:List UInt8),[32,123]]:List (List UInt8)).flatten ++ [10])) ++ prB body 1).length + (pad 0 ++ (([[125]]:List (List UInt8)).flatten ++ [10])).length ≤ 70368744177664):=vH (by
       have:=HL2.out
       simp only [List.length_append] at this ⊢
       omega)
      have hlj:(paB ps).length ≤ 70368744177664:=by
       have:=H1.out
       simp only [List.flatten_cons,List.length_append] at this
       omega
      have hbk:=zQ4 (d:=0) S2.out (by decide) q cb body HQ.out (by
       have:=HL2.out
       have h2:=zRj body 1
       simp only [List.length_append] at this
       omega) fun x hx bl off h1 => zRO (d:=1) (q:=49) (zRb HSB.out hx) (by decide) S2.out h1
      have HBK:=vH hbk
      clear hbk
      obtain ⟨z0,z1,z2,z3,z4,z5,z6⟩:=sev HB2.out
      go_wp2_with fail
      clear z0 z1 z2 z3 z4 z5 z6
      have G:=F0
      have HB3:=HB2
      have NM:=HNM
      obtain ⟨u,rfl⟩:∃ u,u = wr:=⟨_,rfl⟩
      have G2:=vH (G.out.go (zQT u))
      have HB4:=vH (show u.drew.heap[w.heap.size]? = _ from HB3.out)
      have HJ:=vH (zRJ (w.heap.size + 1) ps u.drew (fun j x hx => by
       obtain ⟨A,h1,h2,h3⟩:=NM.out
       rw [cell_of_row _ _ _ _ _ _ (show u.drew.heap[w.heap.size + 1]? = _ from h1)]
       exact h3 j (List.getElem?_eq_some_iff.1 hx).1 x hx) (by
       obtain ⟨A,h1,-⟩:=NM.out
       exact zA h1) HN.out hlj)
      clear hlj G
      have G:=G2
      have HBD:=HB4
      clear G2
      have HNE:=vH (Nat.ne_of_gt HLT.out)
      go_region_held3 (fun w' => w'.cell? ⟨w.heap.size,0,none⟩ = some (.string (cbs nm))) (first | exact (sev HBD.out).1 | exact (sev (zK _ HBD.out)).1)
       (first
       | (go_at_call 73; (with_reducible refine Calls.mono HJ.out ?_); rintro e u2 ⟨rfl,hb⟩; have G2:=vH (G.out.go hb); have G:=G2; have HB5:=vH ((hb.block _ (zA HBD.out)).trans HBD.out); have HBD:=HB5)
       | (go_at_call 49; (refine Calls.mono (zQS [[102,117,110,99,32],nm,[40],paB ps,[41],([]:List UInt8),[32,123]] G.out (by decide) H1.out (by simp) _ rfl 7 rfl) ?_); rintro e u2 ⟨rfl,hW2⟩; have G2:=vH hW2; have G:=G2; have HB5:=vH (G.out.box HB2.out HNE.out (by decide)); have HBD:=HB5))
      all_goals
       obtain ⟨z0,z1,z2,z3,z4,z5,z6⟩:=sev HBD.out
       go_wp2_with fail
       refine (HBK.out _ _ G.out H2.out).mono ?_
       rintro e u3 ⟨rfl,hW3⟩
       have G3:=vH hW3
       clear hW3 z0 z1 z2 z3 z4 z5 z6
       go_wp2_with fail
       refine (zQS [[125]] G3.out (by decide) H3.out (by simp) _ rfl 1 rfl).mono ?_
       rintro e u4 ⟨rfl,hW4⟩
       have G4:=vH hW4
       clear hW4
       go_wp2_with fail
       go_end0
       exact ⟨rfl,(F4.out.join G4.out).cast (by simp)⟩
  | succ m =>
    have hjl:j < ps.length:=by omega
    have hd1:decide ((j:Int) < (ps.length:Int)) = true:=decide_eq_true (by omega)
    have hd2:decide (ps.length ≤ j) = false:=decide_eq_false (by omega)
    have hi1:(j:Int) < (ps.length:Int):=by omega
    have hi3:(0:Int) ≤ (j:Int):=by omega
    have hdw:wrap64 ((j:Int) + 1) = ((j + 1:Nat):Int):=by have:=HN.out; simp [wrap64]; omega
    have he:=List.getElem?_eq_getElem hjl
    have hm:=HOK.out _ (List.getElem_mem hjl)
    have hlx:(pmB ps[j]).length ≤ 70368744177664:=by
        have h3:=zSU (List.getElem_mem hjl)
        have:=HL.out
        simp only [List.flatten_cons,List.length_append] at this
        omega
    generalize ps[j] = x at he hm hlx
    obtain ⟨kb,ko,rfl,hkb,c0,c1,c2,c3⟩:=zRU HP.out he
    have hup:=SS.out.up hF
    have y0:=zQI hup c0
    have y1:=zQI hup c1
    have y2:=zQI hup c2
    have y3:=zQI hup c3
    have hkw:kb ≠ wr.heap.size:=by have:=hup.size; omega
    have HE:=vH he
    have HM:=vH hm
    have HLX:=vH hlx
    clear hF hbx hnm hj he hm hlx c0 c1 c2 c3 hup hkb hmk
    go_wp2_with fail
    refine (zQX _ x HM.out HLX.out).mono ?_
    rintro e u ⟨rfl,hb⟩
    have F5:=vH ((F4.out.go ((Below.refl _ _).alloc (Nat.le_refl _) _)).go hb)
    have HB3:=vH ((hb.block _ (zA (zK _ HB2.out))).trans (zK _ HB2.out))
    have NM:=vH ((HNM.out.go ((Below.refl _ _).alloc (Nat.le_refl _) _)).go hb)
    clear hb y0 y1 y2 y3
    obtain ⟨A,n1,n2,-⟩:=id NM.out
    obtain ⟨v0,hv0⟩:∃ v0,A[j]? = some v0:=⟨_,Array.getElem?_eq_getElem (by omega)⟩
    have z1:u.cell? ⟨w.heap.size + 1,j,none⟩ = some v0:=by rw [cell_of_row _ _ _ _ _ _ n1]; exact hv0
    have z2:u.frozen? ⟨w.heap.size + 1,j,none⟩ = false:=frozen_of_row _ _ _ _ _ n1
    have N1:=vH n1
    clear n1 n2 hv0
    go_wp2_with fail
    go_roundg m
    case measure => omega
    case rel => exact ⟨j + 1,by have:=HJJ.out; omega,by first | rfl | simp [hdw],F5.out.set N1.out (by decide) (by have:=HLT.out; omega) (by have:=HW1.out; omega) _,(Below.heap_setCell _ _ _ _ (by show w.heap.size ≠ w.heap.size + 1; omega)).trans HB3.out,NM.out.next HE.out⟩
end Go.Proofs.YtmiiplefgkcklaaDoor
namespace Go.Proofs.YtmiiplefgkcklaaDoor
open Go.RowKit
open Pe (Ex)
open Ps (Sm kindOf)
open Pg (Pm Rc Fc Gm)
open Rt (tyB pad prB pmB paB fdB rcB glB fcB blT prG PmOk RcOk shB shS shF shG)
theorem zTg (x:Rc):pad 0 ++ (([[114,101,99,111,114,100,32],x.name,[32,123]]:List (List UInt8)).flatten ++ [10]) ++ (fdB x.fields ++ (pad 0 ++ (([[125]]:List (List UInt8)).flatten ++ [10]))) = rcB x:=by
 unfold rcB
 simp [pad]
theorem zSX (x:Pm):pad 0 ++ (([[103,108,111,98,97,108,32],pmB x,[59]]:List (List UInt8)).flatten ++ [10]) = glB x:=by
 unfold glB
 simp [pad]
theorem zTs (x:Fc)(D:Nat)(hD:x.rd = (D:Int)):pad 0 ++ (([[102,117,110,99,32],x.name,[40],paB x.params,[41],(if x.has = true then [58,32] ++ tyB x.rn D else []),[32,123]]:List (List UInt8)).flatten ++ [10]) ++ (prB x.body 1 ++ (pad 0 ++ (([[125]]:List (List UInt8)).flatten ++ [10]))) = fcB x:=by
 unfold fcB blT
 rw [hD,Int.toNat_natCast]
 cases x.has <;> simp [pad]
theorem zSG {b:Nat}{w0 w1:World}(hS:Sta b w0 w1){x:Rc}{vs:List Value}(hi:RIs w0 0 x vs)(hok:RcOk x):GivW b ((0:Nat):Int) w1 48 #[.pointer (some ⟨b,0,none⟩),.agg ⟨vs⟩] (rcB x):=by
 obtain ⟨p,c,rfl,hp⟩:=hi
 rw [← zTg]
 exact zRM hS x.name p c x.at_ x.fields hp hok.2 hok.1
theorem zSt {b:Nat}{w0 w1:World}(hS:Sta b w0 w1){x:Fc}{vs:List Value}(hi:FIs w0 0 x vs)(hok:shF x):GivW b ((0:Nat):Int) w1 51 #[.pointer (some ⟨b,0,none⟩),.agg ⟨vs⟩] (fcB x):=by
 obtain ⟨p,c,q,d,rfl,hp,hq⟩:=hi
 obtain ⟨h1,h2,⟨h3,h4⟩,h5⟩:=hok
 obtain ⟨D,hD⟩:=Int.eq_ofNat_of_zero_le h3
 rw [← zTs x D hD]
 have h:=zRA hS x.name p c x.has x.rn D (by omega) q d x.at_ x.params x.body hp h1 h2 hq h5
 rw [← hD] at h
 exact h
theorem zRd {α:Type}(f : α → List UInt8){l:List α}{j:Nat}{x : α}(h:l.drop j = x :: l.drop (j + 1)):(l.drop j).flatMap f = f x ++ (l.drop (j + 1)).flatMap f:=by rw [h,List.flatMap_cons]
theorem zRF {b:Nat}{w0 w1:World}(hS:Sta b w0 w1)(g:Gm)(hg:shG g)(p1 p2 p3:Option Addr)(c1 c2 c3:Nat)(h1:LAt RIs 3 w0 0 p1 g.recs)(h2:LAt PIs 4 w0 0 p2 g.globals)(h3:LAt FIs 7 w0 0 p3 g.funcs) :
 GivW b ((0:Nat):Int) w1 28 #[.pointer (some ⟨b,0,none⟩),.agg #[.slice p1 g.recs.length c1,.slice p2 g.globals.length c2,.slice p3 g.funcs.length c3]] (prG g):=by
 intro l w hW hlen
 have hx:=hW.go (w':=(w.alloc (.cells #[.slice p1 g.recs.length c1,.slice p2 g.globals.length c2,.slice p3 g.funcs.length c3] 26))) ((Below.refl _ _).alloc (Nat.le_refl _) _)
 have H0:=vH hx
 have F:=vH (Ws.start hx.is)
 have SS:=vH (hS.at_ hx)
 have HBX:=vH (heap_alloc_new w (.cells #[.slice p1 g.recs.length c1,.slice p2 g.globals.length c2,.slice p3 g.funcs.length c3] 26))
 have HNE:=vH (Nat.ne_of_gt hW.is.lt)
 have HL:Hid (l.length + ((g.recs.flatMap rcB).length + ((g.globals.flatMap glB).length + (g.funcs.flatMap fcB).length)) ≤ 70368744177664):=vH (by
  unfold prG at hlen
  simp only [List.length_append] at hlen
  omega)
 have HG:=vH hg
 have R1:=vH h1
 have R2:=vH h2
 have R3:=vH h3
 obtain ⟨⟨b0,b1,b2⟩,-⟩:=tri HBX.out
 have hnr:=hg.nr
 have hng:=hg.ng
 have hnf:=hg.nf
 clear hW hlen hx hg h1 h2 h3 hS
 go_in
 go_wp2_with fail
 clear b0 b1 b2
 go_loopg [13] g.recs.length (fun gk0 v wr => ∃ j:Nat,gk0 + j = g.recs.length ∧ v = .int .i64 (j:Int) ∧ ∃ t:List UInt8,Ws b t ((0:Nat):Int) (w.alloc (.cells #[.slice p1 g.recs.length c1,.slice p2 g.globals.length c2,.slice p3 g.funcs.length c3] 26)) wr ∧ t ++ (g.recs.drop j).flatMap rcB = l ++ g.recs.flatMap rcB)
 case atStart => exact ⟨0,rfl,rfl,_,F.out,rfl⟩
 case round =>
  obtain ⟨j,hj,rfl,t,hF,ht⟩:=hrel
  have F4:=vH hF
  have HT:=vH ht
  have HJ:=vH hj
  cases gk with
  | zero =>
    obtain rfl:j = g.recs.length:=by omega
    have hd1:decide ((g.recs.length:Int) < (g.recs.length:Int)) = false:=decide_eq_false (by omega)
    have h9:=ht
    rw [List.drop_of_length_le (Nat.le_refl _),List.flatMap_nil,List.append_nil] at h9
    have E1:=vH (hF.cast h9)
    obtain ⟨⟨b0,b1,b2⟩,-⟩:=tri (hF.box HBX.out HNE.out (by decide))
    clear hF ht hj h9
    go_wp2_with fail
    clear b0 b1 b2 F4 HT HJ
    obtain ⟨wa,rfl⟩:∃ wa:World,wa = wr:=⟨_,rfl⟩
    go_loopg [24] g.globals.length (fun gk0 v wr => ∃ j:Nat,gk0 + j = g.globals.length ∧ v = .int .i64 (j:Int) ∧ ∃ t:List UInt8,Ws b t ((0:Nat):Int) (w.alloc (.cells #[.slice p1 g.recs.length c1,.slice p2 g.globals.length c2,.slice p3 g.funcs.length c3] 26)) wr ∧ t ++ (g.globals.drop j).flatMap glB = (l ++ g.recs.flatMap rcB) ++ g.globals.flatMap glB)
    case atStart => exact ⟨0,rfl,rfl,_,E1.out,rfl⟩
    case round =>
        obtain ⟨j,hj,rfl,t,hF,ht⟩:=hrel
        have F4:=vH hF
        have HT:=vH ht
        have HJ:=vH hj
        cases gk with
        | zero =>
          obtain rfl:j = g.globals.length:=by omega
          have hd1:decide ((g.globals.length:Int) < (g.globals.length:Int)) = false:=decide_eq_false (by omega)
          have h9:=ht
          rw [List.drop_of_length_le (Nat.le_refl _),List.flatMap_nil,List.append_nil] at h9
          have E2:=vH (hF.cast h9)
          obtain ⟨⟨b0,b1,b2⟩,-⟩:=tri (hF.box HBX.out HNE.out (by decide))
          clear hF ht hj h9
          go_wp2_with fail
          clear b0 b1 b2 F4 HT HJ
          obtain ⟨wb,rfl⟩:∃ wb:World,wb = wr:=⟨_,rfl⟩
          go_loopg [37] g.funcs.length (fun gk0 v wr => ∃ j:Nat,gk0 + j = g.funcs.length ∧ v = .int .i64 (j:Int) ∧ ∃ t:List UInt8,Ws b t ((0:Nat):Int) (w.alloc (.cells #[.slice p1 g.recs.length c1,.slice p2 g.globals.length c2,.slice p3 g.funcs.length c3] 26)) wr ∧ t ++ (g.funcs.drop j).flatMap fcB = (l ++ g.recs.flatMap rcB ++ g.globals.flatMap glB) ++ g.funcs.flatMap fcB)
          case atStart => exact ⟨0,rfl,rfl,_,E2.out,rfl⟩
          case round =>
           obtain ⟨j,hj,rfl,t,hF,ht⟩:=hrel
           have F4:=vH hF
           have HT:=vH ht
           have HJ:=vH hj
           cases gk with
           | zero =>
             obtain rfl:j = g.funcs.length:=by omega
             have hd1:decide ((g.funcs.length:Int) < (g.funcs.length:Int)) = false:=decide_eq_false (by omega)
             have h9:=ht
             rw [List.drop_of_length_le (Nat.le_refl _),List.flatMap_nil,List.append_nil] at h9
             have H9:=vH h9
             clear hF ht hj h9
             go_wp2_with fail
             go_end0
             exact ⟨rfl,(H0.out.join F4.out).cast (by rw [H9.out]; unfold prG; simp only [List.append_assoc])⟩
           | succ m =>
             have hjl:j < g.funcs.length:=by omega
             have hd1:decide ((j:Int) < (g.funcs.length:Int)) = true:=decide_eq_true (by omega)
             have hd2:decide (g.funcs.length ≤ j) = false:=decide_eq_false (by omega)
             have hi1:(j:Int) < (g.funcs.length:Int):=by omega
             have hi3:(0:Int) ≤ (j:Int):=by omega
             have hdw:wrap64 ((j:Int) + 1) = ((j + 1:Nat):Int):=by simp [wrap64]; omega
             have he:=List.getElem?_eq_getElem hjl
             have hd4:g.funcs.drop j = g.funcs[j] :: g.funcs.drop (j + 1):=List.drop_eq_getElem_cons hjl
             have hm:=HG.out.funcs _ (List.getElem_mem hjl)
             generalize g.funcs[j] = x at he hd4 hm
             obtain ⟨kb,ko,vs,rfl,hkb,hi,hc⟩:=R3.out.get he
             have hup:=SS.out.up hF
             have hn2:=ht
             rw [zRd fcB hd4] at hn2
             have h3:=congrArg List.length hn2
             have h4:=HL.out
             simp only [List.length_append] at h3 h4
             have h2:t.length + (fcB x).length ≤ 70368744177664:=by omega
             have hkw:kb ≠ wr.heap.size:=by have:=hup.size; omega
             have hG:=zSt SS.out hi hm
             obtain ⟨fp,fcap,fq,fcap2,rfl,-⟩:=id hi
             have y0:=zQI hup (hc 0 _ (by decide) rfl)
             have y1:=zQI hup (hc 1 _ (by decide) rfl)
             have y2:=zQI hup (hc 2 _ (by decide) rfl)
             have y3:=zQI hup (hc 3 _ (by decide) rfl)
             have y4:=zQI hup (hc 4 _ (by decide) rfl)
             have y5:=zQI hup (hc 5 _ (by decide) rfl)
             have y6:=zQI hup (hc 6 _ (by decide) rfl)
             simp only [Nat.add_zero] at y0
             have HGG:=vH hG
             have H2:=vH h2
             have HN2:=vH hn2
             clear hF ht hj he hd4 hm hi hc hup hn2 h2 h3 h4 hG hkb
             go_wp2_with fail
             refine (HGG.out _ _ (F4.out.go ((Below.refl _ _).alloc (Nat.le_refl _) _)) H2.out).mono ?_
             rintro e u ⟨rfl,hW2⟩
             have F6:=vH hW2
             clear hW2 y0 y1 y2 y3 y4 y5 y6
             go_wp2_with fail
             go_roundg m
             case measure => omega
             case rel => exact ⟨j + 1,by have:=HJ.out; omega,by first | rfl | simp [hdw],_,F6.out,by rw [← HN2.out,List.append_assoc]⟩
        | succ m =>
          have hjl:j < g.globals.length:=by omega
          have hd1:decide ((j:Int) < (g.globals.length:Int)) = true:=decide_eq_true (by omega)
          have hd2:decide (g.globals.length ≤ j) = false:=decide_eq_false (by omega)
          have hi1:(j:Int) < (g.globals.length:Int):=by omega
          have hi3:(0:Int) ≤ (j:Int):=by omega
          have hdw:wrap64 ((j:Int) + 1) = ((j + 1:Nat):Int):=by simp [wrap64]; omega
          have he:=List.getElem?_eq_getElem hjl
          have hd4:g.globals.drop j = g.globals[j] :: g.globals.drop (j + 1):=List.drop_eq_getElem_cons hjl
          have hm:=HG.out.globs _ (List.getElem_mem hjl)
          generalize g.globals[j] = x at he hd4 hm
          obtain ⟨kb,ko,vs,rfl,hkb,hi,hc⟩:=R2.out.get he
          have hup:=SS.out.up hF
          have hn2:=ht
          rw [zRd glB hd4] at hn2
          have h3:=congrArg List.length hn2
          have h4:=HL.out
          simp only [List.length_append] at h3 h4
          have h2:t.length + (glB x).length ≤ 70368744177664:=by omega
          have hkw:kb ≠ wr.heap.size:=by have:=hup.size; omega
          rw [PIs] at hi
          subst hi
          have y0:=zQI hup (hc 0 _ (by decide) rfl)
          have y1:=zQI hup (hc 1 _ (by decide) rfl)
          have y2:=zQI hup (hc 2 _ (by decide) rfl)
          have y3:=zQI hup (hc 3 _ (by decide) rfl)
          simp only [Nat.add_zero] at y0
          have h5:(pmB x).length ≤ 70368744177664:=by
           rw [← zSX] at h2
           simp only [List.flatten_cons,List.length_append] at h2
           omega
          rw [← zSX] at h2 hn2
          have H2:=vH h2
          have H5:=vH h5
          have HN2:=vH hn2
          have HM:=vH hm
          clear hF ht hj he hd4 hm hc hup hn2 h2 h3 h4 h5 hkb
          go_wp2_with fail
          refine (zQX _ x HM.out H5.out).mono ?_
          rintro e u ⟨rfl,hb⟩
          have F5:=vH ((F4.out.go ((Below.refl _ _).alloc (Nat.le_refl _) _)).go hb)
          clear hb y0 y1 y2 y3
          go_wp2_with fail
          refine (zQS [[103,108,111,98,97,108,32],pmB x,[59]] F5.out (by decide) H2.out (by simp) _ rfl 3 rfl).mono ?_
          rintro e u ⟨rfl,hW2⟩
          have F6:=vH hW2
          clear hW2
          go_wp2_with fail
          go_roundg m
          case measure => omega
          case rel => exact ⟨j + 1,by have:=HJ.out; omega,by first | rfl | simp [hdw],_,F6.out,by rw [← HN2.out,List.append_assoc]⟩
  | succ m =>
    have hjl:j < g.recs.length:=by omega
    have hd1:decide ((j:Int) < (g.recs.length:Int)) = true:=decide_eq_true (by omega)
    have hd2:decide (g.recs.length ≤ j) = false:=decide_eq_false (by omega)
    have hi1:(j:Int) < (g.recs.length:Int):=by omega
    have hi3:(0:Int) ≤ (j:Int):=by omega
    have hdw:wrap64 ((j:Int) + 1) = ((j + 1:Nat):Int):=by simp [wrap64]; omega
    have he:=List.getElem?_eq_getElem hjl
    have hd4:g.recs.drop j = g.recs[j] :: g.recs.drop (j + 1):=List.drop_eq_getElem_cons hjl
    have hm:=HG.out.recs _ (List.getElem_mem hjl)
    generalize g.recs[j] = x at he hd4 hm
    obtain ⟨kb,ko,vs,rfl,hkb,hi,hc⟩:=R1.out.get he
    have hup:=SS.out.up hF
    have hn2:=ht
    rw [zRd rcB hd4] at hn2
    have h3:=congrArg List.length hn2
    have h4:=HL.out
    simp only [List.length_append] at h3 h4
    have h2:t.length + (rcB x).length ≤ 70368744177664:=by omega
    have hkw:kb ≠ wr.heap.size:=by have:=hup.size; omega
    have hG:=zSG SS.out hi hm
    obtain ⟨fp,fcap,rfl,-⟩:=id hi
    have y0:=zQI hup (hc 0 _ (by decide) rfl)
    have y1:=zQI hup (hc 1 _ (by decide) rfl)
    have y2:=zQI hup (hc 2 _ (by decide) rfl)
    simp only [Nat.add_zero] at y0
    have HGG:=vH hG
    have H2:=vH h2
    have HN2:=vH hn2
    clear hF ht hj he hd4 hm hi hc hup hn2 h2 h3 h4 hG hkb
    go_wp2_with fail
    refine (HGG.out _ _ (F4.out.go ((Below.refl _ _).alloc (Nat.le_refl _) _)) H2.out).mono ?_
    rintro e u ⟨rfl,hW2⟩
    have F6:=vH hW2
    clear hW2 y0 y1 y2
    go_wp2_with fail
    go_roundg m
    case measure => omega
    case rel => exact ⟨j + 1,by have:=HJ.out; omega,by first | rfl | simp [hdw],_,F6.out,by rw [← HN2.out,List.append_assoc]⟩
theorem zRc (w:World)(he:EnvS w)(g:Gm)(hg:shG g){vs:List Value}(hi:GIs w 0 g vs)(hl:(prG g).length ≤ 70368744177664) :
 Calls Tryd.prog 9 #[.agg ⟨vs⟩] w fun e w' => e = .returned (.string (cbs (prG g))) ∧ Below w.heap.size w w':=by
 obtain ⟨p1,c1,p2,c2,p3,c3,rfl,h1,h2,h3⟩:=hi
 have hb:Below w.heap.size w (w.alloc (.cells #[.slice p1 g.recs.length c1,.slice p2 g.globals.length c2,.slice p3 g.funcs.length c3] 26)):=(Below.refl _ _).alloc (Nat.le_refl _) _
 have hs:=zSC he #[.slice p1 g.recs.length c1,.slice p2 g.globals.length c2,.slice p3 g.funcs.length c3] 26
 have hf:=Ws.fresh1 w (.cells #[.slice p1 g.recs.length c1,.slice p2 g.globals.length c2,.slice p3 g.funcs.length c3] 26)
 have ha:=Ag.below (B:=0) hb
 have HX:=vH (zRF hs g hg p1 p2 p3 c1 c2 c3 (h1.ag (fun _ _ h => h.ag ha) ha) (LAt.ag (w:=w) (w1:=w.alloc (.cells #[.slice p1 g.recs.length c1,.slice p2 g.globals.length c2,.slice p3 g.funcs.length c3] 26)) (fun _ _ h => h) h2 ha) (h3.ag (fun _ _ h => h.ag ha) ha) [] _ hf (by simp; omega))
 have HB:=vH hb
 clear hs hf hl hb ha h1 h2 h3 he
 go_in
 go_wp2_with fail
 refine HX.out.mono ?_
 rintro e w1 ⟨rfl,h1⟩
 have H1:=vH h1
 clear h1 HX
 go_wp2_with fail
 refine (zQ5 _ _ _ _ H1.out.is).mono ?_
 rintro e w2 ⟨rfl,hb⟩
 have HB2:=vH (HB.out.trans ((((Below.refl _ _).alloc (Nat.le_refl _) _).trans ((H1.out.k.below.trans hb).mono (by rw [zB]; omega))).mono (by rw [zB]; omega)))
 clear hb
 go_wp2_with fail
 go_ret
 exact ⟨rfl,HB2.out⟩
end Go.Proofs.YtmiiplefgkcklaaDoor
