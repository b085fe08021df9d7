/-
  An expression in memory.
-/
import Derived.Test.YtipmjjfknhblnaaGreatDoorK03
import Derived.Test.YtipmjjfknhblnaaGreatDoorK05
import Derived.Test.YtipmjjfknhblnaaGreatDoorK01
import Derived.Test.YtipmjjfknhblnaaGreatDoorK02
set_option maxHeartbeats 8000000
namespace Go.Proofs.YtipmjjfknhblnaaGreatDoor
open Go.RowKit
open Px (RT tokAt)
open Pe
def exCells (kind num:Int)(name ofn:List UInt8)(dims:Int)(kv:Value)(at_ b r d ref:Int):List Value:=
 [.int .i64 kind,.int .i64 num,.string (cbs name),.string (cbs ofn),.int .i64 dims,kv,.int .i64 at_,.int .i64 b,.int .i64 r,.int .i64 d,.int .i64 ref]
mutual
def Is (w:World)(B:Nat):Ex → List Value → Prop
 | .mk kind num name ofn dims kids at_ b r d ref,vs => ∃ p c,vs = exCells kind num name ofn dims (.slice p kids.length c) at_ b r d ref ∧
  (kids = [] ∨ ∃ bl off,p = some ⟨bl,off,none⟩ ∧ bl < w.heap.size ∧ B ≤ bl ∧ At w B bl off kids)
def At (w:World)(B bl:Nat):Nat → List Ex → Prop
 | _,[] => True
 | off,e :: es => (∃ vs,Is w B e vs ∧ ∀ (i:Nat) (v:Value),vs[i]? = some v → w.cell? ⟨bl,off + i,none⟩ = some v) ∧ At w B bl (off + 11) es
end
theorem zBB {w w':World}{b:Nat}(h:w'.heap[b]? = w.heap[b]?)(o:Nat):w'.cell? ⟨b,o,none⟩ = w.cell? ⟨b,o,none⟩:=by simp only [World.cell?,h]
mutual
theorem Is.keep {w w':World}{B:Nat}(hs:w.heap.size ≤ w'.heap.size)(hk:∀ bl,B ≤ bl → bl < w.heap.size → w'.heap[bl]? = w.heap[bl]?):∀ (e:Ex){vs:List Value},Is w B e vs → Is w' B e vs
 | .mk kind num name ofn dims kids at_ b r d ref,vs,h => by
   rw [Is] at h ⊢
   obtain ⟨p,c,hv,hkk⟩:=h
   refine ⟨p,c,hv,?_⟩
   rcases hkk with h0 | ⟨bl,off,hp,hb,hne,ha⟩
   ·exact .inl h0
   ·exact .inr ⟨bl,off,hp,Nat.lt_of_lt_of_le hb hs,hne,At.keep hs hk kids off hb hne ha⟩
theorem At.keep {w w':World}{B:Nat}(hs:w.heap.size ≤ w'.heap.size)(hk:∀ bl,B ≤ bl → bl < w.heap.size → w'.heap[bl]? = w.heap[bl]?):∀ (es:List Ex){bl:Nat}(off:Nat),bl < w.heap.size → B ≤ bl → At w B bl off es → At w' B bl off es
 | [],_,_,_,_,_ => by rw [At]; trivial
 | e :: es,bl,off,hb,hne,h => by
   rw [At] at h ⊢
   obtain ⟨⟨vs,hi,hc⟩,hr⟩:=h
   refine ⟨⟨vs,Is.keep hs hk e hi,fun i v hv => ?_⟩,At.keep hs hk es (off + 11) hb hne hr⟩
   rw [zBB (hk bl hne hb)]
   exact hc i v hv
end
mutual
theorem Is.lower {w:World}{B B2:Nat}(hB:B2 ≤ B):∀ (e:Ex){vs:List Value},Is w B e vs → Is w B2 e vs
 | .mk kind num name ofn dims kids at_ b r d ref,vs,h => by
   rw [Is] at h ⊢
   obtain ⟨p,c,hv,hk⟩:=h
   refine ⟨p,c,hv,?_⟩
   rcases hk with h0 | ⟨bl,off,hp,hb,hne,ha⟩
   ·exact .inl h0
   ·exact .inr ⟨bl,off,hp,hb,Nat.le_trans hB hne,At.lower hB kids off ha⟩
theorem At.lower {w:World}{B B2:Nat}(hB:B2 ≤ B):∀ (es:List Ex){bl:Nat}(off:Nat),At w B bl off es → At w B2 bl off es
 | [],_,_,_ => by rw [At]; trivial
 | e :: es,bl,off,h => by
   rw [At] at h ⊢
   obtain ⟨⟨vs,hi,hc⟩,hr⟩:=h
   exact ⟨⟨vs,Is.lower hB e hi,hc⟩,At.lower hB es (off + 11) hr⟩
end
theorem Is.gr {w w':World}{B R:Nat}{e:Ex}{vs:List Value}(h:Is w B e vs)(hR:R < B)(hg:Gr R w w'):Is w' B e vs:=Is.keep hg.size (fun bl h1 h2 => hg.block bl h2 (by omega)) e h
theorem Is.below {w w':World}{B:Nat}{e:Ex}{vs:List Value}(h:Is w B e vs)(hb:Below w.heap.size w w'):Is w' B e vs:=Is.keep hb.size (fun bl _ h2 => hb.block bl h2) e h
theorem Is.set {w:World}{B:Nat}{e:Ex}{vs:List Value}(h:Is w B e vs){p:Addr}(hp:p.block < B)(u:Value):Is (w.setCell p u) B e vs:=
 Is.keep ((Below.refl 0 w).setCell (p:=p) (Nat.zero_le _) u).size (fun bl h1 _ => Below.heap_setCell w p u bl (by omega)) e h
theorem Is.alloc {w:World}{B:Nat}{e:Ex}{vs:List Value}(h:Is w B e vs)(o:Obj):Is (w.alloc o) B e vs:=h.below ((Below.refl _ _).alloc (Nat.le_refl _) _)
theorem Is.drew {w:World}{B:Nat}{e:Ex}{vs:List Value}(h:Is w B e vs)(n:Nat):Is (w.drewN n) B e vs:=h.below (zF (Below.refl _ _) n)
theorem Is.len {w:World}{B:Nat}{e:Ex}{vs:List Value}(h:Is w B e vs):vs.length = 11:=by
 cases e
 rw [Is] at h
 obtain ⟨p,c,rfl,-⟩:=h
 rfl
theorem Is.out {w:World}{B:Nat}{e:Ex}{vs:List Value}(h:Is w B e vs):∃ kind num name ofn dims p n c at_ b r d ref,vs = exCells kind num name ofn dims (.slice p n c) at_ b r d ref:=by
 cases e
 rw [Is] at h
 obtain ⟨p,c,rfl,-⟩:=h
 exact ⟨_,_,_,_,_,_,_,_,_,_,_,_,_,rfl⟩
theorem Is.leaf {w:World}{B:Nat}(kind num:Int)(name ofn:List UInt8)(dims at_:Int):Is w B (Ex.of kind num name ofn dims [] at_) (exCells kind num name ofn dims (.slice none 0 0) at_ 0 0 0 0):=by
 rw [Ex.of,Is]
 exact ⟨none,0,rfl,.inl rfl⟩
theorem Is.zero {w:World}{B:Nat}:Is w B Ex.zero (exCells 0 0 [] [] 0 (.slice none 0 0) 0 0 0 0 0):=Is.leaf 0 0 [] [] 0 0
theorem At.of_row {w:World}{B bl:Nat}{T:TypeId}{A:Array Value}(hb:w.heap[bl]? = some (.cells A T (0,0))):∀ (es:List Ex)(off:Nat)(vss:List (List Value)),vss.length = es.length → (∀ (i:Nat) e vs,es[i]? = some e → vss[i]? = some vs → Is w B e vs) →
 (∀ (i:Nat),i < vss.flatten.length → A[off + i]? = vss.flatten[i]?) → At w B bl off es
 | [],_,_,_,_,_ => by rw [At]; trivial
 | e :: es,off,[],hl,_,_ => by simp at hl
 | e :: es,off,vs :: vss,hl,hi,hc => by
   rw [At]
   have h0:=hi 0 e vs rfl rfl
   have hlen:=h0.len
   refine ⟨⟨vs,h0,fun i v hv => ?_⟩,At.of_row hb es (off + 11) vss (by simpa using hl) (fun i e vs he hvs => hi (i + 1) e vs he hvs) fun i hlt => ?_⟩
   ·have hlt:i < vs.length:=(List.getElem?_eq_some_iff.1 hv).1
    rw [cell_of_row _ _ _ _ _ _ hb,hc i (by simp; omega),List.flatten_cons,List.getElem?_append_left hlt,hv]
   ·have:=hc (11 + i) (by simp at hlt ⊢; omega)
    rw [List.flatten_cons,List.getElem?_append_right (by omega),hlen,show 11 + i - 11 = i by omega] at this
    rw [← this]
    congr 1
    omega
theorem At.one {w:World}{B bl:Nat}{T:TypeId}{e:Ex}{vs:List Value}{A:Array Value}(hb:w.heap[bl]? = some (.cells A T (0,0)))(hi:Is w B e vs)(hA:A = ⟨vs⟩):At w B bl 0 [e]:=by
 subst hA
 refine At.of_row hb [e] 0 [vs] rfl (fun i e' vs' he hvs => ?_) fun i _ => by simp
 cases i with
 | zero => simp at he hvs; subst he hvs; exact hi
 | succ i => simp at he
theorem At.two {w:World}{B bl:Nat}{T:TypeId}{e e2:Ex}{vs vs2:List Value}{A:Array Value}(hb:w.heap[bl]? = some (.cells A T (0,0)))(hi:Is w B e vs)(hi2:Is w B e2 vs2)(hA:A = ⟨vs ++ vs2⟩):At w B bl 0 [e,e2]:=by
 subst hA
 refine At.of_row hb [e,e2] 0 [vs,vs2] rfl (fun i e' vs' he hvs => ?_) fun i _ => by simp
 match i with
 | 0 => simp at he hvs; subst he hvs; exact hi
 | 1 => simp at he hvs; subst he hvs; exact hi2
 | i + 2 => simp at he
theorem Is.node1 {w:World}{B bl:Nat}{T:TypeId}{e:Ex}{vs:List Value}{A:Array Value}(hb:w.heap[bl]? = some (.cells A T (0,0)))(hne:B ≤ bl)(hi:Is w B e vs)(hA:A = ⟨vs⟩)(kind num:Int)(name ofn:List UInt8)(dims at_:Int)(c:Nat) :
 Is w B (Ex.of kind num name ofn dims [e] at_) (exCells kind num name ofn dims (.slice (some ⟨bl,0,none⟩) 1 c) at_ 0 0 0 0):=by
 rw [Ex.of,Is]
 exact ⟨_,c,rfl,.inr ⟨bl,0,rfl,zA hb,hne,At.one hb hi hA⟩⟩
theorem Is.node2 {w:World}{B bl:Nat}{T:TypeId}{e e2:Ex}{vs vs2:List Value}{A:Array Value}(hb:w.heap[bl]? = some (.cells A T (0,0)))(hne:B ≤ bl)(hi:Is w B e vs)(hi2:Is w B e2 vs2)(hA:A = ⟨vs ++ vs2⟩)(kind num:Int)(name ofn:List UInt8)(dims at_:Int)(c:Nat) :
 Is w B (Ex.of kind num name ofn dims [e,e2] at_) (exCells kind num name ofn dims (.slice (some ⟨bl,0,none⟩) 2 c) at_ 0 0 0 0):=by
 rw [Ex.of,Is]
 exact ⟨_,c,rfl,.inr ⟨bl,0,rfl,zA hb,hne,At.two hb hi hi2 hA⟩⟩
theorem hen {w1:World}{B:Nat}{T:TypeId}{c0 c1 c2 c3 c4 c5 c6 c7 c8 c9 c10:Value}(h:w1.heap[B]? = some (.cells #[c0,c1,c2,c3,c4,c5,c6,c7,c8,c9,c10] T (0,0))) :
 (w1.cell? ⟨B,0,none⟩ = some c0 ∧ w1.cell? ⟨B,1,none⟩ = some c1 ∧ w1.cell? ⟨B,2,none⟩ = some c2 ∧ w1.cell? ⟨B,3,none⟩ = some c3 ∧ w1.cell? ⟨B,4,none⟩ = some c4 ∧ w1.cell? ⟨B,5,none⟩ = some c5 ∧ w1.cell? ⟨B,6,none⟩ = some c6 ∧ w1.cell? ⟨B,7,none⟩ = some c7 ∧ w1.cell? ⟨B,8,none⟩ = some c8 ∧ w1.cell? ⟨B,9,none⟩ = some c9 ∧ w1.cell? ⟨B,10,none⟩ = some c10) ∧
 (w1.frozen? ⟨B,0,none⟩ = false ∧ w1.frozen? ⟨B,1,none⟩ = false ∧ w1.frozen? ⟨B,2,none⟩ = false ∧ w1.frozen? ⟨B,3,none⟩ = false ∧ w1.frozen? ⟨B,4,none⟩ = false ∧ w1.frozen? ⟨B,5,none⟩ = false ∧ w1.frozen? ⟨B,6,none⟩ = false ∧ w1.frozen? ⟨B,7,none⟩ = false ∧ w1.frozen? ⟨B,8,none⟩ = false ∧ w1.frozen? ⟨B,9,none⟩ = false ∧ w1.frozen? ⟨B,10,none⟩ = false):=
 ⟨⟨by rw [cell_of_row _ _ _ _ _ _ h]; rfl,by rw [cell_of_row _ _ _ _ _ _ h]; rfl,by rw [cell_of_row _ _ _ _ _ _ h]; rfl,by rw [cell_of_row _ _ _ _ _ _ h]; rfl,by rw [cell_of_row _ _ _ _ _ _ h]; rfl,by rw [cell_of_row _ _ _ _ _ _ h]; rfl,by rw [cell_of_row _ _ _ _ _ _ h]; rfl,by rw [cell_of_row _ _ _ _ _ _ h]; rfl,by rw [cell_of_row _ _ _ _ _ _ h]; rfl,by rw [cell_of_row _ _ _ _ _ _ h]; rfl,by rw [cell_of_row _ _ _ _ _ _ h]; rfl⟩,
   frozen_of_row _ _ _ _ _ h,frozen_of_row _ _ _ _ _ h,frozen_of_row _ _ _ _ _ h,frozen_of_row _ _ _ _ _ h,frozen_of_row _ _ _ _ _ h,frozen_of_row _ _ _ _ _ h,frozen_of_row _ _ _ _ _ h,frozen_of_row _ _ _ _ _ h,frozen_of_row _ _ _ _ _ h,frozen_of_row _ _ _ _ _ h,frozen_of_row _ _ _ _ _ h⟩
theorem Is.put11 {w:World}{B:Nat}{e:Ex}{vs:List Value}(h:Is w B e vs){N:Nat}(hN:N < B){c0 c1 c2 c3 c4 c5 c6 c7 c8 c9 c10:Value}:Is (((((((((((w.setCell ⟨N,0,none⟩ c0).setCell ⟨N,1,none⟩ c1).setCell ⟨N,2,none⟩ c2).setCell ⟨N,3,none⟩ c3).setCell ⟨N,4,none⟩ c4).setCell ⟨N,5,none⟩ c5).setCell ⟨N,6,none⟩ c6).setCell ⟨N,7,none⟩ c7).setCell ⟨N,8,none⟩ c8).setCell ⟨N,9,none⟩ c9).setCell ⟨N,10,none⟩ c10) B e vs:=
 (((((((((((h.set (p:=⟨N,0,none⟩) hN c0).set (p:=⟨N,1,none⟩) hN c1).set (p:=⟨N,2,none⟩) hN c2).set (p:=⟨N,3,none⟩) hN c3).set (p:=⟨N,4,none⟩) hN c4).set (p:=⟨N,5,none⟩) hN c5).set (p:=⟨N,6,none⟩) hN c6).set (p:=⟨N,7,none⟩) hN c7).set (p:=⟨N,8,none⟩) hN c8).set (p:=⟨N,9,none⟩) hN c9).set (p:=⟨N,10,none⟩) hN c10)
theorem Nw.put11 {R:Nat}{w wA wB:World}(h:Nw R w wA wB){B:Nat}(hB:w.heap.size ≤ B){c0 c1 c2 c3 c4 c5 c6 c7 c8 c9 c10:Value}:Nw R w wA (((((((((((wB.setCell ⟨B,0,none⟩ c0).setCell ⟨B,1,none⟩ c1).setCell ⟨B,2,none⟩ c2).setCell ⟨B,3,none⟩ c3).setCell ⟨B,4,none⟩ c4).setCell ⟨B,5,none⟩ c5).setCell ⟨B,6,none⟩ c6).setCell ⟨B,7,none⟩ c7).setCell ⟨B,8,none⟩ c8).setCell ⟨B,9,none⟩ c9).setCell ⟨B,10,none⟩ c10):=
 (((((((((((h.set (p:=⟨B,0,none⟩) hB c0).set (p:=⟨B,1,none⟩) hB c1).set (p:=⟨B,2,none⟩) hB c2).set (p:=⟨B,3,none⟩) hB c3).set (p:=⟨B,4,none⟩) hB c4).set (p:=⟨B,5,none⟩) hB c5).set (p:=⟨B,6,none⟩) hB c6).set (p:=⟨B,7,none⟩) hB c7).set (p:=⟨B,8,none⟩) hB c8).set (p:=⟨B,9,none⟩) hB c9).set (p:=⟨B,10,none⟩) hB c10)
theorem Nw.pv {R:Nat}{w wA wB:World}(h:Nw R w wA wB)(c0 c1 c2 c3 c4 c5 c6 c7 c8 c9 c10:Value):Nw R w wA (((((((((((wB.setCell ⟨w.heap.size,0,none⟩ c0).setCell ⟨w.heap.size,1,none⟩ c1).setCell ⟨w.heap.size,2,none⟩ c2).setCell ⟨w.heap.size,3,none⟩ c3).setCell ⟨w.heap.size,4,none⟩ c4).setCell ⟨w.heap.size,5,none⟩ c5).setCell ⟨w.heap.size,6,none⟩ c6).setCell ⟨w.heap.size,7,none⟩ c7).setCell ⟨w.heap.size,8,none⟩ c8).setCell ⟨w.heap.size,9,none⟩ c9).setCell ⟨w.heap.size,10,none⟩ c10):=h.put11 (Nat.le_refl _)
theorem zI (w:World)(p:Addr)(u:Value):(w.setCell p u).heap.size = w.heap.size:=by simp [World.setCell]
theorem zAD {w:World}{N:Nat}{c0 c1 c2 c3 c4 c5 c6 c7 c8 c9 c10:Value}{o:Obj}:((((((((((((w.setCell ⟨N,0,none⟩ c0).setCell ⟨N,1,none⟩ c1).setCell ⟨N,2,none⟩ c2).setCell ⟨N,3,none⟩ c3).setCell ⟨N,4,none⟩ c4).setCell ⟨N,5,none⟩ c5).setCell ⟨N,6,none⟩ c6).setCell ⟨N,7,none⟩ c7).setCell ⟨N,8,none⟩ c8).setCell ⟨N,9,none⟩ c9).setCell ⟨N,10,none⟩ c10).alloc o).heap[w.heap.size]? = some o:=by
 have:=heap_alloc_new (((((((((((w.setCell ⟨N,0,none⟩ c0).setCell ⟨N,1,none⟩ c1).setCell ⟨N,2,none⟩ c2).setCell ⟨N,3,none⟩ c3).setCell ⟨N,4,none⟩ c4).setCell ⟨N,5,none⟩ c5).setCell ⟨N,6,none⟩ c6).setCell ⟨N,7,none⟩ c7).setCell ⟨N,8,none⟩ c8).setCell ⟨N,9,none⟩ c9).setCell ⟨N,10,none⟩ c10) o
 simp only [zI] at this
 exact this
theorem zCo {w:World}{N:Nat}{c0 c1 c2 c3 c4 c5 c6 c7 c8 c9 c10:Value}{o o2:Obj}:(((((((((((((w.setCell ⟨N,0,none⟩ c0).setCell ⟨N,1,none⟩ c1).setCell ⟨N,2,none⟩ c2).setCell ⟨N,3,none⟩ c3).setCell ⟨N,4,none⟩ c4).setCell ⟨N,5,none⟩ c5).setCell ⟨N,6,none⟩ c6).setCell ⟨N,7,none⟩ c7).setCell ⟨N,8,none⟩ c8).setCell ⟨N,9,none⟩ c9).setCell ⟨N,10,none⟩ c10).alloc o).alloc o2).heap[w.heap.size + 1]? = some o2:=by
 have:=heap_alloc_new ((((((((((((w.setCell ⟨N,0,none⟩ c0).setCell ⟨N,1,none⟩ c1).setCell ⟨N,2,none⟩ c2).setCell ⟨N,3,none⟩ c3).setCell ⟨N,4,none⟩ c4).setCell ⟨N,5,none⟩ c5).setCell ⟨N,6,none⟩ c6).setCell ⟨N,7,none⟩ c7).setCell ⟨N,8,none⟩ c8).setCell ⟨N,9,none⟩ c9).setCell ⟨N,10,none⟩ c10).alloc o) o2
 simp only [zB,zI] at this
 exact this
theorem zM {w:World}{N b:Nat}{o:Obj}(h:w.heap[b]? = some o)(hne:b ≠ N){c0 c1 c2 c3 c4 c5 c6 c7 c8 c9 c10:Value}:(((((((((((w.setCell ⟨N,0,none⟩ c0).setCell ⟨N,1,none⟩ c1).setCell ⟨N,2,none⟩ c2).setCell ⟨N,3,none⟩ c3).setCell ⟨N,4,none⟩ c4).setCell ⟨N,5,none⟩ c5).setCell ⟨N,6,none⟩ c6).setCell ⟨N,7,none⟩ c7).setCell ⟨N,8,none⟩ c8).setCell ⟨N,9,none⟩ c9).setCell ⟨N,10,none⟩ c10).heap[b]? = some o:=
 (zAc (p:=⟨N,10,none⟩) (zAc (p:=⟨N,9,none⟩) (zAc (p:=⟨N,8,none⟩) (zAc (p:=⟨N,7,none⟩) (zAc (p:=⟨N,6,none⟩) (zAc (p:=⟨N,5,none⟩) (zAc (p:=⟨N,4,none⟩) (zAc (p:=⟨N,3,none⟩) (zAc (p:=⟨N,2,none⟩) (zAc (p:=⟨N,1,none⟩) (zAc (p:=⟨N,0,none⟩) h hne c0) hne c1) hne c2) hne c3) hne c4) hne c5) hne c6) hne c7) hne c8) hne c9) hne c10)
def opsV:Array Value:=(opList.flatMap fun o => [Value.string (cbs o.1),.int .i64 o.2.1,.int .i64 o.2.2]).toArray
def OpsIn (w:World):Prop:=∃ t fr,w.heap[6]? = some (.cells opsV t fr)
structure Rs (w:World) (R M1 M2 M3:Nat) (S:Value) (ts:List RT) (s:St):Prop where
 cu:Cu w R 192 S [.int .i64 s.o,.map (some M1),.map (some M2),.map (some M3)] ts s.c
 m1:w.heap[M1]? = some (.map (mapKind R) 4)
 m2:w.heap[M2]? = some (.map mapWord 6)
 m3:w.heap[M3]? = some (.map mapSuffix 2)
 n1:M1 ≠ R
 n2:M2 ≠ R
 n3:M3 ≠ R
 ops:OpsIn w
 n0 : 6 ≠ R
theorem Rs.gr {w w':World}{R M1 M2 M3:Nat}{S:Value}{ts:List RT}{s s':St}(h:Rs w R M1 M2 M3 S ts s)(hg:Gr R w w')(hc:Cu w' R 192 S [.int .i64 s'.o,.map (some M1),.map (some M2),.map (some M3)] ts s'.c):Rs w' R M1 M2 M3 S ts s':=
 ⟨hc,hg.box h.m1 h.n1,hg.box h.m2 h.n2,hg.box h.m3 h.n3,h.n1,h.n2,h.n3,by obtain ⟨t,fr,ho⟩:=h.ops; exact ⟨t,fr,hg.box ho h.n0⟩,h.n0⟩
theorem Rs.go {w w':World}{R M1 M2 M3:Nat}{S:Value}{ts:List RT}{s:St}(h:Rs w R M1 M2 M3 S ts s)(hb:Below w.heap.size w w'):Rs w' R M1 M2 M3 S ts s:=h.gr (Gr.of hb) (h.cu.go hb)
theorem Rs.lt {w:World}{R M1 M2 M3:Nat}{S:Value}{ts:List RT}{s:St}(h:Rs w R M1 M2 M3 S ts s):R < w.heap.size:=h.cu.lt
theorem Rs.fin {w wA wB:World}{R M1 M2 M3:Nat}{S:Value}{ts:List RT}{s0 s:St}(h0:Rs w R M1 M2 M3 S ts s0)(hA:Rs wA R M1 M2 M3 S ts s)(n:Nw R w wA wB):Rs wB R M1 M2 M3 S ts s:=
 h0.gr n.gr (h0.cu.fin hA.cu n)
theorem Rs.open_ {w:World}{R M1 M2 M3:Nat}{S:Value}{ts:List RT}{s:St}(h:Rs w R M1 M2 M3 S ts s) :
 w.cell? ⟨R,4,none⟩ = some (.int .i64 s.o) ∧ w.cell? ⟨R,5,none⟩ = some (.map (some M1)) ∧ w.cell? ⟨R,6,none⟩ = some (.map (some M2)) ∧ w.cell? ⟨R,7,none⟩ = some (.map (some M3)) ∧ w.frozen? ⟨R,4,none⟩ = false:=by
 have hr:=h.cu.row
 refine ⟨?_,?_,?_,?_,frozen_of_row _ _ _ _ _ hr⟩ <;> (rw [cell_of_row _ _ _ _ _ _ hr]; simp)
theorem Rs.set_o {w:World}{R M1 M2 M3:Nat}{S:Value}{ts:List RT}{s:St}(h:Rs w R M1 M2 M3 S ts s)(q:Int):Rs (w.setCell ⟨R,4,none⟩ (.int .i64 q)) R M1 M2 M3 S ts ⟨s.c,q⟩:=by
 refine h.gr ((Gr.refl R w).set 4 _) ⟨?_,h.cu.toks.gr ((Gr.refl R w).set 4 _)⟩
 have:=Lib.heap_setCell_same h.cu.row (i:=4) (v:=.int .i64 q)
 simpa using this
theorem Rs.cur {w w':World}{R M1 M2 M3:Nat}{S:Value}{ts:List RT}{s:St}{c':Cs}(h:Rs w R M1 M2 M3 S ts s)(hg:Gr R w w')(hc:Cu w' R 192 S [.int .i64 s.o,.map (some M1),.map (some M2),.map (some M3)] ts c'):Rs w' R M1 M2 M3 S ts ⟨c',s.o⟩:=
 h.gr (s':=⟨c',s.o⟩) hg hc
def ExPost (B:Nat)(w:World)(R M1 M2 M3:Nat)(S:Value)(ts:List RT)(x:Ex × St)(e:Ending)(w':World):Prop:=
 ∃ (kind num:Int) (name ofn:List UInt8) (dims:Int) (p:Option Addr) (n c:Nat) (at_ b r d ref:Int),
   e = .returned (.agg #[.int .i64 kind,.int .i64 num,.string (cbs name),.string (cbs ofn),.int .i64 dims,.slice p n c,.int .i64 at_,.int .i64 b,.int .i64 r,.int .i64 d,.int .i64 ref]) ∧
   Is w' B x.1 (exCells kind num name ofn dims (.slice p n c) at_ b r d ref) ∧ Rs w' R M1 M2 M3 S ts x.2 ∧ Gr R w w'
def RecOk (ts:List RT)(rec:Nat → St → Out):Prop:=∀ (n:Nat)(s:St)(x:Ex × St),1 ≤ n → n ≤ 6 → rec n s = some x → ∀ (w:World)(R M1 M2 M3:Nat)(S:Value),Rs w R M1 M2 M3 S ts s →
 Calls Tryz.prog 161 #[.pointer (some ⟨R,0,none⟩),.int .i64 (n:Int)] w (ExPost w.heap.size w R M1 M2 M3 S ts x)
def UnOk (ts:List RT)(recU:St → Out):Prop:=∀ (s:St)(x:Ex × St),recU s = some x → ∀ (w:World)(R M1 M2 M3:Nat)(S:Value),Rs w R M1 M2 M3 S ts s →
 Calls Tryz.prog 175 #[.pointer (some ⟨R,0,none⟩)] w (ExPost w.heap.size w R M1 M2 M3 S ts x)
def Pe.enterC (ts:List RT)(c:Cs)(o:Int)(text:List UInt8):RT × Cs:=
 sign ts (if sees ts c 4 text && decide (o = 50) then fail ts c 4 else c) text
theorem Cu.open_ {w:World}{R:Nat}{T:TypeId}{S:Value}{X:List Value}{ts:List RT}{s:Cs}{o:Int}(h:Cu w R T S (.int .i64 o :: X) ts s):w.cell? ⟨R,4,none⟩ = some (.int .i64 o) ∧ w.frozen? ⟨R,4,none⟩ = false:=by
 have hr:=h.row
 exact ⟨by rw [cell_of_row _ _ _ _ _ _ hr]; simp,frozen_of_row _ _ _ _ _ hr⟩
theorem Cu.set_o {w:World}{R:Nat}{T:TypeId}{S:Value}{X:List Value}{ts:List RT}{s:Cs}{o:Int}(h:Cu w R T S (.int .i64 o :: X) ts s)(q:Int):Cu (w.setCell ⟨R,4,none⟩ (.int .i64 q)) R T S (.int .i64 q :: X) ts s:=
 ⟨by have:=Lib.heap_setCell_same h.row (i:=4) (v:=.int .i64 q); simpa using this,h.toks.gr ((Gr.refl R w).set 4 _)⟩
theorem zKL (w:World)(R:Nat)(T:TypeId)(S:Value)(o:Int)(X:List Value)(ts:List RT)(s:Cs)(h:Cu w R T S (.int .i64 o :: X) ts s)(text:ByteArray)(hv:sees ts s 4 text.data.toList = true)(hd:(o == 50) = true) :
 Calls Tryz.prog 114 #[.pointer (some ⟨R,0,none⟩),.string text] w fun e w' => e = .returned (tokW (sign ts (fail ts s 4) text.data.toList).1) ∧ Cu w' R T S (.int .i64 (inc o) :: X) ts (sign ts (fail ts s 4) text.data.toList).2 ∧ Gr R w w':=by
 have hb0:Below w.heap.size w (w.alloc (.cells #[.int .i64 0,.string ⟨#[]⟩,.int .i64 0,.int .i64 0] 52)):=(Below.refl w.heap.size w).alloc (Nat.le_refl _) _
 have h1:=h.go hb0
 have hs:=zG _ R _ S _ ts s h1 text
 have hlt:=h.lt
 rw [hv] at hs
 have hp:∀ w1 X,Cu w1 R T S X ts (fail ts s 4) → Calls Tryz.prog 62 #[.pointer (some ⟨R,0,none⟩),.string text] w1 _:=fun w1 X h1 => zJ w1 R _ S X ts (fail ts s 4) h1 text
 generalize hsg:sign ts (fail ts s 4) text.data.toList = sg at hp ⊢
 obtain ⟨t,c2⟩:=sg
 dsimp only at hp ⊢
 unfold tokW at hp
 have HP:=vH hp
 have HH:=vH h
 have H1:=vH h1
 have HS:=vH hs
 clear h h1 hs hp hsg hv hb0
 go_in
 go_wp2_with (first
  | (go_at_call 66; refine (HS.out).mono ?_; rintro e w1 ⟨rfl,hb1⟩; have HG:=vH (Gr.of (R:=R) hb1); have HR:=vH (H1.out.go hb1); clear hb1; obtain ⟨o4,f4⟩:=HR.out.open_)
  | (go_at_call 42; refine (zA2 _ R _ S _ ts s HR.out 4).mono ?_; rintro e wf ⟨rfl,hrf,hgf⟩; have HG2:=vH (HG.out.trans hgf); have HR2:=vH (hrf); clear hrf hgf HG HR o4 f4; have HG:=HG2; have HR:=HR2; clear HG2 HR2; obtain ⟨o4,f4⟩:=HR.out.open_)
  | (go_at_call 62; have HGo:=vH (HG.out.set 4 (.int .i64 (wrap64 (o + 1)))); have HRo:=vH (HR.out.set_o (inc o)); refine (HP.out _ _ HRo.out).mono ?_; rintro e w2 ⟨rfl,hr2,hg2⟩; have HG2:=vH (HGo.out.trans hg2); have HR2:=vH (hr2); clear hr2 hg2 HGo HRo; have hk:=mine HG2.out hlt; obtain ⟨⟨d0,d1,d2,d3⟩,g0,g1,g2,g3⟩:=quad hk; have hl:=zA hk; clear hk))
 have hn:=((((Nw.start ((Gr.alloc (Gr.refl R w) _).trans HG2.out)).set (p:=⟨w.heap.size,0,none⟩) (Nat.le_refl _) (.int .i64 t.kind)).set (p:=⟨w.heap.size,1,none⟩) (Nat.le_refl _) (.string (cbs t.text))).set (p:=⟨w.heap.size,2,none⟩) (Nat.le_refl _) (.int .i64 t.num)).set (p:=⟨w.heap.size,3,none⟩) (Nat.le_refl _) (.int .i64 t.at_)
 exact bodyPost_ret (v:=tokW t) (by simp [tokW,results,Tryz.results114,go_sem,d0,d1,d2,d3]) rfl ⟨rfl,HH.out.fin HR2.out hn,hn.gr⟩
theorem zKK (w:World)(R:Nat)(T:TypeId)(S:Value)(o:Int)(X:List Value)(ts:List RT)(s:Cs)(h:Cu w R T S (.int .i64 o :: X) ts s)(text:ByteArray)(hv:sees ts s 4 text.data.toList = true)(hd:(o == 50) = false) :
 Calls Tryz.prog 114 #[.pointer (some ⟨R,0,none⟩),.string text] w fun e w' => e = .returned (tokW (sign ts (s) text.data.toList).1) ∧ Cu w' R T S (.int .i64 (inc o) :: X) ts (sign ts (s) text.data.toList).2 ∧ Gr R w w':=by
 have hb0:Below w.heap.size w (w.alloc (.cells #[.int .i64 0,.string ⟨#[]⟩,.int .i64 0,.int .i64 0] 52)):=(Below.refl w.heap.size w).alloc (Nat.le_refl _) _
 have h1:=h.go hb0
 have hs:=zG _ R _ S _ ts s h1 text
 have hlt:=h.lt
 rw [hv] at hs
 have hp:∀ w1 X,Cu w1 R T S X ts (s) → Calls Tryz.prog 62 #[.pointer (some ⟨R,0,none⟩),.string text] w1 _:=fun w1 X h1 => zJ w1 R _ S X ts (s) h1 text
 generalize hsg:sign ts (s) text.data.toList = sg at hp ⊢
 obtain ⟨t,c2⟩:=sg
 dsimp only at hp ⊢
 unfold tokW at hp
 have HP:=vH hp
 have HH:=vH h
 have H1:=vH h1
 have HS:=vH hs
 clear h h1 hs hp hsg hv hb0
 go_in
 go_wp2_with (first
  | (go_at_call 66; refine (HS.out).mono ?_; rintro e w1 ⟨rfl,hb1⟩; have HG:=vH (Gr.of (R:=R) hb1); have HR:=vH (H1.out.go hb1); clear hb1; obtain ⟨o4,f4⟩:=HR.out.open_)
  | (go_at_call 62; have HGo:=vH (HG.out.set 4 (.int .i64 (wrap64 (o + 1)))); have HRo:=vH (HR.out.set_o (inc o)); refine (HP.out _ _ HRo.out).mono ?_; rintro e w2 ⟨rfl,hr2,hg2⟩; have HG2:=vH (HGo.out.trans hg2); have HR2:=vH (hr2); clear hr2 hg2 HGo HRo; have hk:=mine HG2.out hlt; obtain ⟨⟨d0,d1,d2,d3⟩,g0,g1,g2,g3⟩:=quad hk; have hl:=zA hk; clear hk))
 have hn:=((((Nw.start ((Gr.alloc (Gr.refl R w) _).trans HG2.out)).set (p:=⟨w.heap.size,0,none⟩) (Nat.le_refl _) (.int .i64 t.kind)).set (p:=⟨w.heap.size,1,none⟩) (Nat.le_refl _) (.string (cbs t.text))).set (p:=⟨w.heap.size,2,none⟩) (Nat.le_refl _) (.int .i64 t.num)).set (p:=⟨w.heap.size,3,none⟩) (Nat.le_refl _) (.int .i64 t.at_)
 exact bodyPost_ret (v:=tokW t) (by simp [tokW,results,Tryz.results114,go_sem,d0,d1,d2,d3]) rfl ⟨rfl,HH.out.fin HR2.out hn,hn.gr⟩
theorem zKJ (w:World)(R:Nat)(T:TypeId)(S:Value)(o:Int)(X:List Value)(ts:List RT)(s:Cs)(h:Cu w R T S (.int .i64 o :: X) ts s)(text:ByteArray)(hv:sees ts s 4 text.data.toList = false) :
 Calls Tryz.prog 114 #[.pointer (some ⟨R,0,none⟩),.string text] w fun e w' => e = .returned (tokW (sign ts (s) text.data.toList).1) ∧ Cu w' R T S (.int .i64 (inc o) :: X) ts (sign ts (s) text.data.toList).2 ∧ Gr R w w':=by
 have hb0:Below w.heap.size w (w.alloc (.cells #[.int .i64 0,.string ⟨#[]⟩,.int .i64 0,.int .i64 0] 52)):=(Below.refl w.heap.size w).alloc (Nat.le_refl _) _
 have h1:=h.go hb0
 have hs:=zG _ R _ S _ ts s h1 text
 have hlt:=h.lt
 rw [hv] at hs
 have hp:∀ w1 X,Cu w1 R T S X ts (s) → Calls Tryz.prog 62 #[.pointer (some ⟨R,0,none⟩),.string text] w1 _:=fun w1 X h1 => zJ w1 R _ S X ts (s) h1 text
 generalize hsg:sign ts (s) text.data.toList = sg at hp ⊢
 obtain ⟨t,c2⟩:=sg
 dsimp only at hp ⊢
 unfold tokW at hp
 have HP:=vH hp
 have HH:=vH h
 have H1:=vH h1
 have HS:=vH hs
 clear h h1 hs hp hsg hv hb0
 go_in
 go_wp2_with (first
  | (go_at_call 66; refine (HS.out).mono ?_; rintro e w1 ⟨rfl,hb1⟩; have HG:=vH (Gr.of (R:=R) hb1); have HR:=vH (H1.out.go hb1); clear hb1; obtain ⟨o4,f4⟩:=HR.out.open_)
  | (go_at_call 62; have HGo:=vH (HG.out.set 4 (.int .i64 (wrap64 (o + 1)))); have HRo:=vH (HR.out.set_o (inc o)); refine (HP.out _ _ HRo.out).mono ?_; rintro e w2 ⟨rfl,hr2,hg2⟩; have HG2:=vH (HGo.out.trans hg2); have HR2:=vH (hr2); clear hr2 hg2 HGo HRo; have hk:=mine HG2.out hlt; obtain ⟨⟨d0,d1,d2,d3⟩,g0,g1,g2,g3⟩:=quad hk; have hl:=zA hk; clear hk))
 have hn:=((((Nw.start ((Gr.alloc (Gr.refl R w) _).trans HG2.out)).set (p:=⟨w.heap.size,0,none⟩) (Nat.le_refl _) (.int .i64 t.kind)).set (p:=⟨w.heap.size,1,none⟩) (Nat.le_refl _) (.string (cbs t.text))).set (p:=⟨w.heap.size,2,none⟩) (Nat.le_refl _) (.int .i64 t.num)).set (p:=⟨w.heap.size,3,none⟩) (Nat.le_refl _) (.int .i64 t.at_)
 exact bodyPost_ret (v:=tokW t) (by simp [tokW,results,Tryz.results114,go_sem,d0,d1,d2,d3]) rfl ⟨rfl,HH.out.fin HR2.out hn,hn.gr⟩
theorem zDG (w:World)(R:Nat)(T:TypeId)(S:Value)(o:Int)(X:List Value)(ts:List RT)(s:Cs)(h:Cu w R T S (.int .i64 o :: X) ts s)(text:ByteArray) :
 Calls Tryz.prog 114 #[.pointer (some ⟨R,0,none⟩),.string text] w fun e w' => e = .returned (tokW (enterC ts s o text.data.toList).1) ∧ Cu w' R T S (.int .i64 (inc o) :: X) ts (enterC ts s o text.data.toList).2 ∧ Gr R w w':=by
 cases hv:sees ts s 4 text.data.toList with
 | true =>
   cases hd:(o == 50) with
   | true =>
     have:enterC ts s o text.data.toList = sign ts (fail ts s 4) text.data.toList:=by
        have hd2:o = 50:=by simpa using hd
        simp [enterC,hv,hd2]
     rw [this]
     exact zKL w R T S o X ts s h text hv hd
   | false =>
     have:enterC ts s o text.data.toList = sign ts s text.data.toList:=by
        have hd2:¬ o = 50:=by simpa using hd
        simp [enterC,hv,hd2]
     rw [this]
     exact zKK w R T S o X ts s h text hv hd
 | false =>
   have:enterC ts s o text.data.toList = sign ts s text.data.toList:=by simp [enterC,hv]
   rw [this]
   exact zKJ w R T S o X ts s h text hv
theorem zCk (w:World)(R:Nat)(T:TypeId)(S:Value)(o:Int)(X:List Value)(ts:List RT)(s:Cs)(h:Cu w R T S (.int .i64 o :: X) ts s) :
 Calls Tryz.prog 116 #[.pointer (some ⟨R,0,none⟩)] w fun e w' => e = .returned (.tuple #[]) ∧ Cu w' R T S (.int .i64 (dec o) :: X) ts s ∧ Gr R w w':=by
 have HH:=vH h
 have hlt:=h.lt
 obtain ⟨o4,f4⟩:=h.open_
 clear h
 go_in
 go_wp2
 first
  | exact bodyPost_end (results_none rfl _ _ _) rfl ⟨rfl,HH.out.set_o (dec o),(Gr.refl R w).set 4 _⟩
  | exact bodyPost_ret (results_none rfl _ _ _) rfl ⟨rfl,HH.out.set_o (dec o),(Gr.refl R w).set 4 _⟩
theorem zIP (w:World)(R:Nat)(T:TypeId)(S:Value)(o:Int)(X:List Value)(ts:List RT)(s:Cs)(h:Cu w R T S (.int .i64 o :: X) ts s) :
 Calls Tryz.prog 145 #[.pointer (some ⟨R,0,none⟩)] w fun e w' => e = .returned (.int .i64 o) ∧ w = w':=by
 obtain ⟨o4,f4⟩:=h.open_
 clear h
 go_in
 go_wp2
 go_ret
 exact ⟨rfl,rfl⟩
theorem dec_eq (x:Int):wrap64 (x - 1) = dec x:=rfl
theorem zKI (ts:List RT)(s:St)(text:List UInt8):enter ts s text = ((enterC ts s.c s.o text).1,⟨(enterC ts s.c s.o text).2,inc s.o⟩):=rfl
theorem zB4 (w:World)(R M1 M2 M3:Nat)(S:Value)(ts:List RT)(s:St)(h:Rs w R M1 M2 M3 S ts s)(text:ByteArray) :
 Calls Tryz.prog 114 #[.pointer (some ⟨R,0,none⟩),.string text] w fun e w' => e = .returned (tokW (enter ts s text.data.toList).1) ∧ Rs w' R M1 M2 M3 S ts (enter ts s text.data.toList).2 ∧ Gr R w w':=by
 rw [zKI]
 exact (zDG w R _ S s.o _ ts s.c h.cu text).mono fun e w' ⟨he,hc,hg⟩ => ⟨he,h.gr (s':=⟨_,inc s.o⟩) hg hc,hg⟩
theorem zDy (w:World)(R M1 M2 M3:Nat)(S:Value)(ts:List RT)(s:St)(h:Rs w R M1 M2 M3 S ts s) :
 Calls Tryz.prog 116 #[.pointer (some ⟨R,0,none⟩)] w fun e w' => e = .returned (.tuple #[]) ∧ Rs w' R M1 M2 M3 S ts ⟨s.c,dec s.o⟩ ∧ Gr R w w':=
 (zCk w R _ S s.o _ ts s.c h.cu).mono fun _e _w' ⟨he,hc,hg⟩ => ⟨he,h.gr (s':=⟨_,dec s.o⟩) hg hc,hg⟩
theorem zB0 (w:World)(R M1 M2 M3:Nat)(S:Value)(ts:List RT)(s:St)(h:Rs w R M1 M2 M3 S ts s)(text:ByteArray) :
 Calls Tryz.prog 180 #[.pointer (some ⟨R,0,none⟩),.string text] w fun e w' => e = .returned (.tuple #[]) ∧ Rs w' R M1 M2 M3 S ts (leave ts s text.data.toList) ∧ Gr R w w':=by
 have hp:=zJ w R _ S _ ts s.c h.cu text
 unfold leave
 generalize hsg:sign ts s.c text.data.toList = sg at hp ⊢
 obtain ⟨t,c2⟩:=sg
 dsimp only at hp ⊢
 unfold tokW at hp
 have HP:=vH hp
 have HH:=vH h
 clear h hp hsg
 go_in
 go_wp2_with fail
 refine (HP.out).mono ?_
 rintro e w2 ⟨rfl,hr2,hg2⟩
 have HG2:=vH hg2
 have HR2:=vH (HH.out.cur hg2 hr2)
 clear hr2 hg2
 go_wp2_with fail
 refine (zDy _ R M1 M2 M3 S ts _ HR2.out).mono ?_
 rintro e w3 ⟨rfl,hr3,hg3⟩
 have HG3:=vH (HG2.out.trans hg3)
 have HR3:=vH hr3
 clear hr3 hg3
 go_wp2_with fail
 first
  | exact bodyPost_end (results_none rfl _ _ _) rfl ⟨rfl,HR3.out,HG3.out⟩
  | exact bodyPost_ret (results_none rfl _ _ _) rfl ⟨rfl,HR3.out,HG3.out⟩
theorem zDr (w:World)(R M1 M2 M3:Nat)(S:Value)(ts:List RT)(s:St)(h:Rs w R M1 M2 M3 S ts s) :
 Calls Tryz.prog 178 #[.pointer (some ⟨R,0,none⟩)] w (ExPost w.heap.size w R M1 M2 M3 S ts (refuse ts s)):=by
 have hb0:Below w.heap.size w (w.alloc (.cells vE 111)):=(Below.refl w.heap.size w).alloc (Nat.le_refl _) _
 have h1:=h.go hb0
 have hlt:=h.lt
 have hp:=zA2 _ R _ S _ ts s.c h1.cu 2
 have HP:=vH hp
 have HH:=vH h
 have H1:=vH h1
 clear h h1 hp hb0
 go_in
 go_wp2_with (first
  | (go_at_call 42; refine (HP.out).mono ?_; rintro e w1 ⟨rfl,hr1,hg1⟩; have HG1:=vH hg1; have HR1:=vH (H1.out.cur hg1 hr1); clear hr1; have hk:=mine hg1 hlt; clear hg1; have hc:=hen hk; obtain ⟨⟨d0,d1,d2,d3,d4,d5,d6,d7,d8,d9,dX⟩,g0,g1,g2,g3,g4,g5,g6,g7,g8,g9,gX⟩:=hc; have hl:=zA hk; clear hk))
 have hn:=(Nw.start (wA:=w1) ((Gr.alloc (Gr.refl R w) _).trans HG1.out)).pv (.int .i64 0) (.int .i64 0) (.string ⟨#[]⟩) (.string ⟨#[]⟩) (.int .i64 0) (.slice none 0 0) (.int .i64 0) (.int .i64 0) (.int .i64 0) (.int .i64 0) (.int .i64 0)
 exact bodyPost_ret (v:=.agg #[.int .i64 0,.int .i64 0,.string ⟨#[]⟩,.string ⟨#[]⟩,.int .i64 0,.slice none 0 0,.int .i64 0,.int .i64 0,.int .i64 0,.int .i64 0,.int .i64 0]) (by simp [results,Tryz.results178,go_sem,d0,d1,d2,d3,d4,d5,d6,d7,d8,d9,dX]) rfl ⟨_,_,_,_,_,_,_,_,_,_,_,_,_,rfl,Is.zero,HH.out.fin HR1.out hn,hn.gr⟩
end Go.Proofs.YtipmjjfknhblnaaGreatDoor
