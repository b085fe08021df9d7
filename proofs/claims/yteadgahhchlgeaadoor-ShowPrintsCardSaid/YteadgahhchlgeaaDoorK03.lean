/-
  An expression in memory.
-/
import Derived.Test.YteadgahhchlgeaaDoorK01
import Derived.Test.YteadgahhchlgeaaDoorK02
import Derived.OwnWalk
import Derived.Maps.AppendAt
import Derived.Lib.Builder
import Derived.Lib.AppendStr
import Derived.Lib.UnsafeStr
import Derived.Lib.OthersKept
import Derived.RegionTactic
import Derived.Deep.RegionHeld3
import Derived.Lib.LaidTab
import Derived.LaidMore
import Derived.OpenShut
import Derived.Deep.LoopGhost
import Derived.Deep.MidRow
set_option maxHeartbeats 8000000
namespace Go.Proofs.YteadgahhchlgeaaDoor
open Go.RowKit
open Px (RT tokAt)
open Pe
def exCells (kind num:Int)(name ofn:List UInt8)(dims:Int)(kv:Value)(at_ b r d ref:Int):List Value:=
 [.int .i64 kind,.int .i64 num,.string (cbs name),.string (cbs ofn),.int .i64 dims,kv,.int .i64 at_,.int .i64 b,.int .i64 r,.int .i64 d,.int .i64 ref]
mutual
def Is (w:World)(B:Nat):Ex → List Value → Prop
 | .mk kind num name ofn dims kids at_ b r d ref,vs => ∃ p c,vs = exCells kind num name ofn dims (.slice p kids.length c) at_ b r d ref ∧
  (kids = [] ∨ ∃ bl off,p = some ⟨bl,off,none⟩ ∧ bl < w.heap.size ∧ B ≤ bl ∧ At w B bl off kids)
def At (w:World)(B bl:Nat):Nat → List Ex → Prop
 | _,[] => True
 | off,e :: es => (∃ vs,Is w B e vs ∧ ∀ (i:Nat) (v:Value),vs[i]? = some v → w.cell? ⟨bl,off + i,none⟩ = some v) ∧ At w B bl (off + 11) es
end
theorem zB6 {w w':World}{b:Nat}(h:w'.heap[b]? = w.heap[b]?)(o:Nat):w'.cell? ⟨b,o,none⟩ = w.cell? ⟨b,o,none⟩:=by simp only [World.cell?,h]
mutual
theorem Is.keep {w w':World}{B:Nat}(hs:w.heap.size ≤ w'.heap.size)(hk:∀ bl,B ≤ bl → bl < w.heap.size → w'.heap[bl]? = w.heap[bl]?):∀ (e:Ex){vs:List Value},Is w B e vs → Is w' B e vs
 | .mk kind num name ofn dims kids at_ b r d ref,vs,h => by
   rw [Is] at h ⊢
   obtain ⟨p,c,hv,hkk⟩:=h
   refine ⟨p,c,hv,?_⟩
   rcases hkk with h0 | ⟨bl,off,hp,hb,hne,ha⟩
   ·exact .inl h0
   ·exact .inr ⟨bl,off,hp,Nat.lt_of_lt_of_le hb hs,hne,At.keep hs hk kids off hb hne ha⟩
theorem At.keep {w w':World}{B:Nat}(hs:w.heap.size ≤ w'.heap.size)(hk:∀ bl,B ≤ bl → bl < w.heap.size → w'.heap[bl]? = w.heap[bl]?):∀ (es:List Ex){bl:Nat}(off:Nat),bl < w.heap.size → B ≤ bl → At w B bl off es → At w' B bl off es
 | [],_,_,_,_,_ => by rw [At]; trivial
 | e :: es,bl,off,hb,hne,h => by
   rw [At] at h ⊢
   obtain ⟨⟨vs,hi,hc⟩,hr⟩:=h
   refine ⟨⟨vs,Is.keep hs hk e hi,fun i v hv => ?_⟩,At.keep hs hk es (off + 11) hb hne hr⟩
   rw [zB6 (hk bl hne hb)]
   exact hc i v hv
end
mutual
theorem Is.lower {w:World}{B B2:Nat}(hB:B2 ≤ B):∀ (e:Ex){vs:List Value},Is w B e vs → Is w B2 e vs
 | .mk kind num name ofn dims kids at_ b r d ref,vs,h => by
   rw [Is] at h ⊢
   obtain ⟨p,c,hv,hk⟩:=h
   refine ⟨p,c,hv,?_⟩
   rcases hk with h0 | ⟨bl,off,hp,hb,hne,ha⟩
   ·exact .inl h0
   ·exact .inr ⟨bl,off,hp,hb,Nat.le_trans hB hne,At.lower hB kids off ha⟩
theorem At.lower {w:World}{B B2:Nat}(hB:B2 ≤ B):∀ (es:List Ex){bl:Nat}(off:Nat),At w B bl off es → At w B2 bl off es
 | [],_,_,_ => by rw [At]; trivial
 | e :: es,bl,off,h => by
   rw [At] at h ⊢
   obtain ⟨⟨vs,hi,hc⟩,hr⟩:=h
   exact ⟨⟨vs,Is.lower hB e hi,hc⟩,At.lower hB es (off + 11) hr⟩
end
theorem Is.gr {w w':World}{B R:Nat}{e:Ex}{vs:List Value}(h:Is w B e vs)(hR:R < B)(hg:Gr R w w'):Is w' B e vs:=Is.keep hg.size (fun bl h1 h2 => hg.block bl h2 (by omega)) e h
theorem Is.below {w w':World}{B:Nat}{e:Ex}{vs:List Value}(h:Is w B e vs)(hb:Below w.heap.size w w'):Is w' B e vs:=Is.keep hb.size (fun bl _ h2 => hb.block bl h2) e h
theorem Is.set {w:World}{B:Nat}{e:Ex}{vs:List Value}(h:Is w B e vs){p:Addr}(hp:p.block < B)(u:Value):Is (w.setCell p u) B e vs:=
 Is.keep ((Below.refl 0 w).setCell (p:=p) (Nat.zero_le _) u).size (fun bl h1 _ => Below.heap_setCell w p u bl (by omega)) e h
theorem Is.alloc {w:World}{B:Nat}{e:Ex}{vs:List Value}(h:Is w B e vs)(o:Obj):Is (w.alloc o) B e vs:=h.below ((Below.refl _ _).alloc (Nat.le_refl _) _)
theorem Is.drew {w:World}{B:Nat}{e:Ex}{vs:List Value}(h:Is w B e vs)(n:Nat):Is (w.drewN n) B e vs:=h.below (zE (Below.refl _ _) n)
theorem Is.len {w:World}{B:Nat}{e:Ex}{vs:List Value}(h:Is w B e vs):vs.length = 11:=by
 cases e
 rw [Is] at h
 obtain ⟨p,c,rfl,-⟩:=h
 rfl
theorem Is.out {w:World}{B:Nat}{e:Ex}{vs:List Value}(h:Is w B e vs):∃ kind num name ofn dims p n c at_ b r d ref,vs = exCells kind num name ofn dims (.slice p n c) at_ b r d ref:=by
 cases e
 rw [Is] at h
 obtain ⟨p,c,rfl,-⟩:=h
 exact ⟨_,_,_,_,_,_,_,_,_,_,_,_,_,rfl⟩
theorem Is.leaf {w:World}{B:Nat}(kind num:Int)(name ofn:List UInt8)(dims at_:Int):Is w B (Ex.of kind num name ofn dims [] at_) (exCells kind num name ofn dims (.slice none 0 0) at_ 0 0 0 0):=by
 rw [Ex.of,Is]
 exact ⟨none,0,rfl,.inl rfl⟩
theorem Is.zero {w:World}{B:Nat}:Is w B Ex.zero (exCells 0 0 [] [] 0 (.slice none 0 0) 0 0 0 0 0):=Is.leaf 0 0 [] [] 0 0
theorem At.of_row {w:World}{B bl:Nat}{T:TypeId}{A:Array Value}(hb:w.heap[bl]? = some (.cells A T (0,0))):∀ (es:List Ex)(off:Nat)(vss:List (List Value)),vss.length = es.length → (∀ (i:Nat) e vs,es[i]? = some e → vss[i]? = some vs → Is w B e vs) →
 (∀ (i:Nat),i < vss.flatten.length → A[off + i]? = vss.flatten[i]?) → At w B bl off es
 | [],_,_,_,_,_ => by rw [At]; trivial
 | e :: es,off,[],hl,_,_ => by simp at hl
 | e :: es,off,vs :: vss,hl,hi,hc => by
   rw [At]
   have h0:=hi 0 e vs rfl rfl
   have hlen:=h0.len
   refine ⟨⟨vs,h0,fun i v hv => ?_⟩,At.of_row hb es (off + 11) vss (by simpa using hl) (fun i e vs he hvs => hi (i + 1) e vs he hvs) fun i hlt => ?_⟩
   ·have hlt:i < vs.length:=(List.getElem?_eq_some_iff.1 hv).1
    rw [cell_of_row _ _ _ _ _ _ hb,hc i (by simp; omega),List.flatten_cons,List.getElem?_append_left hlt,hv]
   ·have:=hc (11 + i) (by simp at hlt ⊢; omega)
    rw [List.flatten_cons,List.getElem?_append_right (by omega),hlen,show 11 + i - 11 = i by omega] at this
    rw [← this]
    congr 1
    omega
theorem At.one {w:World}{B bl:Nat}{T:TypeId}{e:Ex}{vs:List Value}{A:Array Value}(hb:w.heap[bl]? = some (.cells A T (0,0)))(hi:Is w B e vs)(hA:A = ⟨vs⟩):At w B bl 0 [e]:=by
 subst hA
 refine At.of_row hb [e] 0 [vs] rfl (fun i e' vs' he hvs => ?_) fun i _ => by simp
 cases i with
 | zero => simp at he hvs; subst he hvs; exact hi
 | succ i => simp at he
theorem At.two {w:World}{B bl:Nat}{T:TypeId}{e e2:Ex}{vs vs2:List Value}{A:Array Value}(hb:w.heap[bl]? = some (.cells A T (0,0)))(hi:Is w B e vs)(hi2:Is w B e2 vs2)(hA:A = ⟨vs ++ vs2⟩):At w B bl 0 [e,e2]:=by
 subst hA
 refine At.of_row hb [e,e2] 0 [vs,vs2] rfl (fun i e' vs' he hvs => ?_) fun i _ => by simp
 match i with
 | 0 => simp at he hvs; subst he hvs; exact hi
 | 1 => simp at he hvs; subst he hvs; exact hi2
 | i + 2 => simp at he
theorem Is.node1 {w:World}{B bl:Nat}{T:TypeId}{e:Ex}{vs:List Value}{A:Array Value}(hb:w.heap[bl]? = some (.cells A T (0,0)))(hne:B ≤ bl)(hi:Is w B e vs)(hA:A = ⟨vs⟩)(kind num:Int)(name ofn:List UInt8)(dims at_:Int)(c:Nat) :
 Is w B (Ex.of kind num name ofn dims [e] at_) (exCells kind num name ofn dims (.slice (some ⟨bl,0,none⟩) 1 c) at_ 0 0 0 0):=by
 rw [Ex.of,Is]
 exact ⟨_,c,rfl,.inr ⟨bl,0,rfl,zA hb,hne,At.one hb hi hA⟩⟩
theorem Is.node2 {w:World}{B bl:Nat}{T:TypeId}{e e2:Ex}{vs vs2:List Value}{A:Array Value}(hb:w.heap[bl]? = some (.cells A T (0,0)))(hne:B ≤ bl)(hi:Is w B e vs)(hi2:Is w B e2 vs2)(hA:A = ⟨vs ++ vs2⟩)(kind num:Int)(name ofn:List UInt8)(dims at_:Int)(c:Nat) :
 Is w B (Ex.of kind num name ofn dims [e,e2] at_) (exCells kind num name ofn dims (.slice (some ⟨bl,0,none⟩) 2 c) at_ 0 0 0 0):=by
 rw [Ex.of,Is]
 exact ⟨_,c,rfl,.inr ⟨bl,0,rfl,zA hb,hne,At.two hb hi hi2 hA⟩⟩
theorem hen {w1:World}{B:Nat}{T:TypeId}{c0 c1 c2 c3 c4 c5 c6 c7 c8 c9 c10:Value}(h:w1.heap[B]? = some (.cells #[c0,c1,c2,c3,c4,c5,c6,c7,c8,c9,c10] T (0,0))) :
 (w1.cell? ⟨B,0,none⟩ = some c0 ∧ w1.cell? ⟨B,1,none⟩ = some c1 ∧ w1.cell? ⟨B,2,none⟩ = some c2 ∧ w1.cell? ⟨B,3,none⟩ = some c3 ∧ w1.cell? ⟨B,4,none⟩ = some c4 ∧ w1.cell? ⟨B,5,none⟩ = some c5 ∧ w1.cell? ⟨B,6,none⟩ = some c6 ∧ w1.cell? ⟨B,7,none⟩ = some c7 ∧ w1.cell? ⟨B,8,none⟩ = some c8 ∧ w1.cell? ⟨B,9,none⟩ = some c9 ∧ w1.cell? ⟨B,10,none⟩ = some c10) ∧
 (w1.frozen? ⟨B,0,none⟩ = false ∧ w1.frozen? ⟨B,1,none⟩ = false ∧ w1.frozen? ⟨B,2,none⟩ = false ∧ w1.frozen? ⟨B,3,none⟩ = false ∧ w1.frozen? ⟨B,4,none⟩ = false ∧ w1.frozen? ⟨B,5,none⟩ = false ∧ w1.frozen? ⟨B,6,none⟩ = false ∧ w1.frozen? ⟨B,7,none⟩ = false ∧ w1.frozen? ⟨B,8,none⟩ = false ∧ w1.frozen? ⟨B,9,none⟩ = false ∧ w1.frozen? ⟨B,10,none⟩ = false):=
 ⟨⟨by rw [cell_of_row _ _ _ _ _ _ h]; rfl,by rw [cell_of_row _ _ _ _ _ _ h]; rfl,by rw [cell_of_row _ _ _ _ _ _ h]; rfl,by rw [cell_of_row _ _ _ _ _ _ h]; rfl,by rw [cell_of_row _ _ _ _ _ _ h]; rfl,by rw [cell_of_row _ _ _ _ _ _ h]; rfl,by rw [cell_of_row _ _ _ _ _ _ h]; rfl,by rw [cell_of_row _ _ _ _ _ _ h]; rfl,by rw [cell_of_row _ _ _ _ _ _ h]; rfl,by rw [cell_of_row _ _ _ _ _ _ h]; rfl,by rw [cell_of_row _ _ _ _ _ _ h]; rfl⟩,
   frozen_of_row _ _ _ _ _ h,frozen_of_row _ _ _ _ _ h,frozen_of_row _ _ _ _ _ h,frozen_of_row _ _ _ _ _ h,frozen_of_row _ _ _ _ _ h,frozen_of_row _ _ _ _ _ h,frozen_of_row _ _ _ _ _ h,frozen_of_row _ _ _ _ _ h,frozen_of_row _ _ _ _ _ h,frozen_of_row _ _ _ _ _ h,frozen_of_row _ _ _ _ _ h⟩
theorem Is.put11 {w:World}{B:Nat}{e:Ex}{vs:List Value}(h:Is w B e vs){N:Nat}(hN:N < B){c0 c1 c2 c3 c4 c5 c6 c7 c8 c9 c10:Value}:Is (((((((((((w.setCell ⟨N,0,none⟩ c0).setCell ⟨N,1,none⟩ c1).setCell ⟨N,2,none⟩ c2).setCell ⟨N,3,none⟩ c3).setCell ⟨N,4,none⟩ c4).setCell ⟨N,5,none⟩ c5).setCell ⟨N,6,none⟩ c6).setCell ⟨N,7,none⟩ c7).setCell ⟨N,8,none⟩ c8).setCell ⟨N,9,none⟩ c9).setCell ⟨N,10,none⟩ c10) B e vs:=
 (((((((((((h.set (p:=⟨N,0,none⟩) hN c0).set (p:=⟨N,1,none⟩) hN c1).set (p:=⟨N,2,none⟩) hN c2).set (p:=⟨N,3,none⟩) hN c3).set (p:=⟨N,4,none⟩) hN c4).set (p:=⟨N,5,none⟩) hN c5).set (p:=⟨N,6,none⟩) hN c6).set (p:=⟨N,7,none⟩) hN c7).set (p:=⟨N,8,none⟩) hN c8).set (p:=⟨N,9,none⟩) hN c9).set (p:=⟨N,10,none⟩) hN c10)
theorem Nw.put11 {R:Nat}{w wA wB:World}(h:Nw R w wA wB){B:Nat}(hB:w.heap.size ≤ B){c0 c1 c2 c3 c4 c5 c6 c7 c8 c9 c10:Value}:Nw R w wA (((((((((((wB.setCell ⟨B,0,none⟩ c0).setCell ⟨B,1,none⟩ c1).setCell ⟨B,2,none⟩ c2).setCell ⟨B,3,none⟩ c3).setCell ⟨B,4,none⟩ c4).setCell ⟨B,5,none⟩ c5).setCell ⟨B,6,none⟩ c6).setCell ⟨B,7,none⟩ c7).setCell ⟨B,8,none⟩ c8).setCell ⟨B,9,none⟩ c9).setCell ⟨B,10,none⟩ c10):=
 (((((((((((h.set (p:=⟨B,0,none⟩) hB c0).set (p:=⟨B,1,none⟩) hB c1).set (p:=⟨B,2,none⟩) hB c2).set (p:=⟨B,3,none⟩) hB c3).set (p:=⟨B,4,none⟩) hB c4).set (p:=⟨B,5,none⟩) hB c5).set (p:=⟨B,6,none⟩) hB c6).set (p:=⟨B,7,none⟩) hB c7).set (p:=⟨B,8,none⟩) hB c8).set (p:=⟨B,9,none⟩) hB c9).set (p:=⟨B,10,none⟩) hB c10)
theorem Nw.pv {R:Nat}{w wA wB:World}(h:Nw R w wA wB)(c0 c1 c2 c3 c4 c5 c6 c7 c8 c9 c10:Value):Nw R w wA (((((((((((wB.setCell ⟨w.heap.size,0,none⟩ c0).setCell ⟨w.heap.size,1,none⟩ c1).setCell ⟨w.heap.size,2,none⟩ c2).setCell ⟨w.heap.size,3,none⟩ c3).setCell ⟨w.heap.size,4,none⟩ c4).setCell ⟨w.heap.size,5,none⟩ c5).setCell ⟨w.heap.size,6,none⟩ c6).setCell ⟨w.heap.size,7,none⟩ c7).setCell ⟨w.heap.size,8,none⟩ c8).setCell ⟨w.heap.size,9,none⟩ c9).setCell ⟨w.heap.size,10,none⟩ c10):=h.put11 (Nat.le_refl _)
theorem zY (w:World)(p:Addr)(u:Value):(w.setCell p u).heap.size = w.heap.size:=by simp [World.setCell]
theorem zCJ {w:World}{N:Nat}{c0 c1 c2 c3 c4 c5 c6 c7 c8 c9 c10:Value}{o:Obj}:((((((((((((w.setCell ⟨N,0,none⟩ c0).setCell ⟨N,1,none⟩ c1).setCell ⟨N,2,none⟩ c2).setCell ⟨N,3,none⟩ c3).setCell ⟨N,4,none⟩ c4).setCell ⟨N,5,none⟩ c5).setCell ⟨N,6,none⟩ c6).setCell ⟨N,7,none⟩ c7).setCell ⟨N,8,none⟩ c8).setCell ⟨N,9,none⟩ c9).setCell ⟨N,10,none⟩ c10).alloc o).heap[w.heap.size]? = some o:=by
 have:=heap_alloc_new (((((((((((w.setCell ⟨N,0,none⟩ c0).setCell ⟨N,1,none⟩ c1).setCell ⟨N,2,none⟩ c2).setCell ⟨N,3,none⟩ c3).setCell ⟨N,4,none⟩ c4).setCell ⟨N,5,none⟩ c5).setCell ⟨N,6,none⟩ c6).setCell ⟨N,7,none⟩ c7).setCell ⟨N,8,none⟩ c8).setCell ⟨N,9,none⟩ c9).setCell ⟨N,10,none⟩ c10) o
 simp only [zY] at this
 exact this
theorem zEH {w:World}{N:Nat}{c0 c1 c2 c3 c4 c5 c6 c7 c8 c9 c10:Value}{o o2:Obj}:(((((((((((((w.setCell ⟨N,0,none⟩ c0).setCell ⟨N,1,none⟩ c1).setCell ⟨N,2,none⟩ c2).setCell ⟨N,3,none⟩ c3).setCell ⟨N,4,none⟩ c4).setCell ⟨N,5,none⟩ c5).setCell ⟨N,6,none⟩ c6).setCell ⟨N,7,none⟩ c7).setCell ⟨N,8,none⟩ c8).setCell ⟨N,9,none⟩ c9).setCell ⟨N,10,none⟩ c10).alloc o).alloc o2).heap[w.heap.size + 1]? = some o2:=by
 have:=heap_alloc_new ((((((((((((w.setCell ⟨N,0,none⟩ c0).setCell ⟨N,1,none⟩ c1).setCell ⟨N,2,none⟩ c2).setCell ⟨N,3,none⟩ c3).setCell ⟨N,4,none⟩ c4).setCell ⟨N,5,none⟩ c5).setCell ⟨N,6,none⟩ c6).setCell ⟨N,7,none⟩ c7).setCell ⟨N,8,none⟩ c8).setCell ⟨N,9,none⟩ c9).setCell ⟨N,10,none⟩ c10).alloc o) o2
 simp only [zC,zY] at this
 exact this
theorem zQ {w:World}{N b:Nat}{o:Obj}(h:w.heap[b]? = some o)(hne:b ≠ N){c0 c1 c2 c3 c4 c5 c6 c7 c8 c9 c10:Value}:(((((((((((w.setCell ⟨N,0,none⟩ c0).setCell ⟨N,1,none⟩ c1).setCell ⟨N,2,none⟩ c2).setCell ⟨N,3,none⟩ c3).setCell ⟨N,4,none⟩ c4).setCell ⟨N,5,none⟩ c5).setCell ⟨N,6,none⟩ c6).setCell ⟨N,7,none⟩ c7).setCell ⟨N,8,none⟩ c8).setCell ⟨N,9,none⟩ c9).setCell ⟨N,10,none⟩ c10).heap[b]? = some o:=
 (zAh (p:=⟨N,10,none⟩) (zAh (p:=⟨N,9,none⟩) (zAh (p:=⟨N,8,none⟩) (zAh (p:=⟨N,7,none⟩) (zAh (p:=⟨N,6,none⟩) (zAh (p:=⟨N,5,none⟩) (zAh (p:=⟨N,4,none⟩) (zAh (p:=⟨N,3,none⟩) (zAh (p:=⟨N,2,none⟩) (zAh (p:=⟨N,1,none⟩) (zAh (p:=⟨N,0,none⟩) h hne c0) hne c1) hne c2) hne c3) hne c4) hne c5) hne c6) hne c7) hne c8) hne c9) hne c10)
theorem dec_eq (x:Int):wrap64 (x - 1) = dec x:=rfl
def IsBut (g:Option Nat)(w:World)(B:Nat)(e:Ex)(vs:List Value):Prop:=
 ∀ w':World,w.heap.size ≤ w'.heap.size → (∀ bl,B ≤ bl → bl < w.heap.size → some bl ≠ g → w'.heap[bl]? = w.heap[bl]?) → Is w' B e vs
theorem IsBut.now {g:Option Nat}{w:World}{B:Nat}{e:Ex}{vs:List Value}(h:IsBut g w B e vs):Is w B e vs:=h w (Nat.le_refl _) fun _ _ _ _ => rfl
theorem IsBut.of {g:Option Nat}{w:World}{B B2:Nat}{e:Ex}{vs:List Value}(h:Is w B2 e vs)(hB:B ≤ B2)(hg:∀ k,g = some k → k < B2):IsBut g w B e vs:=
 fun w' hs hk => Is.lower hB _ (Is.keep hs (fun bl h1 h2 => hk bl (Nat.le_trans hB h1) h2 (fun e => by have:=hg _ e.symm; omega)) _ h)
theorem IsBut.go {g:Option Nat}{w w1:World}{B:Nat}{e:Ex}{vs:List Value}(h:IsBut g w B e vs)(hs:w.heap.size ≤ w1.heap.size)(hk:∀ bl,B ≤ bl → bl < w.heap.size → some bl ≠ g → w1.heap[bl]? = w.heap[bl]?):IsBut g w1 B e vs:=
 fun w' hs' hk' => h w' (Nat.le_trans hs hs') fun bl h1 h2 h3 => (hk' bl h1 (Nat.lt_of_lt_of_le h2 hs) h3).trans (hk bl h1 h2 h3)
theorem IsBut.move {g g':Option Nat}{w w1:World}{B:Nat}{e:Ex}{vs:List Value}(h:IsBut g w B e vs)(hs:w.heap.size ≤ w1.heap.size)(hk:∀ bl,B ≤ bl → bl < w.heap.size → some bl ≠ g → w1.heap[bl]? = w.heap[bl]?)(hg:g' = g ∨ ∃ k,g' = some k ∧ w.heap.size ≤ k):IsBut g' w1 B e vs:=by
 rcases hg with rfl | ⟨k,rfl,hge⟩
 ·exact h.go hs hk
 ·exact fun w' hs' hk' => h w' (Nat.le_trans hs hs') fun bl h1 h2 h3 => (hk' bl h1 (Nat.lt_of_lt_of_le h2 hs) (fun e => by injection e with e; omega)).trans (hk bl h1 h2 h3)
theorem zJ1 {w w':World}{R base n sz:Nat}{T:TypeId}{v:Value}{xs:List Value}(h:w.ownsRow base T sz v n xs)(hg:Gr R w w')(hR:R < base):w'.ownsRow base T sz v n xs:=by
 refine ⟨h.1,?_⟩
 rcases h.2 with h0 | ⟨g,cap,cur,hv,hb,hc,hr⟩
 ·exact .inl h0
 ·exact .inr ⟨g,cap,cur,hv,hb,hg.box hc (by omega),hr⟩
theorem zC9 {W:World}{T:TypeId}{A:Array Value}{vs:List Value}{B:Nat}(hB:B = W.heap.size)(hA:A = ⟨vs⟩):∀ j u,vs[j]? = some u → (W.alloc (.cells A T)).cell? ((⟨B,0,none⟩:Addr).add j) = some u:=by
 intro j u hu
 subst hB hA
 have hadd:(⟨W.heap.size,0,none⟩:Addr).add j = ⟨W.heap.size,j,none⟩:=by unfold Addr.add; split <;> simp_all
 rw [hadd,cell_of_row _ _ j _ _ _ (heap_alloc_new W _)]
 simpa using hu
theorem zNa (kind num:Int)(name ofn:List UInt8)(dims:Int)(p:Option Addr)(n c:Nat)(at_ b r d ref:Int):∀ u ∈ exCells kind num name ofn dims (.slice p n c) at_ b r d ref,u.oneCell' = true:=by
 intro u hu
 simp [exCells] at hu
 rcases hu with rfl | rfl | rfl | rfl | rfl | rfl | rfl | rfl | rfl | rfl | rfl <;> rfl
theorem zQF:(Tryd.prog.info? 45).map (fun i => (i.zero,i.size,i.bytes)) = some (some (.agg #[.int .i64 0,.int .i64 0,.string ⟨#[]⟩,.string ⟨#[]⟩,.int .i64 0,.slice none 0 0,.int .i64 0,.int .i64 0,.int .i64 0,.int .i64 0,.int .i64 0]),11,120):=by kernel_rfl
def KidsAt (w:World)(B:Nat)(p:Option Addr)(l:List Ex):Prop:=l = [] ∨ ∃ bl off,p = some ⟨bl,off,none⟩ ∧ bl < w.heap.size ∧ B ≤ bl ∧ At w B bl off l
theorem KidsAt.set {w:World}{B:Nat}{q:Option Addr}{l:List Ex}(h:KidsAt w B q l){p:Addr}(hp:p.block < B)(u:Value):KidsAt (w.setCell p u) B q l:=by
 rcases h with h | ⟨bl,off,h1,h2,h3,h4⟩
 ·exact .inl h
 ·have hs:=((Below.refl 0 w).setCell (p:=p) (Nat.zero_le _) u).size
  exact .inr ⟨bl,off,h1,Nat.lt_of_lt_of_le h2 hs,h3,At.keep hs (fun bl h1 _ => Below.heap_setCell w p u bl (by omega)) l off h2 h3 h4⟩
theorem KidsAt.lower {w:World}{B B2:Nat}{q:Option Addr}{l:List Ex}(h:KidsAt w B q l)(hB:B2 ≤ B):KidsAt w B2 q l:=by
 rcases h with h | ⟨bl,off,h1,h2,h3,h4⟩
 ·exact .inl h
 ·exact .inr ⟨bl,off,h1,h2,Nat.le_trans hB h3,At.lower hB l off h4⟩
theorem KidsAt.put11 {w:World}{B:Nat}{q:Option Addr}{l:List Ex}(h:KidsAt w B q l){N:Nat}(hN:N < B){c0 c1 c2 c3 c4 c5 c6 c7 c8 c9 c10:Value}:KidsAt (((((((((((w.setCell ⟨N,0,none⟩ c0).setCell ⟨N,1,none⟩ c1).setCell ⟨N,2,none⟩ c2).setCell ⟨N,3,none⟩ c3).setCell ⟨N,4,none⟩ c4).setCell ⟨N,5,none⟩ c5).setCell ⟨N,6,none⟩ c6).setCell ⟨N,7,none⟩ c7).setCell ⟨N,8,none⟩ c8).setCell ⟨N,9,none⟩ c9).setCell ⟨N,10,none⟩ c10) B q l:=
 (((((((((((h.set (p:=⟨N,0,none⟩) hN c0).set (p:=⟨N,1,none⟩) hN c1).set (p:=⟨N,2,none⟩) hN c2).set (p:=⟨N,3,none⟩) hN c3).set (p:=⟨N,4,none⟩) hN c4).set (p:=⟨N,5,none⟩) hN c5).set (p:=⟨N,6,none⟩) hN c6).set (p:=⟨N,7,none⟩) hN c7).set (p:=⟨N,8,none⟩) hN c8).set (p:=⟨N,9,none⟩) hN c9).set (p:=⟨N,10,none⟩) hN c10)
theorem KidsAt.is {w:World}{B:Nat}{p:Option Addr}{c:Nat}{l:List Ex}(h:KidsAt w B p l)(kind num:Int)(name ofn:List UInt8)(dims at_:Int):Is w B (Ex.of kind num name ofn dims l at_) (exCells kind num name ofn dims (.slice p l.length c) at_ 0 0 0 0):=by
 rw [Ex.of,Is]
 exact ⟨p,c,rfl,h⟩
theorem zAR {w:World}{B:Nat}{T:TypeId}{A A2:Array Value}(h:w.heap[B]? = some (.cells A T (0,0)))(i:Nat)(u:Value)(hA:A.setIfInBounds i u = A2):(w.setCell ⟨B,i,none⟩ u).heap[B]? = some (.cells A2 T (0,0)):=by
 have:=Lib.heap_setCell_same h (i:=i) (v:=u)
 rw [this,hA]
end Go.Proofs.YteadgahhchlgeaaDoor
namespace Go.Proofs.YteadgahhchlgeaaDoor
open Go.RowKit
def WAt (b:Nat)(p:Value)(bs:List Value)(n:Int)(w:World):Prop:=
 ∃ v,w.heap[b]? = some (.cells #[p,v,.int .i64 n] 89 (0,0)) ∧ w.ownsRow b 5 1 v bs.length bs ∧ v.ownBlock ≠ some b ∧ (bs = [] → v = .slice none 0 0)
def IsW (b:Nat)(bs:List Value)(n:Int)(w:World):Prop:=∃ p,(p = .pointer none ∨ p = .pointer (some ⟨b,0,none⟩)) ∧ WAt b p bs n w
structure Wk (b:Nat) (w w':World):Prop where
 below:Below b w w'
 kept:Lib.OthersKept 5 (some b) w w'
theorem Wk.refl (b:Nat)(w:World):Wk b w w:=⟨Below.refl _ _,Lib.OthersKept.refl _ _ _⟩
theorem Wk.trans {b:Nat}{w w1 w2:World}(h:Wk b w w1)(g:Wk b w1 w2):Wk b w w2:=⟨h.below.trans g.below,h.kept.trans g.kept⟩
theorem IsW.lt {b:Nat}{bs:List Value}{n:Int}{w:World}(h:IsW b bs n w):b < w.heap.size:=by
 obtain ⟨p,-,v,hb,-⟩:=h
 exact (Array.getElem?_eq_some_iff.1 hb).1
theorem zOm:(Tryd.prog.info? 5).map (fun i => (i.zero,i.size,i.bytes)) = some (some (.int .u8 0),1,1):=by kernel_rfl
theorem zL5:(Tryd.prog.info? 87).map (·.size) = some 2:=by kernel_rfl
theorem zLV:liesAt Tryd.prog Tryd.prog.depth 89 (3 / Tryd.prog.cellsOf 89) 0 87 1 = true:=by kernel_rfl
set_option maxRecDepth 100000 in
theorem zFr (b:Nat)(bs:List Value)(n:Int)(w:World)(h:IsW b bs n w) :
 Calls Tryd.prog 110 #[.pointer (some ⟨b,0,none⟩)] w fun e w' => e = .returned (.tuple #[]) ∧ WAt b (.pointer (some ⟨b,0,none⟩)) bs n w' ∧ Wk b w w' ∧ w'.heap.size = w.heap.size:=by
 obtain ⟨j,hj,hjs⟩:=Option.map_eq_some_iff.1 zL5
 obtain ⟨p,hp,v,hb,hown,hne,hnil⟩:=h
 have c0:w.cell? ⟨b,0,none⟩ = some p:=by rw [Lib.cell_of_heap hb]; rfl
 have f0:w.frozen? ⟨b,0,none⟩ = false:=Lib.frozen_of_heap hb 0
 have hsh:w.shape? b = some (89,3):=by simp [World.shape?,hb]
 have HB:=vH hb
 clear hb
 rcases hp with rfl | rfl
 ·go_in
  go_wp2
  rw [Lib.run_to_unsafe w ⟨b,0,none⟩ Tryd.underlying84 Tryd.underlying206 hj (by rw [hjs]; decide) hsh (Nat.zero_lt_succ 2)]
  simp only [Result.andThen]
  rw [Oper.upon_value]
  go_wp2
  have hex:∀ w1,(callFunc 130 #[.pointer (some ⟨b,0,none⟩)]).run Tryd.prog w1 = .ok (.value (.pointer (some ⟨b,0,none⟩))) w1:=fun w1 => by
   rw [run_callFunc_extern Tryd.func130 (by kernel_rfl) (by kernel_rfl) (by kernel_rfl) (e:=Extern.AbiNoEscape.same) (by kernel_rfl),Lib.run_noEscape]
   rfl
  rw [hex]
  rw [Oper.upon_value]
  go_wp2
  rw [Lib.run_from_unsafe w ⟨b,0,none⟩ Tryd.underlying206 Tryd.underlying84 hj hsh zLV]
  simp only [Result.andThen]
  rw [Oper.upon_value]
  go_wp2
  go_end0
  refine ⟨rfl,⟨v,by simp [World.setCell,Array.getElem?_modify,HB.out],?_,hne,hnil⟩,⟨(Below.refl b w).setCell (p:=⟨b,0,none⟩) (Nat.le_refl _) _,(Lib.OthersKept.refl _ _ w).setCell ⟨b,0,none⟩ rfl _⟩,zY _ _ _⟩
  exact hown.kept (row:=some b) ⟨rfl,rfl,rfl,by simp [World.setCell],fun k _ hk => Below.heap_setCell _ _ _ _ (fun e => hk (by simp [e]))⟩ (Or.inr hne)
 ·go_in
  go_wp2
  rw [Lib.run_neq_ptr_same w _ Tryd.underlying84 hj]
  go_wp2
  go_end0
  exact ⟨rfl,⟨v,HB.out,hown,hne,hnil⟩,Wk.refl _ _,rfl⟩
theorem zM1 {w:World}{B b:Nat}{v:Value}{n:Nat}{xs:List Value}{cs:Array Value}{fr:Nat × Nat}(hown:w.ownsRow B 5 1 v n xs)(hb:w.heap[b]? = some (.cells cs 89 fr)):v.ownBlock ≠ some b:=by
 rcases hown.2 with ⟨rfl,_⟩ | ⟨g,cap,cur,rfl,_,hg,_⟩
 ·simp [Value.ownBlock]
 ·intro h
  simp only [Value.ownBlock,Option.some.injEq] at h
  subst h
  rw [hg] at hb
  simp only [Option.some.injEq,Obj.cells.injEq] at hb
  exact absurd hb.2.1 (by decide)
set_option maxRecDepth 100000 in
theorem zDn (b:Nat)(l:List UInt8)(n:Int)(s:ByteArray)(w:World)(h:IsW b (Lib.byteCells l) n w)(hlen:l.length + s.size ≤ 140737488355328) :
 Calls Tryd.prog 84 #[.pointer (some ⟨b,0,none⟩),.string s] w fun e w' => e = .returned (.tuple #[.int .i64 s.size,.nilIface]) ∧ IsW b (Lib.byteCells (l ++ s.data.toList)) n w' ∧ Wk b w w':=by
 obtain ⟨i0,hi,hz0,hz1,hz2⟩:=info_parts zOm
 go_in
 go_wp2_with fail
 refine (zFr b _ n _ h).mono ?_
 rintro e w1 ⟨rfl,⟨v,hbk,hown,hne,hnil⟩,hk1,hsz1⟩
 have c0:w1.cell? ⟨b,0,none⟩ = some (.pointer (some ⟨b,0,none⟩)):=by rw [Lib.cell_of_heap hbk]; rfl
 have c1:w1.cell? ⟨b,1,none⟩ = some v:=by rw [Lib.cell_of_heap hbk]; rfl
 have hlt:b < w1.heap.size:=zA hbk
 have HBK:=vH hbk
 have HNIL:=vH hnil
 clear hbk hnil hsz1 h
 rw [Lib.byteCells_length] at hown
 go_wp2_with (at_builtin; refine Lib.wpList_append_own_string _ rfl _ _ 85 9 rfl b 5 i0 Tryd.underlying85 Tryd.underlying9 hi hz0 hz1 hz2 _ _ _ rfl hown s rfl ?c3 ?c4 ?c5 ?_)
 case c3 => unfold maxLen; omega
 case c4 => omega
 case c5 => omega
 intro v' w2 hown' hgrow hn2
 have hb2:w2.heap[b]? = some (.cells #[.pointer (some ⟨b,0,none⟩),v,.int .i64 n] 89 (0,0)):=by
  rw [hgrow.block b hlt (fun e => hne e.symm)]
  exact HBK.out
 have d0:w2.cell? ⟨b,0,none⟩ = some (.pointer (some ⟨b,0,none⟩)):=by rw [Lib.cell_of_heap hb2]; rfl
 have d1:w2.cell? ⟨b,1,none⟩ = some v:=by rw [Lib.cell_of_heap hb2]; rfl
 have f1:w2.frozen? ⟨b,1,none⟩ = false:=Lib.frozen_of_heap hb2 1
 have HB2:=vH hb2
 have HN2:=vH hn2
 clear hb2 hn2
 obtain ⟨ao,n',cap,rfl⟩:∃ ao n' cap,v' = .slice ao n' cap:=by
  rcases hown'.2 with ⟨hv,_⟩ | ⟨g,cap,cur,hv,_⟩
  ·exact ⟨_,_,_,hv⟩
  ·exact ⟨_,_,_,hv⟩
 go_wp2_with fail
 go_ret2
 have hb3:(w2.setCell ⟨b,1,none⟩ (.slice ao n' cap)).heap[b]? = some (.cells #[.pointer (some ⟨b,0,none⟩),.slice ao n' cap,.int .i64 n] 89 (0,0)):=by simp [World.setCell,Array.getElem?_modify,HB2.out]
 refine ⟨rfl,⟨_,.inr rfl,_,hb3,?_,?_,?_⟩,?_,?_⟩
 ·rw [Lib.byteCells_length,Lib.byteCells_append,List.length_append]
  exact hown'.kept (row:=some b) ⟨rfl,rfl,rfl,by simp [World.setCell],fun k _ hk => Below.heap_setCell _ _ _ _ (fun e => hk (by simp [e]))⟩ (Or.inr (zM1 hown' HB2.out))
 ·exact zM1 hown' HB2.out
 ·intro h0
  have h1:=congrArg List.length h0
  rw [Lib.byteCells_length,List.length_append] at h1
  have h2:l = [] ∧ s = ByteArray.empty:=by simpa using h1
  exact HN2.out.2 ⟨HNIL.out (by rw [h2.1]; rfl),h2.2⟩
 ·exact (hk1.below.grown hgrow (by omega) (fun k hk => (hown.lt k hk).1)).setCell (p:=⟨b,1,none⟩) (Nat.le_refl _) _
 ·exact (hk1.kept.grown hgrow (Lib.ownsRowF_kind (World.ownsRowF_of hown))).setCell ⟨b,1,none⟩ rfl _
set_option maxRecDepth 100000 in
theorem zCM (b:Nat)(l:List UInt8)(n:Int)(w:World)(h:IsW b (Lib.byteCells l) n w) :
 Calls Tryd.prog 25 #[.pointer (some ⟨b,0,none⟩)] w fun e w' => e = .returned (.string (cbs l)) ∧ Below b w w':=by
 obtain ⟨p,-,v,hbk,hown,hne,hnil⟩:=h
 by_cases h0:l = []
 ·subst h0
  obtain rfl:=hnil rfl
  have c1:w.drew.cell? ⟨b,1,none⟩ = some (.slice none 0 0):=by rw [Lib.cell_of_heap (show w.drew.heap[b]? = _ from hbk)]; rfl
  have hSD:(Builtin.unsafeSliceData_ #[85] 123 #[.slice none 0 0]).run Tryd.prog w.drew = .ok (.pointer none) w.drew:=rfl
  have hUS:(Builtin.unsafeString_ #[123,3] 9 #[.pointer none,.int .i64 0]).run Tryd.prog w.drew = .ok (.string .empty) w.drew:=Lib.run_unsafeString_none _ _ _ _ none
  clear hown hne hnil hbk
  go_in
  go_wp2
  go_region
  all_goals (go_wp2; go_ret; exact ⟨rfl,Below.drew (Below.refl b w)⟩)
 ·have hl0:l.length ≠ 0:=by simpa using h0
  rw [Lib.byteCells_length] at hown
  obtain ⟨g,cap,cur,rfl,hbg,hg,hnc,hcm,hcs,htake⟩:∃ g cap cur,v = .slice (some ⟨g,0,none⟩) l.length cap ∧ b ≤ g ∧ w.heap[g]? = some (.cells cur 5 (0,0)) ∧ l.length ≤ cap ∧ cap ≤ maxLen ∧ cur.size = cap * 1 ∧ cur.toList.take (l.length * 1) = Lib.byteCells l:=by
   rcases hown.2 with ⟨_,hz⟩ | ⟨g,cap,cur,hv,r⟩
   ·exact absurd hz hl0
   ·exact ⟨g,cap,cur,hv,r⟩
  have c1:w.drew.cell? ⟨b,1,none⟩ = some (.slice (some ⟨g,0,none⟩) l.length cap):=by rw [Lib.cell_of_heap (show w.drew.heap[b]? = _ from hbk)]; rfl
  have hSD:(Builtin.unsafeSliceData_ #[85] 123 #[.slice (some ⟨g,0,none⟩) l.length cap]).run Tryd.prog w.drew = .ok (.pointer (some ⟨g,0,none⟩)) w.drew:=
   Lib.run_unsafeSliceData_row _ _ _ _ _ _ (by omega)
  have hUS:(Builtin.unsafeString_ #[123,3] 9 #[.pointer (some ⟨g,0,none⟩),.int .i64 l.length]).run Tryd.prog w.drew = .ok (.string ⟨l.toArray⟩) (w.drew.freeze ⟨g,0,none⟩ l.length):=by
   refine Lib.run_unsafeString_row w.drew 123 3 9 5 Tryd.underlying123 (by kernel_rfl) g cur.size (by have hg':w.drew.heap[g]? = some (.cells cur 5 (0,0)):=hg; simp [World.shape?,hg']) l h0 (by omega) (by unfold maxLen at hcm; omega) ?_
   intro j x hx
   have:=hown.cells (g:=g) rfl j (.int .u8 x.toNat) (by simp [Lib.byteCells,hx])
   exact this
  clear hown hne hnil hbk htake
  go_in
  go_wp2
  go_region
  all_goals (go_wp2; go_ret; exact ⟨rfl,Lib.below_freeze (Below.drew (Below.refl b w)) (p:=⟨g,0,none⟩) hbg _⟩)
open Px (RT tokAt)
open Pe
theorem IsBut.gr {g:Option Nat}{w w1:World}{R B:Nat}{e:Ex}{vs:List Value}(h:IsBut g w B e vs)(hR:R < B)(hg:Gr R w w1):IsBut g w1 B e vs:=h.go hg.size fun bl h1 h2 _ => hg.block bl h2 (by omega)
theorem IsBut.node1 {g:Option Nat}{w:World}{B bl:Nat}{T:TypeId}{e:Ex}{vs:List Value}{A:Array Value}(hb:w.heap[bl]? = some (.cells A T (0,0)))(hne:B ≤ bl)(hg:∀ k,g = some k → k < bl)(hi:IsBut g w B e vs)(hA:A = ⟨vs⟩)(kind num:Int)(name ofn:List UInt8)(dims at_:Int)(c:Nat) :
 IsBut g w B (Ex.of kind num name ofn dims [e] at_) (exCells kind num name ofn dims (.slice (some ⟨bl,0,none⟩) 1 c) at_ 0 0 0 0):=
 fun w' hs hk => Is.node1 ((hk bl hne (zA hb) (fun e => by have:=hg _ e.symm; omega)).trans hb) hne (hi w' hs hk) hA kind num name ofn dims at_ c
theorem IsBut.node2 {g:Option Nat}{w:World}{B bl:Nat}{T:TypeId}{e e2:Ex}{vs vs2:List Value}{A:Array Value}(hb:w.heap[bl]? = some (.cells A T (0,0)))(hne:B ≤ bl)(hg:∀ k,g = some k → k < bl)(hi:IsBut g w B e vs)(hi2:IsBut g w B e2 vs2)(hA:A = ⟨vs ++ vs2⟩)(kind num:Int)(name ofn:List UInt8)(dims at_:Int)(c:Nat) :
 IsBut g w B (Ex.of kind num name ofn dims [e,e2] at_) (exCells kind num name ofn dims (.slice (some ⟨bl,0,none⟩) 2 c) at_ 0 0 0 0):=
 fun w' hs hk => Is.node2 ((hk bl hne (zA hb) (fun e => by have:=hg _ e.symm; omega)).trans hb) hne (hi w' hs hk) (hi2 w' hs hk) hA kind num name ofn dims at_ c
theorem zSi {w:World}{N:Nat}{T:TypeId}{o0 o1 o2 o3 o4 o5 o6 o7 o8 o9 o10:Value}(h:w.heap[N]? = some (.cells #[o0,o1,o2,o3,o4,o5,o6,o7,o8,o9,o10] T (0,0))){c0 c1 c2 c3 c4 c5 c6 c7 c8 c9 c10:Value}:(((((((((((w.setCell ⟨N,0,none⟩ c0).setCell ⟨N,1,none⟩ c1).setCell ⟨N,2,none⟩ c2).setCell ⟨N,3,none⟩ c3).setCell ⟨N,4,none⟩ c4).setCell ⟨N,5,none⟩ c5).setCell ⟨N,6,none⟩ c6).setCell ⟨N,7,none⟩ c7).setCell ⟨N,8,none⟩ c8).setCell ⟨N,9,none⟩ c9).setCell ⟨N,10,none⟩ c10).heap[N]? = some (.cells #[c0,c1,c2,c3,c4,c5,c6,c7,c8,c9,c10] T (0,0)):=by
 have h0:=zAR h 0 c0 (A2:=#[c0,o1,o2,o3,o4,o5,o6,o7,o8,o9,o10]) rfl
 have h1:=zAR h0 1 c1 (A2:=#[c0,c1,o2,o3,o4,o5,o6,o7,o8,o9,o10]) rfl
 have h2:=zAR h1 2 c2 (A2:=#[c0,c1,c2,o3,o4,o5,o6,o7,o8,o9,o10]) rfl
 have h3:=zAR h2 3 c3 (A2:=#[c0,c1,c2,c3,o4,o5,o6,o7,o8,o9,o10]) rfl
 have h4:=zAR h3 4 c4 (A2:=#[c0,c1,c2,c3,c4,o5,o6,o7,o8,o9,o10]) rfl
 have h5:=zAR h4 5 c5 (A2:=#[c0,c1,c2,c3,c4,c5,o6,o7,o8,o9,o10]) rfl
 have h6:=zAR h5 6 c6 (A2:=#[c0,c1,c2,c3,c4,c5,c6,o7,o8,o9,o10]) rfl
 have h7:=zAR h6 7 c7 (A2:=#[c0,c1,c2,c3,c4,c5,c6,c7,o8,o9,o10]) rfl
 have h8:=zAR h7 8 c8 (A2:=#[c0,c1,c2,c3,c4,c5,c6,c7,c8,o9,o10]) rfl
 have h9:=zAR h8 9 c9 (A2:=#[c0,c1,c2,c3,c4,c5,c6,c7,c8,c9,o10]) rfl
 have h10:=zAR h9 10 c10 (A2:=#[c0,c1,c2,c3,c4,c5,c6,c7,c8,c9,c10]) rfl
 exact h10
theorem IsBut.put11 {w:World}{N B:Nat}{e:Ex}{vs:List Value}(h:IsBut (some N) w B e vs){c0 c1 c2 c3 c4 c5 c6 c7 c8 c9 c10:Value}:IsBut (some N) (((((((((((w.setCell ⟨N,0,none⟩ c0).setCell ⟨N,1,none⟩ c1).setCell ⟨N,2,none⟩ c2).setCell ⟨N,3,none⟩ c3).setCell ⟨N,4,none⟩ c4).setCell ⟨N,5,none⟩ c5).setCell ⟨N,6,none⟩ c6).setCell ⟨N,7,none⟩ c7).setCell ⟨N,8,none⟩ c8).setCell ⟨N,9,none⟩ c9).setCell ⟨N,10,none⟩ c10) B e vs:=
 h.go (by simp only [zY]; exact Nat.le_refl _) fun bl _ hb hne => by
  obtain ⟨o,ho⟩:∃ o,w.heap[bl]? = some o:=⟨_,Array.getElem?_eq_getElem hb⟩
  rw [ho]
  exact zQ ho (fun he => hne (by rw [he]))
theorem IsBut.top {w:World}{B B2:Nat}{e:Ex}{vs:List Value}(h:Is w B2 e vs)(hB:B ≤ B2):IsBut (some w.heap.size) w B e vs:=
 fun w' hs hk => Is.lower hB _ (Is.keep hs (fun bl h1 h2 => hk bl (Nat.le_trans hB h1) h2 (fun e => by injection e with e; omega)) _ h)
theorem IsBut.alloc {g:Option Nat}{w:World}{B:Nat}{e:Ex}{vs:List Value}(h:IsBut g w B e vs)(o:Obj):IsBut g (w.alloc o) B e vs:=
 h.go (by rw [zC]; omega) fun bl _ hb _ => heap_alloc_old _ _ hb
end Go.Proofs.YteadgahhchlgeaaDoor
