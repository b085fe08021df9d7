/-
  An expression in memory.
-/
import Derived.Test.YtjleggpbghmobaaK02
import Derived.Test.YtjleggpbghmobaaK01
set_option maxRecDepth 8000
set_option maxHeartbeats 8000000
namespace Go.Proofs.Ytjleggpbghmobaa
open Go.RowKit
open Px (RT tokAt)
open Pe
def exCells (kind num:Int)(name ofn:List UInt8)(dims:Int)(kv:Value)(at_ b r d ref:Int):List Value:=
 [.int .i64 kind,.int .i64 num,.string (cbs name),.string (cbs ofn),.int .i64 dims,kv,.int .i64 at_,.int .i64 b,.int .i64 r,.int .i64 d,.int .i64 ref]
mutual
def Is (w:World)(B:Nat):Ex → List Value → Prop
 | .mk kind num name ofn dims kids at_ b r d ref,vs => ∃ p c,vs = exCells kind num name ofn dims (.slice p kids.length c) at_ b r d ref ∧
  (kids = [] ∨ ∃ bl off,p = some ⟨bl,off,none⟩ ∧ bl < w.heap.size ∧ B ≤ bl ∧ At w B bl off kids)
def At (w:World)(B bl:Nat):Nat → List Ex → Prop
 | _,[] => True
 | off,e :: es => (∃ vs,Is w B e vs ∧ ∀ (i:Nat) (v:Value),vs[i]? = some v → w.cell? ⟨bl,off + i,none⟩ = some v) ∧ At w B bl (off + 11) es
end
theorem zAP {w w':World}{b:Nat}(h:w'.heap[b]? = w.heap[b]?)(o:Nat):w'.cell? ⟨b,o,none⟩ = w.cell? ⟨b,o,none⟩:=by simp only [World.cell?,h]
mutual
theorem Is.keep {w w':World}{B:Nat}(hs:w.heap.size ≤ w'.heap.size)(hk:∀ bl,B ≤ bl → bl < w.heap.size → w'.heap[bl]? = w.heap[bl]?):∀ (e:Ex){vs:List Value},Is w B e vs → Is w' B e vs
 | .mk kind num name ofn dims kids at_ b r d ref,vs,h => by
   rw [Is] at h ⊢
   obtain ⟨p,c,hv,hkk⟩:=h
   refine ⟨p,c,hv,?_⟩
   rcases hkk with h0 | ⟨bl,off,hp,hb,hne,ha⟩
   ·exact .inl h0
   ·exact .inr ⟨bl,off,hp,Nat.lt_of_lt_of_le hb hs,hne,At.keep hs hk kids off hb hne ha⟩
theorem At.keep {w w':World}{B:Nat}(hs:w.heap.size ≤ w'.heap.size)(hk:∀ bl,B ≤ bl → bl < w.heap.size → w'.heap[bl]? = w.heap[bl]?):∀ (es:List Ex){bl:Nat}(off:Nat),bl < w.heap.size → B ≤ bl → At w B bl off es → At w' B bl off es
 | [],_,_,_,_,_ => by rw [At]; trivial
 | e :: es,bl,off,hb,hne,h => by
   rw [At] at h ⊢
   obtain ⟨⟨vs,hi,hc⟩,hr⟩:=h
   refine ⟨⟨vs,Is.keep hs hk e hi,fun i v hv => ?_⟩,At.keep hs hk es (off + 11) hb hne hr⟩
   rw [zAP (hk bl hne hb)]
   exact hc i v hv
end
mutual
theorem Is.lower {w:World}{B B2:Nat}(hB:B2 ≤ B):∀ (e:Ex){vs:List Value},Is w B e vs → Is w B2 e vs
 | .mk kind num name ofn dims kids at_ b r d ref,vs,h => by
   rw [Is] at h ⊢
   obtain ⟨p,c,hv,hk⟩:=h
   refine ⟨p,c,hv,?_⟩
   rcases hk with h0 | ⟨bl,off,hp,hb,hne,ha⟩
   ·exact .inl h0
   ·exact .inr ⟨bl,off,hp,hb,Nat.le_trans hB hne,At.lower hB kids off ha⟩
theorem At.lower {w:World}{B B2:Nat}(hB:B2 ≤ B):∀ (es:List Ex){bl:Nat}(off:Nat),At w B bl off es → At w B2 bl off es
 | [],_,_,_ => by rw [At]; trivial
 | e :: es,bl,off,h => by
   rw [At] at h ⊢
   obtain ⟨⟨vs,hi,hc⟩,hr⟩:=h
   exact ⟨⟨vs,Is.lower hB e hi,hc⟩,At.lower hB es (off + 11) hr⟩
end
theorem Is.gr {w w':World}{B R:Nat}{e:Ex}{vs:List Value}(h:Is w B e vs)(hR:R < B)(hg:Gr R w w'):Is w' B e vs:=Is.keep hg.size (fun bl h1 h2 => hg.block bl h2 (by omega)) e h
theorem Is.below {w w':World}{B:Nat}{e:Ex}{vs:List Value}(h:Is w B e vs)(hb:Below w.heap.size w w'):Is w' B e vs:=Is.keep hb.size (fun bl _ h2 => hb.block bl h2) e h
theorem Is.set {w:World}{B:Nat}{e:Ex}{vs:List Value}(h:Is w B e vs){p:Addr}(hp:p.block < B)(u:Value):Is (w.setCell p u) B e vs:=
 Is.keep ((Below.refl 0 w).setCell (p:=p) (Nat.zero_le _) u).size (fun bl h1 _ => Below.heap_setCell w p u bl (by omega)) e h
theorem Is.alloc {w:World}{B:Nat}{e:Ex}{vs:List Value}(h:Is w B e vs)(o:Obj):Is (w.alloc o) B e vs:=h.below ((Below.refl _ _).alloc (Nat.le_refl _) _)
theorem Is.drew {w:World}{B:Nat}{e:Ex}{vs:List Value}(h:Is w B e vs)(n:Nat):Is (w.drewN n) B e vs:=h.below (zF (Below.refl _ _) n)
theorem Is.len {w:World}{B:Nat}{e:Ex}{vs:List Value}(h:Is w B e vs):vs.length = 11:=by
 cases e
 rw [Is] at h
 obtain ⟨p,c,rfl,-⟩:=h
 rfl
theorem Is.out {w:World}{B:Nat}{e:Ex}{vs:List Value}(h:Is w B e vs):∃ kind num name ofn dims p n c at_ b r d ref,vs = exCells kind num name ofn dims (.slice p n c) at_ b r d ref:=by
 cases e
 rw [Is] at h
 obtain ⟨p,c,rfl,-⟩:=h
 exact ⟨_,_,_,_,_,_,_,_,_,_,_,_,_,rfl⟩
theorem Is.leaf {w:World}{B:Nat}(kind num:Int)(name ofn:List UInt8)(dims at_:Int):Is w B (Ex.of kind num name ofn dims [] at_) (exCells kind num name ofn dims (.slice none 0 0) at_ 0 0 0 0):=by
 rw [Ex.of,Is]
 exact ⟨none,0,rfl,.inl rfl⟩
theorem Is.zero {w:World}{B:Nat}:Is w B Ex.zero (exCells 0 0 [] [] 0 (.slice none 0 0) 0 0 0 0 0):=Is.leaf 0 0 [] [] 0 0
theorem At.of_row {w:World}{B bl:Nat}{T:TypeId}{A:Array Value}(hb:w.heap[bl]? = some (.cells A T (0,0))):∀ (es:List Ex)(off:Nat)(vss:List (List Value)),vss.length = es.length → (∀ (i:Nat) e vs,es[i]? = some e → vss[i]? = some vs → Is w B e vs) →
 (∀ (i:Nat),i < vss.flatten.length → A[off + i]? = vss.flatten[i]?) → At w B bl off es
 | [],_,_,_,_,_ => by rw [At]; trivial
 | e :: es,off,[],hl,_,_ => by simp at hl
 | e :: es,off,vs :: vss,hl,hi,hc => by
   rw [At]
   have h0:=hi 0 e vs rfl rfl
   have hlen:=h0.len
   refine ⟨⟨vs,h0,fun i v hv => ?_⟩,At.of_row hb es (off + 11) vss (by simpa using hl) (fun i e vs he hvs => hi (i + 1) e vs he hvs) fun i hlt => ?_⟩
   ·have hlt:i < vs.length:=(List.getElem?_eq_some_iff.1 hv).1
    rw [cell_of_row _ _ _ _ _ _ hb,hc i (by simp; omega),List.flatten_cons,List.getElem?_append_left hlt,hv]
   ·have:=hc (11 + i) (by simp at hlt ⊢; omega)
    rw [List.flatten_cons,List.getElem?_append_right (by omega),hlen,show 11 + i - 11 = i by omega] at this
    rw [← this]
    congr 1
    omega
theorem At.one {w:World}{B bl:Nat}{T:TypeId}{e:Ex}{vs:List Value}{A:Array Value}(hb:w.heap[bl]? = some (.cells A T (0,0)))(hi:Is w B e vs)(hA:A = ⟨vs⟩):At w B bl 0 [e]:=by
 subst hA
 refine At.of_row hb [e] 0 [vs] rfl (fun i e' vs' he hvs => ?_) fun i _ => by simp
 cases i with
 | zero => simp at he hvs; subst he hvs; exact hi
 | succ i => simp at he
theorem At.two {w:World}{B bl:Nat}{T:TypeId}{e e2:Ex}{vs vs2:List Value}{A:Array Value}(hb:w.heap[bl]? = some (.cells A T (0,0)))(hi:Is w B e vs)(hi2:Is w B e2 vs2)(hA:A = ⟨vs ++ vs2⟩):At w B bl 0 [e,e2]:=by
 subst hA
 refine At.of_row hb [e,e2] 0 [vs,vs2] rfl (fun i e' vs' he hvs => ?_) fun i _ => by simp
 match i with
 | 0 => simp at he hvs; subst he hvs; exact hi
 | 1 => simp at he hvs; subst he hvs; exact hi2
 | i + 2 => simp at he
theorem Is.node1 {w:World}{B bl:Nat}{T:TypeId}{e:Ex}{vs:List Value}{A:Array Value}(hb:w.heap[bl]? = some (.cells A T (0,0)))(hne:B ≤ bl)(hi:Is w B e vs)(hA:A = ⟨vs⟩)(kind num:Int)(name ofn:List UInt8)(dims at_:Int)(c:Nat) :
 Is w B (Ex.of kind num name ofn dims [e] at_) (exCells kind num name ofn dims (.slice (some ⟨bl,0,none⟩) 1 c) at_ 0 0 0 0):=by
 rw [Ex.of,Is]
 exact ⟨_,c,rfl,.inr ⟨bl,0,rfl,zA hb,hne,At.one hb hi hA⟩⟩
theorem Is.node2 {w:World}{B bl:Nat}{T:TypeId}{e e2:Ex}{vs vs2:List Value}{A:Array Value}(hb:w.heap[bl]? = some (.cells A T (0,0)))(hne:B ≤ bl)(hi:Is w B e vs)(hi2:Is w B e2 vs2)(hA:A = ⟨vs ++ vs2⟩)(kind num:Int)(name ofn:List UInt8)(dims at_:Int)(c:Nat) :
 Is w B (Ex.of kind num name ofn dims [e,e2] at_) (exCells kind num name ofn dims (.slice (some ⟨bl,0,none⟩) 2 c) at_ 0 0 0 0):=by
 rw [Ex.of,Is]
 exact ⟨_,c,rfl,.inr ⟨bl,0,rfl,zA hb,hne,At.two hb hi hi2 hA⟩⟩
theorem hen {w1:World}{B:Nat}{T:TypeId}{c0 c1 c2 c3 c4 c5 c6 c7 c8 c9 c10:Value}(h:w1.heap[B]? = some (.cells #[c0,c1,c2,c3,c4,c5,c6,c7,c8,c9,c10] T (0,0))) :
 (w1.cell? ⟨B,0,none⟩ = some c0 ∧ w1.cell? ⟨B,1,none⟩ = some c1 ∧ w1.cell? ⟨B,2,none⟩ = some c2 ∧ w1.cell? ⟨B,3,none⟩ = some c3 ∧ w1.cell? ⟨B,4,none⟩ = some c4 ∧ w1.cell? ⟨B,5,none⟩ = some c5 ∧ w1.cell? ⟨B,6,none⟩ = some c6 ∧ w1.cell? ⟨B,7,none⟩ = some c7 ∧ w1.cell? ⟨B,8,none⟩ = some c8 ∧ w1.cell? ⟨B,9,none⟩ = some c9 ∧ w1.cell? ⟨B,10,none⟩ = some c10) ∧
 (w1.frozen? ⟨B,0,none⟩ = false ∧ w1.frozen? ⟨B,1,none⟩ = false ∧ w1.frozen? ⟨B,2,none⟩ = false ∧ w1.frozen? ⟨B,3,none⟩ = false ∧ w1.frozen? ⟨B,4,none⟩ = false ∧ w1.frozen? ⟨B,5,none⟩ = false ∧ w1.frozen? ⟨B,6,none⟩ = false ∧ w1.frozen? ⟨B,7,none⟩ = false ∧ w1.frozen? ⟨B,8,none⟩ = false ∧ w1.frozen? ⟨B,9,none⟩ = false ∧ w1.frozen? ⟨B,10,none⟩ = false):=
 ⟨⟨by rw [cell_of_row _ _ _ _ _ _ h]; rfl,by rw [cell_of_row _ _ _ _ _ _ h]; rfl,by rw [cell_of_row _ _ _ _ _ _ h]; rfl,by rw [cell_of_row _ _ _ _ _ _ h]; rfl,by rw [cell_of_row _ _ _ _ _ _ h]; rfl,by rw [cell_of_row _ _ _ _ _ _ h]; rfl,by rw [cell_of_row _ _ _ _ _ _ h]; rfl,by rw [cell_of_row _ _ _ _ _ _ h]; rfl,by rw [cell_of_row _ _ _ _ _ _ h]; rfl,by rw [cell_of_row _ _ _ _ _ _ h]; rfl,by rw [cell_of_row _ _ _ _ _ _ h]; rfl⟩,
   frozen_of_row _ _ _ _ _ h,frozen_of_row _ _ _ _ _ h,frozen_of_row _ _ _ _ _ h,frozen_of_row _ _ _ _ _ h,frozen_of_row _ _ _ _ _ h,frozen_of_row _ _ _ _ _ h,frozen_of_row _ _ _ _ _ h,frozen_of_row _ _ _ _ _ h,frozen_of_row _ _ _ _ _ h,frozen_of_row _ _ _ _ _ h,frozen_of_row _ _ _ _ _ h⟩
theorem Is.put11 {w:World}{B:Nat}{e:Ex}{vs:List Value}(h:Is w B e vs){N:Nat}(hN:N < B){c0 c1 c2 c3 c4 c5 c6 c7 c8 c9 c10:Value}:Is (((((((((((w.setCell ⟨N,0,none⟩ c0).setCell ⟨N,1,none⟩ c1).setCell ⟨N,2,none⟩ c2).setCell ⟨N,3,none⟩ c3).setCell ⟨N,4,none⟩ c4).setCell ⟨N,5,none⟩ c5).setCell ⟨N,6,none⟩ c6).setCell ⟨N,7,none⟩ c7).setCell ⟨N,8,none⟩ c8).setCell ⟨N,9,none⟩ c9).setCell ⟨N,10,none⟩ c10) B e vs:=
 (((((((((((h.set (p:=⟨N,0,none⟩) hN c0).set (p:=⟨N,1,none⟩) hN c1).set (p:=⟨N,2,none⟩) hN c2).set (p:=⟨N,3,none⟩) hN c3).set (p:=⟨N,4,none⟩) hN c4).set (p:=⟨N,5,none⟩) hN c5).set (p:=⟨N,6,none⟩) hN c6).set (p:=⟨N,7,none⟩) hN c7).set (p:=⟨N,8,none⟩) hN c8).set (p:=⟨N,9,none⟩) hN c9).set (p:=⟨N,10,none⟩) hN c10)
theorem Nw.put11 {R:Nat}{w wA wB:World}(h:Nw R w wA wB){B:Nat}(hB:w.heap.size ≤ B){c0 c1 c2 c3 c4 c5 c6 c7 c8 c9 c10:Value}:Nw R w wA (((((((((((wB.setCell ⟨B,0,none⟩ c0).setCell ⟨B,1,none⟩ c1).setCell ⟨B,2,none⟩ c2).setCell ⟨B,3,none⟩ c3).setCell ⟨B,4,none⟩ c4).setCell ⟨B,5,none⟩ c5).setCell ⟨B,6,none⟩ c6).setCell ⟨B,7,none⟩ c7).setCell ⟨B,8,none⟩ c8).setCell ⟨B,9,none⟩ c9).setCell ⟨B,10,none⟩ c10):=
 (((((((((((h.set (p:=⟨B,0,none⟩) hB c0).set (p:=⟨B,1,none⟩) hB c1).set (p:=⟨B,2,none⟩) hB c2).set (p:=⟨B,3,none⟩) hB c3).set (p:=⟨B,4,none⟩) hB c4).set (p:=⟨B,5,none⟩) hB c5).set (p:=⟨B,6,none⟩) hB c6).set (p:=⟨B,7,none⟩) hB c7).set (p:=⟨B,8,none⟩) hB c8).set (p:=⟨B,9,none⟩) hB c9).set (p:=⟨B,10,none⟩) hB c10)
theorem Nw.pv {R:Nat}{w wA wB:World}(h:Nw R w wA wB)(c0 c1 c2 c3 c4 c5 c6 c7 c8 c9 c10:Value):Nw R w wA (((((((((((wB.setCell ⟨w.heap.size,0,none⟩ c0).setCell ⟨w.heap.size,1,none⟩ c1).setCell ⟨w.heap.size,2,none⟩ c2).setCell ⟨w.heap.size,3,none⟩ c3).setCell ⟨w.heap.size,4,none⟩ c4).setCell ⟨w.heap.size,5,none⟩ c5).setCell ⟨w.heap.size,6,none⟩ c6).setCell ⟨w.heap.size,7,none⟩ c7).setCell ⟨w.heap.size,8,none⟩ c8).setCell ⟨w.heap.size,9,none⟩ c9).setCell ⟨w.heap.size,10,none⟩ c10):=h.put11 (Nat.le_refl _)
theorem zR (w:World)(p:Addr)(u:Value):(w.setCell p u).heap.size = w.heap.size:=by simp [World.setCell]
theorem zBv {w:World}{N:Nat}{c0 c1 c2 c3 c4 c5 c6 c7 c8 c9 c10:Value}{o:Obj}:((((((((((((w.setCell ⟨N,0,none⟩ c0).setCell ⟨N,1,none⟩ c1).setCell ⟨N,2,none⟩ c2).setCell ⟨N,3,none⟩ c3).setCell ⟨N,4,none⟩ c4).setCell ⟨N,5,none⟩ c5).setCell ⟨N,6,none⟩ c6).setCell ⟨N,7,none⟩ c7).setCell ⟨N,8,none⟩ c8).setCell ⟨N,9,none⟩ c9).setCell ⟨N,10,none⟩ c10).alloc o).heap[w.heap.size]? = some o:=by
 have:=heap_alloc_new (((((((((((w.setCell ⟨N,0,none⟩ c0).setCell ⟨N,1,none⟩ c1).setCell ⟨N,2,none⟩ c2).setCell ⟨N,3,none⟩ c3).setCell ⟨N,4,none⟩ c4).setCell ⟨N,5,none⟩ c5).setCell ⟨N,6,none⟩ c6).setCell ⟨N,7,none⟩ c7).setCell ⟨N,8,none⟩ c8).setCell ⟨N,9,none⟩ c9).setCell ⟨N,10,none⟩ c10) o
 simp only [zR] at this
 exact this
theorem zCJ {w:World}{N:Nat}{c0 c1 c2 c3 c4 c5 c6 c7 c8 c9 c10:Value}{o o2:Obj}:(((((((((((((w.setCell ⟨N,0,none⟩ c0).setCell ⟨N,1,none⟩ c1).setCell ⟨N,2,none⟩ c2).setCell ⟨N,3,none⟩ c3).setCell ⟨N,4,none⟩ c4).setCell ⟨N,5,none⟩ c5).setCell ⟨N,6,none⟩ c6).setCell ⟨N,7,none⟩ c7).setCell ⟨N,8,none⟩ c8).setCell ⟨N,9,none⟩ c9).setCell ⟨N,10,none⟩ c10).alloc o).alloc o2).heap[w.heap.size + 1]? = some o2:=by
 have:=heap_alloc_new ((((((((((((w.setCell ⟨N,0,none⟩ c0).setCell ⟨N,1,none⟩ c1).setCell ⟨N,2,none⟩ c2).setCell ⟨N,3,none⟩ c3).setCell ⟨N,4,none⟩ c4).setCell ⟨N,5,none⟩ c5).setCell ⟨N,6,none⟩ c6).setCell ⟨N,7,none⟩ c7).setCell ⟨N,8,none⟩ c8).setCell ⟨N,9,none⟩ c9).setCell ⟨N,10,none⟩ c10).alloc o) o2
 simp only [zB,zR] at this
 exact this
theorem zO {w:World}{N b:Nat}{o:Obj}(h:w.heap[b]? = some o)(hne:b ≠ N){c0 c1 c2 c3 c4 c5 c6 c7 c8 c9 c10:Value}:(((((((((((w.setCell ⟨N,0,none⟩ c0).setCell ⟨N,1,none⟩ c1).setCell ⟨N,2,none⟩ c2).setCell ⟨N,3,none⟩ c3).setCell ⟨N,4,none⟩ c4).setCell ⟨N,5,none⟩ c5).setCell ⟨N,6,none⟩ c6).setCell ⟨N,7,none⟩ c7).setCell ⟨N,8,none⟩ c8).setCell ⟨N,9,none⟩ c9).setCell ⟨N,10,none⟩ c10).heap[b]? = some o:=
 (zN (p:=⟨N,10,none⟩) (zN (p:=⟨N,9,none⟩) (zN (p:=⟨N,8,none⟩) (zN (p:=⟨N,7,none⟩) (zN (p:=⟨N,6,none⟩) (zN (p:=⟨N,5,none⟩) (zN (p:=⟨N,4,none⟩) (zN (p:=⟨N,3,none⟩) (zN (p:=⟨N,2,none⟩) (zN (p:=⟨N,1,none⟩) (zN (p:=⟨N,0,none⟩) h hne c0) hne c1) hne c2) hne c3) hne c4) hne c5) hne c6) hne c7) hne c8) hne c9) hne c10)
end Go.Proofs.Ytjleggpbghmobaa
namespace Go.Proofs.Ytjleggpbghmobaa
open Go.RowKit
open Px (RT tokAt isT)
open Pe (inc dec)
open Qe (Q)
structure Qr (w:World) (R:Nat) (S:Value) (ts:List RT) (s:Q):Prop where
 row:w.heap[R]? = some (.cells #[S,.int .i64 s.k,.int .i64 s.o,.int .i64 s.E,.int .i64 s.F] 69 (0,0))
 toks:Toks w R S ts
theorem Qr.lt {w:World}{R:Nat}{S:Value}{ts:List RT}{s:Q}(h:Qr w R S ts s):R < w.heap.size:=(Array.getElem?_eq_some_iff.1 h.row).1
theorem Qr.cells {w:World}{R:Nat}{S:Value}{ts:List RT}{s:Q}(h:Qr w R S ts s) :
 (w.cell? ⟨R,0,none⟩ = some S ∧ w.cell? ⟨R,1,none⟩ = some (.int .i64 s.k) ∧ w.cell? ⟨R,2,none⟩ = some (.int .i64 s.o) ∧ w.cell? ⟨R,3,none⟩ = some (.int .i64 s.E) ∧ w.cell? ⟨R,4,none⟩ = some (.int .i64 s.F)) ∧
 (∀ i,w.frozen? ⟨R,i,none⟩ = false) ∧ R < w.heap.size:=by
 have hr:=h.row
 refine ⟨⟨?_,?_,?_,?_,?_⟩,fun i => frozen_of_row _ _ _ _ _ hr,h.lt⟩ <;> (rw [cell_of_row _ _ _ _ _ _ hr]; rfl)
theorem Qr.go {w w':World}{R:Nat}{S:Value}{ts:List RT}{s:Q}(h:Qr w R S ts s)(hb:Below w.heap.size w w'):Qr w' R S ts s:=
 ⟨(hb.block _ h.lt).trans h.row,h.toks.gr (Gr.of hb)⟩
theorem Qr.fin {w wA wB:World}{R:Nat}{S:Value}{ts:List RT}{s0 s:Q}(h0:Qr w R S ts s0)(hA:Qr wA R S ts s)(n:Nw R w wA wB):Qr wB R S ts s:=
 ⟨(n.below.block _ h0.lt).trans hA.row,h0.toks.gr n.gr⟩
theorem Qr.set_k {w:World}{R:Nat}{S:Value}{ts:List RT}{s:Q}(h:Qr w R S ts s)(q:Int):Qr (w.setCell ⟨R,1,none⟩ (.int .i64 q)) R S ts ⟨q,s.o,s.E,s.F⟩:=
 ⟨by have:=Lib.heap_setCell_same h.row (i:=1) (v:=.int .i64 q); simpa using this,h.toks.gr ((Gr.refl R w).set 1 _)⟩
theorem Qr.set_o {w:World}{R:Nat}{S:Value}{ts:List RT}{s:Q}(h:Qr w R S ts s)(q:Int):Qr (w.setCell ⟨R,2,none⟩ (.int .i64 q)) R S ts ⟨s.k,q,s.E,s.F⟩:=
 ⟨by have:=Lib.heap_setCell_same h.row (i:=2) (v:=.int .i64 q); simpa using this,h.toks.gr ((Gr.refl R w).set 2 _)⟩
theorem Qr.set_f {w:World}{R:Nat}{S:Value}{ts:List RT}{s:Q}(h:Qr w R S ts s)(e a:Int):Qr ((w.setCell ⟨R,3,none⟩ (.int .i64 e)).setCell ⟨R,4,none⟩ (.int .i64 a)) R S ts ⟨s.k,s.o,e,a⟩:=by
 have h1:=Lib.heap_setCell_same h.row (i:=3) (v:=.int .i64 e)
 have h2:=Lib.heap_setCell_same h1 (i:=4) (v:=.int .i64 a)
 exact ⟨by simpa using h2,h.toks.gr (((Gr.refl R w).set 3 _).set 4 _)⟩
theorem zAr (w:World)(R:Nat)(S:Value)(ts:List RT)(s:Q)(h:Qr w R S ts s) :
 Calls Try.prog 21 #[.pointer (some ⟨R,0,none⟩)] w fun e w' => e = .returned (.bool (s.E == 0)) ∧ w = w':=by
 obtain ⟨⟨c0,c1,c2,c3,c4⟩,fr,hR⟩:=h.cells
 clear h
 go_in
 go_wp2
 go_ret
 exact ⟨rfl,rfl⟩
theorem zGS (w:World)(R:Nat)(S:Value)(ts:List RT)(s:Q)(h:Qr w R S ts s)(hk:¬ (0 ≤ s.k ∧ s.k < (ts.length:Int))) :
 Calls Try.prog 22 #[.pointer (some ⟨R,0,none⟩)] w fun e w' => e = .returned (tokW RT.none) ∧ Below w.heap.size w w':=by
 obtain ⟨⟨c0,c1,c2,c3,c4⟩,fr,hR⟩:=h.cells
 obtain ⟨p,n,c,rfl,hn,-⟩:=h.toks.val
 rw [hn] at hk
 obtain ⟨k,o,E,F⟩:=s
 dsimp only at c1 c2 c3 c4 hk
 clear h hn
 have hbel:=zF ((Below.refl w.heap.size w).alloc (Nat.le_refl _) (.cells #[.int .i64 0,.string ⟨#[]⟩,.int .i64 0,.int .i64 0] 71))
 by_cases h0:k < 0
 ·have hd0:decide (k < 0) = true:=decide_eq_true h0
  clear hk
  go_in
  go_wp2
  go_quiet (fail)
  go_wp2
  refine bodyPost_ret (v:=tokW RT.none) (by simp [tokW,RT.none,cbs,results,Try.results22,go_sem]) rfl ⟨rfl,?_⟩
  exact ((((hbel _).setCell (Nat.le_refl _) _).setCell (Nat.le_refl _) _).setCell (Nat.le_refl _) _).setCell (Nat.le_refl _) _
 ·have hd0:decide (k < 0) = false:=decide_eq_false h0
  have hd1:decide ((n:Int) ≤ k) = true:=decide_eq_true (by omega)
  clear hk
  go_in
  go_wp2
  go_quiet (fail)
  go_wp2
  refine bodyPost_ret (v:=tokW RT.none) (by simp [tokW,RT.none,cbs,results,Try.results22,go_sem]) rfl ⟨rfl,?_⟩
  exact ((((hbel _).setCell (Nat.le_refl _) _).setCell (Nat.le_refl _) _).setCell (Nat.le_refl _) _).setCell (Nat.le_refl _) _
theorem zIb (w:World)(R:Nat)(S:Value)(ts:List RT)(k o E F:Int)(h:Qr w R S ts ⟨k,o,E,F⟩)(hk0 : 0 ≤ k)(hk1:k < (ts.length:Int)) :
 Calls Try.prog 22 #[.pointer (some ⟨R,0,none⟩)] w fun e w' => e = .returned (tokW (tokAt ts k)) ∧ Below w.heap.size w w':=by
 obtain ⟨⟨c0,c1,c2,c3,c4⟩,fr,hR⟩:=h.cells
 obtain ⟨p,n,c,rfl,hn,hm⟩:=h.toks.val
 obtain ⟨q,rfl⟩:∃ q:Nat,k = q:=⟨k.toNat,by omega⟩
 have hq:q < ts.length:=by omega
 have ht:ts[q]? = some (tokAt ts q):=by
  rw [tokAt,if_pos ⟨hk0,by omega⟩,List.getElem?_eq_getElem hq]
  simp [List.getD,hq]
 generalize tokAt ts q = t at ht ⊢
 rcases hm with h0 | ⟨b,off,rfl,hb,hne,hc⟩
 ·omega
 obtain ⟨t0,t1,t2,t3⟩:=hc q t ht
 have hki:(q:Int) < (n:Int):=by omega
 have hkn:q < n:=by omega
 have hd0:decide ((q:Int) < 0) = false:=decide_eq_false (by omega)
 have hd1:decide ((n:Int) ≤ (q:Int)) = false:=decide_eq_false (by omega)
 have hd2:decide (n ≤ q) = false:=decide_eq_false (by omega)
 dsimp only at c1 c2 c3 c4
 clear h hn hc ht
 go_in
 go_wp2
 go_quiet (fail)
 go_wp2
 obtain ⟨wq,hwq⟩:∃ wq,wq = ((w.alloc (.cells #[.int .i64 0,.string ⟨#[]⟩,.int .i64 0,.int .i64 0] 71)).drewN nq):=⟨_,rfl⟩
 rw [← hwq]
 have hbel:Below w.heap.size w wq:=by rw [hwq]; exact zF ((Below.refl _ _).alloc (Nat.le_refl _) _) _
 rw [← hbel.cell (p:=⟨R,_,none⟩) hR] at c0 c1
 rw [← hbel.cell (p:=⟨b,_,none⟩) hb] at t0 t1 t2 t3
 have hblk:wq.heap[w.heap.size]? = some (.cells #[.int .i64 0,.string ⟨#[]⟩,.int .i64 0,.int .i64 0] 71 (0,0)):=by rw [hwq]; exact heap_alloc_new w _
 obtain ⟨⟨d0,d1,d2,d3⟩,g0,g1,g2,g3⟩:=quad hblk
 clear hwq hblk c2 c3 c4 fr hd0 hd1 hd2
 refine wp_region_still_tail 10 (by kernel_rfl) (by kernel_rfl) ?_
 simp only [List.take_succ_cons,List.take_zero,List.drop_succ_cons,List.drop_zero]
 change wpStill _ _ wq.drew _ _ _
 repeat still_step
 refine wpStill_nil ?_
 change wpList _ _ _ _ _ wq.drew
 go_wp2
 refine bodyPost_ret (v:=tokW t) (by simp [tokW,results,Try.results22,go_sem,d0,d1,d2,d3]) rfl ⟨rfl,?_⟩
 exact ((((zF hbel 1).setCell (Nat.le_refl _) _).setCell (Nat.le_refl _) _).setCell (Nat.le_refl _) _).setCell (Nat.le_refl _) _
theorem zAa (w:World)(R:Nat)(S:Value)(ts:List RT)(s:Q)(h:Qr w R S ts s) :
 Calls Try.prog 22 #[.pointer (some ⟨R,0,none⟩)] w fun e w' => e = .returned (tokW (tokAt ts s.k)) ∧ Below w.heap.size w w':=by
 by_cases hk : 0 ≤ s.k ∧ s.k < (ts.length:Int)
 ·obtain ⟨k,o,E,F⟩:=s
  exact zIb w R S ts k o E F h hk.1 hk.2
 ·rw [Px.tokAt_out hk]
  exact zGS w R S ts s h hk
theorem zG (w:World)(R:Nat)(S:Value)(ts:List RT)(s:Q)(h:Qr w R S ts s)(text:ByteArray)(h0 : 0 < text.size)(wd:Bool)(hw:wd = decide (97 ≤ (text[0].toNat:Int) ∧ (text[0].toNat:Int) ≤ 122)) :
 Calls Try.prog 23 #[.pointer (some ⟨R,0,none⟩),.string text] w fun e w' => e = .returned (.bool (Qe.is ts s wd text.data.toList)) ∧ Below w.heap.size w w':=by
 have ht:=zAa w R S ts s h
 have hok:∀ w1,Below w.heap.size w w1 → Calls Try.prog 21 #[.pointer (some ⟨R,0,none⟩)] w1 fun e w' => e = .returned (.bool (s.E == 0)) ∧ w1 = w':=fun w1 hb => zAr w1 R S ts s (h.go hb)
 unfold Qe.is isT
 generalize hT:tokAt ts s.k = T at ht ⊢
 unfold tokW at ht
 have htx:((cbs T.text).toList == text.toList) = (T.text == text.data.toList):=by rw [zI,Lib.toList_data]
 generalize (T.text == text.data.toList) = tx at htx ⊢
 have HT:=vH ht
 have HOK:=vH hok
 clear h hT ht hok
 generalize (s.E == 0) = e0 at HOK ⊢
 generalize hR:(e0 && (decide (T.kind = if wd = true then 3 else 4) && tx)) = res
 have HR:=vH hR
 have HW:=vH hw
 clear hR hw
 go_in
 go_wp2_with (first
  | (go_at_call 22; refine (HT.out).mono ?_; rintro e w1 ⟨rfl,hb1⟩)
  | (go_at_call 21; refine (HOK.out _ (hb1.alloc hb1.size _)).mono ?_; rintro e w1 ⟨rfl,rfl⟩))
 all_goals go_ret
 all_goals refine ⟨zGv ?_,hb1.alloc hb1.size _⟩
 all_goals (rw [← HR.out,HW.out]; clear HR HW HT HOK; try simp_all)
 all_goals (intro hk; rw [if_neg (by omega)] at hk; contradiction)
theorem zEU (w:World)(R:Nat)(S:Value)(ts:List RT)(s:Q)(h:Qr w R S ts s)(e:Int)(hE:(s.E == 0) = false) :
 Calls Try.prog 24 #[.pointer (some ⟨R,0,none⟩),.int .i64 e] w fun en w' => en = .returned (.tuple #[]) ∧ w = w':=by
 have hok:=zAr w R S ts s h
 rw [hE] at hok
 go_in
 go_wp2_with (first
  | (go_at_call 21; refine hok.mono ?_; rintro e w1 ⟨rfl,rfl⟩))
 first
  | refine bodyPost_end (results_none rfl _ _ _) rfl ⟨rfl,rfl⟩
  | refine bodyPost_ret (results_none rfl _ _ _) rfl ⟨rfl,rfl⟩
theorem zET (w:World)(R:Nat)(S:Value)(ts:List RT)(s:Q)(h:Qr w R S ts s)(e:Int)(hE:(s.E == 0) = true) :
 Calls Try.prog 24 #[.pointer (some ⟨R,0,none⟩),.int .i64 e] w fun en w' => en = .returned (.tuple #[]) ∧ Qr w' R S ts ⟨s.k,s.o,e,(tokAt ts s.k).at_⟩ ∧ Gr R w w':=by
 have hok:=zAr w R S ts s h
 rw [hE] at hok
 have ht:=zAa w R S ts s h
 generalize hT:tokAt ts s.k = T at ht ⊢
 unfold tokW at ht
 have HT:=vH ht
 have HOK:=vH hok
 have HH:=vH h
 have hfd:∀ w1:World,(Instr.field 71 (.agg #[.int .i64 T.kind,.string (cbs T.text),.int .i64 T.num,.int .i64 T.at_]) 3).run Try.prog w1 = .ok (.int .i64 T.at_) w1:=fun _ => by kernel_rfl
 clear ht hok h hT
 go_in
 go_wp2_with (first
  | (go_at_call 21; refine (HOK.out).mono ?_; rintro e w1 ⟨rfl,rfl⟩)
  | (go_at_call 22; refine (HT.out).mono ?_; rintro e w1 ⟨rfl,hb1⟩; have hr1:=HH.out.go hb1; obtain ⟨⟨c0,c1,c2,c3,c4⟩,fr,hRl⟩:=hr1.cells; have HR1:=vH hr1; clear hr1; have fr3:=fr 3; have fr4:=fr 4; clear fr))
 have hg:Gr R w ((w1.setCell ⟨R,3,none⟩ (.int .i64 e)).setCell ⟨R,4,none⟩ (.int .i64 T.at_)):=((Gr.of hb1).set 3 _).set 4 _
 first
  | exact bodyPost_end (results_none rfl _ _ _) rfl ⟨rfl,HR1.out.set_f e T.at_,hg⟩
  | exact bodyPost_ret (results_none rfl _ _ _) rfl ⟨rfl,HR1.out.set_f e T.at_,hg⟩
theorem zZ (w:World)(R:Nat)(S:Value)(ts:List RT)(s:Q)(h:Qr w R S ts s)(e:Int) :
 Calls Try.prog 24 #[.pointer (some ⟨R,0,none⟩),.int .i64 e] w fun en w' => en = .returned (.tuple #[]) ∧ Qr w' R S ts (Qe.fail ts s e) ∧ Gr R w w':=by
 unfold Qe.fail
 by_cases hE:s.E = 0
 ·rw [if_pos hE]
  exact zET w R S ts s h e (by rw [hE]; rfl)
 ·rw [if_neg hE]
  refine (zEU w R S ts s h e (by simpa using hE)).mono ?_
  rintro en w1 ⟨rfl,rfl⟩
  exact ⟨rfl,h,Gr.refl _ _⟩
theorem zId (w:World)(R:Nat)(S:Value)(ts:List RT)(s:Q)(h:Qr w R S ts s)(text:ByteArray)(h0 : 0 < text.size)(wd:Bool)(hw:wd = decide (97 ≤ (text[0].toNat:Int) ∧ (text[0].toNat:Int) ≤ 122))(hv:Qe.is ts s wd text.data.toList = true) :
 Calls Try.prog 27 #[.pointer (some ⟨R,0,none⟩),.string text] w fun en w' => en = .returned (.tuple #[]) ∧ Qr w' R S ts (Qe.next s) ∧ Gr R w w':=by
 have his:=zG w R S ts s h text h0 wd hw
 rw [hv] at his
 have HI:=vH his
 have HH:=vH h
 clear his h hv hw
 go_in
 go_wp2_with (first
  | (go_at_call 23; refine (HI.out).mono ?_; rintro e w1 ⟨rfl,hb1⟩; have hr1:=HH.out.go hb1; obtain ⟨⟨c0,c1,c2,c3,c4⟩,fr,hRl⟩:=hr1.cells; have HR1:=vH hr1; clear hr1; have fr1:=fr 1; clear fr))
 have hg:Gr R w (w1.setCell ⟨R,1,none⟩ (.int .i64 (inc s.k))):=(Gr.of hb1).set 1 _
 first
  | exact bodyPost_end (results_none rfl _ _ _) rfl ⟨rfl,HR1.out.set_k (inc s.k),hg⟩
  | exact bodyPost_ret (results_none rfl _ _ _) rfl ⟨rfl,HR1.out.set_k (inc s.k),hg⟩
theorem zIc (w:World)(R:Nat)(S:Value)(ts:List RT)(s:Q)(h:Qr w R S ts s)(text:ByteArray)(h0 : 0 < text.size)(wd:Bool)(hw:wd = decide (97 ≤ (text[0].toNat:Int) ∧ (text[0].toNat:Int) ≤ 122))(hv:Qe.is ts s wd text.data.toList = false) :
 Calls Try.prog 27 #[.pointer (some ⟨R,0,none⟩),.string text] w fun en w' => en = .returned (.tuple #[]) ∧ Qr w' R S ts (Qe.fail ts s 2) ∧ Gr R w w':=by
 have his:=zG w R S ts s h text h0 wd hw
 rw [hv] at his
 have HI:=vH his
 have HH:=vH h
 clear his h hv hw
 go_in
 go_wp2_with (first
  | (go_at_call 23; refine (HI.out).mono ?_; rintro e w1 ⟨rfl,hb1⟩)
  | (go_at_call 24; refine (zZ w1 R S ts s (HH.out.go hb1) 2).mono ?_; rintro e w2 ⟨rfl,hr2,hg2⟩; have HR2:=vH hr2; clear hr2))
 first
  | exact bodyPost_end (results_none rfl _ _ _) rfl ⟨rfl,HR2.out,(Gr.of hb1).trans hg2⟩
  | exact bodyPost_ret (results_none rfl _ _ _) rfl ⟨rfl,HR2.out,(Gr.of hb1).trans hg2⟩
theorem zH (w:World)(R:Nat)(S:Value)(ts:List RT)(s:Q)(h:Qr w R S ts s)(text:ByteArray)(h0 : 0 < text.size)(wd:Bool)(hw:wd = decide (97 ≤ (text[0].toNat:Int) ∧ (text[0].toNat:Int) ≤ 122)) :
 Calls Try.prog 27 #[.pointer (some ⟨R,0,none⟩),.string text] w fun en w' => en = .returned (.tuple #[]) ∧ Qr w' R S ts (Qe.take ts s wd text.data.toList) ∧ Gr R w w':=by
 unfold Qe.take
 cases hv:Qe.is ts s wd text.data.toList with
 | true => exact zId w R S ts s h text h0 wd hw hv
 | false => exact zIc w R S ts s h text h0 wd hw hv
def NoLetter (text:ByteArray):Prop:=∃ h0 : 0 < text.size,decide (97 ≤ (text[0].toNat:Int) ∧ (text[0].toNat:Int) ≤ 122) = false
theorem zGV (w:World)(R:Nat)(S:Value)(ts:List RT)(s:Q)(h:Qr w R S ts s)(text:ByteArray)(ht:NoLetter text)(hv:Qe.is ts s false text.data.toList = true)(ho:decide (50 ≤ s.o) = true) :
 Calls Try.prog 54 #[.pointer (some ⟨R,0,none⟩),.string text] w fun en w' => en = .returned (.tuple #[]) ∧ Qr w' R S ts (Qe.fail ts s 4) ∧ Gr R w w':=by
 have his:=zG w R S ts s h text ht.1 false ht.2.symm
 rw [hv] at his
 have HI:=vH his
 have HH:=vH h
 clear his h hv ht
 go_in
 go_wp2_with (first
  | (go_at_call 23; refine (HI.out).mono ?_; rintro e w1 ⟨rfl,hb1⟩; have hr1:=HH.out.go hb1; obtain ⟨⟨c0,c1,c2,c3,c4⟩,fr,hRl⟩:=hr1.cells; have fr2:=fr 2; clear fr; have HR1:=vH hr1; clear hr1)
  | (go_at_call 24; refine (zZ w1 R S ts s HR1.out 4).mono ?_; rintro e w2 ⟨rfl,hr2,hg2⟩; have HR2:=vH hr2; clear hr2))
 first
  | exact bodyPost_end (results_none rfl _ _ _) rfl ⟨rfl,HR2.out,(Gr.of hb1).trans hg2⟩
  | exact bodyPost_ret (results_none rfl _ _ _) rfl ⟨rfl,HR2.out,(Gr.of hb1).trans hg2⟩
theorem zGU (w:World)(R:Nat)(S:Value)(ts:List RT)(s:Q)(h:Qr w R S ts s)(text:ByteArray)(ht:NoLetter text)(hv:Qe.is ts s false text.data.toList = true)(ho:decide (50 ≤ s.o) = false) :
 Calls Try.prog 54 #[.pointer (some ⟨R,0,none⟩),.string text] w fun en w' => en = .returned (.tuple #[]) ∧ Qr w' R S ts ⟨(Qe.take ts s false text.data.toList).k,inc (Qe.take ts s false text.data.toList).o,(Qe.take ts s false text.data.toList).E,(Qe.take ts s false text.data.toList).F⟩ ∧ Gr R w w':=by
 have his:=zG w R S ts s h text ht.1 false ht.2.symm
 rw [hv] at his
 have htk:=fun w1 hh => zH w1 R S ts s hh text ht.1 false ht.2.symm
 generalize Qe.take ts s false text.data.toList = s2 at htk ⊢
 have HI:=vH his
 have HTK:=vH htk
 have HH:=vH h
 clear his h hv ht htk
 go_in
 go_wp2_with (first
  | (go_at_call 23; refine (HI.out).mono ?_; rintro e w1 ⟨rfl,hb1⟩; have hr1:=HH.out.go hb1; obtain ⟨⟨c0,c1,c2,c3,c4⟩,fr,hRl⟩:=hr1.cells; clear fr; have HR1:=vH hr1; clear hr1)
  | (go_at_call 27; refine (HTK.out w1 HR1.out).mono ?_; rintro e w2 ⟨rfl,hr2,hg2⟩; clear c0 c1 c2 c3 c4 hRl; obtain ⟨⟨c0,c1,c2,c3,c4⟩,fr,hRl⟩:=hr2.cells; have fr2:=fr 2; clear fr; have HR2:=vH hr2; clear hr2))
 have hg:Gr R w (w2.setCell ⟨R,2,none⟩ (.int .i64 (inc s2.o))):=((Gr.of hb1).trans hg2).set 2 _
 first
  | exact bodyPost_end (results_none rfl _ _ _) rfl ⟨rfl,HR2.out.set_o (inc s2.o),hg⟩
  | exact bodyPost_ret (results_none rfl _ _ _) rfl ⟨rfl,HR2.out.set_o (inc s2.o),hg⟩
theorem zGT (w:World)(R:Nat)(S:Value)(ts:List RT)(s:Q)(h:Qr w R S ts s)(text:ByteArray)(ht:NoLetter text)(hv:Qe.is ts s false text.data.toList = false) :
 Calls Try.prog 54 #[.pointer (some ⟨R,0,none⟩),.string text] w fun en w' => en = .returned (.tuple #[]) ∧ Qr w' R S ts ⟨(Qe.take ts s false text.data.toList).k,inc (Qe.take ts s false text.data.toList).o,(Qe.take ts s false text.data.toList).E,(Qe.take ts s false text.data.toList).F⟩ ∧ Gr R w w':=by
 have his:=zG w R S ts s h text ht.1 false ht.2.symm
 rw [hv] at his
 have htk:=fun w1 hh => zH w1 R S ts s hh text ht.1 false ht.2.symm
 generalize Qe.take ts s false text.data.toList = s2 at htk ⊢
 have HI:=vH his
 have HTK:=vH htk
 have HH:=vH h
 clear his h hv ht htk
 go_in
 go_wp2_with (first
  | (go_at_call 23; refine (HI.out).mono ?_; rintro e w1 ⟨rfl,hb1⟩; have HR1:=vH (HH.out.go hb1))
  | (go_at_call 27; refine (HTK.out w1 HR1.out).mono ?_; rintro e w2 ⟨rfl,hr2,hg2⟩; obtain ⟨⟨c0,c1,c2,c3,c4⟩,fr,hRl⟩:=hr2.cells; have fr2:=fr 2; clear fr; have HR2:=vH hr2; clear hr2))
 have hg:Gr R w (w2.setCell ⟨R,2,none⟩ (.int .i64 (inc s2.o))):=((Gr.of hb1).trans hg2).set 2 _
 first
  | exact bodyPost_end (results_none rfl _ _ _) rfl ⟨rfl,HR2.out.set_o (inc s2.o),hg⟩
  | exact bodyPost_ret (results_none rfl _ _ _) rfl ⟨rfl,HR2.out.set_o (inc s2.o),hg⟩
theorem zAm (w:World)(R:Nat)(S:Value)(ts:List RT)(s:Q)(h:Qr w R S ts s)(text:ByteArray)(ht:NoLetter text) :
 Calls Try.prog 54 #[.pointer (some ⟨R,0,none⟩),.string text] w fun en w' => en = .returned (.tuple #[]) ∧ Qr w' R S ts (Qe.opens ts s text.data.toList) ∧ Gr R w w':=by
 unfold Qe.opens
 cases hv:Qe.is ts s false text.data.toList with
 | true =>
   cases ho:decide (50 ≤ s.o) with
   | true => exact zGV w R S ts s h text ht hv ho
   | false => exact zGU w R S ts s h text ht hv ho
 | false => exact zGT w R S ts s h text ht hv
theorem zAk (w:World)(R:Nat)(S:Value)(ts:List RT)(s:Q)(h:Qr w R S ts s)(text:ByteArray)(ht:NoLetter text) :
 Calls Try.prog 56 #[.pointer (some ⟨R,0,none⟩),.string text] w fun en w' => en = .returned (.tuple #[]) ∧ Qr w' R S ts (Qe.closes ts s text.data.toList) ∧ Gr R w w':=by
 have htk:=zH w R S ts s h text ht.1 false ht.2.symm
 unfold Qe.closes
 generalize Qe.take ts s false text.data.toList = s2 at htk ⊢
 have HTK:=vH htk
 clear h ht htk
 go_in
 go_wp2_with (first
  | (go_at_call 27; refine (HTK.out).mono ?_; rintro e w2 ⟨rfl,hr2,hg2⟩; obtain ⟨⟨c0,c1,c2,c3,c4⟩,fr,hRl⟩:=hr2.cells; have fr2:=fr 2; clear fr; have HR2:=vH hr2; clear hr2))
 have hg:Gr R w (w2.setCell ⟨R,2,none⟩ (.int .i64 (dec s2.o))):=hg2.set 2 _
 first
  | exact bodyPost_end (results_none rfl _ _ _) rfl ⟨rfl,HR2.out.set_o (dec s2.o),hg⟩
  | exact bodyPost_ret (results_none rfl _ _ _) rfl ⟨rfl,HR2.out.set_o (dec s2.o),hg⟩
end Go.Proofs.Ytjleggpbghmobaa
