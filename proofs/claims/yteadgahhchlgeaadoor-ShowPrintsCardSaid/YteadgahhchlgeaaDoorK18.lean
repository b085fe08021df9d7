/-
  The contracts of the project's reader: a field.
-/
import Derived.Test.YteadgahhchlgeaaDoorK03
import Derived.Test.YteadgahhchlgeaaDoorK07
import Derived.Test.YteadgahhchlgeaaDoorK04
import Derived.Test.YteadgahhchlgeaaDoorK14
import Derived.Test.YteadgahhchlgeaaDoorK02
import Derived.Test.YteadgahhchlgeaaDoorK16
import Derived.Test.YteadgahhchlgeaaDoorK17
import Derived.Deep.RegionHeld3
import Derived.Laws.StructEq
import Derived.Shelf.Abstract
import Derived.Deep.RegionWith
import Derived.Deep.RegionLawGrows
import Derived.Lib.SmallJoins
import Derived.ChangeArms
import Derived.ChangeSame
import Derived.Deep.Slices
set_option maxRecDepth 8000
set_option maxHeartbeats 8000000
namespace Go.Proofs.YteadgahhchlgeaaDoor
open Go.RowKit
open Px (RT tokAt)
open Pe
theorem zMJ {B R:Nat}{w w1 w2:World}(h:Below B w w1)(hg:Gr R w1 w2)(hR:B ≤ R)(hB:B ≤ w1.heap.size):Below B w w2:=
 ⟨hg.os.trans h.os,hg.tape.trans h.tape,hg.output.trans h.output,Nat.le_trans h.size hg.size,fun i hi => (hg.block i (by omega) (by omega)).trans (h.block i hi)⟩
theorem zHP {w w1:World}(h:Below w.heap.size w w1){N:Nat}(hN:w.heap.size ≤ N){c0 c1 c2 c3 c4 c5 c6 c7 c8 c9 c10:Value}:Below w.heap.size w (((((((((((w1.setCell ⟨N,0,none⟩ c0).setCell ⟨N,1,none⟩ c1).setCell ⟨N,2,none⟩ c2).setCell ⟨N,3,none⟩ c3).setCell ⟨N,4,none⟩ c4).setCell ⟨N,5,none⟩ c5).setCell ⟨N,6,none⟩ c6).setCell ⟨N,7,none⟩ c7).setCell ⟨N,8,none⟩ c8).setCell ⟨N,9,none⟩ c9).setCell ⟨N,10,none⟩ c10):=(zAs (zAs (zAs (zAs (zAs (zAs (zAs (zAs (zAs (zAs (zAs h hN) hN) hN) hN) hN) hN) hN) hN) hN) hN) hN)
open Ps (Sm PX)
section
variable {w w':World} {R M1 M2:Nat} {S:Value} {ts:List RT} {s s':St}
end
theorem szB (wb:World)(o:Obj):(wb.alloc o).drew.heap.size = wb.heap.size + 1:=zC _ _
def Sk (R:Nat)(x y:Value)(w:World):Prop:=(w.cell? ⟨R,0,none⟩ = some x ∧ w.cell? ⟨R,1,none⟩ = some y) ∧ R < w.heap.size
theorem Sk.a {R:Nat}{x y:Value}{w:World}(h:Sk R x y w):w.cell? ⟨R,0,none⟩ = some x:=h.1.1
theorem Sk.b {R:Nat}{x y:Value}{w:World}(h:Sk R x y w):w.cell? ⟨R,1,none⟩ = some y:=h.1.2
theorem Sk.c {R:Nat}{x y:Value}{w:World}(h:Sk R x y w):R < w.heap.size:=h.2
theorem Sk.all {R:Nat}{x y:Value}{w:World}(h:Sk R x y w):w.cell? ⟨R,0,none⟩ = some x ∧ w.cell? ⟨R,1,none⟩ = some y ∧ R < w.heap.size:=⟨h.1.1,h.1.2,h.2⟩
theorem Sk.below {R:Nat}{x y:Value}{w w':World}(h:Sk R x y w)(hb:Below w.heap.size w w'):Sk R x y w':=
 ⟨⟨by rw [hb.cell (p:=⟨R,0,none⟩) h.2]; exact h.1.1,by rw [hb.cell (p:=⟨R,1,none⟩) h.2]; exact h.1.2⟩,Nat.lt_of_lt_of_le h.2 hb.size⟩
theorem Sk.alloc {R:Nat}{x y:Value}{w:World}{o:Obj}(h:Sk R x y w):Sk R x y (w.alloc o):=h.below ((Below.refl _ _).alloc (Nat.le_refl _) _)
theorem Sk.drew {R:Nat}{x y:Value}{w:World}(h:Sk R x y w):Sk R x y w.drew:=h.below (Below.refl _ _).drew
theorem Sk.put {R:Nat}{x y:Value}{w:World}{b i:Nat}{u:Value}(h:Sk R x y w)(hb:b ≠ R):Sk R x y (w.setCell ⟨b,i,none⟩ u):=by
 have hc:=zB6 (Below.heap_setCell w ⟨b,i,none⟩ u R (Ne.symm hb))
 exact ⟨⟨(hc 0).trans h.1.1,(hc 1).trans h.1.2⟩,by rw [zY]; exact h.2⟩
section
variable {w w3 W:World} {R M1 M2 B:Nat} {S:Value} {ts:List RT} {s:St}
end
section
variable {σ:Type} {w wr:World} {R:Nat} {K : σ → World → Prop} {s s2 : σ} {L:List (Nat × Obj)} {T:List (Nat × World)}
theorem Fr.put1 {b:Nat}{Ty:TypeId}{A A2:Array Value}(h:Fr w R K s L T wr)(i:Nat)(hi:L[i]? = some (b,.cells A Ty (0,0)))(j:Nat)(u:Value)(hA:A.setIfInBounds j u = A2):Fr w R K s (L.set i (b,.cells A2 Ty (0,0))) T (wr.setCell ⟨b,j,none⟩ u):=
 h.set i hi rfl u _ (zAR (h.keep _ (List.mem_of_getElem? hi)).1 j u hA)
theorem zAl {α:Type}{L:List α}{i:Nat}{a : α}(hi:L[i]? = some a)(b : α):(L.set i b)[i]? = some b:=List.getElem?_set_self (List.getElem?_eq_some_iff.1 hi).1
theorem Fr.put9 {b:Nat}{Ty:TypeId}{c0 c1 c2 c3 c4 c5 c6 c7 c8 x0 x1 x2 x3 x4 x5 x6 x7 x8:Value}(h:Fr w R K s L T wr)(i:Nat)(hi:L[i]? = some (b,.cells #[x0,x1,x2,x3,x4,x5,x6,x7,x8] Ty (0,0))):Fr w R K s (L.set i (b,.cells #[c0,c1,c2,c3,c4,c5,c6,c7,c8] Ty (0,0))) T (((((((((wr.setCell ⟨b,0,none⟩ c0).setCell ⟨b,1,none⟩ c1).setCell ⟨b,2,none⟩ c2).setCell ⟨b,3,none⟩ c3).setCell ⟨b,4,none⟩ c4).setCell ⟨b,5,none⟩ c5).setCell ⟨b,6,none⟩ c6).setCell ⟨b,7,none⟩ c7).setCell ⟨b,8,none⟩ c8):=by
 have h0:=h.put1 i hi 0 c0 (A2:=#[c0,x1,x2,x3,x4,x5,x6,x7,x8]) rfl
 have h1:=h0.put1 i (zAl hi _) 1 c1 (A2:=#[c0,c1,x2,x3,x4,x5,x6,x7,x8]) rfl
 rw [List.set_set] at h1
 have h2:=h1.put1 i (zAl hi _) 2 c2 (A2:=#[c0,c1,c2,x3,x4,x5,x6,x7,x8]) rfl
 rw [List.set_set] at h2
 have h3:=h2.put1 i (zAl hi _) 3 c3 (A2:=#[c0,c1,c2,c3,x4,x5,x6,x7,x8]) rfl
 rw [List.set_set] at h3
 have h4:=h3.put1 i (zAl hi _) 4 c4 (A2:=#[c0,c1,c2,c3,c4,x5,x6,x7,x8]) rfl
 rw [List.set_set] at h4
 have h5:=h4.put1 i (zAl hi _) 5 c5 (A2:=#[c0,c1,c2,c3,c4,c5,x6,x7,x8]) rfl
 rw [List.set_set] at h5
 have h6:=h5.put1 i (zAl hi _) 6 c6 (A2:=#[c0,c1,c2,c3,c4,c5,c6,x7,x8]) rfl
 rw [List.set_set] at h6
 have h7:=h6.put1 i (zAl hi _) 7 c7 (A2:=#[c0,c1,c2,c3,c4,c5,c6,c7,x8]) rfl
 rw [List.set_set] at h7
 have h8:=h7.put1 i (zAl hi _) 8 c8 (A2:=#[c0,c1,c2,c3,c4,c5,c6,c7,c8]) rfl
 rw [List.set_set] at h8
 exact h8
theorem Fr.pw {b:Nat}{Ty:TypeId}{x0 x1 x2 x3 x4 x5 x6 x7 x8:Value}(h:Fr w R K s L T wr)(i:Nat)(hi:L[i]? = some (b,.cells #[x0,x1,x2,x3,x4,x5,x6,x7,x8] Ty (0,0)))(c0 c1 c2 c3 c4 c5 c6 c7 c8:Value):Fr w R K s (L.set i (b,.cells #[c0,c1,c2,c3,c4,c5,c6,c7,c8] Ty (0,0))) T (((((((((wr.setCell ⟨b,0,none⟩ c0).setCell ⟨b,1,none⟩ c1).setCell ⟨b,2,none⟩ c2).setCell ⟨b,3,none⟩ c3).setCell ⟨b,4,none⟩ c4).setCell ⟨b,5,none⟩ c5).setCell ⟨b,6,none⟩ c6).setCell ⟨b,7,none⟩ c7).setCell ⟨b,8,none⟩ c8):=h.put9 i hi
theorem Fr.put11 {b:Nat}{Ty:TypeId} {c0 c1 c2 c3 c4 c5 c6 c7 c8 c9 c10 x0 x1 x2 x3 x4 x5 x6 x7 x8 x9 x10:Value}(h:Fr w R K s L T wr)(i:Nat)(hi:L[i]? = some (b,.cells #[x0,x1,x2,x3,x4,x5,x6,x7,x8,x9,x10] Ty (0,0))):Fr w R K s (L.set i (b,.cells #[c0,c1,c2,c3,c4,c5,c6,c7,c8,c9,c10] Ty (0,0))) T (((((((((((wr.setCell ⟨b,0,none⟩ c0).setCell ⟨b,1,none⟩ c1).setCell ⟨b,2,none⟩ c2).setCell ⟨b,3,none⟩ c3).setCell ⟨b,4,none⟩ c4).setCell ⟨b,5,none⟩ c5).setCell ⟨b,6,none⟩ c6).setCell ⟨b,7,none⟩ c7).setCell ⟨b,8,none⟩ c8).setCell ⟨b,9,none⟩ c9).setCell ⟨b,10,none⟩ c10):=by
 have h0:=h.put1 i hi 0 c0 (A2:=#[c0,x1,x2,x3,x4,x5,x6,x7,x8,x9,x10]) rfl
 have h1:=h0.put1 i (zAl hi _) 1 c1 (A2:=#[c0,c1,x2,x3,x4,x5,x6,x7,x8,x9,x10]) rfl
 rw [List.set_set] at h1
 have h2:=h1.put1 i (zAl hi _) 2 c2 (A2:=#[c0,c1,c2,x3,x4,x5,x6,x7,x8,x9,x10]) rfl
 rw [List.set_set] at h2
 have h3:=h2.put1 i (zAl hi _) 3 c3 (A2:=#[c0,c1,c2,c3,x4,x5,x6,x7,x8,x9,x10]) rfl
 rw [List.set_set] at h3
 have h4:=h3.put1 i (zAl hi _) 4 c4 (A2:=#[c0,c1,c2,c3,c4,x5,x6,x7,x8,x9,x10]) rfl
 rw [List.set_set] at h4
 have h5:=h4.put1 i (zAl hi _) 5 c5 (A2:=#[c0,c1,c2,c3,c4,c5,x6,x7,x8,x9,x10]) rfl
 rw [List.set_set] at h5
 have h6:=h5.put1 i (zAl hi _) 6 c6 (A2:=#[c0,c1,c2,c3,c4,c5,c6,x7,x8,x9,x10]) rfl
 rw [List.set_set] at h6
 have h7:=h6.put1 i (zAl hi _) 7 c7 (A2:=#[c0,c1,c2,c3,c4,c5,c6,c7,x8,x9,x10]) rfl
 rw [List.set_set] at h7
 have h8:=h7.put1 i (zAl hi _) 8 c8 (A2:=#[c0,c1,c2,c3,c4,c5,c6,c7,c8,x9,x10]) rfl
 rw [List.set_set] at h8
 have h9:=h8.put1 i (zAl hi _) 9 c9 (A2:=#[c0,c1,c2,c3,c4,c5,c6,c7,c8,c9,x10]) rfl
 rw [List.set_set] at h9
 have h10:=h9.put1 i (zAl hi _) 10 c10 (A2:=#[c0,c1,c2,c3,c4,c5,c6,c7,c8,c9,c10]) rfl
 rw [List.set_set] at h10
 exact h10
theorem Fr.alloc2 (h:Fr w R K s L T wr)(o:Obj){b:Nat}(hb:wr.heap.size = b):Fr w R K s ((b,o) :: L) T (wr.alloc o):=by
 subst hb
 exact h.alloc o
end
section
variable {w wr:World} {R M1 M2:Nat} {S:Value} {ts:List RT} {s:St} {L:List (Nat × Obj)} {T:List (Nat × World)}
end
end Go.Proofs.YteadgahhchlgeaaDoor
namespace Go.Proofs.YteadgahhchlgeaaDoor
open Go.RowKit
open Px (RT tokAt)
open Pe
open Ps (Sm PX)
theorem KidsAt.own {w:World}{base B n c:Nat}{p:Option Addr}{l:List Ex}{vss:List (List Value)}(h:w.ownsRow base 45 11 (.slice p n c) l.length vss.flatten)(hB:B ≤ base)(hl:vss.length = l.length)
 (hi:∀ (i:Nat) e vs,l[i]? = some e → vss[i]? = some vs → Is w B e vs):KidsAt w B p l:=by
 rcases h.2 with ⟨hv,h0⟩ | ⟨g,cap,cur,hv,hb,hc,hn,hcap,hsize,htake⟩
 ·exact .inl (List.eq_nil_of_length_eq_zero h0)
 ·simp only [Value.slice.injEq] at hv
  obtain ⟨rfl,rfl,rfl⟩:=hv
  refine .inr ⟨g,0,rfl,zA hc,Nat.le_trans hB hb,At.of_row hc l 0 vss hl hi fun i hlt => ?_⟩
  rw [← htake] at hlt ⊢
  have hlt2:i < l.length * 11:=by simp at hlt; omega
  simp [hlt2]
theorem Is.kind {w:World}{B:Nat}{e:Ex}{zk zn:Int}{zs zo:List UInt8}{zd:Int}{kv:Value}{za zb zr ze zf:Int}(h:Is w B e (exCells zk zn zs zo zd kv za zb zr ze zf)):Ps.kindOf e = zk ∧ cbs (Ps.nameOf e) = cbs zs:=by
 cases e
 rw [Is] at h
 obtain ⟨p,c,hv,-⟩:=h
 simp only [exCells,List.cons.injEq,Value.int.injEq,Value.string.injEq,true_and] at hv
 exact ⟨hv.1.symm,hv.2.2.1.symm⟩
theorem SIs.named {w:World}{B:Nat}{x:Sm}{kind:Int}{name ofn n2:List UInt8}{dims:Int}{ev bv lv:Value}{at_ ref:Int}(h:SIs w B x (smCells kind n2 ofn dims ev bv lv at_ ref))(hn:cbs n2 = cbs name):SIs w B x (smCells kind name ofn dims ev bv lv at_ ref):=by
 have:smCells kind name ofn dims ev bv lv at_ ref = smCells kind n2 ofn dims ev bv lv at_ ref:=by simp only [smCells,hn]
 rw [this]
 exact h
theorem zNs {w:World}{B:Nat}{e e2:Ex}{vs vs2:List Value}(h:Is w B e vs)(h2:Is w B e2 vs2):∀ (i:Nat) e' vs',[e,e2][i]? = some e' → [vs,vs2][i]? = some vs' → Is w B e' vs'
 | 0,e',vs',he,hv => by
   simp at he hv
   subst he hv
   exact h
 | 1,e',vs',he,hv => by
   simp at he hv
   subst he hv
   exact h2
 | i + 2,e',vs',he,hv => by simp at he
theorem zSF {w w2:World}(h:w.grownBy w2 none):Below w.heap.size w w2:=⟨h.os,h.tape,h.output,h.size,fun k hk => h.block k hk (by simp)⟩
theorem Fr.grown {σ:Type}{w wa w8:World}{R:Nat}{K : σ → World → Prop}{s : σ}{L:List (Nat × Obj)}{T:List (Nat × World)}(h:Fr w R K s L T wa)(hg:wa.grownBy w8 none):Fr w R K s L ((wa.heap.size,w8) :: T) w8:=
 (h.go (zSF hg)).tree h.gr.size fun p hp => zA (h.keep p hp).1
theorem Fr.tail {σ:Type}{w wr:World}{R:Nat}{K : σ → World → Prop}{s : σ}{a:Nat × Obj}{L:List (Nat × Obj)}{T:List (Nat × World)}(h:Fr w R K s (a :: L) T wr):Fr w R K s L T wr:=
 ⟨h.rd,h.gr,h.lt,h.held,fun p hp => h.keep p (List.Mem.tail _ hp),(List.pairwise_cons.1 h.nd).2,h.ag,fun p hp => h.sep p (List.Mem.tail _ hp)⟩
end Go.Proofs.YteadgahhchlgeaaDoor
namespace Go.Proofs.YteadgahhchlgeaaDoor
open Go.RowKit
open Px (RT tokAt isT)
open Pe (inc dec Ex)
open Qe (Q)
open Ps (Sm kindOf nameOf)
def QrK (R:Nat)(S:Value)(ts:List RT)(s:Q)(w:World):Prop:=Qr w R S ts s
section
variable {w wr:World} {R:Nat} {S:Value} {ts:List RT} {s:Q} {L:List (Nat × Obj)} {T:List (Nat × World)}
theorem Fr.ofq (h:Qr w R S ts s):Fr w R (QrK R S ts) s [] [] w:=Fr.start (QrK R S ts) h h.lt fun _ _ _ n hA => Qr.fin h hA n
theorem Fr.qr (h:Fr w R (QrK R S ts) s L T wr):Qr wr R S ts s:=h.rd
theorem Fr.setk (h:Fr w R (QrK R S ts) s L T wr):Fr w R (QrK R S ts) (Qe.next s) L T (wr.setCell ⟨R,1,none⟩ (.int .i64 (inc s.k))):=
 h.step (h.qr.set_k (inc s.k)) ((Gr.refl R wr).set 1 _)
end
def QStPost (w:World)(R:Nat)(S:Value)(ts:List RT)(x:Sm × Q)(e:Ending)(w':World):Prop:=
 ∃ (kind:Int) (name ofn:List UInt8) (dims:Int) (ep:Option Addr) (el ec:Nat) (bp:Option Addr) (bl bc:Nat) (lp:Option Addr) (ll lc:Nat) (at_ ref:Int),
   e = .returned (.agg #[.int .i64 kind,.string (cbs name),.string (cbs ofn),.int .i64 dims,.slice ep el ec,.slice bp bl bc,.slice lp ll lc,.int .i64 at_,.int .i64 ref]) ∧
   SIs w' w.heap.size x.1 (smCells kind name ofn dims (.slice ep el ec) (.slice bp bl bc) (.slice lp ll lc) at_ ref) ∧ Qr w' R S ts x.2 ∧ Gr R w w'
def QBlPost (w:World)(R:Nat)(S:Value)(ts:List RT)(x:List Sm × Q)(e:Ending)(w':World):Prop:=
 ∃ (p:Option Addr) (c:Nat),e = .returned (.slice p x.1.length (x.1.length + c)) ∧ SsAt w' w.heap.size p x.1 ∧ Qr w' R S ts x.2 ∧ Gr R w w'
def QXOk (ts:List RT)(rx:Qs.RX):Prop:=∀ (s:Q)(x:Ex × Q),rx s = some x → ∀ (w:World)(R:Nat)(S:Value),Qr w R S ts s →
 Calls Tryd.prog 32 #[.pointer (some ⟨R,0,none⟩),.int .i64 0] w (QPost w.heap.size w R S ts x)
def QBlOk (ts:List RT)(recB:Q → Qs.OutB):Prop:=∀ (s:Q)(x:List Sm × Q),recB s = some x → ∀ (w:World)(R:Nat)(S:Value),Qr w R S ts s →
 Calls Tryd.prog 40 #[.pointer (some ⟨R,0,none⟩)] w (QBlPost w R S ts x)
def QStOk (ts:List RT)(recS:Q → Qs.Out):Prop:=∀ (s:Q)(x:Sm × Q),recS s = some x → ∀ (w:World)(R:Nat)(S:Value),Qr w R S ts s →
 Calls Tryd.prog 72 #[.pointer (some ⟨R,0,none⟩)] w (QStPost w R S ts x)
theorem zSo (ts:List RT)(f:Nat)(hf:f ≤ 1000000000):QXOk ts (Qe.run ts f 0):=fun s x hx w R S h => zJF ts f hf 0 s x (by decide) hx w R S h
theorem KidsAt.two {w:World}{B bl:Nat}{T:TypeId}{e e2:Ex}{vs vs2:List Value}{A:Array Value}(hb:w.heap[bl]? = some (.cells A T (0,0)))(hne:B ≤ bl)(hi:Is w B e vs)(hi2:Is w B e2 vs2)(hA:A = ⟨vs ++ vs2⟩):KidsAt w B (some ⟨bl,0,none⟩) [e,e2]:=by
 subst hA
 refine .inr ⟨bl,0,rfl,zA hb,hne,At.of_row hb [e,e2] 0 [vs,vs2] rfl (zNs hi hi2) fun i _ => ?_⟩
 simp
end Go.Proofs.YteadgahhchlgeaaDoor
namespace Go.Proofs.YteadgahhchlgeaaDoor.Ln
open Go.RowKit
theorem refTokens_any (s:ByteArray)(hs:s.size ≤ maxLen)(w:World) :
 Calls Tryd.prog 11 #[.string s] w (TokRes s.data.toList w):=by
 by_cases hlong : 6000 < s.size
 ·have HL:Hid (6000 < s.data.toList.length):=by show _ < _; rw [zBm]; exact hlong
  go_in
  go_wp2
  exact bodyPost_ret (v:=.tuple #[.slice none 0 0,.agg #[.int .i64 4,.int .i64 0]]) (by simp [results,Tryd.results11,go_sem]) rfl (zLh HL.out ((Below.refl _ _).alloc (Nat.le_refl _) _))
 ·have hsz:s.size ≤ 6000:=by omega
  have HL:Hid (s.data.toList.length ≤ 6000):=by show _ ≤ _; rw [zBm]; exact hsz
  obtain ⟨k0,hk0⟩:∃ k,Lx.skipS false s.data.toList = k:=⟨_,rfl⟩
  have hk0s:k0 ≤ s.size:=by have:=Lx.skipS_le s.data.toList false; rw [zBm] at this; omega
  have HK0:Hid (0 + Lx.skipS false (s.data.toList.drop 0) = k0):=by show _ = _; rw [List.drop_zero,hk0]; omega
  have HS:=vH (TokLoop.start (w:=w) hk0)
  obtain ⟨i0,hi,hz0,hz1,hz2⟩:=info_parts zOn
  clear hk0
  go_in
  go_wp2_with (go_at_call 30; refine (zC5 s hs _ 0 k0 rfl (by omega) HK0.out _).mono ?_; rintro e w' ⟨rfl,rfl⟩)
  go_loopw [4,5] (fun v i wr => ∃ (k:Nat) (ts:List Lx.Tk),k ≤ s.size ∧ i = .int .i64 k ∧ TokLoop s.data.toList w ts k v wr) (fun _ i _ => s.size - (intOf i).toNat)
  case atStart => exact ⟨k0,[],hk0s,rfl,HS.out⟩
  case round =>
   obtain ⟨k,ts,hk,rfl,hT⟩:=hrel
   have HT:=vH hT
   clear hT
   by_cases hlt:k < s.size
   ·have hscan:=zIe s hsz k k rfl hlt wr
    cases hone:Lx.one (s.data.toList.drop k)
    ·rw [hone,zKa] at hscan
     have HC:=vH hscan
     have HO:=vH hone
     clear hscan hone
     go_wp2_with (go_at_call 31; refine HC.out.mono ?_; rintro e w1 ⟨rfl,hb1⟩; obtain ⟨⟨d0,d1⟩,⟨g0,g1⟩,hz⟩:=box2 ((hb1.block _ (zBS HT.out.blk)).trans HT.out.blk))
     refine bodyPost_ret (v:=.tuple #[.slice none 0 0,.agg #[.int .i64 1,.int .i64 k]]) (by simp [results,Tryd.results11,go_sem,d0,d1,hz]) rfl (zJu HL.out (Lx.come_fault HT.out.come (by rw [zBm]; exact hlt) HO.out) ?_)
     exact (((zDm HT.out.bel hb1).setCell (Nat.le_refl _) _).setCell (Nat.le_refl _) _).alloc (by simp [World.setCell]; omega) _
    ·rename_i o
     obtain ⟨kind,text,num,m⟩:=o
     obtain ⟨p,hp⟩:∃ p,k + m = p:=⟨_,rfl⟩
     rw [hone,zJ9] at hscan
     have hlen:=(Lx.one_len hone).2
     have hlen0:=(Lx.one_len hone).1
     rw [List.length_drop,zBm] at hlen
     have hps:p ≤ s.size:=by omega
     have hkp:k < p:=by omega
     obtain ⟨q,hq⟩:∃ q,p + Lx.skipS false (s.data.toList.drop p) = q:=⟨_,rfl⟩
     have hqs:q ≤ s.size:=by
      have:=Lx.skipS_le (s.data.toList.drop p) false
      rw [List.length_drop,zBm] at this
      omega
     have hpq:p ≤ q:=by omega
     have hpk:(k:Int) + (m:Int) ≤ (s.size:Int):=by omega
     have hm0:((m:Int) == 0) = false:=beq_eq_false_iff_ne.2 (by omega)
     have hpi:(k:Int) + (m:Int) = (p:Int):=by omega
     have HPI:=vH hpi
     have hfew:=HT.out.few
     have HC:=vH hscan
     have HO:=vH hone
     have HP:=vH hp
     have HQ:=vH hq
     clear hscan hone hp hq hlen hlen0 hpi
     go_wp2_with (first
      | (go_at_call 31; refine HC.out.mono ?_; rintro e w1 ⟨rfl,hb1⟩; obtain ⟨⟨d0,d1⟩,⟨g0,g1⟩,hz⟩:=box2 ((hb1.block _ (zBS HT.out.blk)).trans HT.out.blk))
      | (at_builtin; refine wpList_append_own _ rfl _ _ 36 rfl (w.heap.size + 1) 71 i0 _ 4 40 Tryd.underlying36 hi hz0 hz1 hz2 rfl (by decide) _ ts.length (cellsOf ts) rfl (((zJ2 HT.out.own hb1).alloc _).alloc _) ⟨w1.heap.size + 1,0,none⟩ 1 1 (tokCells ⟨kind,text,num,k⟩) rfl rfl ?c1 ?c2 ?c3 ?c4 ?c5 ?_))
     case c1 => exact zQj _ _ _ _ _ _ _ (by simp)
     case c2 => exact zI4 _
     case c3 => unfold maxLen; omega
     case c4 => omega
     case c5 => simp; omega
     intro v' w2 hown' hgrow _
     have HT2:=vH (HT.out.next (by rw [zBm]; exact hlt) HO.out HP.out HQ.out hb1 hgrow hown')
     clear hown' hgrow
     go_wp2_with (go_at_call 30; refine (zC5 s hs _ p q HPI.out hps HQ.out _).mono ?_; rintro e w' ⟨rfl,rfl⟩)
     go_roundw
     case rel => exact ⟨q,_,hqs,rfl,HT2.out⟩
     case measure => simp [intOf]; omega
   ·have hfew:=HT.out.few
    have hzb:=zBS HT.out.blk
    go_wp2_with (at_builtin; refine wpList_append_own _ rfl _ _ 36 rfl (w.heap.size + 1) 71 i0 _ 4 40 Tryd.underlying36 hi hz0 hz1 hz2 rfl (by decide) _ ts.length (cellsOf ts) rfl (HT.out.own.alloc _) ⟨wr.heap.size,0,none⟩ 1 1 (tokCells ⟨0,[],0,s.size⟩) rfl rfl ?e1 ?e2 ?e3 ?e4 ?e5 ?_)
    case e1 => exact zQj _ _ _ _ _ _ _ rfl
    case e2 => exact zI4 _
    case e3 => unfold maxLen; omega
    case e4 => omega
    case e5 => simp; omega
    intro v' w2 hown' hgrow _
    obtain ⟨⟨d0,d1⟩,⟨g0,g1⟩,hz⟩:=box2 (HT.out.blk_last hgrow)
    have hbel:=HT.out.bel_last hgrow
    obtain ⟨A,c,rfl,_⟩:=zDG hown'
    have HO:=vH hown'
    clear hown' hgrow
    go_wp2
    refine bodyPost_ret (v:=.tuple #[.slice A (ts.length + 1:Nat) c,.agg #[.int .i64 0,.int .i64 0]]) (by simp [results,Tryd.results11,go_sem,d0,d1]) rfl (zPT HL.out (Lx.come_end HT.out.come (by rw [zBm]; omega)) ?_ rfl ?_)
    ·exact (hbel.setCell (Nat.le_refl _) _).setCell (Nat.le_refl _) _
    ·rw [zBm]
     exact zKj HO.out _ _
end Go.Proofs.YteadgahhchlgeaaDoor.Ln

namespace Go.Proofs.YteadgahhchlgeaaDoor
open Go.RowKit
open Px (RT tokAt)
open Pe
def toRT (t:Ln.Lx.Tk):RT:=⟨t.kind,t.text,t.num,t.at_⟩
theorem zHO:∀ (us:List Ln.Lx.Tk)(j:Nat)(t:Ln.Lx.Tk),us[j]? = some t → (Ln.cellsOf us)[j * 4]? = some (.int .i64 t.kind) ∧ (Ln.cellsOf us)[j * 4 + 1]? = some (.string (cbs t.text)) ∧ (Ln.cellsOf us)[j * 4 + 2]? = some (.int .i64 t.num) ∧ (Ln.cellsOf us)[j * 4 + 3]? = some (.int .i64 t.at_)
 | [],j,t,h => by simp at h
 | u :: us,0,t,h => by
   simp at h
   subst h
   exact ⟨rfl,rfl,rfl,rfl⟩
 | u :: us,j + 1,t,h => by
   have:=zHO us j t (by simpa using h)
   have hl:(Ln.tokCells u).length = 4:=rfl
   refine ⟨?_,?_,?_,?_⟩ <;> rw [Ln.cellsOf,List.flatMap_cons]
   ·rw [List.getElem?_append_right (by omega),hl,show (j + 1) * 4 - 4 = j * 4 from by omega]; exact this.1
   ·rw [List.getElem?_append_right (by omega),hl,show (j + 1) * 4 + 1 - 4 = j * 4 + 1 from by omega]; exact this.2.1
   ·rw [List.getElem?_append_right (by omega),hl,show (j + 1) * 4 + 2 - 4 = j * 4 + 2 from by omega]; exact this.2.2.1
   ·rw [List.getElem?_append_right (by omega),hl,show (j + 1) * 4 + 3 - 4 = j * 4 + 3 from by omega]; exact this.2.2.2
theorem zI2 {w:World}{A:Option Addr}{c:Nat}{us:List Ln.Lx.Tk}(h:Ln.Lies w w.heap.size A (Ln.cellsOf us))(hs:∀ t ∈ us,t.text.length ≤ 281474976710656):Toks w w.heap.size (.slice A us.length c) (us.map toRT):=by
 refine ⟨⟨A,us.length,c,rfl,by simp,?_⟩,fun t ht => ?_⟩
 ·cases us with
  | nil => exact .inl rfl
  | cons u us =>
    obtain ⟨g,hA,hg,hc⟩:=h (by simp [Ln.cellsOf,Ln.tokCells])
    refine .inr ⟨g,0,hA,hg,Nat.ne_of_lt hg,fun j t ht => ?_⟩
    rw [List.getElem?_map,Option.map_eq_some_iff] at ht
    obtain ⟨t',ht',rfl⟩:=ht
    obtain ⟨h0,h1,h2,h3⟩:=zHO (u :: us) j t' ht'
    rw [show 0 + j * 4 = j * 4 by omega]
    exact ⟨hc _ _ h0,hc _ _ h1,hc _ _ h2,hc _ _ h3⟩
 ·obtain ⟨t',ht',rfl⟩:=List.mem_map.1 ht
  exact hs t' ht'
theorem zLP {r:List UInt8}{kind:Nat}{text:List UInt8}{num m:Nat}(h:Ln.Lx.one r = some (kind,text,num,m)):text.length ≤ r.length:=by
 unfold Ln.Lx.one at h
 split at h
 ·cases h
 ·rename_i c r'
  split at h
  ·split at h
   ·simp only [Option.some.injEq,Prod.mk.injEq] at h
    rw [← h.2.1,List.length_take]; omega
   ·split at h
    ·simp only [Option.some.injEq,Prod.mk.injEq] at h
     rw [← h.2.1,List.length_take]; omega
    ·cases h
  ·split at h
   ·split at h
    ·cases h
    ·simp only [Option.some.injEq,Prod.mk.injEq] at h
     rw [← h.2.1]; exact Nat.zero_le _
   ·split at h
    ·cases h
    ·rename_i g hg
     simp only [Option.some.injEq,Prod.mk.injEq] at h
     have:=Ln.Lx.signAt_le hg
     rw [← h.2.1]; exact this
theorem zFX:∀ (f k:Nat)(r:List UInt8)(ts:List Ln.Lx.Tk),Ln.Lx.lexF f k r = .ok ts → ∀ t ∈ ts,t.text.length ≤ r.length
 | 0,_,_,_,h => by simp [Ln.Lx.lexF] at h
 | f + 1,k,[],ts,h => by
   simp only [Ln.Lx.lexF] at h
   injection h with h
   rw [← h]; intro t ht; cases ht
 | f + 1,k,c :: r,ts,h => by
   rw [Ln.Lx.lexF] at h
   split at h
   ·cases h
   ·rename_i kind text num m h1
    have hm:=zLP h1
    split at h
    ·cases h
    ·rename_i us hu
     have:=zFX f _ _ us hu
     injection h with h
     rw [← h]
     intro t ht
     rcases List.mem_cons.1 ht with rfl | ht
     ·exact hm
     ·have:=this t ht
      rw [List.length_drop] at this
      omega
theorem zFx (l:List UInt8):∀ t ∈ (Ln.Lx.toks l).1,t.text.length ≤ 281474976710656:=by
 unfold Ln.Lx.toks
 by_cases h : 6000 < l.length
 ·rw [if_pos h]; intro t ht; cases ht
 ·rw [if_neg h]
  cases h2:Ln.Lx.lexAll l with
  | error k => intro t ht; cases ht
  | ok ts =>
    intro t ht
    rcases List.mem_append.1 ht with ht | ht
    ·have:=zFX _ _ _ ts h2 t ht
     rw [List.length_drop] at this
     omega
    ·rw [List.mem_singleton] at ht
     subst ht
     exact Nat.zero_le _
theorem zHV (s:ByteArray)(hs:s.size ≤ maxLen)(us:List Ln.Lx.Tk)(E K:Nat)(h:Ln.Lx.toks s.data.toList = (us,E,K))(w:World) :
 Calls Tryd.prog 11 #[.string s] w fun e w' => ∃ (A:Option Addr) (c:Nat),e = .returned (.tuple #[.slice A us.length c,.agg #[.int .i64 E,.int .i64 K]]) ∧ Ln.Lies w' w'.heap.size A (Ln.cellsOf us) ∧ Below w.heap.size w w':=by
 have:=Ln.refTokens_any s hs w
 unfold Ln.TokRes at this
 rw [h] at this
 exact this
end Go.Proofs.YteadgahhchlgeaaDoor
namespace Go.Proofs.YteadgahhchlgeaaDoor
open Go.RowKit Go.ChangeShapes Go.WideShapes Go.ChangeAt Go.ChangeMaps
open Px (RT tokAt)
open Pe
section
variable {H:Type} {enc:TypeId × Value → H} {w:World} {sp:Nat → Bool} {held:Bool}
end
mutual
theorem zEh:∀ x y:Ex,sameE x y = sameE y x
 | .mk k n s o d ks a b r e f,.mk k2 n2 s2 o2 d2 ks2 a2 b2 r2 e2 f2 => by
   rw [sameE,sameE,zEg ks ks2,BEq.comm (a:=k) (b:=k2),BEq.comm (a:=n) (b:=n2),BEq.comm (a:=s) (b:=s2),BEq.comm (a:=o) (b:=o2),BEq.comm (a:=d) (b:=d2),BEq.comm (a:=b) (b:=b2),BEq.comm (a:=r) (b:=r2),BEq.comm (a:=e) (b:=e2),BEq.comm (a:=f) (b:=f2)]
theorem zEg:∀ xs ys:List Ex,sameL xs ys = sameL ys xs
 | [],[] => rfl
 | [],_ :: _ => by simp only [sameL]
 | _ :: _,[] => by simp only [sameL]
 | e :: es,e2 :: es2 => by rw [sameL,sameL,zEh e e2,zEg es es2]
end
def put:Ex → Int → Ex
 | .mk k n s o d ks _ b r e f,a => .mk k n s o d ks a b r e f
end Go.Proofs.YteadgahhchlgeaaDoor
namespace Go.Proofs.YteadgahhchlgeaaDoor
open Go.RowKit
open Px (RT tokAt)
open Pe
end Go.Proofs.YteadgahhchlgeaaDoor
