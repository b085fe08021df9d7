/-
  The contracts of the project's reader of statements: any sta
-/
import Derived.Test.YtjleggpbghmobaaK01
import Derived.Test.YtjleggpbghmobaaK08
import Derived.Test.YtjleggpbghmobaaK16
import Derived.Test.YtjleggpbghmobaaK18
import Derived.Deep.LoopGhost
import Derived.Maps.AppendAt
import Derived.Deep.RegionWith
import Derived.Deep.RegionHeld3
import Derived.Deep.RegionLawGrows
import Derived.RegionTactic
set_option maxRecDepth 8000
set_option maxHeartbeats 8000000
namespace Go.Proofs.Ytjleggpbghmobaa
open Go.RowKit
open Px (RT tokAt)
open Pe
open Ps (Sm PX)
def SBut (g:Option Nat)(w:World)(B:Nat)(x:Sm)(vs:List Value):Prop:=
 ∀ w':World,w.heap.size ≤ w'.heap.size → (∀ bl,B ≤ bl → bl < w.heap.size → some bl ≠ g → w'.heap[bl]? = w.heap[bl]?) → SIs w' B x vs
section
variable {g g':Option Nat} {w w1:World} {B B2:Nat} {x:Sm} {vs:List Value}
theorem SBut.now (h:SBut g w B x vs):SIs w B x vs:=h w (Nat.le_refl _) fun _ _ _ _ => rfl
theorem SBut.of (h:SIs w B2 x vs)(hB:B ≤ B2)(hg:∀ k,g = some k → k < B2):SBut g w B x vs:=
 fun w' hs hk => SIs.lower hB _ (SIs.ag ⟨hs,fun bl h1 h2 => hk bl (Nat.le_trans hB h1) h2 (fun e => by have:=hg _ e.symm; omega)⟩ _ h)
theorem SBut.go (h:SBut g w B x vs)(hs:w.heap.size ≤ w1.heap.size)(hk:∀ bl,B ≤ bl → bl < w.heap.size → some bl ≠ g → w1.heap[bl]? = w.heap[bl]?):SBut g w1 B x vs:=
 fun w' hs' hk' => h w' (Nat.le_trans hs hs') fun bl h1 h2 h3 => (hk' bl h1 (Nat.lt_of_lt_of_le h2 hs) h3).trans (hk bl h1 h2 h3)
theorem SBut.move (h:SBut g w B x vs)(hs:w.heap.size ≤ w1.heap.size)(hk:∀ bl,B ≤ bl → bl < w.heap.size → some bl ≠ g → w1.heap[bl]? = w.heap[bl]?)(hg:g' = g ∨ ∃ k,g' = some k ∧ w.heap.size ≤ k):SBut g' w1 B x vs:=by
 rcases hg with rfl | ⟨k,rfl,hge⟩
 ·exact h.go hs hk
 ·exact fun w' hs' hk' => h w' (Nat.le_trans hs hs') fun bl h1 h2 h3 => (hk' bl h1 (Nat.lt_of_lt_of_le h2 hs) (fun e => by injection e with e; omega)).trans (hk bl h1 h2 h3)
end
theorem SAt.of_row {w:World}{B bl:Nat}{T:TypeId}{A:Array Value}(hb:w.heap[bl]? = some (.cells A T (0,0))):∀ (xs:List Sm)(off:Nat)(vss:List (List Value)),vss.length = xs.length → (∀ (i:Nat) x vs,xs[i]? = some x → vss[i]? = some vs → SIs w B x vs) →
 (∀ (i:Nat),i < vss.flatten.length → A[off + i]? = vss.flatten[i]?) → SAt w B bl off xs
 | [],_,_,_,_,_ => by rw [SAt]; trivial
 | x :: xs,off,[],hl,_,_ => by simp at hl
 | x :: xs,off,vs :: vss,hl,hi,hc => by
   rw [SAt]
   have h0:=hi 0 x vs rfl rfl
   have hlen:=h0.len
   refine ⟨⟨vs,h0,fun i v hv => ?_⟩,SAt.of_row hb xs (off + 9) vss (by simpa using hl) (fun i e vs he hvs => hi (i + 1) e vs he hvs) fun i hlt => ?_⟩
   ·have hlt:i < vs.length:=(List.getElem?_eq_some_iff.1 hv).1
    rw [cell_of_row _ _ _ _ _ _ hb,hc i (by simp; omega),List.flatten_cons,List.getElem?_append_left hlt,hv]
   ·have:=hc (9 + i) (by simp at hlt ⊢; omega)
    rw [List.flatten_cons,List.getElem?_append_right (by omega),hlen,show 9 + i - 9 = i by omega] at this
    rw [← this]
    congr 1
    omega
structure SmSt (w wr:World) (R:Nat) (v:Value) (l:List Sm):Prop where
 gr:Gr R w wr
 own:∃ vss:List (List Value),vss.length = l.length ∧ wr.ownsRow w.heap.size 114 9 v l.length vss.flatten ∧ ∀ (i:Nat) e vs,l[i]? = some e → vss[i]? = some vs → SBut v.ownBlock wr w.heap.size e vs
section
variable {w wr w' w1 w3:World} {R:Nat} {v v':Value} {l:List Sm}
theorem SmSt.start (hg:Gr R w wr):SmSt w wr R (.slice none 0 0) []:=⟨hg,[],rfl,World.ownsRow_nil _ _ _ _,fun i e vs h _ => by simp at h⟩
theorem SmSt.go (h:SmSt w wr R v l)(hlt:R < w.heap.size)(hg:Gr R wr w'):SmSt w w' R v l:=by
 obtain ⟨vss,h1,h2,h3⟩:=h.own
 exact ⟨h.gr.trans hg,vss,h1,zFT h2 hg hlt,fun i e vs he hv => (h3 i e vs he hv).go hg.size fun bl hb hl _ => hg.block bl hl (by omega)⟩
theorem SmSt.own_lt (h:SmSt w wr R v l):∀ k,v.ownBlock = some k → w.heap.size ≤ k ∧ k < wr.heap.size:=by
 obtain ⟨vss,h1,h2,h3⟩:=h.own
 exact fun k hk => h2.lt k hk
theorem SmSt.push {x:Sm}{vs:List Value}{T:TypeId}{A:Array Value}(_hlt:R < w.heap.size)(h:SmSt w w1 R v l)(hwr:∀ k,v.ownBlock = some k → k < wr.heap.size)(hB:w.heap.size ≤ wr.heap.size)
 (hi:SIs w1 wr.heap.size x vs) {vss:List (List Value)} (hl:vss.length = l.length) (hk:∀ (i:Nat) e vs,l[i]? = some e → vss[i]? = some vs → SBut v.ownBlock w1 w.heap.size e vs)
 (hown:w3.ownsRow w.heap.size 114 9 v' (l.length + 1) (vss.flatten ++ vs)) (hgrow:(w1.alloc (.cells A T)).grownBy w3 v.ownBlock) (hat:v'.ownBlock = v.ownBlock ∨ v'.ownBlock = some (w1.heap.size + 1)) :
 SmSt w w3 R v' (l ++ [x]) ∧ Nw R w w1 w3:=by
 have hsz:w.heap.size ≤ w1.heap.size:=h.gr.size
 have ha:∀ bl,bl < w1.heap.size → (w1.alloc (.cells A T)).heap[bl]? = w1.heap[bl]?:=fun bl hb => heap_alloc_old _ _ hb
 have hgb:∀ bl,bl < w1.heap.size → some bl ≠ v.ownBlock → w3.heap[bl]? = w1.heap[bl]?:=fun bl hb hne => (hgrow.block bl (by rw [zB]; omega) hne).trans (ha bl hb)
 have hs3:w1.heap.size ≤ w3.heap.size:=by have:=hgrow.size; rw [zB] at this; omega
 have hlow:∀ bl,bl < w.heap.size → w3.heap[bl]? = w1.heap[bl]?:=fun bl hb => hgb bl (by omega) (fun e => by have:=(h.own_lt bl e.symm).1; omega)
 have hn:Nw R w w1 w3:=⟨⟨hgrow.os,hgrow.tape,hgrow.output,hs3,hlow⟩,⟨hgrow.os.trans h.gr.os,hgrow.tape.trans h.gr.tape,hgrow.output.trans h.gr.output,Nat.le_trans hsz hs3,fun i hi hne => (hlow i hi).trans (h.gr.block i hi hne)⟩⟩
 refine ⟨⟨hn.gr,vss ++ [vs],by simp [hl],by simpa using hown,fun i e' vs' he hv => ?_⟩,hn⟩
 have hnew:v'.ownBlock = v.ownBlock ∨ ∃ k,v'.ownBlock = some k ∧ w1.heap.size ≤ k:=by
  rcases hat with h1 | h1
  ·exact .inl h1
  ·exact .inr ⟨_,h1,by omega⟩
 have hlen:vss.length = l.length:=hl
 by_cases hi':i < l.length
 ·rw [List.getElem?_append_left hi'] at he
  rw [List.getElem?_append_left (by omega)] at hv
  exact (hk i e' vs' he hv).move hs3 (fun bl _ hb hne => hgb bl hb hne) hnew
 ·have hieq:i = l.length:=by
   have:=(List.getElem?_eq_some_iff.1 he).1
   simp at this
   omega
  subst hieq
  simp at he
  rw [← hlen] at hv
  simp at hv
  subst he hv
  exact (SBut.of (g:=v.ownBlock) hi hB hwr).move hs3 (fun bl _ hb hne => hgb bl hb hne) hnew
theorem SmSt.done (h:SmSt w wr R v l):∃ p c,v = .slice p l.length c ∧ SsAt wr w.heap.size p l:=by
 obtain ⟨vss,h1,h2,h3⟩:=h.own
 rcases h2.2 with ⟨hv,h0⟩ | ⟨g,cap,cur,hv,hb,hc,hn,hcap,hsize,htake⟩
 ·have:l = []:=List.eq_nil_of_length_eq_zero h0
  subst this
  exact ⟨none,0,by rw [hv]; rfl,.inl rfl⟩
 ·refine ⟨_,cap,by rw [hv],.inr ⟨g,0,rfl,zA hc,hb,SAt.of_row hc l 0 vss h1 (fun i e vs he hvs => (h3 i e vs he hvs).now) fun i hlt => ?_⟩⟩
  rw [← htake] at hlt ⊢
  have hlt2:i < l.length * 9:=by simp at hlt; omega
  simp [hlt2]
end
theorem zJm (kind:Int)(name ofn:List UInt8)(dims:Int)(p:Option Addr)(n c:Nat)(p2:Option Addr)(n2 c2:Nat)(p3:Option Addr)(n3 c3:Nat)(at_ ref:Int):∀ u ∈ smCells kind name ofn dims (.slice p n c) (.slice p2 n2 c2) (.slice p3 n3 c3) at_ ref,u.oneCell' = true:=by
 intro u hu
 simp [smCells] at hu
 rcases hu with rfl | rfl | rfl | rfl | rfl | rfl | rfl | rfl | rfl <;> rfl
theorem zJN:(Try.prog.info? 114).map (fun i => (i.zero,i.size,i.bytes)) = some (some (.agg #[.int .i64 0,.string ⟨#[]⟩,.string ⟨#[]⟩,.int .i64 0,.slice none 0 0,.slice none 0 0,.slice none 0 0,.int .i64 0,.int .i64 0]),9,136):=by kernel_rfl
end Go.Proofs.Ytjleggpbghmobaa
namespace Go.Proofs.Ytjleggpbghmobaa
open Go.RowKit
open Px (RT tokAt)
open Pe
open Ps (Sm PX)
open Pg (BX Pm)
section
variable {w w':World} {R:Nat} {S:Value} {ts:List RT} {s s':Cs}
end
section
variable {w wr w':World} {R:Nat} {S:Value} {ts:List RT} {s s':Cs} {L:List (Nat × Obj)} {T:List (Nat × World)}
end
theorem Fr.drew {σ:Type}{w wr:World}{R:Nat}{K : σ → World → Prop}{s : σ}{L:List (Nat × Obj)}{T:List (Nat × World)}(h:Fr w R K s L T wr):Fr w R K s L T wr.drew:=h.go (Below.refl _ _).drew
theorem Fr.put4 {σ:Type}{w wr:World}{R:Nat}{K : σ → World → Prop}{s : σ}{L:List (Nat × Obj)}{T:List (Nat × World)}{b:Nat}{Ty:TypeId}{c0 c1 c2 c3 x0 x1 x2 x3:Value}(h:Fr w R K s L T wr)(i:Nat)(hi:L[i]? = some (b,.cells #[x0,x1,x2,x3] Ty (0,0))) :
 Fr w R K s (L.set i (b,.cells #[c0,c1,c2,c3] Ty (0,0))) T ((((wr.setCell ⟨b,0,none⟩ c0).setCell ⟨b,1,none⟩ c1).setCell ⟨b,2,none⟩ c2).setCell ⟨b,3,none⟩ c3):=by
 have h0:=h.put1 i hi 0 c0 (A2:=#[c0,x1,x2,x3]) rfl
 have h1:=h0.put1 i (zX hi _) 1 c1 (A2:=#[c0,c1,x2,x3]) rfl
 rw [List.set_set] at h1
 have h2:=h1.put1 i (zX hi _) 2 c2 (A2:=#[c0,c1,c2,x3]) rfl
 rw [List.set_set] at h2
 have h3:=h2.put1 i (zX hi _) 3 c3 (A2:=#[c0,c1,c2,c3]) rfl
 rw [List.set_set] at h3
 exact h3
theorem Fr.below1 {σ:Type}{w wr:World}{R:Nat}{K : σ → World → Prop}{s : σ}{p q:Nat × Obj}{L:List (Nat × Obj)}{T:List (Nat × World)}(h:Fr w R K s (p :: q :: L) T wr):q.1 ≠ p.1:=Nat.ne_of_lt ((List.pairwise_cons.1 h.nd).1 _ vA)
def pmCells (x:Pm):List Value:=[.string (cbs x.name),.string (cbs x.ofn),.int .i64 x.dims,.int .i64 x.at_]
def pmW (x:Pm):Value:=.agg #[.string (cbs x.name),.string (cbs x.ofn),.int .i64 x.dims,.int .i64 x.at_]
theorem zGd:(Try.prog.info? 76).map (fun i => (i.zero,i.size,i.bytes)) = some (some (.agg #[.string ⟨#[]⟩,.string ⟨#[]⟩,.int .i64 0,.int .i64 0]),4,48):=by kernel_rfl
structure Gb (B R:Nat) (w w':World):Prop where
 os:w'.os = w.os
 tape:w'.tape = w.tape
 output:w'.output = w.output
 size:w.heap.size ≤ w'.heap.size
 block:∀ i,i < B → i ≠ R → w'.heap[i]? = w.heap[i]?
theorem Gb.of {B R:Nat}{w w':World}(h:Gr R w w')(hB:B ≤ w.heap.size):Gb B R w w':=⟨h.os,h.tape,h.output,h.size,fun i hi hn => h.block i (Nat.lt_of_lt_of_le hi hB) hn⟩
theorem Gb.trans {B R:Nat}{w w1 w2:World}(h:Gb B R w w1)(g:Gb B R w1 w2):Gb B R w w2:=
 ⟨g.os.trans h.os,g.tape.trans h.tape,g.output.trans h.output,Nat.le_trans h.size g.size,fun i hi hn => (g.block i hi hn).trans (h.block i hi hn)⟩
theorem Gb.after {R:Nat}{w w1 w2:World}(h:Gr R w w1)(g:Gb w.heap.size R w1 w2):Gr R w w2:=
 ⟨g.os.trans h.os,g.tape.trans h.tape,g.output.trans h.output,Nat.le_trans h.size g.size,fun i hi hn => (g.block i hi hn).trans (h.block i hi hn)⟩
theorem Gb.grown {B R:Nat}{w w':World}{v:Value}(h:w.grownBy w' v.ownBlock)(hv:∀ k,v.ownBlock = some k → B ≤ k)(hB:B ≤ w.heap.size):Gb B R w w':=
 ⟨h.os,h.tape,h.output,h.size,fun i hi _ => h.block i (Nat.lt_of_lt_of_le hi hB) (fun e => by have:=hv i e.symm; omega)⟩
theorem zT {w:World}{base n sz:Nat}{T:TypeId}{v:Value}{xs:List Value}(h:w.ownsRow base T sz v n xs):∃ p c,v = .slice p n c:=by
 rcases h.2 with ⟨rfl,rfl⟩ | ⟨g,cap,cur,rfl,-⟩
 ·exact ⟨none,0,rfl⟩
 ·exact ⟨_,cap,rfl⟩
theorem zFN (x:Pm):∀ u ∈ pmCells x,u.oneCell' = true:=by
 intro u hu
 simp [pmCells] at hu
 rcases hu with rfl | rfl | rfl | rfl <;> rfl
theorem zDk (l:List Pm)(x:Pm):(l ++ [x]).flatMap pmCells = l.flatMap pmCells ++ pmCells x:=by simp
section
variable {wz w w' w3:World} {R B:Nat} {S v v':Value} {ts:List RT} {l:List Pm} {s s':Cs}
end
end Go.Proofs.Ytjleggpbghmobaa
namespace Go.Proofs.Ytjleggpbghmobaa
open Go.RowKit
open Px (RT tokAt)
open Pe
open Ps (Sm PX)
open Pg (BX Pm Rc Fc Gm)
def PsAt (w:World)(B:Nat)(q:Option Addr)(l:List Pm):Prop:=
 l = [] ∨ ∃ bl off,q = some ⟨bl,off,none⟩ ∧ bl < w.heap.size ∧ B ≤ bl ∧ ∀ (i:Nat) v,(l.flatMap pmCells)[i]? = some v → w.cell? ⟨bl,off + i,none⟩ = some v
theorem PsAt.nil {w:World}{B:Nat}{q:Option Addr}:PsAt w B q []:=.inl rfl
theorem PsAt.ag {w w':World}{B:Nat}{p:Option Addr}{l:List Pm}(h:PsAt w B p l)(g:Ag B w w'):PsAt w' B p l:=by
 rcases h with h0 | ⟨bl,off,hp,hb,hne,ha⟩
 ·exact .inl h0
 ·exact .inr ⟨bl,off,hp,Nat.lt_of_lt_of_le hb g.size,hne,fun i v hv => by rw [zAP (g.block bl hne hb)]; exact ha i v hv⟩
theorem PsAt.lower {w:World}{B B2:Nat}{q:Option Addr}{l:List Pm}(h:PsAt w B q l)(hB:B2 ≤ B):PsAt w B2 q l:=by
 rcases h with h0 | ⟨bl,off,hp,hb,hne,ha⟩
 ·exact .inl h0
 ·exact .inr ⟨bl,off,hp,hb,Nat.le_trans hB hne,ha⟩
theorem PsAt.own {w:World}{B:Nat}{p:Option Addr}{n c:Nat}{l:List Pm}{T:TypeId}(h:w.ownsRow B T 4 (.slice p n c) l.length (l.flatMap pmCells)):n = l.length ∧ PsAt w B p l:=by
 rcases h.2 with ⟨hv,h0⟩ | ⟨g,cap,cur,hv,hb,hc,hn,hcap,hsize,htake⟩
 ·obtain rfl:=List.eq_nil_of_length_eq_zero h0
  injection hv with _ hn
  exact ⟨hn,.inl rfl⟩
 ·injection hv with hp hn' _
  refine ⟨hn',.inr ⟨g,0,hp,zA hc,hb,fun i v hv => ?_⟩⟩
  have:=World.ownsRow.cells ⟨h.1,.inr ⟨g,cap,cur,rfl,hb,hc,hn,hcap,hsize,htake⟩⟩ (g:=g) rfl i v hv
  have hadd:(⟨g,0,none⟩:Addr).add i = ⟨g,i,none⟩:=by unfold Addr.add; split <;> simp_all
  rw [hadd] at this
  rw [Nat.zero_add]
  exact this
theorem tri {w1:World}{B:Nat}{T:TypeId}{c0 c1 c2:Value}(h:w1.heap[B]? = some (.cells #[c0,c1,c2] T (0,0))) :
 (w1.cell? ⟨B,0,none⟩ = some c0 ∧ w1.cell? ⟨B,1,none⟩ = some c1 ∧ w1.cell? ⟨B,2,none⟩ = some c2) ∧
 w1.frozen? ⟨B,0,none⟩ = false ∧ w1.frozen? ⟨B,1,none⟩ = false ∧ w1.frozen? ⟨B,2,none⟩ = false:=by
 refine ⟨⟨?_,?_,?_⟩,?_,?_,?_⟩ <;> first | exact frozen_of_row _ _ _ _ _ h | (rw [cell_of_row _ _ _ _ _ _ h]; rfl)
theorem sept {w1:World}{B:Nat}{T:TypeId}{c0 c1 c2 c3 c4 c5 c6:Value}(h:w1.heap[B]? = some (.cells #[c0,c1,c2,c3,c4,c5,c6] T (0,0))) :
 (w1.cell? ⟨B,0,none⟩ = some c0 ∧ w1.cell? ⟨B,1,none⟩ = some c1 ∧ w1.cell? ⟨B,2,none⟩ = some c2 ∧ w1.cell? ⟨B,3,none⟩ = some c3 ∧ w1.cell? ⟨B,4,none⟩ = some c4 ∧ w1.cell? ⟨B,5,none⟩ = some c5 ∧ w1.cell? ⟨B,6,none⟩ = some c6) ∧
 w1.frozen? ⟨B,0,none⟩ = false ∧ w1.frozen? ⟨B,1,none⟩ = false ∧ w1.frozen? ⟨B,2,none⟩ = false ∧ w1.frozen? ⟨B,3,none⟩ = false ∧ w1.frozen? ⟨B,4,none⟩ = false ∧ w1.frozen? ⟨B,5,none⟩ = false ∧ w1.frozen? ⟨B,6,none⟩ = false:=by
 refine ⟨⟨?_,?_,?_,?_,?_,?_,?_⟩,?_,?_,?_,?_,?_,?_,?_⟩ <;> first | exact frozen_of_row _ _ _ _ _ h | (rw [cell_of_row _ _ _ _ _ _ h]; rfl)
def RIs (w:World)(B:Nat)(x:Rc)(vs:List Value):Prop:=∃ p c,vs = [.string (cbs x.name),.slice p x.fields.length c,.int .i64 x.at_] ∧ PsAt w B p x.fields
def FIs (w:World)(B:Nat)(x:Fc)(vs:List Value):Prop:=
 ∃ p c q d,vs = [.string (cbs x.name),.slice p x.params.length c,.bool x.has,.string (cbs x.rn),.int .i64 x.rd,.slice q x.body.length d,.int .i64 x.at_] ∧ PsAt w B p x.params ∧ SsAt w B q x.body
section
variable {w wr w':World} {R B b:Nat} {S v v':Value} {ts:List RT} {nm:List UInt8} {a:Int} {l l':List Pm} {s s':Cs}
end
def But (I:World → Prop)(ex:Nat → Prop)(B:Nat)(w:World):Prop:=
 ∀ w':World,w.heap.size ≤ w'.heap.size → (∀ bl,B ≤ bl → bl < w.heap.size → ¬ ex bl → w'.heap[bl]? = w.heap[bl]?) → I w'
section
variable {I:World → Prop} {ex ex':Nat → Prop} {B B2:Nat} {w w1:World}
theorem But.now (h:But I ex B w):I w:=h w (Nat.le_refl _) fun _ _ _ _ => rfl
theorem But.move (h:But I ex B w)(hs:w.heap.size ≤ w1.heap.size)(hk:∀ bl,B ≤ bl → bl < w.heap.size → ¬ ex bl → w1.heap[bl]? = w.heap[bl]?)(he:∀ k,ex' k → ex k ∨ w.heap.size ≤ k):But I ex' B w1:=
 fun w' hs' hk' => h w' (Nat.le_trans hs hs') fun bl h1 h2 h3 => (hk' bl h1 (Nat.lt_of_lt_of_le h2 hs) (fun hx => by
  rcases he bl hx with hy | hy
  ·exact h3 hy
  ·omega)).trans (hk bl h1 h2 h3)
theorem But.of (h:∀ w',Ag B2 w w' → I w')(hB:B ≤ B2)(hx:∀ k,ex k → k < B2):But I ex B w:=
 fun w' hs hk => h w' ⟨hs,fun bl h1 h2 => hk bl (Nat.le_trans hB h1) h2 (fun he => by have:=hx bl he; omega)⟩
end
def OwnL {α:Type}(I:World → Nat → α → List Value → Prop)(T:TypeId)(n:Nat)(ex:Nat → Prop)(B:Nat)(v:Value)(l:List α)(w:World):Prop:=
 ∃ vss:List (List Value),vss.length = l.length ∧ w.ownsRow B T n v l.length vss.flatten ∧ ∀ (i:Nat) x vs,l[i]? = some x → vss[i]? = some vs → But (fun w => I w B x vs) ex B w
section
variable {α:Type} {I:World → Nat → α → List Value → Prop} {T:TypeId} {n:Nat} {ex ex':Nat → Prop} {B:Nat} {v v':Value} {l:List α} {w w1:World}
theorem OwnL.nil (w:World):OwnL I T n ex B (.slice none 0 0) [] w:=⟨[],rfl,World.ownsRow_nil _ _ _ _,fun i x vs h _ => by simp at h⟩
theorem OwnL.lt (h:OwnL I T n ex B v l w):∀ k,v.ownBlock = some k → B ≤ k ∧ k < w.heap.size:=by
 obtain ⟨vss,-,h2,-⟩:=h
 exact fun k hk => h2.lt k hk
theorem OwnL.slice (h:OwnL I T n ex B v l w):∃ p c,v = .slice p l.length c:=by
 obtain ⟨vss,-,h2,-⟩:=h
 exact zT h2
theorem zA8 {base m sz:Nat}{xs:List Value}(h:w.ownsRow base T sz v m xs)(hk:∀ k,v.ownBlock = some k → w1.heap[k]? = w.heap[k]?):w1.ownsRow base T sz v m xs:=by
 refine ⟨h.1,?_⟩
 rcases h.2 with h0 | ⟨g,cap,cur,hv,hb,hc,hr⟩
 ·exact .inl h0
 ·exact .inr ⟨g,cap,cur,hv,hb,(hk g (by rw [hv]; rfl)).trans hc,hr⟩
theorem OwnL.move (h:OwnL I T n ex B v l w)(hs:w.heap.size ≤ w1.heap.size)(hv:∀ k,v.ownBlock = some k → w1.heap[k]? = w.heap[k]?)(hk:∀ bl,B ≤ bl → bl < w.heap.size → ¬ ex bl → w1.heap[bl]? = w.heap[bl]?)(he:∀ k,ex' k → ex k ∨ w.heap.size ≤ k):OwnL I T n ex' B v l w1:=by
 obtain ⟨vss,h1,h2,h3⟩:=h
 exact ⟨vss,h1,zA8 h2 hv,fun i x vs hx hvs => (h3 i x vs hx hvs).move hs hk he⟩
theorem OwnL.go (h:OwnL I T n ex B v l w)(hs:w.heap.size ≤ w1.heap.size)(hk:∀ bl,B ≤ bl → bl < w.heap.size → w1.heap[bl]? = w.heap[bl]?):OwnL I T n ex B v l w1:=
 h.move hs (fun k hv => hk k (h.lt k hv).1 (h.lt k hv).2) (fun bl h1 h2 _ => hk bl h1 h2) (fun _ hx => .inl hx)
theorem OwnL.push {x : α}{vs:List Value}{vss:List (List Value)}(h1:vss.length = l.length)(h3:∀ (i:Nat) x vs,l[i]? = some x → vss[i]? = some vs → But (fun w => I w B x vs) ex B w)(hi:But (fun w => I w B x vs) ex B w)
 (hown:w1.ownsRow B T n v' (l.length + 1) (vss.flatten ++ vs)) (hs:w.heap.size ≤ w1.heap.size) (hk:∀ bl,B ≤ bl → bl < w.heap.size → ¬ ex bl → w1.heap[bl]? = w.heap[bl]?) (he:∀ k,ex' k → ex k ∨ w.heap.size ≤ k):OwnL I T n ex' B v' (l ++ [x]) w1:=by
 refine ⟨vss ++ [vs],by simp [h1],by simpa using hown,fun i e' vs' hx hv => ?_⟩
 by_cases hlt:i < l.length
 ·rw [List.getElem?_append_left hlt] at hx
  rw [List.getElem?_append_left (by omega)] at hv
  exact (h3 i e' vs' hx hv).move hs hk he
 ·have hieq:i = l.length:=by
   have:=(List.getElem?_eq_some_iff.1 hx).1
   simp at this
   omega
  subst hieq
  simp at hx
  rw [← h1] at hv
  simp at hv
  subst hx hv
  exact hi.move hs hk he
end
def LAt {α:Type}(I:World → Nat → α → List Value → Prop)(n:Nat)(w:World)(B:Nat)(q:Option Addr)(l:List α):Prop:=
 l = [] ∨ ∃ bl off,q = some ⟨bl,off,none⟩ ∧ bl < w.heap.size ∧ B ≤ bl ∧ ∀ (i:Nat) x,l[i]? = some x → ∃ vs,I w B x vs ∧ ∀ (j:Nat) v,j < n → vs[j]? = some v → w.cell? ⟨bl,off + i * n + j,none⟩ = some v
section
variable {α:Type} {I:World → Nat → α → List Value → Prop} {T:TypeId} {n:Nat} {ex:Nat → Prop} {B B2:Nat} {v:Value} {q:Option Addr} {l:List α} {w w1:World}
theorem LAt.ag (hI:∀ x vs,I w B x vs → I w1 B x vs)(h:LAt I n w B q l)(g:Ag B w w1):LAt I n w1 B q l:=by
 rcases h with h0 | ⟨bl,off,hp,hb,hne,ha⟩
 ·exact .inl h0
 ·refine .inr ⟨bl,off,hp,Nat.lt_of_lt_of_le hb g.size,hne,fun i x hx => ?_⟩
  obtain ⟨vs,h1,h2⟩:=ha i x hx
  exact ⟨vs,hI x vs h1,fun j v hj hv => by rw [zAP (g.block bl hne hb)]; exact h2 j v hj hv⟩
theorem LAt.lower (hI:∀ x vs,I w B x vs → I w B2 x vs)(h:LAt I n w B q l)(hB:B2 ≤ B):LAt I n w B2 q l:=by
 rcases h with h0 | ⟨bl,off,hp,hb,hne,ha⟩
 ·exact .inl h0
 ·refine .inr ⟨bl,off,hp,hb,Nat.le_trans hB hne,fun i x hx => ?_⟩
  obtain ⟨vs,h1,h2⟩:=ha i x hx
  exact ⟨vs,hI x vs h1,h2⟩
theorem zII {vss:List (List Value)}(hn:∀ vs ∈ vss,vs.length = n):∀ (i j:Nat) vs v,vss[i]? = some vs → j < n → vs[j]? = some v → vss.flatten[i * n + j]? = some v:=by
 induction vss with
 | nil => intro i j vs v h; simp at h
 | cons us vss ih =>
   intro i j vs v h hj hv
   have hu:us.length = n:=hn us vA
   cases i with
   | zero =>
     simp at h
     subst h
     rw [List.flatten_cons,List.getElem?_append_left (by omega),Nat.zero_mul,Nat.zero_add,hv]
   | succ i =>
     have:=ih (fun vs hvs => hn vs (List.Mem.tail _ hvs)) i j vs v (by simpa using h) hj hv
     rw [List.flatten_cons,List.getElem?_append_right (by rw [hu,Nat.add_mul]; omega),hu,Nat.add_mul,show i * n + 1 * n + j - n = i * n + j by omega]
     exact this
theorem OwnL.done (hn:∀ w B x vs,I w B x vs → vs.length = n)(h:OwnL I T n ex B v l w):∃ p c,v = .slice p l.length c ∧ LAt I n w B p l:=by
 obtain ⟨vss,h1,h2,h3⟩:=h
 rcases h2.2 with ⟨hv,h0⟩ | ⟨g,cap,cur,hv,hb,hc,hm,hcap,hsize,htake⟩
 ·obtain rfl:=List.eq_nil_of_length_eq_zero h0
  exact ⟨none,0,hv,.inl rfl⟩
 ·refine ⟨_,cap,hv,.inr ⟨g,0,rfl,zA hc,hb,fun i x hx => ?_⟩⟩
  have hi:i < vss.length:=by rw [h1]; exact (List.getElem?_eq_some_iff.1 hx).1
  have hvs:=List.getElem?_eq_getElem hi
  refine ⟨vss[i],(h3 i x _ hx hvs).now,fun j v hj hvj => ?_⟩
  have hall:∀ vs ∈ vss,vs.length = n:=fun vs hm => by
   obtain ⟨k,hk⟩:=List.mem_iff_getElem?.1 hm
   have hkl:k < l.length:=by rw [← h1]; exact (List.getElem?_eq_some_iff.1 hk).1
   exact hn _ _ _ _ (h3 k _ vs (List.getElem?_eq_getElem hkl) hk).now
  have hf:=zII hall i j _ v hvs hj hvj
  have:=World.ownsRow.cells h2 (g:=g) (by rw [hv]; rfl) _ v hf
  have hadd:∀ k,(⟨g,0,none⟩:Addr).add k = ⟨g,k,none⟩:=fun k => by unfold Addr.add; split <;> simp_all
  rw [hadd] at this
  rw [Nat.zero_add]
  exact this
end
def PIs (_:World)(_:Nat)(x:Pm)(vs:List Value):Prop:=vs = pmCells x
theorem PIs.len (w:World)(B:Nat)(x:Pm)(vs:List Value)(h:PIs w B x vs):vs.length = 4:=by rw [PIs] at h; rw [h]; rfl
theorem RIs.len (w:World)(B:Nat)(x:Rc)(vs:List Value)(h:RIs w B x vs):vs.length = 3:=by obtain ⟨p,c,rfl,-⟩:=h; rfl
theorem FIs.len (w:World)(B:Nat)(x:Fc)(vs:List Value)(h:FIs w B x vs):vs.length = 7:=by obtain ⟨p,c,q,d,rfl,-⟩:=h; rfl
theorem RIs.ag {w w1:World}{B:Nat}{x:Rc}{vs:List Value}(h:RIs w B x vs)(g:Ag B w w1):RIs w1 B x vs:=by obtain ⟨p,c,hv,hp⟩:=h; exact ⟨p,c,hv,hp.ag g⟩
theorem FIs.ag {w w1:World}{B:Nat}{x:Fc}{vs:List Value}(h:FIs w B x vs)(g:Ag B w w1):FIs w1 B x vs:=by obtain ⟨p,c,q,d,hv,hp,hb⟩:=h; exact ⟨p,c,q,d,hv,hp.ag g,hb.ag g⟩
theorem RIs.lower {w:World}{B B2:Nat}{x:Rc}{vs:List Value}(h:RIs w B x vs)(hB:B2 ≤ B):RIs w B2 x vs:=by obtain ⟨p,c,hv,hp⟩:=h; exact ⟨p,c,hv,hp.lower hB⟩
theorem FIs.lower {w:World}{B B2:Nat}{x:Fc}{vs:List Value}(h:FIs w B x vs)(hB:B2 ≤ B):FIs w B2 x vs:=by obtain ⟨p,c,q,d,hv,hp,hb⟩:=h; exact ⟨p,c,q,d,hv,hp.lower hB,hb.lower hB⟩
theorem zJO:(Try.prog.info? 53).map (fun i => (i.zero,i.size,i.bytes)) = some (some (.agg #[.string ⟨#[]⟩,.slice none 0 0,.int .i64 0]),3,48):=by kernel_rfl
theorem zJP:(Try.prog.info? 81).map (fun i => (i.zero,i.size,i.bytes)) = some (some (.agg #[.string ⟨#[]⟩,.slice none 0 0,.bool false,.string ⟨#[]⟩,.int .i64 0,.slice none 0 0,.int .i64 0]),7,104):=by kernel_rfl
theorem zP {P:Program}{ops:Array Oper}{o:Oper}{a:Act}{w:World}{K:Act → World → Prop}{Q:Exit → Act → World → Prop}{E:Prop}
 (hg:o.guard = none) (s x:Operand) (t:TypeId) (hop:o.op = Op.call { callee:=Callee.builtin Builtin.append,args:=#[s,x],argTypes:=#[t,t] }) (base:Nat)
 (e:TypeId) (i:TypeInfo) (z:Value) (size bytes:Nat) (h1:P.underlying t = some (.slice e)) (h2:P.info? e = some i) (h3:i.zero = some z) (h4:i.size = size) (h5:i.bytes = bytes) (h6:z.cells.size = size) (h7 : 0 < size)
 (v:Value) (n:Nat) (xs:List Value) (hs:a.eval s = v) (hown:w.ownsRow base e size v n xs)
 (ad:Addr) (m c:Nat) (news:List Value) (hx:a.eval x = .slice (some ad) m c) (hn:news.length = m * size) (hc:∀ j u,news[j]? = some u → w.cell? (ad.add j) = some u) (h1c:∀ u ∈ news,u.oneCell' = true)
 (b1:n + m ≤ maxLen) (b2:(n + m) * bytes ≤ 140737488355328) (hbase:base ≤ w.heap.size)
 (hK:∀ v' w',w'.ownsRow base e size v' (n + m) (xs ++ news) → w.grownBy w' v.ownBlock → (v'.ownBlock = v.ownBlock ∨ v'.ownBlock = some w.heap.size) → K (a.put o.dst v') w') :
 if Region.wanted o (yielded ops a.tmps) = true then Oper.wp P o a w K Q else E:=by
 have hw:Region.wanted o (yielded ops a.tmps) = true:=by simp [Region.wanted,hg]
 rw [if_pos hw]
 obtain ⟨v',w',hrun,r1,r2,_,r3⟩:=run_append_own_at (P:=P) w base t o.type e i z size bytes h1 h2 h3 h4 h5 h6 h7 v n xs hown ad m c news hn hc h1c b1 b2 hbase
 unfold Oper.wp
 simp [execOp,hop,resolve,invoke,builtin,hs,hx,hrun,Result.andThen]
 exact hK v' w' r1 r2 r3
def ex3 (vr vg vf:Value)(k:Nat):Prop:=vr.ownBlock = some k ∨ vg.ownBlock = some k ∨ vf.ownBlock = some k
section
variable {w wr w':World} {R B b:Nat} {S vr vg vf c0 c1 c2 c v':Value} {ts:List RT} {p:Gm} {s s':Cs}
end
end Go.Proofs.Ytjleggpbghmobaa
namespace Go.Proofs.Ytjleggpbghmobaa
open Go.RowKit
open Px (RT tokAt isT)
open Pe (inc dec Ex)
open Qe (Q)
open Ps (Sm kindOf nameOf)
theorem zDI {ts:List RT}{recS:Q → Qs.Out}{g:Nat}{s:Q}{x:List Sm × Q}(h:Qs.block ts recS g s = some x):∃ l s2,Qs.stLoop ts recS g [] (Qe.opens ts s [123]) = some (l,s2) ∧ x = (l,Qe.closes ts s2 [125]):=by
 unfold Qs.block at h
 split at h
 ·cases h
 ·rename_i l s2 hl
  exact ⟨l,s2,hl,(Option.some.inj h).symm⟩
theorem zGM {ts:List RT}{recS:Q → Qs.Out}{l:List Sm}{s:Q}{x:List Sm × Q}(h:Qs.stLoop ts recS 0 l s = some x):False:=by
 rw [Qs.stLoop] at h; cases h
theorem zFx {ts:List RT}{recS:Q → Qs.Out}{g:Nat}{l:List Sm}{s:Q}{x:List Sm × Q}(h:Qs.stLoop ts recS (g + 1) l s = some x)(hv:¬ (s.E = 0 ∧ Qe.is ts s false [125] = false)):x = (l,s):=by
 rw [Qs.stLoop,if_neg hv] at h
 exact (Option.some.inj h).symm
theorem zGN {ts:List RT}{recS:Q → Qs.Out}{g:Nat}{l:List Sm}{s:Q}{x:List Sm × Q}(h:Qs.stLoop ts recS (g + 1) l s = some x)(hE:s.E = 0)(hv:Qe.is ts s false [125] = false):∃ y s2,recS s = some (y,s2) ∧ Qs.stLoop ts recS g (l ++ [y]) s2 = some x:=by
 rw [Qs.stLoop,if_pos ⟨hE,hv⟩] at h
 split at h
 ·cases h
 ·rename_i y s2 hy
  exact ⟨y,s2,hy,h⟩
structure LqSt (w wr:World) (R:Nat) (S:Value) (ts:List RT) (v:Value) (l:List Sm) (s:Q):Prop where
 rq:Qr wr R S ts s
 sm:SmSt w wr R v l
theorem SmSt.done2 {w wr:World}{R:Nat}{v:Value}{l:List Sm}(h:SmSt w wr R v l):∃ p c,v = .slice p l.length c ∧ SsAt wr w.heap.size p l ∧ l.length ≤ c:=by
 obtain ⟨p,c,hv,hs⟩:=h.done
 refine ⟨p,c,hv,hs,?_⟩
 obtain ⟨vss,h1,h2,h3⟩:=h.own
 rcases h2.2 with ⟨hv2,h0⟩ | ⟨g,cap,cur,hv2,hb,hc,hn,hcap,hsize,htake⟩
 ·omega
 ·rw [hv] at hv2
  injection hv2 with e1 e2 e3
  omega
theorem LqSt.go {w wr w':World}{R:Nat}{S:Value}{ts:List RT}{v:Value}{l:List Sm}{s s2:Q}(h:LqSt w wr R S ts v l s)(hlt:R < w.heap.size)(hr:Qr w' R S ts s2)(hg:Gr R wr w'):LqSt w w' R S ts v l s2:=⟨hr,h.sm.go hlt hg⟩
theorem zEJ (w:World)(R:Nat)(S:Value)(ts:List RT)(s:Q)(h:Qr w R S ts s)(recS:Q → Qs.Out)(hS:QStOk ts recS)(g:Nat)(hg:g ≤ 1000000000)(x:List Sm × Q)(hx:Qs.block ts recS g s = some x) :
 Calls Try.prog 41 #[.pointer (some ⟨R,0,none⟩)] w (QBlPost w R S ts x):=by
 obtain ⟨l3,s3,h3,rfl⟩:=zDI hx
 have hlt:=h.lt
 have HH:=vH h
 have HS:=vH hS
 have H3:=vH h3
 have HG9:=vH hg
 obtain ⟨i0,hi0,hz0,hz1,hz2⟩:=info_parts zJN
 clear h hS hx h3 hg
 go_in
 go_wp2_with fail
 refine (zAm _ R S ts s HH.out ⟨#[123]⟩ (zAb _ (by decide))).mono ?_
 rintro e w1 ⟨rfl,hr,hg1⟩
 have HA:Hid (LqSt w w1 R S ts (.slice none 0 0) [] (Qe.opens ts s [123])):=vH ⟨hr,SmSt.start hg1⟩
 clear hr hg1
 go_wp2_with fail
 go_loopg [3] g (fun n v wr => ∃ l s4,LqSt w wr R S ts v l s4 ∧ Qs.stLoop ts recS n l s4 = some (l3,s3) ∧ l.length + n ≤ 1000000001)
 case atStart => exact ⟨_,_,HA.out,H3.out,by have:=HG9.out; simp; omega⟩
 case round =>
  obtain ⟨l,s4,ha,h3,hbd⟩:=hrel
  have HA4:=vH ha
  have H34:=vH h3
  clear ha h3 HA
  cases gk with
  | zero => exact (zGM H34.out).elim
  | succ m =>
    have HBD:=vH (show l.length + 1 ≤ 1000000001 by omega)
    have HBM:=vH hbd
    clear hbd
    go_wp2_with fail
    refine (zAr _ R S ts s4 HA4.out.rq).mono ?_
    rintro e w5 ⟨rfl,hw5⟩
    subst hw5
    cases hE:(s4.E == 0) with
    | false =>
      have hx:=zFx H34.out (fun hh => by simp [hh.1] at hE)
      injection hx with hx1 hx2
      subst hx1 hx2
      try rw [hE]
      clear hE
      go_wp2_with fail
      refine (zAk _ R S ts s3 HA4.out.rq ⟨#[125]⟩ (zAb _ (by decide))).mono ?_
      rintro e w7 ⟨rfl,hr,hg⟩
      have HA7:=vH (HA4.out.go hlt hr hg)
      clear hr hg HA4
      go_wp2_with fail
      obtain ⟨p,c,hpv,hat,hcap⟩:=HA7.out.sm.done2
      exact bodyPost_ret (v:=u3) (by simp [results,Try.results41,go_sem]) rfl ⟨p,c - l3.length,by rw [hpv,Nat.add_sub_of_le hcap],hat,HA7.out.rq,HA7.out.sm.gr⟩
    | true =>
      have hE0:s4.E = 0:=by simpa using hE
      have HE0:=vH hE0
      try rw [hE]
      clear hE hE0
      go_wp2_with fail
      refine (zG _ R S ts s4 HA4.out.rq ⟨#[125]⟩ (by decide) false (by decide)).mono ?_
      rintro e w6 ⟨rfl,hb⟩
      have HA6:=vH (HA4.out.go hlt (HA4.out.rq.go hb) (Gr.of hb))
      clear hb HA4
      cases hv:Qe.is ts s4 false [125] with
      | true =>
        have hx:=zFx H34.out (fun hh => by rw [hv] at hh; cases hh.2)
        injection hx with hx1 hx2
        subst hx1 hx2
        try rw [hv]
        clear hv
        go_wp2_with fail
        refine (zAk _ R S ts s3 HA6.out.rq ⟨#[125]⟩ (zAb _ (by decide))).mono ?_
        rintro e w7 ⟨rfl,hr,hg⟩
        have HA7:=vH (HA6.out.go hlt hr hg)
        clear hr hg HA6
        go_wp2_with fail
        obtain ⟨p,c,hpv,hat,hcap⟩:=HA7.out.sm.done2
        exact bodyPost_ret (v:=u3) (by simp [results,Try.results41,go_sem]) rfl ⟨p,c - l3.length,by rw [hpv,Nat.add_sub_of_le hcap],hat,HA7.out.rq,HA7.out.sm.gr⟩
      | false =>
        obtain ⟨y,s5,he,h5⟩:=zGN H34.out HE0.out hv
        have HREC:=vH he
        have H5:=vH h5
        try rw [hv]
        clear hv he h5 H34
        go_wp2_with fail
        have hwr:∀ k,Value.ownBlock (u3) = some k → k < w6.heap.size:=fun k hk => (HA6.out.sm.own_lt k hk).2
        have HWR:=vH hwr
        clear hwr
        have hsB:w.heap.size ≤ w6.heap.size:=HA6.out.sm.gr.size
        refine (HS.out _ _ HREC.out _ R S HA6.out.rq).mono ?_
        rintro e w7 ⟨sk,sn,so,sd,sep,sel,sec,sbp,sbl,sbc,slp,sll,slc,sa,sr,rfl,hi,hr,hg⟩
        have HIQ:=vH hi
        have HX:=vH (HA6.out.go hlt hr hg)
        clear hi hr hg
        obtain ⟨vss,hv1,hown,hkid⟩:=HX.out.sm.own
        have HO:=vH hown
        have HK:=vH hkid
        have HV1:=vH hv1
        have hsX:w.heap.size ≤ w7.heap.size:=HX.out.sm.gr.size
        clear hown hkid hv1
        go_wp2_with (at_builtin; refine wpList_append_own_at _ rfl _ _ 79 rfl w.heap.size 114 i0 _ 9 136 Try.underlying79 hi0 hz0 hz1 hz2 rfl (by decide) _ l.length _ rfl (HO.out.alloc _) ⟨w7.heap.size,0,none⟩ 1 1 (smCells sk sn so sd (.slice sep sel sec) (.slice sbp sbl sbc) (.slice slp sll slc) sa sr) rfl rfl ?c1 ?c2 ?c3 ?c4 ?c5 ?_)
        case c1 => exact zAE rfl rfl
        case c2 => exact zJm _ _ _ _ _ _ _ _ _ _ _ _ _ _ _
        case c3 => have:=HBD.out; unfold maxLen; omega
        case c4 => have:=HBD.out; omega
        case c5 => rw [zB]; omega
        intro v' w8 hown' hgrow _ hat
        have hpush:=SmSt.push hlt HX.out.sm HWR.out hsB HIQ.out HV1.out HK.out hown' hgrow hat
        have HA8:Hid (LqSt w w8 R S ts v' (l ++ [y]) s5):=vH ⟨Qr.fin HH.out HX.out.rq hpush.2,hpush.1⟩
        clear hown' hgrow hat HO HK HV1 HX HIQ HWR hsX hsB hpush
        go_wp2_with fail
        go_roundg m
        case measure => omega
        case rel => exact ⟨_,_,HA8.out,H5.out,by have:=HBM.out; simp; omega⟩
theorem zFy {ts:List RT}{rx:Qs.RX}(hX:QXOk ts rx):∀ f:Nat,f ≤ 1000000000 → QStOk ts (Qs.run ts rx f).1 ∧ QBlOk ts (Qs.run ts rx f).2
 | 0,_ => ⟨fun s x hx => by simp [Qs.run] at hx,fun s x hx => by simp [Qs.run] at hx⟩
 | f + 1,hf => by
   obtain ⟨h1,h2⟩:=zFy hX f (by omega)
   exact ⟨zFw hX h2,fun s x hx w R S h => zEJ w R S ts s h _ h1 f (by omega) x hx⟩
end Go.Proofs.Ytjleggpbghmobaa
