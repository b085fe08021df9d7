/-
  Short names for what the texts say often.
-/
import Derived.Test.YteadgahhchlgeaaDoorK01
import Derived.Lib.Hide
import Derived.WalkKit
import Derived.Test.YteadgahhchlgeaaDoorChecked
import Derived.ProofKit
import Derived.BigCall
import Derived.Lib.Strings
import Derived.Lib.BufferMore
import Derived.Outline
import Derived.Deep.QuietTactic
import Derived.BigQuiet
import Derived.IntWalk
import Derived.StillTailTactics
import Derived.Test.YteadgahhchlgeaaDoorShelf
import Derived.Deep.LoopGhost
import Derived.RegionTactic
import Derived.Deep.RegionWith
import Derived.Maps.Keyed
import Derived.Lib.ItoaNum
import Derived.Lib.AtoiAll
import Derived.Lib.AtoiAllCases
import Derived.Shelf.Abstract
set_option maxHeartbeats 8000000
set_option maxRecDepth 8000
namespace Go.Proofs.YteadgahhchlgeaaDoor
theorem vH {p : Prop} (h : p) : RowKit.Hid p := h
theorem vA {α : Type} {a : α} {l : List α} : a ∈ a :: l := List.Mem.head _
theorem vB {α : Type} {a b : α} {l : List α} : b ∈ a :: b :: l := List.Mem.tail _ vA
theorem vC {α : Type} {a b c : α} {l : List α} : c ∈ a :: b :: c :: l := List.Mem.tail _ vB
theorem vD {α : Type} {a b c d : α} {l : List α} : d ∈ a :: b :: c :: d :: l := List.Mem.tail _ vC
abbrev vE : Array Value := #[.int .i64 0, .int .i64 0, .string ⟨#[]⟩, .string ⟨#[]⟩, .int .i64 0, .slice none 0 0, .int .i64 0, .int .i64 0, .int .i64 0, .int .i64 0, .int .i64 0]
abbrev vS : Array Value := #[.int .i64 0, .string ⟨#[]⟩, .string ⟨#[]⟩, .int .i64 0, .slice none 0 0, .slice none 0 0, .slice none 0 0, .int .i64 0, .int .i64 0]
abbrev vF : Array Value := #[.int .i64 0, .int .i64 0]
abbrev vO : Array Value := #[.string ⟨#[]⟩, .int .i64 0]
open Go.RowKit
open Px (RT tokAt)
open Pe
def cbs (l:List UInt8):ByteArray:=⟨l.toArray⟩
abbrev vT (t:Px.RT):Array Value:=#[.int .i64 t.kind,.string (cbs t.text),.int .i64 t.num,.int .i64 t.at_]
theorem zR (l:List UInt8):(cbs l).toList = l:=by rw [Lib.toList_data]; rfl
theorem zKP {a b:Bool}(h:a = b):Ending.returned (.bool a) = .returned (.bool b):=by rw [h]
structure Toks (w:World) (R:Nat) (S:Value) (ts:List RT):Prop where
 val:∃ p n c,S = .slice p n c ∧ ts.length = n ∧ (n = 0 ∨ ∃ b off,p = some ⟨b,off,none⟩ ∧ b < w.heap.size ∧ b ≠ R ∧
  ∀ j t,ts[j]? = some t → w.cell? ⟨b,off + j * 4,none⟩ = some (.int .i64 t.kind) ∧ w.cell? ⟨b,off + j * 4 + 1,none⟩ = some (.string (cbs t.text)) ∧ w.cell? ⟨b,off + j * 4 + 2,none⟩ = some (.int .i64 t.num) ∧ w.cell? ⟨b,off + j * 4 + 3,none⟩ = some (.int .i64 t.at_))
 short:∀ t ∈ ts,t.text.length ≤ 281474976710656
structure Gr (R:Nat) (w w':World):Prop where
 os:w'.os = w.os
 tape:w'.tape = w.tape
 output:w'.output = w.output
 size:w.heap.size ≤ w'.heap.size
 block:∀ i,i < w.heap.size → i ≠ R → w'.heap[i]? = w.heap[i]?
theorem Gr.refl (R:Nat)(w:World):Gr R w w:=⟨rfl,rfl,rfl,Nat.le_refl _,fun _ _ _ => rfl⟩
theorem Gr.of {R:Nat}{w w':World}(h:Below w.heap.size w w'):Gr R w w':=⟨h.os,h.tape,h.output,h.size,fun i hi _ => h.block i hi⟩
theorem Gr.trans {R:Nat}{w w1 w2:World}(h:Gr R w w1)(g:Gr R w1 w2):Gr R w w2:=
 ⟨g.os.trans h.os,g.tape.trans h.tape,g.output.trans h.output,Nat.le_trans h.size g.size,fun i hi hn => (g.block i (Nat.lt_of_lt_of_le hi h.size) hn).trans (h.block i hi hn)⟩
theorem Gr.set {R:Nat}{w w1:World}(h:Gr R w w1)(o:Nat)(u:Value):Gr R w (w1.setCell ⟨R,o,none⟩ u):=by
 have hb:=(Below.refl 0 w1).setCell (p:=⟨R,o,none⟩) (Nat.zero_le _) u
 refine ⟨hb.os.trans h.os,hb.tape.trans h.tape,hb.output.trans h.output,Nat.le_trans h.size hb.size,fun i hi hn => ?_⟩
 rw [Below.heap_setCell w1 ⟨R,o,none⟩ u i hn]
 exact h.block i hi hn
theorem Gr.below {R:Nat}{w w1 w2:World}(h:Gr R w w1)(hb:Below w1.heap.size w1 w2):Gr R w w2:=h.trans (Gr.of hb)
theorem Gr.alloc {R:Nat}{w w1:World}(h:Gr R w w1)(o:Obj):Gr R w (w1.alloc o):=h.trans (Gr.of ((Below.refl _ _).alloc (Nat.le_refl _) _))
theorem Gr.setNew {R:Nat}{w w1:World}(h:Gr R w w1){p:Addr}(hp:w.heap.size ≤ p.block)(u:Value):Gr R w (w1.setCell p u):=by
 have hb:=(Below.refl w.heap.size w1).setCell (p:=p) hp u
 exact ⟨hb.os.trans h.os,hb.tape.trans h.tape,hb.output.trans h.output,Nat.le_trans h.size hb.size,fun i hi hn => (hb.block i hi).trans (h.block i hi hn)⟩
theorem Toks.gr {w w':World}{R:Nat}{S:Value}{ts:List RT}(h:Toks w R S ts)(hg:Gr R w w'):Toks w' R S ts:=by
 obtain ⟨p,n,c,hS,hn,hm⟩:=h.val
 refine ⟨⟨p,n,c,hS,hn,?_⟩,h.short⟩
 rcases hm with h0 | ⟨b,off,hp,hb,hne,hc⟩
 ·exact .inl h0
 ·refine .inr ⟨b,off,hp,Nat.lt_of_lt_of_le hb hg.size,hne,fun j t ht => ?_⟩
  have hcc:∀ o:Nat,w'.cell? ⟨b,o,none⟩ = w.cell? ⟨b,o,none⟩:=fun o => by
   have:=hg.block b hb hne
   simp only [World.cell?,this]
  rw [hcc,hcc,hcc,hcc]
  exact hc j t ht
structure Cu (w:World) (R:Nat) (T:TypeId) (S:Value) (X:List Value) (ts:List RT) (s:Cs):Prop where
 row:w.heap[R]? = some (.cells ⟨S :: .int .i64 s.k :: .int .i64 s.E :: .int .i64 s.F :: X⟩ T (0,0))
 toks:Toks w R S ts
theorem Cu.lt {w:World}{R:Nat}{T:TypeId}{S:Value}{X:List Value}{ts:List RT}{s:Cs}(h:Cu w R T S X ts s):R < w.heap.size:=(Array.getElem?_eq_some_iff.1 h.row).1
theorem Cu.cells {w:World}{R:Nat}{T:TypeId}{S:Value}{X:List Value}{ts:List RT}{s:Cs}(h:Cu w R T S X ts s) :
 (w.cell? ⟨R,0,none⟩ = some S ∧ w.cell? ⟨R,1,none⟩ = some (.int .i64 s.k) ∧ w.cell? ⟨R,2,none⟩ = some (.int .i64 s.E) ∧ w.cell? ⟨R,3,none⟩ = some (.int .i64 s.F)) ∧
 (∀ i,w.frozen? ⟨R,i,none⟩ = false) ∧ R < w.heap.size:=by
 have hr:=h.row
 refine ⟨⟨?_,?_,?_,?_⟩,fun i => frozen_of_row _ _ _ _ _ hr,h.lt⟩ <;> (rw [cell_of_row _ _ _ _ _ _ hr]; simp)
theorem Cu.go {w w':World}{R:Nat}{T:TypeId}{S:Value}{X:List Value}{ts:List RT}{s:Cs}(h:Cu w R T S X ts s)(hb:Below w.heap.size w w'):Cu w' R T S X ts s:=
 ⟨(hb.block _ h.lt).trans h.row,h.toks.gr (Gr.of hb)⟩
theorem Cu.set_k {w:World}{R:Nat}{T:TypeId}{S:Value}{X:List Value}{ts:List RT}{s:Cs}(h:Cu w R T S X ts s)(q:Int):Cu (w.setCell ⟨R,1,none⟩ (.int .i64 q)) R T S X ts ⟨q,s.E,s.F⟩:=
 ⟨by have:=Lib.heap_setCell_same h.row (i:=1) (v:=.int .i64 q); simpa using this,h.toks.gr ((Gr.refl R w).set 1 _)⟩
theorem Cu.set_f {w:World}{R:Nat}{T:TypeId}{S:Value}{X:List Value}{ts:List RT}{s:Cs}(h:Cu w R T S X ts s)(e a:Int):Cu ((w.setCell ⟨R,2,none⟩ (.int .i64 e)).setCell ⟨R,3,none⟩ (.int .i64 a)) R T S X ts ⟨s.k,e,a⟩:=by
 have h1:=Lib.heap_setCell_same h.row (i:=2) (v:=.int .i64 e)
 have h2:=Lib.heap_setCell_same h1 (i:=3) (v:=.int .i64 a)
 exact ⟨by simpa using h2,h.toks.gr (((Gr.refl R w).set 2 _).set 3 _)⟩
def tokW (t:RT):Value:=.agg #[.int .i64 t.kind,.string (cbs t.text),.int .i64 t.num,.int .i64 t.at_]
theorem Toks.tok {w:World}{R:Nat}{S:Value}{ts:List RT}(h:Toks w R S ts)(k:Int):(tokAt ts k).text.length ≤ 281474976710656:=by
 unfold tokAt
 split
 ·rename_i hk
  have hq:k.toNat < ts.length:=by omega
  have:ts.getD k.toNat RT.none = ts[k.toNat]:=by simp [List.getD,hq]
  rw [this]
  exact h.short _ (List.getElem_mem hq)
 ·exact Nat.zero_le _
theorem Toks.peek {w:World}{R:Nat}{S:Value}{ts:List RT}(h:Toks w R S ts)(s:Cs):(Pe.peek ts s).text.length ≤ 281474976710656:=by
 unfold Pe.peek
 split
 ·exact h.tok _
 ·exact Nat.zero_le _
theorem zE {B:Nat}{w wr:World}(h:Below B w wr)(n:Nat):Below B w (wr.drewN n):=⟨h.os,h.tape,h.output,h.size,h.block⟩
theorem quad {w1:World}{B:Nat}{T:TypeId}{a b c d:Value}(h:w1.heap[B]? = some (.cells #[a,b,c,d] T (0,0))) :
 (w1.cell? ⟨B,0,none⟩ = some a ∧ w1.cell? ⟨B,1,none⟩ = some b ∧ w1.cell? ⟨B,2,none⟩ = some c ∧ w1.cell? ⟨B,3,none⟩ = some d) ∧
 (w1.frozen? ⟨B,0,none⟩ = false ∧ w1.frozen? ⟨B,1,none⟩ = false ∧ w1.frozen? ⟨B,2,none⟩ = false ∧ w1.frozen? ⟨B,3,none⟩ = false):=
 ⟨⟨by rw [cell_of_row _ _ _ _ _ _ h]; rfl,by rw [cell_of_row _ _ _ _ _ _ h]; rfl,by rw [cell_of_row _ _ _ _ _ _ h]; rfl,by rw [cell_of_row _ _ _ _ _ _ h]; rfl⟩,
   frozen_of_row _ _ _ _ _ h,frozen_of_row _ _ _ _ _ h,frozen_of_row _ _ _ _ _ h,frozen_of_row _ _ _ _ _ h⟩
theorem Gr.box {R B:Nat}{w w1:World}{o:Obj}(h:Gr R w w1)(hb:w.heap[B]? = some o)(hne:B ≠ R):w1.heap[B]? = some o:=(h.block _ (Array.getElem?_eq_some_iff.1 hb).1 hne).trans hb
theorem zM {w:World}{B:Nat}{o:Obj}(o2:Obj)(hb:w.heap[B]? = some o):(w.alloc o2).heap[B]? = some o:=
 (Gr.alloc (Gr.refl (w.heap.size) w) o2).box hb (Nat.ne_of_lt (Array.getElem?_eq_some_iff.1 hb).1)
theorem zA {w:World}{B:Nat}{o:Obj}(h:w.heap[B]? = some o):B < w.heap.size:=(Array.getElem?_eq_some_iff.1 h).1
theorem zH {B:Nat}{w w1 w2:World}(h:Below B w w1)(hb:Below w1.heap.size w1 w2)(hB:B ≤ w1.heap.size):Below B w w2:=⟨hb.os.trans h.os,hb.tape.trans h.tape,hb.output.trans h.output,Nat.le_trans h.size hb.size,fun i hi => (hb.block i (Nat.lt_of_lt_of_le hi hB)).trans (h.block i hi)⟩
theorem zC (w:World)(o:Obj):(w.alloc o).heap.size = w.heap.size + 1:=Array.size_push _
theorem mine {R:Nat}{w w1:World}{o:Obj}(hg:Gr R (w.alloc o) w1)(hR:R < w.heap.size):w1.heap[w.heap.size]? = some o:=hg.box (heap_alloc_new w _) (Nat.ne_of_gt hR)
structure Nw (R:Nat) (w wA wB:World):Prop where
 below:Below w.heap.size wA wB
 gr:Gr R w wB
theorem Nw.start {R:Nat}{w wA:World}(h:Gr R w wA):Nw R w wA wA:=⟨Below.refl _ _,h⟩
theorem Nw.set {R:Nat}{w wA wB:World}(h:Nw R w wA wB){p:Addr}(hp:w.heap.size ≤ p.block)(u:Value):Nw R w wA (wB.setCell p u):=⟨h.below.setCell hp u,h.gr.setNew hp u⟩
theorem Nw.alloc {R:Nat}{w wA wB:World}(h:Nw R w wA wB)(o:Obj):Nw R w wA (wB.alloc o):=⟨h.below.alloc h.gr.size o,h.gr.alloc o⟩
theorem Cu.fin {w wA wB:World}{R:Nat}{T:TypeId}{S:Value}{X X2:List Value}{ts:List RT}{s0 s:Cs}(h0:Cu w R T S X ts s0)(hA:Cu wA R T S X2 ts s)(n:Nw R w wA wB):Cu wB R T S X2 ts s:=
 ⟨(n.below.block R h0.lt).trans hA.row,h0.toks.gr n.gr⟩
theorem Cu.keep {w wB:World}{R:Nat}{T:TypeId}{S:Value}{X:List Value}{ts:List RT}{s0:Cs}(h0:Cu w R T S X ts s0)(n:Nw R w w wB):Cu wB R T S X ts s0:=h0.fin h0 n
theorem zB (l:List UInt8):(cbs l).size = l.length:=by simp [cbs,ByteArray.size]
theorem duo {w1:World}{B:Nat}{T:TypeId}{a b:Value}(h:w1.heap[B]? = some (.cells #[a,b] T (0,0))) :
 (w1.cell? ⟨B,0,none⟩ = some a ∧ w1.cell? ⟨B,1,none⟩ = some b) ∧ (w1.frozen? ⟨B,0,none⟩ = false ∧ w1.frozen? ⟨B,1,none⟩ = false) ∧ B < w1.heap.size:=
 ⟨⟨by rw [cell_of_row _ _ _ _ _ _ h]; rfl,by rw [cell_of_row _ _ _ _ _ _ h]; rfl⟩,⟨frozen_of_row _ _ _ _ _ h,frozen_of_row _ _ _ _ _ h⟩,zA h⟩
theorem zHI {w1:World}{B:Nat}{T:TypeId}{a b:Value}(h:w1.heap[B]? = some (.cells #[a,b] T (0,0)))(u:Value):(w1.setCell ⟨B,0,none⟩ u).heap[B]? = some (.cells #[u,b] T (0,0)):=by
 have:=Lib.heap_setCell_same h (i:=0) (v:=u); simpa using this
theorem zAh {w1:World}{B:Nat}{o:Obj}{p:Addr}(h:w1.heap[B]? = some o)(hne:B ≠ p.block)(u:Value):(w1.setCell p u).heap[B]? = some o:=
 (Below.heap_setCell w1 p u B hne).trans h
theorem zAs {w w1:World}(h:Below w.heap.size w w1){b o:Nat}{u:Value}(hb:w.heap.size ≤ b):Below w.heap.size w (w1.setCell ⟨b,o,none⟩ u):=h.setCell hb u
theorem zAd {w w1:World}(h:Below w.heap.size w w1){o:Obj}:Below w.heap.size w (w1.alloc o):=h.alloc h.size o
theorem zDX {w w1:World}(h:Below w.heap.size w w1):Below w.heap.size w w1.drew:=h.drew
structure Ty (w wr:World) (R:Nat) (T:TypeId) (S:Value) (X:List Value) (ts:List RT) (s:Cs) (a:Value) (d:Nat):Prop where
 cu:Cu wr R T S X ts s
 gr:Gr R w wr
 res:wr.heap[w.heap.size]? = some (.cells vO 40 (0,0))
 own:wr.heap[w.heap.size + 1]? = some (.cells #[a,.int .i64 d] 40 (0,0))
theorem Ty.go {w wr w':World}{R:Nat}{T:TypeId}{S:Value}{X:List Value}{ts:List RT}{s s2:Cs}{a:Value}{d:Nat}(h:Ty w wr R T S X ts s a d)(hR:R < w.heap.size)(hc:Cu w' R T S X ts s2)(hg:Gr R wr w'):Ty w w' R T S X ts s2 a d:=
 ⟨hc,h.gr.trans hg,hg.box h.res (by omega),hg.box h.own (by omega)⟩
theorem Ty.set0 {w wr:World}{R:Nat}{T:TypeId}{S:Value}{X:List Value}{ts:List RT}{s s0:Cs}{a:Value}{d:Nat}(h:Ty w wr R T S X ts s a d)(hw:Cu w R T S X ts s0)(u:Value):Ty w (wr.setCell ⟨w.heap.size + 1,0,none⟩ u) R T S X ts s u d:=by
 have hn:=(Nw.start h.gr).set (p:=⟨w.heap.size + 1,0,none⟩) (Nat.le_succ _) u
 exact ⟨hw.fin h.cu hn,hn.gr,zAh h.res (by simp) u,zHI h.own u⟩
theorem Gr.fresh {R:Nat}{w w':World}(h:Gr R w w')(hR:w.heap.size ≤ R):Below w.heap.size w w':=⟨h.os,h.tape,h.output,h.size,fun i hi => h.block i hi (by omega)⟩
theorem Toks.re {w:World}{R R2:Nat}{S:Value}{ts:List RT}(h:Toks w R S ts)(hR:w.heap.size ≤ R2):Toks w R2 S ts:=by
 obtain ⟨p,n,c,hS,hn,hm⟩:=h.val
 refine ⟨⟨p,n,c,hS,hn,?_⟩,h.short⟩
 rcases hm with h0 | ⟨b,off,hp,hb,-,hc⟩
 ·exact .inl h0
 ·exact .inr ⟨b,off,hp,hb,by omega,hc⟩
theorem Toks.below {w w':World}{R:Nat}{S:Value}{ts:List RT}(h:Toks w R S ts)(hb:Below w.heap.size w w'):Toks w' R S ts:=h.gr (Gr.of hb)
theorem Toks.slice {w:World}{R:Nat}{S:Value}{ts:List RT}(h:Toks w R S ts):∃ p n c,S = .slice p n c:=by
 obtain ⟨p,n,c,hS,-,-⟩:=h.val
 exact ⟨p,n,c,hS⟩
theorem Cu.set_o {w:World}{R:Nat}{T:TypeId}{S:Value}{X:List Value}{ts:List RT}{s:Cs}{o:Int}(h:Cu w R T S (.int .i64 o :: X) ts s)(q:Int):Cu (w.setCell ⟨R,4,none⟩ (.int .i64 q)) R T S (.int .i64 q :: X) ts s:=
 ⟨by have:=Lib.heap_setCell_same h.row (i:=4) (v:=.int .i64 q); simpa using this,h.toks.gr ((Gr.refl R w).set 4 _)⟩
end Go.Proofs.YteadgahhchlgeaaDoor
namespace Go.Proofs.YteadgahhchlgeaaDoor.Ln
namespace Lx
def letB (c:Int):Bool:=decide (97 ≤ c ∧ c ≤ 122 ∨ 65 ≤ c ∧ c ≤ 90)
def digB (c:Int):Bool:=decide (48 ≤ c ∧ c ≤ 57)
def alnB (c:Int):Bool:=letB c || digB c
def spcB (c:Int):Bool:=decide (c = 32 ∨ c = 9 ∨ c = 10 ∨ c = 13)
def linB (c:Int):Bool:=decide (c ≠ 10)
def runN (p:Int → Bool):List UInt8 → Nat
 | [] => 0
 | c :: r => if p (c.toNat:Int) then runN p r + 1 else 0
def skipS:Bool → List UInt8 → Nat
 | _,[] => 0
 | true,c :: r => skipS (linB (c.toNat:Int)) r + 1
 | false,c :: r => if spcB (c.toNat:Int) then skipS false r + 1 else if c = 47 ∧ r.head? = some 47 then skipS true r + 1 else 0
def words:List (List UInt8):=[[114,101,99,111,114,100],[103,108,111,98,97,108],[102,117,110,99],[118,97,114],[108,101,116],[105,102],[101,108,115,101],[119,104,105,108,101],[114,101,116,117,114,110],[112,114,105,110,116],[110,117,108,108],[110,101,119],[108,101,110],[114,101,97,100],[116,114,117,101],[102,97,108,115,101],[105,110,116],[98,111,111,108]]
def isWord (l:List UInt8):Bool:=words.contains l
def isName (l:List UInt8):Bool:=
 match l with
 | [] => false
 | c :: _ => decide (l.length ≤ 8) && letB (c.toNat:Int) && decide (runN alnB l = l.length) && !isWord l
def digStep (a:Nat)(c:UInt8):Nat:=10 * a + (c.toNat - 48)
def valN (acc:Nat)(l:List UInt8):Nat:=l.foldl digStep acc
theorem valN_nil (acc:Nat):valN acc [] = acc:=List.foldl_nil
theorem valN_cons (acc:Nat)(c:UInt8)(l:List UInt8):valN acc (c :: l) = valN (10 * acc + (c.toNat - 48)) l:=List.foldl_cons ..
theorem valN_ge (l:List UInt8):∀ acc:Nat,acc ≤ valN acc l:=by
 induction l with
 | nil => intro acc; rw [valN_nil]; exact Nat.le_refl _
 | cons c l ih =>
   intro acc
   rw [valN_cons]
   have:=ih (10 * acc + (c.toNat - 48))
   omega
def signs:List (List UInt8):=[[60,61],[61,61],[33,61],[38,38],[124,124],[123],[125],[40],[41],[91],[93],[59],[58],[44],[46],[61],[43],[45],[42],[47],[37],[60],[33]]
def signAt (r:List UInt8):Option (List UInt8):=signs.find? fun g => g.isPrefixOf r
structure Tk where
 kind:Nat
 text:List UInt8
 num:Nat
 at_:Nat
instance:DecidableEq Tk:=fun a b =>
 if h:a.kind = b.kind ∧ a.text = b.text ∧ a.num = b.num ∧ a.at_ = b.at_ then
  isTrue (by obtain ⟨x,y,z,v⟩:=a; obtain ⟨x',y',z',v'⟩:=b; obtain ⟨rfl,rfl,rfl,rfl⟩:=h; rfl)
 else isFalse (fun e => h (by rw [e]; exact ⟨rfl,rfl,rfl,rfl⟩))
def nextLet:List UInt8 → Bool
 | [] => false
 | d :: _ => letB (d.toNat:Int)
def numBad (r:List UInt8):Bool:=
 decide (r.head? = some 48 ∧ 1 < runN digB r) || decide (9223372036854775807 < valN 0 (r.take (runN digB r))) || nextLet (r.drop (runN digB r))
def one (r:List UInt8):Option (Nat × List UInt8 × Nat × Nat):=
 match r with
 | [] => none
 | c :: _ =>
   if letB (c.toNat:Int) then
     if isWord (r.take (runN alnB r)) then some (3,r.take (runN alnB r),0,runN alnB r)
     else if isName (r.take (runN alnB r)) then some (1,r.take (runN alnB r),0,runN alnB r)
     else none
   else if digB (c.toNat:Int) then
     if numBad r then none
     else some (2,[],valN 0 (r.take (runN digB r)),runN digB r)
   else match signAt r with
     | none => none
     | some g => some (4,g,0,g.length)
def lexF:Nat → Nat → List UInt8 → Except Nat (List Tk)
 | 0,k,_ => .error k
 | _ + 1,_,[] => .ok []
 | f + 1,k,c :: r => match one (c :: r) with
   | none => .error k
   | some (kind,text,num,m) =>
     match lexF f (k + (m + skipS false ((c :: r).drop m))) ((c :: r).drop (m + skipS false ((c :: r).drop m))) with
     | .error e => .error e
     | .ok ts => .ok (⟨kind,text,num,k⟩ :: ts)
def lexAll (l:List UInt8):Except Nat (List Tk):=lexF (l.length + 1) (skipS false l) (l.drop (skipS false l))
def toks (l:List UInt8):List Tk × Nat × Nat:=
 if 6000 < l.length then ([],4,0) else
 match lexAll l with
 | .error k => ([],1,k)
 | .ok ts => (ts ++ [⟨0,[],0,l.length⟩],0,0)
def pre (ts:List Tk):Except Nat (List Tk) → Except Nat (List Tk)
 | .error e => .error e
 | .ok us => .ok (ts ++ us)
theorem runN_le (p:Int → Bool):∀ l:List UInt8,runN p l ≤ l.length
 | [] => Nat.le_refl _
 | c :: r => by
   rw [runN]
   have:=runN_le p r
   split <;> simp <;> omega
theorem runN_yes (p:Int → Bool)(c:UInt8)(r:List UInt8)(h:p (c.toNat:Int) = true):runN p (c :: r) = runN p r + 1:=by rw [runN,if_pos h]
theorem zE2 (p:Int → Bool)(c:UInt8)(r:List UInt8)(h:p (c.toNat:Int) = false):runN p (c :: r) = 0:=by rw [runN,if_neg (by rw [h]; decide)]
theorem skipS_le:∀ (l:List UInt8)(b:Bool),skipS b l ≤ l.length
 | [],b => by cases b <;> exact Nat.le_refl _
 | c :: r,true => by
   have:=skipS_le r (linB (c.toNat:Int))
   simp only [skipS,List.length_cons]; omega
 | c :: r,false => by
   have h1:=skipS_le r true
   have h2:=skipS_le r false
   simp only [skipS,List.length_cons]
   split
   ·omega
   ·split <;> omega
theorem zFD {c:Int}(h:linB c = false):spcB c = true:=by
 have:c = 10:=by simpa [linB] using h
 subst this; decide
theorem skip_line:∀ l:List UInt8,skipS true l = runN linB l + skipS false (l.drop (runN linB l))
 | [] => rfl
 | c :: r => by
   cases h:linB (c.toNat:Int)
   ·rw [zE2 _ _ _ h,List.drop_zero,skipS,h,skipS,if_pos (zFD h)]; omega
   ·rw [runN_yes _ _ _ h,List.drop_succ_cons,skipS,h,skip_line r]; omega
theorem zD5:spcB ((47:UInt8).toNat:Int) = false:=by decide
theorem skip_slash (r:List UInt8):skipS false (47 :: 47 :: r) = skipS true (47 :: 47 :: r):=by
 have h1:linB ((47:UInt8).toNat:Int) = true:=by decide
 have h2:skipS true (47 :: 47 :: r) = skipS true (47 :: r) + 1:=by
  show skipS (linB ((47:UInt8).toNat:Int)) (47 :: r) + 1 = _
  rw [h1]
 have h3:skipS false (47 :: 47 :: r) = if spcB ((47:UInt8).toNat:Int) then skipS false (47 :: r) + 1 else if (47:UInt8) = 47 ∧ (47 :: r).head? = some 47 then skipS true (47 :: r) + 1 else 0:=rfl
 rw [h2,h3,if_neg (by rw [zD5]; decide),if_pos ⟨rfl,rfl⟩]
theorem skip_none (c:UInt8)(r:List UInt8)(h:spcB (c.toNat:Int) = false)(h2:¬ (c = 47 ∧ r.head? = some 47)):skipS false (c :: r) = 0:=by
 rw [skipS,if_neg (by rw [h]; decide),if_neg h2]
theorem zLd:∀ g ∈ signs,0 < g.length:=by decide
theorem zH1 {r g:List UInt8}(h:signAt r = some g):g ∈ signs:=List.mem_of_find?_eq_some h
theorem signAt_pos {r g:List UInt8}(h:signAt r = some g) : 0 < g.length:=zLd g (zH1 h)
theorem zH0 {r g:List UInt8}(h:signAt r = some g):g.isPrefixOf r = true:=by
 have:=List.find?_some h
 simpa using this
theorem signAt_le {r g:List UInt8}(h:signAt r = some g):g.length ≤ r.length:=by
 have:=zH0 h
 rw [List.isPrefixOf_iff_prefix] at this
 exact this.length_le
theorem one_len {r:List UInt8}{kind:Nat}{text:List UInt8}{num m:Nat}(h:one r = some (kind,text,num,m)) : 0 < m ∧ m ≤ r.length:=by
 unfold one at h
 split at h
 ·cases h
 ·rename_i c r'
  split at h
  ·rename_i hc
   have hl:=runN_le alnB (c :: r')
   have h0 : 0 < runN alnB (c :: r'):=by rw [runN_yes _ _ _ (by simp [alnB,hc])]; omega
   split at h
   ·simp only [Option.some.injEq,Prod.mk.injEq] at h; omega
   ·split at h
    ·simp only [Option.some.injEq,Prod.mk.injEq] at h; omega
    ·cases h
  ·split at h
   ·rename_i hc
    have hl:=runN_le digB (c :: r')
    have h0 : 0 < runN digB (c :: r'):=by rw [runN_yes _ _ _ hc]; omega
    split at h
    ·cases h
    ·simp only [Option.some.injEq,Prod.mk.injEq] at h; omega
   ·split at h
    ·cases h
    ·rename_i g hg
     simp only [Option.some.injEq,Prod.mk.injEq] at h
     have:=signAt_pos hg
     have:=signAt_le hg
     omega
def Come (l:List UInt8)(ts:List Tk)(k:Nat):Prop:=∃ f,l.length - k < f ∧ pre ts (lexF f k (l.drop k)) = lexAll l
theorem come_start (l:List UInt8):Come l [] (skipS false l):=by
 refine ⟨l.length + 1,by omega,?_⟩
 unfold lexAll
 cases lexF (l.length + 1) (skipS false l) (l.drop (skipS false l)) <;> rfl
theorem come_end {l:List UInt8}{ts:List Tk}{k:Nat}(h:Come l ts k)(hk:l.length ≤ k):lexAll l = .ok ts:=by
 obtain ⟨f,hf,h⟩:=h
 obtain ⟨f,rfl⟩:∃ g,f = g + 1:=⟨f - 1,by omega⟩
 rw [List.drop_eq_nil_of_le hk] at h
 rw [← h]
 simp [lexF,pre]
theorem come_fault {l:List UInt8}{ts:List Tk}{k:Nat}(h:Come l ts k)(hk:k < l.length)(h1:one (l.drop k) = none):lexAll l = .error k:=by
 obtain ⟨f,hf,h⟩:=h
 obtain ⟨f,rfl⟩:∃ g,f = g + 1:=⟨f - 1,by omega⟩
 rw [List.drop_eq_getElem_cons hk] at h h1
 rw [← h,lexF,h1]
 rfl
theorem come_next {l:List UInt8}{ts:List Tk}{k:Nat}(h:Come l ts k)(hk:k < l.length){kind:Nat}{text:List UInt8}{num m:Nat}(h1:one (l.drop k) = some (kind,text,num,m)) :
 Come l (ts ++ [⟨kind,text,num,k⟩]) (k + m + skipS false (l.drop (k + m))):=by
 obtain ⟨f,hf,h⟩:=h
 obtain ⟨f,rfl⟩:∃ g,f = g + 1:=⟨f - 1,by omega⟩
 have hm:=one_len h1
 refine ⟨f,by omega,?_⟩
 rw [← h]
 rw [List.drop_eq_getElem_cons hk] at h1 ⊢
 rw [lexF,h1]
 simp only []
 rw [← List.drop_eq_getElem_cons hk,List.drop_drop,List.drop_drop]
 rw [show k + (m + skipS false (l.drop (k + m))) = k + m + skipS false (l.drop (k + m)) from by omega]
 cases lexF f (k + m + skipS false (l.drop (k + m))) (l.drop (k + m + skipS false (l.drop (k + m)))) <;> simp [pre]
theorem zHu:∀ (f k:Nat)(r:List UInt8)(ts:List Tk),lexF f k r = .ok ts → ts.length ≤ r.length
 | 0,_,_,_,h => by simp [lexF] at h
 | f + 1,k,[],ts,h => by
   simp only [lexF] at h
   injection h with h
   rw [← h]; simp
 | f + 1,k,c :: r,ts,h => by
   rw [lexF] at h
   split at h
   ·cases h
   ·rename_i kind text num m h1
    have hm:=one_len h1
    split at h
    ·cases h
    ·rename_i us hu
     have:=zHu f _ _ us hu
     injection h with h
     rw [← h]
     rw [List.length_drop] at this
     simp only [List.length_cons] at this hm ⊢
     omega
theorem toks_len (l:List UInt8):(toks l).1.length ≤ 6001:=by
 unfold toks
 by_cases h : 6000 < l.length
 ·rw [if_pos h]; simp
 ·rw [if_neg h]
  cases h2:lexAll l with
  | error k => simp
  | ok ts =>
    have:=zHu _ _ _ ts h2
    rw [List.length_drop] at this
    simp only [List.length_append,List.length_singleton]
    omega
end Lx
open Go.RowKit
def bs (l:List UInt8):ByteArray:=⟨l.toArray⟩
theorem zG5 (l:List UInt8):(bs l).data.toList = l:=rfl
theorem zRb (s:ByteArray):bs s.data.toList = s:=rfl
theorem zCe {a b:Bool}(h:a = b):Ending.returned (.bool a) = .returned (.bool b):=by rw [h]
theorem zCs {k:IntKind}{a b:Int}(h:a = b):Ending.returned (.int k a) = .returned (.int k b):=by rw [h]
theorem zAm (c:Int)(w:World):Calls Tryd.prog 47 #[.int .u8 c] w fun e w' => e = .returned (.bool (Lx.letB c)) ∧ w = w':=by
 go_in
 go_wp2
 all_goals
  go_ret
  refine ⟨zCe ?_,rfl⟩
  rw [Bool.eq_iff_iff]
  simp [Lx.letB]
  try omega
theorem zA3 (c:Int)(w:World):Calls Tryd.prog 51 #[.int .u8 c] w fun e w' => e = .returned (.bool (Lx.digB c)) ∧ w = w':=by
 go_in
 go_wp2
 all_goals
  go_ret
  refine ⟨zCe ?_,rfl⟩
  rw [Bool.eq_iff_iff]
  simp [Lx.digB]
  try omega
structure Belongs (F:FuncId) (p:Int → Bool):Prop where
 enter:∀ (args:Array Value) (w:World),(callFunc F args).run Tryd.prog w = .ok (.enter F args) w
 ans:∀ (c:Int) (w:World),Calls Tryd.prog F #[.int .u8 c] w fun e w' => e = .returned (.bool (p c)) ∧ w = w'
theorem zAy (s:ByteArray)(j:Nat)(h:j < s.size):s.data.toList.drop j = s[j] :: s.data.toList.drop (j + 1):=List.drop_eq_getElem_cons (by simpa using h)
theorem zFJ (s:ByteArray)(p:Int → Bool)(j:Nat)(h:j < s.size):Lx.runN p (s.data.toList.drop j) = if p (s[j].toNat:Int) then Lx.runN p (s.data.toList.drop (j + 1)) + 1 else 0:=by
 rw [zAy s j h,Lx.runN]
theorem zCl (s:ByteArray)(j:Nat)(h:s.size ≤ j):s.data.toList.drop j = []:=List.drop_eq_nil_of_le (by simpa using h)
theorem zBm (s:ByteArray):s.data.toList.length = s.size:=by simp
theorem zHS (w:World):Calls Tryd.prog 81 #[] w fun e w' => e = .returned (.slice (some ⟨w.heap.size,0,none⟩) 18 18) ∧ w' = w.alloc (.cells (Lx.words.map fun l => .string (bs l)).toArray 9):=by
 go_in
 go_wp2
 go_ret
 exact ⟨rfl,rfl⟩
def HasWords (B:Nat)(w:World):Prop:=∀ j g,Lx.words[j]? = some g → w.cell? ⟨B,j,none⟩ = some (.string (bs g))
theorem zIU (w:World):Calls Tryd.prog 81 #[] w fun e w' => e = .returned (.slice (some ⟨w.heap.size,0,none⟩) 18 18) ∧ HasWords w.heap.size w' ∧ Below w.heap.size w w':=
 (zHS w).mono fun _ _ ⟨he,hw⟩ => ⟨he,fun j g hg => by
  rw [hw,cell_of_row _ _ j _ _ _ (heap_alloc_new w _)]
  simp [hg],hw ▸ (Below.refl _ _).alloc (Nat.le_refl _) _⟩
theorem zIS:Lx.words.length = 18:=by decide
theorem zDw (s:ByteArray)(w:World):Calls Tryd.prog 49 #[.string s] w fun e w' => e = .returned (.bool (Lx.isWord s.data.toList)) ∧ Below w.heap.size w w':=by
 have hlen:=zIS
 have HL:=vH hlen
 clear hlen
 go_in
 go_wp2_with (go_at_call 81; refine (zIU _).mono ?_; rintro e w1 ⟨rfl,hw1,hb⟩)
 have HW:=vH hw1
 clear hw1
 go_loop [4] (fun i => ∃ j:Nat,j ≤ 18 ∧ i = .int .i64 j ∧ ∀ g ∈ Lx.words.take j,g ≠ s.data.toList) (fun i => 18 - (intOf i).toNat)
 case atStart => exact ⟨0,by omega,rfl,by simp⟩
 case round =>
  obtain ⟨j,hj,rfl,hno⟩:=hrel
  have HN:=vH hno
  clear hno
  by_cases hlt:j < 18
  ·obtain ⟨g,hg⟩:∃ g,Lx.words[j]? = some g:=⟨_,List.getElem?_eq_getElem (by rw [HL.out]; exact hlt)⟩
   have hc:=HW.out j g hg
   have HG:=vH hg
   clear hg
   by_cases he:g = s.data.toList
   ·have hx:((bs g).toList == s.toList) = true:=by rw [Lib.toList_data,Lib.toList_data,zG5]; exact beq_iff_eq.2 he
    have HE:=vH he
    clear he
    go_wp2
    go_ret
    refine ⟨zCe ?_,hb⟩
    rw [Lx.isWord,List.contains_iff_mem.2 (by rw [← HE.out]; exact List.mem_of_getElem? HG.out)]
   ·have hx:((bs g).toList == s.toList) = false:=by rw [Lib.toList_data,Lib.toList_data,zG5]; exact beq_eq_false_iff_ne.2 he
    have HE:=vH he
    clear he
    go_wp2
    go_round
    case rel =>
     refine ⟨j + 1,by omega,by go_num,?_⟩
     intro g' hg'
     rw [List.take_add_one,HG.out] at hg'
     simp only [Option.toList,List.mem_append,List.mem_singleton] at hg'
     rcases hg' with hg' | rfl
     ·exact HN.out g' hg'
     ·exact HE.out
    case measure => simp [intOf]; omega
  ·go_wp2
   go_ret
   refine ⟨zCe ?_,hb⟩
   have hn:=HN.out
   rw [List.take_of_length_le (by rw [HL.out]; omega)] at hn
   rw [Lx.isWord]
   symm
   rw [← Bool.not_eq_true,List.contains_iff_mem]
   exact fun h => hn _ h rfl
end Go.Proofs.YteadgahhchlgeaaDoor.Ln
