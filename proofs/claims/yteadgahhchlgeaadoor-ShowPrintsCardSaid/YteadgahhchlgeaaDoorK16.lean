/-
  What the listed package-level variables give a walk: the two
-/
import Derived.Test.YteadgahhchlgeaaDoorK02
import Derived.Test.YteadgahhchlgeaaDoorK15
import Derived.Test.YteadgahhchlgeaaDoorRows
import Derived.ProofKit
import Derived.LaidMore
import Derived.OpenShut
import Derived.Stop.Joined
import Derived.Stop.LaidErr
import Derived.Lib.LaidTab
import Derived.Lib.SmallJoins
import Derived.Lib.AtoiErrMem
namespace Go.Proofs.YteadgahhchlgeaaDoor.Ln
open Go.ChangeShapes Go.WideShapes Go.ChangeAt Go.WideMaps Go.WideElems Go.RowKit
def textData {H:Type}(zs:List (List UInt8)):DataW H:=.agg (zs.map fun z => .lit (.string z))
theorem zD8 {H:Type}{enc:TypeId × Value → H}{P:Program}{w:World}{base:Nat}{sp:Nat → Bool}{held:Bool}{fuel:Nat}{t e:TypeId}{n:Nat}{cs:List Value}{zs:List (List UInt8)}{p:List MemPlace}
 (ht:P.underlying t = some (.array n e)) (he:P.underlying e = some .string) (hce:P.cellsOf e = 1) (hct:P.cellsOf t = n)
 (h:DataW.trod enc P w base sp held fuel t cs = some (textData zs,p)):cs = zs.map fun z => Value.string (bs z):=by
 cases fuel with
 | zero => simp [DataW.trod] at h
 | succ fuel =>
   simp only [DataW.trod,ht,hce,hct,Nat.mul_one] at h
   split at h
   ·rename_i hl
    obtain ⟨xs,hm,hx⟩:=Option.map_eq_some_iff.1 h
    have hxs:xs.map (·.1) = zs.map fun z => (DataW.lit (.string z):DataW H):=by
        have:=congrArg Prod.fst hx
        simpa [textData] using this
    have hxl:xs.length = n:=by simpa using Lib.mapM_length hm
    have hzl:zs.length = n:=by
        have:=congrArg List.length hxs
        simp at this
        omega
    apply List.ext_getElem?
    intro i
    by_cases hi:i < n
    ·obtain ⟨b,hb,hf⟩:=Lib.mapM_at hm i i (by simp [hi])
     obtain ⟨z,hc,hbz,_⟩:=DataW.trod_string he hf
     have h1:cs[i]? = some (.string z):=by
      have:=congrArg (·[0]?) hc
      simpa [List.getElem?_take,List.getElem?_drop] using this
     have h2:(xs.map (·.1))[i]? = some (DataW.lit (.string z.data.toList):DataW H):=by simp [hb,hbz]
     rw [hxs] at h2
     simp only [List.getElem?_map,Option.map_eq_some_iff,DataW.lit.injEq,Lit.string.injEq] at h2
     obtain ⟨z',hz',hq⟩:=h2
     rw [h1,List.getElem?_map,hz',hq]
     rfl
    ·rw [List.getElem?_eq_none (by omega),List.getElem?_eq_none (by simp; omega)]
   ·cases h
theorem zGP {P:Program}{w:World}{n:String}{g:Nat}{cs:Array Value}(hg:P.globalNamed n = some g)(h:w.var? P n = some cs):∃ t fr,w.heap[g]? = some (.cells cs t fr):=by
 simp only [World.var?,hg,Option.bind_some] at h
 split at h
 ·rename_i cs' t fr he
  injection h with h
  exact ⟨t,fr,by rw [he,h]⟩
 ·cases h
theorem zCn {P:Program}{W:World}{name:String}{zs:List (List UInt8)}{rest:List (String × DataW Unit)}{g:Nat}{t e:TypeId}{n:Nat}
 (hg:P.globalNamed name = some g) (hty:(P.globals[g]?).map (·.type) = some t) (ht:P.underlying t = some (.array n e)) (he:P.underlying e = some .string) (hce:P.cellsOf e = 1) (hct:P.cellsOf t = n)
 (h:laidMet P ((name,textData zs) :: rest) W):∃ t' fr,W.heap[g]? = some (.cells (zs.map fun z => Value.string (bs z)).toArray t' fr):=by
 obtain ⟨ps,⟨g',t',cs,fuel,p,q,hg',ht',hvar,hd,_,_⟩,_⟩:=h
 obtain rfl:=Option.some.inj (hg.symm.trans hg')
 obtain rfl:=Option.some.inj (hty.symm.trans ht')
 refine zGP hg ?_
 rw [hvar,← zD8 ht he hce hct hd]
theorem zBS {w:World}{b:Nat}{v:Obj}(h:w.heap[b]? = some v):b < w.heap.size:=(Array.getElem?_eq_some_iff.1 h).1
end Go.Proofs.YteadgahhchlgeaaDoor.Ln
namespace Go.Proofs.YteadgahhchlgeaaDoor.Ln
namespace Lx
def oneWord (r:List UInt8):Option (Nat × List UInt8 × Nat × Nat):=
 if isWord (r.take (runN alnB r)) then some (3,r.take (runN alnB r),0,runN alnB r)
 else if isName (r.take (runN alnB r)) then some (1,r.take (runN alnB r),0,runN alnB r)
 else none
def oneNum (r:List UInt8):Option (Nat × List UInt8 × Nat × Nat):=
 if numBad r then none else some (2,[],valN 0 (r.take (runN digB r)),runN digB r)
def oneSign (r:List UInt8):Option (Nat × List UInt8 × Nat × Nat):=
 match signAt r with
 | none => none
 | some g => some (4,g,0,g.length)
theorem one_word (c:UInt8)(r:List UInt8)(h:letB (c.toNat:Int) = true):one (c :: r) = oneWord (c :: r):=by
 rw [one,if_pos h,oneWord]
theorem one_num (c:UInt8)(r:List UInt8)(h:letB (c.toNat:Int) = false)(h2:digB (c.toNat:Int) = true):one (c :: r) = oneNum (c :: r):=by
 rw [one,if_neg (by rw [h]; decide),if_pos h2,oneNum]
theorem one_sign (c:UInt8)(r:List UInt8)(h:letB (c.toNat:Int) = false)(h2:digB (c.toNat:Int) = false):one (c :: r) = oneSign (c :: r):=by
 rw [one,if_neg (by rw [h]; decide),if_neg (by rw [h2]; decide),oneSign]
 cases signAt (c :: r) <;> rfl
end Lx
open Go.RowKit
theorem zJc:Lx.signs.length = 23:=by decide
theorem zGj {r:List UInt8}(h:∀ g ∈ Lx.signs,g.isPrefixOf r = false):Lx.signAt r = none:=by
 rw [Lx.signAt,List.find?_eq_none]
 intro g hg
 rw [h g hg]; decide
theorem zED:∀ (l:List (List UInt8))(p:List UInt8 → Bool)(j:Nat)(g:List UInt8),l[j]? = some g → (∀ x ∈ l.take j,p x = false) → p g = true → l.find? p = some g
 | [],_,_,_,h,_,_ => by simp at h
 | x :: l,p,0,g,h,_,hp => by
   simp at h
   subst h
   simp [hp]
 | x :: l,p,j + 1,g,h,hn,hp => by
   have hx:=hn x (by simp)
   rw [List.find?_cons_of_neg (by rw [hx]; decide)]
   exact zED l p j g (by simpa using h) (fun y hy => hn y (by simp [hy])) hp
theorem zC4 {r g:List UInt8}{j:Nat}(hg:Lx.signs[j]? = some g)(hn:∀ x ∈ Lx.signs.take j,x.isPrefixOf r = false)(hp:g.isPrefixOf r = true):Lx.signAt r = some g:=
 zED Lx.signs _ j g hg hn hp
open Go.RowKit
theorem zCI (s:ByteArray)(k m:Nat):(s.extract k (k + m)).data.toList = (s.data.toList.drop k).take m:=by
 rw [Lib.extract_data]
 congr 1
 omega
theorem zQQ (s:ByteArray)(k m n:Nat)(h:k + m = n):s.extract k n = bs ((s.data.toList.drop k).take m):=by
 rw [← h,← zRb (s.extract k (k + m)),zCI]
theorem zMt (s:ByteArray)(k n:Nat):(s.extract k n).size ≤ s.size:=by
 rw [ByteArray.size_extract]; omega
theorem zFE {s:ByteArray}(h:s.size ≤ 6000):s.size ≤ maxLen:=by unfold maxLen; omega
theorem zKJ {s:ByteArray}(k n:Nat)(h:s.size ≤ 6000):(s.extract k n).size ≤ maxLen:=by
 have:=zMt s k n
 unfold maxLen; omega
theorem zGe {w w1:World}{cs:Array Value}{T:TypeId}(hb:Below (w.alloc (.cells cs T)).heap.size (w.alloc (.cells cs T)) w1):w1.heap[w.heap.size]? = some (.cells cs T (0,0)):=by
 rw [hb.block _ (by simp)]; exact heap_alloc_new w _
theorem box4 {w1:World}{B:Nat}{T:TypeId}{a b c d:Value}(h:w1.heap[B]? = some (.cells #[a,b,c,d] T (0,0))) :
 (w1.cell? ⟨B,0,none⟩ = some a ∧ w1.cell? ⟨B,1,none⟩ = some b ∧ w1.cell? ⟨B,2,none⟩ = some c ∧ w1.cell? ⟨B,3,none⟩ = some d) ∧
 (w1.frozen? ⟨B,0,none⟩ = false ∧ w1.frozen? ⟨B,1,none⟩ = false ∧ w1.frozen? ⟨B,2,none⟩ = false ∧ w1.frozen? ⟨B,3,none⟩ = false):=
 ⟨⟨by rw [cell_of_row _ _ _ _ _ _ h]; rfl,by rw [cell_of_row _ _ _ _ _ _ h]; rfl,by rw [cell_of_row _ _ _ _ _ _ h]; rfl,by rw [cell_of_row _ _ _ _ _ _ h]; rfl⟩,
   frozen_of_row _ _ _ _ _ h,frozen_of_row _ _ _ _ _ h,frozen_of_row _ _ _ _ _ h,frozen_of_row _ _ _ _ _ h⟩
theorem zB7 {w w1:World}{o:Obj}(hb:Below (w.alloc o).heap.size (w.alloc o) w1):Below w.heap.size w w1:=
 ((Below.refl _ _).alloc (Nat.le_refl _) o).trans (hb.mono (by simp))
theorem zGF {s:ByteArray}{k:Nat}(hk:k < s.size)(h:Lx.letB (s[k].toNat:Int) = true):Lx.one (s.data.toList.drop k) = Lx.oneWord (s.data.toList.drop k):=by
 rw [zAy s k hk]; exact Lx.one_word _ _ h
theorem zIE {s:ByteArray}{k:Nat}(hk:k < s.size)(h:Lx.letB (s[k].toNat:Int) = false)(h2:Lx.digB (s[k].toNat:Int) = true):Lx.one (s.data.toList.drop k) = Lx.oneNum (s.data.toList.drop k):=by
 rw [zAy s k hk]; exact Lx.one_num _ _ h h2
theorem zGG {s:ByteArray}{k:Nat}(hk:k < s.size)(h:Lx.letB (s[k].toNat:Int) = false)(h2:Lx.digB (s[k].toNat:Int) = false):Lx.one (s.data.toList.drop k) = Lx.oneSign (s.data.toList.drop k):=by
 rw [zAy s k hk]; exact Lx.one_sign _ _ h h2
theorem zOp {s:ByteArray}{k:Nat}(hk:k < s.size):(s.data.toList.drop k).head? = some s[k]:=by rw [zAy s k hk]; rfl
theorem zIH {s:ByteArray}{n:Nat}(hn:n < s.size):Lx.nextLet (s.data.toList.drop n) = Lx.letB (s[n].toNat:Int):=by rw [zAy s n hn]; rfl
theorem zGJ {s:ByteArray}{n:Nat}(hn:s.size ≤ n):Lx.nextLet (s.data.toList.drop n) = false:=by rw [zCl s n hn]; rfl
theorem zKc {s:ByteArray}{k m n V:Nat}(hk:k < s.size)(hm:Lx.runN Lx.digB (s.data.toList.drop k) = m)(hn:k + m = n)(hV:Lx.valN 0 ((s.data.toList.drop k).take m) = V) :
 Lx.numBad (s.data.toList.drop k) = (decide (s[k] = 48 ∧ 1 < m) || decide (9223372036854775807 < V) || Lx.nextLet (s.data.toList.drop n)):=by
 rw [Lx.numBad,hm,hV,List.drop_drop,hn,zOp hk]
 simp
theorem zRa {c:UInt8}(h:((c.toNat:Int) == 48) = true):c = 48:=by
 have h1:=beq_iff_eq.1 h
 exact UInt8.toNat_inj.1 (by show c.toNat = 48; omega)
theorem zOQ {c:UInt8}(h:((c.toNat:Int) == 48) = false):c ≠ 48:=by
 rintro rfl
 exact absurd h (by decide)
def tokCells (t:Lx.Tk):List Value:=[.int .i64 t.kind,.string (bs t.text),.int .i64 t.num,.int .i64 t.at_]
def cellsOf (ts:List Lx.Tk):List Value:=ts.flatMap tokCells
theorem zDe (ts:List Lx.Tk)(t:Lx.Tk):cellsOf (ts ++ [t]) = cellsOf ts ++ tokCells t:=by simp [cellsOf]
def Lies (w:World)(B:Nat)(A:Option Addr)(xs:List Value):Prop:=
 xs ≠ [] → ∃ g,A = some ⟨g,0,none⟩ ∧ g < B ∧ ∀ j u,xs[j]? = some u → w.cell? ⟨g,j,none⟩ = some u
theorem Lies.below {w w':World}{B:Nat}{A:Option Addr}{xs:List Value}(h:Lies w B A xs)(hb:Below B w w'):Lies w' B A xs:=by
 intro hx
 obtain ⟨g,ha,hg,hc⟩:=h hx
 exact ⟨g,ha,hg,fun j u hu => by rw [hb.cell (p:=⟨g,j,none⟩) hg]; exact hc j u hu⟩
theorem Lies.mono {w:World}{B B':Nat}{A:Option Addr}{xs:List Value}(h:Lies w B A xs)(hB:B ≤ B'):Lies w B' A xs:=by
 intro hx
 obtain ⟨g,ha,hg,hc⟩:=h hx
 exact ⟨g,ha,by omega,hc⟩
theorem Lies.nil {w:World}{B:Nat}{A:Option Addr}:Lies w B A []:=fun h => absurd rfl h
theorem zDG {w:World}{base n sz:Nat}{T:TypeId}{v:Value}{xs:List Value}(h:w.ownsRow base T sz v n xs):∃ A c,v = .slice A n c ∧ Lies w w.heap.size A xs:=by
 rcases h.2 with ⟨rfl,rfl⟩ | ⟨g,cap,cur,rfl,_,hg,_⟩
 ·have:xs = []:=List.eq_nil_of_length_eq_zero (by have:=h.1; omega)
  exact ⟨none,0,rfl,by rw [this]; exact Lies.nil⟩
 ·refine ⟨_,_,rfl,fun _ => ⟨g,rfl,zBS hg,fun j u hu => ?_⟩⟩
  have:=h.cells (g:=g) rfl j u hu
  have hadd:(⟨g,0,none⟩:Addr).add j = ⟨g,j,none⟩:=by unfold Addr.add; split <;> simp_all
  rw [← hadd]; exact this
def TokRes (l:List UInt8)(w:World)(e:Ending)(w':World):Prop:=
 ∃ (A:Option Addr) (c:Nat),e = .returned (.tuple #[.slice A (Lx.toks l).1.length c,.agg #[.int .i64 (Lx.toks l).2.1,.int .i64 (Lx.toks l).2.2]]) ∧ Lies w' w'.heap.size A (cellsOf (Lx.toks l).1) ∧ Below w.heap.size w w'
theorem zI3 {l:List UInt8}(h : 6000 < l.length):Lx.toks l = ([],4,0):=by rw [Lx.toks,if_pos h]
theorem zHU {l:List UInt8}{k:Nat}(h:l.length ≤ 6000)(h2:Lx.lexAll l = .error k):Lx.toks l = ([],1,k):=by rw [Lx.toks,if_neg (by omega),h2]
theorem toks_ok {l:List UInt8}{ts:List Lx.Tk}(h:l.length ≤ 6000)(h2:Lx.lexAll l = .ok ts):Lx.toks l = (ts ++ [⟨0,[],0,l.length⟩],0,0):=by rw [Lx.toks,if_neg (by omega),h2]
theorem zOn:(Tryd.prog.info? 71).map (fun i => (i.zero,i.size,i.bytes)) = some (some (.agg #[.int .i64 0,.string ⟨#[]⟩,.int .i64 0,.int .i64 0]),4,40):=by kernel_rfl
theorem zLh {l:List UInt8}(h : 6000 < l.length){w w':World}(hb:Below w.heap.size w w'):TokRes l w (.returned (.tuple #[.slice none 0 0,.agg #[.int .i64 4,.int .i64 0]])) w':=by
 unfold TokRes
 rw [zI3 h]
 exact ⟨none,0,rfl,Lies.nil,hb⟩
theorem zJu {l:List UInt8}{k:Nat}(h:l.length ≤ 6000)(h2:Lx.lexAll l = .error k){w w':World}(hb:Below w.heap.size w w'):TokRes l w (.returned (.tuple #[.slice none 0 0,.agg #[.int .i64 1,.int .i64 k]])) w':=by
 unfold TokRes
 rw [zHU h h2]
 exact ⟨none,0,rfl,Lies.nil,hb⟩
theorem zPT {l:List UInt8}{ts:List Lx.Tk}(h:l.length ≤ 6000)(h2:Lx.lexAll l = .ok ts){w w':World}(hb:Below w.heap.size w w'){A:Option Addr}{n c:Nat}(hn:n = ts.length + 1)(hl:Lies w' w'.heap.size A (cellsOf ts ++ tokCells ⟨0,[],0,l.length⟩)) :
 TokRes l w (.returned (.tuple #[.slice A n c,.agg #[.int .i64 0,.int .i64 0]])) w':=by
 unfold TokRes
 rw [toks_ok h h2]
 refine ⟨A,c,?_,?_,hb⟩
 ·rw [hn]; simp
 ·rw [zDe]; exact hl
structure TokLoop (l:List UInt8) (w:World) (ts:List Lx.Tk) (k:Nat) (v:Value) (wr:World):Prop where
 come:Lx.Come l ts k
 few:ts.length ≤ k
 own:wr.ownsRow (w.heap.size + 1) 71 4 v ts.length (cellsOf ts)
 blk:wr.heap[w.heap.size]? = some (.cells vF 29 (0,0))
 bel:Below w.heap.size w wr
theorem TokLoop.start {l:List UInt8}{w:World}{k:Nat}(hk:Lx.skipS false l = k):TokLoop l w [] k (.slice none 0 0) (w.alloc (.cells vF 29)):=
 ⟨by rw [← hk]; exact Lx.come_start l,Nat.zero_le _,World.ownsRow_nil _ _ _ _,heap_alloc_new _ _,(Below.refl _ _).alloc (Nat.le_refl _) _⟩
theorem box2 {w1:World}{B:Nat}{T:TypeId}{a b:Value}(h:w1.heap[B]? = some (.cells #[a,b] T (0,0))) :
 (w1.cell? ⟨B,0,none⟩ = some a ∧ w1.cell? ⟨B,1,none⟩ = some b) ∧ (w1.frozen? ⟨B,0,none⟩ = false ∧ w1.frozen? ⟨B,1,none⟩ = false) ∧ B < w1.heap.size:=
 ⟨⟨by rw [cell_of_row _ _ _ _ _ _ h]; rfl,by rw [cell_of_row _ _ _ _ _ _ h]; rfl⟩,⟨frozen_of_row _ _ _ _ _ h,frozen_of_row _ _ _ _ _ h⟩,zBS h⟩
theorem zDm {w wr w1:World}(h1:Below w.heap.size w wr)(h2:Below wr.heap.size wr w1):Below w.heap.size w w1:=h1.trans (h2.mono h1.size)
theorem zGR {w w1:World}(hb:Below w.heap.size w w1):w.grownBy w1 none:=⟨hb.os,hb.tape,hb.output,hb.size,fun i hi _ => hb.block i hi⟩
theorem zJ2 {w w1:World}{base n sz:Nat}{T:TypeId}{v:Value}{xs:List Value}(h:w.ownsRow base T sz v n xs)(hb:Below w.heap.size w w1):w1.ownsRow base T sz v n xs:=
 h.kept (zGR hb) (by cases v.ownBlock <;> simp)
theorem TokLoop.next {l:List UInt8}{w wr w1 w2:World}{ts:List Lx.Tk}{k kind num m p q:Nat}{text:List UInt8}{v v':Value}{o1 o2:Obj}(h:TokLoop l w ts k v wr)(hk:k < l.length)(hone:Lx.one (l.drop k) = some (kind,text,num,m))(hp:k + m = p)
 (hq:p + Lx.skipS false (l.drop p) = q) (hb:Below wr.heap.size wr w1) (hg:((w1.alloc o1).alloc o2).grownBy w2 v.ownBlock) (hown:w2.ownsRow (w.heap.size + 1) 71 4 v' (ts.length + 1) (cellsOf ts ++ tokCells ⟨kind,text,num,k⟩)) :
 TokLoop l w (ts ++ [⟨kind,text,num,k⟩]) q v' w2:=by
 have hm:=Lx.one_len hone
 have hlt:=zBS h.blk
 have hbs:=hb.size
 refine ⟨?_,?_,?_,?_,?_⟩
 ·rw [← hq,← hp]; exact Lx.come_next h.come hk hone
 ·have:=h.few
  rw [List.length_append,List.length_singleton]; omega
 ·rw [zDe,List.length_append,List.length_singleton]; exact hown
 ·rw [hg.block w.heap.size (by simp; omega) (fun e => by have:=(h.own.lt _ e.symm).1; omega)]
  rw [heap_alloc_old _ _ (by simp; omega),heap_alloc_old _ _ (by omega),hb.block _ hlt]
  exact h.blk
 ·refine (((zDm h.bel hb).alloc (by omega) o1).alloc (by simp; omega) o2).grown hg (by simp; omega) (fun j hj => ?_)
  have:=(h.own.lt _ hj).1
  omega
theorem zQj (W:World)(a b c d:Value)(T:TypeId)(B:Nat)(hB:B = W.heap.size):∀ j u,[a,b,c,d][j]? = some u → (W.alloc (.cells #[a,b,c,d] T)).cell? ((⟨B,0,none⟩:Addr).add j) = some u:=by
 intro j u hu
 subst hB
 have hadd:(⟨W.heap.size,0,none⟩:Addr).add j = ⟨W.heap.size,j,none⟩:=by unfold Addr.add; split <;> simp_all
 rw [hadd,cell_of_row _ _ j _ _ _ (heap_alloc_new W _)]
 simpa using hu
theorem zI4 (t:Lx.Tk):∀ u ∈ tokCells t,u.oneCell' = true:=by
 intro u hu
 simp [tokCells] at hu
 rcases hu with rfl | rfl | rfl | rfl <;> rfl
theorem zJ0 {w:World}{base n sz:Nat}{T:TypeId}{v:Value}{xs:List Value}(h:w.ownsRow base T sz v n xs){p:Addr}(hp:p.block < base)(u:Value):(w.setCell p u).ownsRow base T sz v n xs:=by
 refine h.kept (row:=some p.block) ⟨rfl,rfl,rfl,by simp [World.setCell],fun i _ hne => Below.heap_setCell w p u i (fun e => hne (by rw [e]))⟩ ?_
 cases hv:v.ownBlock with
 | none => exact Or.inl rfl
 | some g => exact Or.inr (fun e => by have:=(h.lt g hv).1; injection e; omega)
theorem zKj {w:World}{B n c sz:Nat}{T:TypeId}{A:Option Addr}{xs:List Value}(h:w.ownsRow (B + 1) T sz (.slice A n c) n xs)(x y:Value) :
 Lies ((w.setCell ⟨B,0,none⟩ x).setCell ⟨B,1,none⟩ y) ((w.setCell ⟨B,0,none⟩ x).setCell ⟨B,1,none⟩ y).heap.size A xs:=by
 have h2:=zJ0 (zJ0 h (p:=⟨B,0,none⟩) (by simp) x) (p:=⟨B,1,none⟩) (by simp) y
 obtain ⟨A',c',he,hl⟩:=zDG h2
 injection he with he _ _
 rw [he]; exact hl
theorem TokLoop.blk_last {l:List UInt8}{w wr w2:World}{ts:List Lx.Tk}{k:Nat}{v:Value}{o1:Obj}(h:TokLoop l w ts k v wr)(hg:(wr.alloc o1).grownBy w2 v.ownBlock):w2.heap[w.heap.size]? = some (.cells vF 29 (0,0)):=by
 have hlt:=zBS h.blk
 rw [hg.block w.heap.size (by simp; omega) (fun e => by have:=(h.own.lt _ e.symm).1; omega),heap_alloc_old _ _ (by omega)]
 exact h.blk
theorem TokLoop.bel_last {l:List UInt8}{w wr w2:World}{ts:List Lx.Tk}{k:Nat}{v:Value}{o1:Obj}(h:TokLoop l w ts k v wr)(hg:(wr.alloc o1).grownBy w2 v.ownBlock):Below w.heap.size w w2:=by
 have hlt:=zBS h.blk
 refine (h.bel.alloc (by omega) o1).grown hg (by simp; omega) (fun j hj => ?_)
 have:=(h.own.lt _ hj).1
 omega
end Go.Proofs.YteadgahhchlgeaaDoor.Ln
