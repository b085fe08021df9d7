/-
  The contract of lex's Tokens.
-/
import Derived.Test.YtjleggpbghmobaaK01
import Derived.Test.YtjleggpbghmobaaK22
import Derived.Deep.QuietTactic
import Derived.BigQuiet
import Derived.IntWalk
set_option maxRecDepth 8000
set_option maxHeartbeats 8000000
namespace Go.Proofs.Ytjleggpbghmobaa.Ln
open Go.RowKit
def tokCells (t:Lx.Tk):List Value:=[.int .i64 t.kind,.string (bs t.text),.int .i64 t.num,.int .i64 t.at_]
def cellsOf (ts:List Lx.Tk):List Value:=ts.flatMap tokCells
theorem zBP (ts:List Lx.Tk)(t:Lx.Tk):cellsOf (ts ++ [t]) = cellsOf ts ++ tokCells t:=by simp [cellsOf]
def Lies (w:World)(B:Nat)(A:Option Addr)(xs:List Value):Prop:=
 xs ≠ [] → ∃ g,A = some ⟨g,0,none⟩ ∧ g < B ∧ ∀ j u,xs[j]? = some u → w.cell? ⟨g,j,none⟩ = some u
theorem Lies.below {w w':World}{B:Nat}{A:Option Addr}{xs:List Value}(h:Lies w B A xs)(hb:Below B w w'):Lies w' B A xs:=by
 intro hx
 obtain ⟨g,ha,hg,hc⟩:=h hx
 exact ⟨g,ha,hg,fun j u hu => by rw [hb.cell (p:=⟨g,j,none⟩) hg]; exact hc j u hu⟩
theorem Lies.mono {w:World}{B B':Nat}{A:Option Addr}{xs:List Value}(h:Lies w B A xs)(hB:B ≤ B'):Lies w B' A xs:=by
 intro hx
 obtain ⟨g,ha,hg,hc⟩:=h hx
 exact ⟨g,ha,by omega,hc⟩
theorem Lies.nil {w:World}{B:Nat}{A:Option Addr}:Lies w B A []:=fun h => absurd rfl h
theorem zCc {w:World}{base n sz:Nat}{T:TypeId}{v:Value}{xs:List Value}(h:w.ownsRow base T sz v n xs):∃ A c,v = .slice A n c ∧ Lies w w.heap.size A xs:=by
 rcases h.2 with ⟨rfl,rfl⟩ | ⟨g,cap,cur,rfl,_,hg,_⟩
 ·have:xs = []:=List.eq_nil_of_length_eq_zero (by have:=h.1; omega)
  exact ⟨none,0,rfl,by rw [this]; exact Lies.nil⟩
 ·refine ⟨_,_,rfl,fun _ => ⟨g,rfl,zAW hg,fun j u hu => ?_⟩⟩
  have:=h.cells (g:=g) rfl j u hu
  have hadd:(⟨g,0,none⟩:Addr).add j = ⟨g,j,none⟩:=by unfold Addr.add; split <;> simp_all
  rw [← hadd]; exact this
def TokRes (l:List UInt8)(w:World)(e:Ending)(w':World):Prop:=
 ∃ (A:Option Addr) (c:Nat),e = .returned (.tuple #[.slice A (Lx.toks l).1.length c,.agg #[.int .i64 (Lx.toks l).2.1,.int .i64 (Lx.toks l).2.2]]) ∧ Lies w' w'.heap.size A (cellsOf (Lx.toks l).1) ∧ Below w.heap.size w w'
theorem zFe {l:List UInt8}(h : 6000 < l.length):Lx.toks l = ([],4,0):=by rw [Lx.toks,if_pos h]
theorem zEp {l:List UInt8}{k:Nat}(h:l.length ≤ 6000)(h2:Lx.lexAll l = .error k):Lx.toks l = ([],1,k):=by rw [Lx.toks,if_neg (by omega),h2]
theorem zHY {l:List UInt8}{ts:List Lx.Tk}(h:l.length ≤ 6000)(h2:Lx.lexAll l = .ok ts):Lx.toks l = (ts ++ [⟨0,[],0,l.length⟩],0,0):=by rw [Lx.toks,if_neg (by omega),h2]
theorem zIy:(Try.prog.info? 71).map (fun i => (i.zero,i.size,i.bytes)) = some (some (.agg #[.int .i64 0,.string ⟨#[]⟩,.int .i64 0,.int .i64 0]),4,40):=by kernel_rfl
theorem zGJ {l:List UInt8}(h : 6000 < l.length){w w':World}(hb:Below w.heap.size w w'):TokRes l w (.returned (.tuple #[.slice none 0 0,.agg #[.int .i64 4,.int .i64 0]])) w':=by
 unfold TokRes
 rw [zFe h]
 exact ⟨none,0,rfl,Lies.nil,hb⟩
theorem zFr {l:List UInt8}{k:Nat}(h:l.length ≤ 6000)(h2:Lx.lexAll l = .error k){w w':World}(hb:Below w.heap.size w w'):TokRes l w (.returned (.tuple #[.slice none 0 0,.agg #[.int .i64 1,.int .i64 k]])) w':=by
 unfold TokRes
 rw [zEp h h2]
 exact ⟨none,0,rfl,Lies.nil,hb⟩
theorem zJt {l:List UInt8}{ts:List Lx.Tk}(h:l.length ≤ 6000)(h2:Lx.lexAll l = .ok ts){w w':World}(hb:Below w.heap.size w w'){A:Option Addr}{n c:Nat}(hn:n = ts.length + 1)(hl:Lies w' w'.heap.size A (cellsOf ts ++ tokCells ⟨0,[],0,l.length⟩)) :
 TokRes l w (.returned (.tuple #[.slice A n c,.agg #[.int .i64 0,.int .i64 0]])) w':=by
 unfold TokRes
 rw [zHY h h2]
 refine ⟨A,c,?_,?_,hb⟩
 ·rw [hn]; simp
 ·rw [zBP]; exact hl
structure TokLoop (l:List UInt8) (w:World) (ts:List Lx.Tk) (k:Nat) (v:Value) (wr:World):Prop where
 come:Lx.Come l ts k
 few:ts.length ≤ k
 own:wr.ownsRow (w.heap.size + 1) 71 4 v ts.length (cellsOf ts)
 blk:wr.heap[w.heap.size]? = some (.cells vF 29 (0,0))
 bel:Below w.heap.size w wr
theorem TokLoop.start {l:List UInt8}{w:World}{k:Nat}(hk:Lx.skipS false l = k):TokLoop l w [] k (.slice none 0 0) (w.alloc (.cells vF 29)):=
 ⟨by rw [← hk]; exact Lx.come_start l,Nat.zero_le _,World.ownsRow_nil _ _ _ _,heap_alloc_new _ _,(Below.refl _ _).alloc (Nat.le_refl _) _⟩
theorem box2 {w1:World}{B:Nat}{T:TypeId}{a b:Value}(h:w1.heap[B]? = some (.cells #[a,b] T (0,0))) :
 (w1.cell? ⟨B,0,none⟩ = some a ∧ w1.cell? ⟨B,1,none⟩ = some b) ∧ (w1.frozen? ⟨B,0,none⟩ = false ∧ w1.frozen? ⟨B,1,none⟩ = false) ∧ B < w1.heap.size:=
 ⟨⟨by rw [cell_of_row _ _ _ _ _ _ h]; rfl,by rw [cell_of_row _ _ _ _ _ _ h]; rfl⟩,⟨frozen_of_row _ _ _ _ _ h,frozen_of_row _ _ _ _ _ h⟩,zAW h⟩
theorem zB0 {w wr w1:World}(h1:Below w.heap.size w wr)(h2:Below wr.heap.size wr w1):Below w.heap.size w w1:=h1.trans (h2.mono h1.size)
theorem zDW {w w1:World}(hb:Below w.heap.size w w1):w.grownBy w1 none:=⟨hb.os,hb.tape,hb.output,hb.size,fun i hi _ => hb.block i hi⟩
theorem zFU {w w1:World}{base n sz:Nat}{T:TypeId}{v:Value}{xs:List Value}(h:w.ownsRow base T sz v n xs)(hb:Below w.heap.size w w1):w1.ownsRow base T sz v n xs:=
 h.kept (zDW hb) (by cases v.ownBlock <;> simp)
theorem TokLoop.next {l:List UInt8}{w wr w1 w2:World}{ts:List Lx.Tk}{k kind num m p q:Nat}{text:List UInt8}{v v':Value}{o1 o2:Obj}(h:TokLoop l w ts k v wr)(hk:k < l.length)(hone:Lx.one (l.drop k) = some (kind,text,num,m))(hp:k + m = p)
 (hq:p + Lx.skipS false (l.drop p) = q) (hb:Below wr.heap.size wr w1) (hg:((w1.alloc o1).alloc o2).grownBy w2 v.ownBlock) (hown:w2.ownsRow (w.heap.size + 1) 71 4 v' (ts.length + 1) (cellsOf ts ++ tokCells ⟨kind,text,num,k⟩)) :
 TokLoop l w (ts ++ [⟨kind,text,num,k⟩]) q v' w2:=by
 have hm:=Lx.one_len hone
 have hlt:=zAW h.blk
 have hbs:=hb.size
 refine ⟨?_,?_,?_,?_,?_⟩
 ·rw [← hq,← hp]; exact Lx.come_next h.come hk hone
 ·have:=h.few
  rw [List.length_append,List.length_singleton]; omega
 ·rw [zBP,List.length_append,List.length_singleton]; exact hown
 ·rw [hg.block w.heap.size (by simp; omega) (fun e => by have:=(h.own.lt _ e.symm).1; omega)]
  rw [heap_alloc_old _ _ (by simp; omega),heap_alloc_old _ _ (by omega),hb.block _ hlt]
  exact h.blk
 ·refine (((zB0 h.bel hb).alloc (by omega) o1).alloc (by simp; omega) o2).grown hg (by simp; omega) (fun j hj => ?_)
  have:=(h.own.lt _ hj).1
  omega
theorem zJz (W:World)(a b c d:Value)(T:TypeId)(B:Nat)(hB:B = W.heap.size):∀ j u,[a,b,c,d][j]? = some u → (W.alloc (.cells #[a,b,c,d] T)).cell? ((⟨B,0,none⟩:Addr).add j) = some u:=by
 intro j u hu
 subst hB
 have hadd:(⟨W.heap.size,0,none⟩:Addr).add j = ⟨W.heap.size,j,none⟩:=by unfold Addr.add; split <;> simp_all
 rw [hadd,cell_of_row _ _ j _ _ _ (heap_alloc_new W _)]
 simpa using hu
theorem zFf (t:Lx.Tk):∀ u ∈ tokCells t,u.oneCell' = true:=by
 intro u hu
 simp [tokCells] at hu
 rcases hu with rfl | rfl | rfl | rfl <;> rfl
theorem zFS {w:World}{base n sz:Nat}{T:TypeId}{v:Value}{xs:List Value}(h:w.ownsRow base T sz v n xs){p:Addr}(hp:p.block < base)(u:Value):(w.setCell p u).ownsRow base T sz v n xs:=by
 refine h.kept (row:=some p.block) ⟨rfl,rfl,rfl,by simp [World.setCell],fun i _ hne => Below.heap_setCell w p u i (fun e => hne (by rw [e]))⟩ ?_
 cases hv:v.ownBlock with
 | none => exact Or.inl rfl
 | some g => exact Or.inr (fun e => by have:=(h.lt g hv).1; injection e; omega)
theorem zF8 {w:World}{B n c sz:Nat}{T:TypeId}{A:Option Addr}{xs:List Value}(h:w.ownsRow (B + 1) T sz (.slice A n c) n xs)(x y:Value) :
 Lies ((w.setCell ⟨B,0,none⟩ x).setCell ⟨B,1,none⟩ y) ((w.setCell ⟨B,0,none⟩ x).setCell ⟨B,1,none⟩ y).heap.size A xs:=by
 have h2:=zFS (zFS h (p:=⟨B,0,none⟩) (by simp) x) (p:=⟨B,1,none⟩) (by simp) y
 obtain ⟨A',c',he,hl⟩:=zCc h2
 injection he with he _ _
 rw [he]; exact hl
theorem TokLoop.blk_last {l:List UInt8}{w wr w2:World}{ts:List Lx.Tk}{k:Nat}{v:Value}{o1:Obj}(h:TokLoop l w ts k v wr)(hg:(wr.alloc o1).grownBy w2 v.ownBlock):w2.heap[w.heap.size]? = some (.cells vF 29 (0,0)):=by
 have hlt:=zAW h.blk
 rw [hg.block w.heap.size (by simp; omega) (fun e => by have:=(h.own.lt _ e.symm).1; omega),heap_alloc_old _ _ (by omega)]
 exact h.blk
theorem TokLoop.bel_last {l:List UInt8}{w wr w2:World}{ts:List Lx.Tk}{k:Nat}{v:Value}{o1:Obj}(h:TokLoop l w ts k v wr)(hg:(wr.alloc o1).grownBy w2 v.ownBlock):Below w.heap.size w w2:=by
 have hlt:=zAW h.blk
 refine (h.bel.alloc (by omega) o1).grown hg (by simp; omega) (fun j hj => ?_)
 have:=(h.own.lt _ hj).1
 omega
def twos:List (List UInt8):=[[60,61],[61,61],[33,61],[38,38],[124,124]]
def ones:List UInt8:=[123,125,40,41,91,93,59,58,44,46,61,43,45,42,47,37,60,33]
theorem zBR:Lx.signs = twos ++ ones.map fun c => [c]:=rfl
theorem zFd:∀ g ∈ twos,g.length = 2:=by decide
def signText (r:List UInt8):List UInt8:=(Lx.signAt r).getD []
def HasTwos (B:Nat)(w:World):Prop:=∀ j g,twos[j]? = some g → w.cell? ⟨B,j,none⟩ = some (.string (bs g))
theorem zDV (w:World):HasTwos w.heap.size (w.alloc (.cells #[.string ⟨#[60,61]⟩,.string ⟨#[61,61]⟩,.string ⟨#[33,61]⟩,.string ⟨#[38,38]⟩,.string ⟨#[124,124]⟩] 9)):=by
 intro j g hg
 rw [cell_of_row _ _ j _ _ _ (heap_alloc_new w _)]
 match j,hg with
 | 0,hg => injection hg with hg; rw [← hg]; rfl
 | 1,hg => injection hg with hg; rw [← hg]; rfl
 | 2,hg => injection hg with hg; rw [← hg]; rfl
 | 3,hg => injection hg with hg; rw [← hg]; rfl
 | 4,hg => injection hg with hg; rw [← hg]; rfl
theorem zHW (s:ByteArray)(k:Nat)(h:k + 2 ≤ s.size)(g:List UInt8)(hg:g.length = 2):((s.extract k (k + 2)).toList == (bs g).toList) = g.isPrefixOf (s.data.toList.drop k):=by
 rw [Lib.toList_data,Lib.toList_data,zD0,Lib.extract_data,zAe s k (by omega),zAe s (k + 1) (by omega)]
 match g,hg with
 | [a,b],_ =>
   rw [Bool.eq_iff_iff]
   simp [List.isPrefixOf]
   exact ⟨fun ⟨a,b⟩ => ⟨a.symm,b.symm⟩,fun ⟨a,b⟩ => ⟨a.symm,b.symm⟩⟩
theorem zG5 {p:List UInt8 → Bool}{l:List (List UInt8)}{g:List UInt8}{j:Nat}(hg:l[j]? = some g)(hn:∀ x ∈ l.take j,p x = false)(hp:p g = false):∀ x ∈ l.take (j + 1),p x = false:=by
 intro x hx
 rw [List.take_add_one,hg] at hx
 simp only [Option.toList,List.mem_append,List.mem_singleton] at hx
 rcases hx with hx | rfl
 ·exact hn x hx
 ·exact hp
def NoTwo (s:ByteArray)(k:Nat):Prop:=∀ x ∈ twos,x.isPrefixOf (s.data.toList.drop k) = false
theorem zDO (s:ByteArray)(k:Nat)(h:¬ k + 2 ≤ s.size):NoTwo s k:=by
 intro x hx
 have h2:=zFd x hx
 cases hp:x.isPrefixOf (s.data.toList.drop k)
 ·rfl
 ·have:=(List.isPrefixOf_iff_prefix.1 hp).length_le
  rw [List.length_drop,zAF] at this
  omega
theorem zAl {B:Nat}{w wr:World}(h:Below B w wr)(n:Nat):Below B w (wr.drewN n):=⟨h.os,h.tape,h.output,h.size,h.block⟩
theorem zHV {j:Nat}{g:List UInt8}(h:twos[j]? = some g):Lx.signs[j]? = some g:=by
 rw [zBR,List.getElem?_append_left (List.getElem?_eq_some_iff.1 h).1]; exact h
theorem zGG {r g:List UInt8}{j:Nat}(hg:twos[j]? = some g)(hn:∀ x ∈ twos.take j,x.isPrefixOf r = false)(hp:g.isPrefixOf r = true):g = signText r:=by
 have hj:=(List.getElem?_eq_some_iff.1 hg).1
 have:Lx.signAt r = some g:=zBK (zHV hg) (fun x hx => hn x (by rw [zBR,List.take_append_of_le_length (by omega)] at hx; exact hx)) hp
 rw [signText,this]; rfl
theorem zDm:({ data:=#[123,125,40,41,91,93,59,58,44,46,61,43,45,42,47,37,60,33] }:ByteArray).size = 18:=by decide
theorem zFV {q:Nat}{c:UInt8}(h:ones[q]? = some c)(hq:q < ({ data:=#[123,125,40,41,91,93,59,58,44,46,61,43,45,42,47,37,60,33] }:ByteArray).size):({ data:=#[123,125,40,41,91,93,59,58,44,46,61,43,45,42,47,37,60,33] }:ByteArray)[q]'hq = c:=by
 have h2:ones[q]? = some (({ data:=#[123,125,40,41,91,93,59,58,44,46,61,43,45,42,47,37,60,33] }:ByteArray)[q]'hq):=List.getElem?_eq_getElem (l:=ones) hq
 rw [h2] at h
 exact Option.some.inj h
theorem zD8 {q:Nat}{c:UInt8}(h:ones[q]? = some c):({ data:=#[123,125,40,41,91,93,59,58,44,46,61,43,45,42,47,37,60,33] }:ByteArray).extract q (q + 1) = bs [c]:=by
 rw [← zJ6 (({ data:=#[123,125,40,41,91,93,59,58,44,46,61,43,45,42,47,37,60,33] }:ByteArray).extract q (q + 1)),zBu]
 congr 1
 have hq:=(List.getElem?_eq_some_iff.1 h).1
 have h3:({ data:=#[123,125,40,41,91,93,59,58,44,46,61,43,45,42,47,37,60,33] }:ByteArray).data.toList = ones:=rfl
 rw [h3,List.drop_eq_getElem_cons hq]
 have:=(List.getElem?_eq_some_iff.1 h).2
 rw [this]; rfl
theorem zFW {s:ByteArray}{k:Nat}(hk:k < s.size)(c:UInt8) : [c].isPrefixOf (s.data.toList.drop k) = (c == s[k]):=by
 rw [zAe s k hk]
 simp [List.isPrefixOf]
theorem zCK:twos.length = 5:=rfl
theorem zCz {s:ByteArray}{k q:Nat}(hk:k < s.size)(h:NoTwo s k)(hn:∀ c ∈ ones.take q,c ≠ s[k]):∀ x ∈ Lx.signs.take (5 + q),x.isPrefixOf (s.data.toList.drop k) = false:=by
 intro x hx
 rw [zBR,← zCK,List.take_length_add_append,List.mem_append] at hx
 rcases hx with hx | hx
 ·exact h x hx
 ·rw [← List.map_take,List.mem_map] at hx
  obtain ⟨c,hc,rfl⟩:=hx
  rw [zFW hk]
  exact beq_eq_false_iff_ne.2 (hn c hc)
theorem zD1 {s:ByteArray}{k q:Nat}(hk:k < s.size)(h:NoTwo s k)(hn:∀ c ∈ ones.take q,c ≠ s[k]){c:UInt8}(hc:ones[q]? = some c)(he:c = s[k]) : [c] = signText (s.data.toList.drop k):=by
 have hs:Lx.signs[5 + q]? = some [c]:=by
  rw [zBR,List.getElem?_append_right (by rw [zCK]; omega),zCK,show 5 + q - 5 = q from by omega,List.getElem?_map,hc]; rfl
 have:=zBK hs (zCz hk h hn) (by rw [zFW hk]; exact beq_iff_eq.2 he)
 rw [signText,this]; rfl
theorem zFk {s:ByteArray}{k:Nat}(hk:k < s.size)(h:NoTwo s k)(hn:∀ c ∈ ones.take 18,c ≠ s[k]):([]:List UInt8) = signText (s.data.toList.drop k):=by
 have:=zCz hk h hn
 rw [signText,zDz (fun g hg => this g (by rw [List.take_of_length_le (by rw [zFj]; omega)]; exact hg))]; rfl
theorem zDl {g c:UInt8}{q:Nat}(hg:ones[q]? = some g)(hn:∀ x ∈ ones.take q,x ≠ c)(hp:g ≠ c):∀ x ∈ ones.take (q + 1),x ≠ c:=by
 intro x hx
 rw [List.take_add_one,hg] at hx
 simp only [Option.toList,List.mem_append,List.mem_singleton] at hx
 rcases hx with hx | rfl
 ·exact hn x hx
 ·exact hp
theorem zDC (s:ByteArray)(hs:s.size ≤ 6000)(a:Int)(k:Nat)(ha:a = k)(hk:k < s.size)(w:World) :
 Calls Try.prog 53 #[.string s,.int .i64 a] w fun e w' => e = .returned (.string (bs (signText (s.data.toList.drop k)))) ∧ Below w.heap.size w w':=by
 subst ha
 have hT:=zDV w
 have hb0:Below w.heap.size w (w.alloc (.cells #[.string ⟨#[60,61]⟩,.string ⟨#[61,61]⟩,.string ⟨#[33,61]⟩,.string ⟨#[38,38]⟩,.string ⟨#[124,124]⟩] 9)):=(Below.refl _ _).alloc (Nat.le_refl _) _
 have HT:=vH hT
 have HB:=vH hb0
 clear hT hb0
 by_cases h2:k + 2 ≤ s.size
 ·have h3:(k:Int) + 2 ≤ (s.size:Int):=by omega
  have h4:(2:Int) ≤ (s.size:Int) - (k:Int):=by omega
  go_in
  go_wp2
  go_loopw [6] (fun i wr => ∃ j:Nat,j ≤ 5 ∧ i = .int .i64 j ∧ (∀ x ∈ twos.take j,x.isPrefixOf (s.data.toList.drop k) = false) ∧ HasTwos w.heap.size wr ∧ Below w.heap.size w wr) (fun i _ => 5 - (intOf i).toNat)
  case atStart => exact ⟨0,by omega,rfl,by simp,HT.out,HB.out⟩
  case round =>
   obtain ⟨j,hj,rfl,hn,hT,hb⟩:=hrel
   have HN:=vH hn
   have HT2:=vH hT
   clear hn hT
   by_cases hlt:j < 5
   ·obtain ⟨g,hg⟩:∃ g,twos[j]? = some g:=⟨_,List.getElem?_eq_getElem (by exact hlt)⟩
    have hc:=HT2.out j g hg
    have hx:=zHW s k h2 g (zFd g (List.mem_of_getElem? hg))
    have hj5:(j:Int) < 5:=by omega
    have w1:IntKind.i64.wrap ((s.size:Int) - (k:Int)) = (s.size:Int) - (k:Int):=IntWalk.i64_in _ (by omega)
    have w2:IntKind.i64.wrap ((k:Int) + 2) = (k:Int) + 2:=IntWalk.i64_in _ (by omega)
    have n2:((k:Int) + 2).toNat = k + 2:=by omega
    have hd:decide ((2:Int) ≤ (s.size:Int) - (k:Int)) = true:=by simpa using h4
    cases hp:g.isPrefixOf (s.data.toList.drop k)
    ·rw [hp] at hx
     have HP:=vH hp
     have HG:=vH hg
     clear hp hg
     go_wp2
     go_quiet (fail)
     clear w1 w2 n2 hd hx
     go_wp2
     go_roundw
     case rel => exact ⟨j + 1,by omega,by go_num,zG5 HG.out HN.out HP.out,HT2.out,zAl hb _⟩
     case measure => simp [intOf]; omega
    ·rw [hp] at hx
     have HP:=vH hp
     have HG:=vH hg
     clear hp hg
     go_wp2
     go_quiet (fail)
     clear w1 w2 n2 hd hx
     go_wp2
     go_ret
     exact ⟨congrArg (fun l => Ending.returned (.string (bs l))) (zGG HG.out HN.out HP.out),zAl hb _⟩
   ·have HNT:Hid (NoTwo s k):=fun x hx => HN.out x (by rw [List.take_of_length_le (by show 5 ≤ j; omega)]; exact hx)
    clear HN
    go_wp2
    go_loopw [8] (fun i wx => ∃ j:Nat,j ≤ 18 ∧ i = .int .i64 j ∧ (∀ c ∈ ones.take j,c ≠ s[k]) ∧ Below w.heap.size w wx) (fun i _ => 18 - (intOf i).toNat)
    case atStart => exact ⟨0,by omega,rfl,by simp,hb⟩
    case round =>
     obtain ⟨q,hq,rfl,hn,hbx⟩:=hrel
     have HN:=vH hn
     clear hn
     by_cases hlq:q < 18
     ·obtain ⟨c,hc⟩:∃ c,ones[q]? = some c:=⟨_,List.getElem?_eq_getElem (by exact hlq)⟩
      have hq18:(q:Int) < 18:=by omega
      have hk0:(k:Int) < (s.size:Int):=by omega
      have hqs:q < ({ data:=#[123,125,40,41,91,93,59,58,44,46,61,43,45,42,47,37,60,33] }:ByteArray).size:=by rw [zDm]; exact hlq
      have hcc:=zFV hc hqs
      have h5:(q:Int) + 1 ≤ 18:=by omega
      by_cases he:c = s[k]
      ·have hx:((s[k].toNat:Int) == ((({ data:=#[123,125,40,41,91,93,59,58,44,46,61,43,45,42,47,37,60,33] }:ByteArray)[q]'hqs).toNat:Int)) = true:=by rw [hcc,he]; exact beq_iff_eq.2 rfl
       have HE:=vH he
       have HC:=vH hc
       clear hcc he hc
       go_wp2
       go_quiet (fail)
       go_wp2
       go_ret
       refine ⟨?_,zAl hbx _⟩
       show Ending.returned (.string (({ data:=#[123,125,40,41,91,93,59,58,44,46,61,43,45,42,47,37,60,33] }:ByteArray).extract q (q + 1))) = _
       rw [zD8 HC.out]
       exact congrArg (fun l => Ending.returned (.string (bs l))) (zD1 hk HNT.out HN.out HC.out HE.out)
      ·have hx:((s[k].toNat:Int) == ((({ data:=#[123,125,40,41,91,93,59,58,44,46,61,43,45,42,47,37,60,33] }:ByteArray)[q]'hqs).toNat:Int)) = false:=by
        rw [hcc]
        exact beq_eq_false_iff_ne.2 (fun h => he (UInt8.toNat_inj.1 (by omega)))
       have HE:=vH he
       have HC:=vH hc
       clear hcc he hc
       go_wp2
       go_quiet (fail)
       go_wp2
       go_roundw
       case rel => exact ⟨q + 1,by omega,by go_num,zDl HC.out HN.out HE.out,zAl hbx _⟩
       case measure => simp [intOf]; omega
     ·obtain rfl:q = 18:=by omega
      go_wp2
      go_ret
      exact ⟨congrArg (fun l => Ending.returned (.string (bs l))) (zFk hk HNT.out HN.out),hbx⟩
 ·have h4:(s.size:Int) - (k:Int) < 2:=by omega
  have hnt:=zDO s k h2
  have HNT0:=vH hnt
  clear hnt h2
  go_in
  go_wp2
  go_loopw [6] (fun i wr => ∃ j:Nat,j ≤ 5 ∧ i = .int .i64 j ∧ (∀ x ∈ twos.take j,x.isPrefixOf (s.data.toList.drop k) = false) ∧ HasTwos w.heap.size wr ∧ Below w.heap.size w wr) (fun i _ => 5 - (intOf i).toNat)
  case atStart => exact ⟨0,by omega,rfl,by simp,HT.out,HB.out⟩
  case round =>
   obtain ⟨j,hj,rfl,hn,hT,hb⟩:=hrel
   have HN:=vH hn
   have HT2:=vH hT
   clear hn hT
   by_cases hlt:j < 5
   ·have hj5:(j:Int) < 5:=by omega
    have w1:IntKind.i64.wrap ((s.size:Int) - (k:Int)) = (s.size:Int) - (k:Int):=IntWalk.i64_in _ (by omega)
    have hd:decide ((2:Int) ≤ (s.size:Int) - (k:Int)) = false:=by simpa using h4
    go_wp2
    go_quiet (fail)
    clear w1 hd
    go_wp2
    go_roundw
    case rel => exact ⟨j + 1,by omega,by go_num,fun x hx => HNT0.out x (List.mem_of_mem_take hx),HT2.out,zAl hb _⟩
    case measure => simp [intOf]; omega
   ·have HNT:=HNT0
    clear HN
    go_wp2
    go_loopw [8] (fun i wx => ∃ j:Nat,j ≤ 18 ∧ i = .int .i64 j ∧ (∀ c ∈ ones.take j,c ≠ s[k]) ∧ Below w.heap.size w wx) (fun i _ => 18 - (intOf i).toNat)
    case atStart => exact ⟨0,by omega,rfl,by simp,hb⟩
    case round =>
     obtain ⟨q,hq,rfl,hn,hbx⟩:=hrel
     have HN:=vH hn
     clear hn
     by_cases hlq:q < 18
     ·obtain ⟨c,hc⟩:∃ c,ones[q]? = some c:=⟨_,List.getElem?_eq_getElem (by exact hlq)⟩
      have hq18:(q:Int) < 18:=by omega
      have hk0:(k:Int) < (s.size:Int):=by omega
      have hqs:q < ({ data:=#[123,125,40,41,91,93,59,58,44,46,61,43,45,42,47,37,60,33] }:ByteArray).size:=by rw [zDm]; exact hlq
      have hcc:=zFV hc hqs
      have h5:(q:Int) + 1 ≤ 18:=by omega
      by_cases he:c = s[k]
      ·have hx:((s[k].toNat:Int) == ((({ data:=#[123,125,40,41,91,93,59,58,44,46,61,43,45,42,47,37,60,33] }:ByteArray)[q]'hqs).toNat:Int)) = true:=by rw [hcc,he]; exact beq_iff_eq.2 rfl
       have HE:=vH he
       have HC:=vH hc
       clear hcc he hc
       go_wp2
       go_quiet (fail)
       go_wp2
       go_ret
       refine ⟨?_,zAl hbx _⟩
       show Ending.returned (.string (({ data:=#[123,125,40,41,91,93,59,58,44,46,61,43,45,42,47,37,60,33] }:ByteArray).extract q (q + 1))) = _
       rw [zD8 HC.out]
       exact congrArg (fun l => Ending.returned (.string (bs l))) (zD1 hk HNT.out HN.out HC.out HE.out)
      ·have hx:((s[k].toNat:Int) == ((({ data:=#[123,125,40,41,91,93,59,58,44,46,61,43,45,42,47,37,60,33] }:ByteArray)[q]'hqs).toNat:Int)) = false:=by
        rw [hcc]
        exact beq_eq_false_iff_ne.2 (fun h => he (UInt8.toNat_inj.1 (by omega)))
       have HE:=vH he
       have HC:=vH hc
       clear hcc he hc
       go_wp2
       go_quiet (fail)
       go_wp2
       go_roundw
       case rel => exact ⟨q + 1,by omega,by go_num,zDl HC.out HN.out HE.out,zAl hbx _⟩
       case measure => simp [intOf]; omega
     ·obtain rfl:q = 18:=by omega
      go_wp2
      go_ret
      exact ⟨congrArg (fun l => Ending.returned (.string (bs l))) (zFk hk HNT.out HN.out),hbx⟩
end Go.Proofs.Ytjleggpbghmobaa.Ln
