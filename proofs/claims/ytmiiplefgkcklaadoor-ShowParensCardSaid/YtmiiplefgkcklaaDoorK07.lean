/-
  The project's writer: a builder with a count behind it, in o
-/
import Derived.Test.YtmiiplefgkcklaaDoorK02
import Derived.Test.YtmiiplefgkcklaaDoorK06
import Derived.Test.YtmiiplefgkcklaaDoorK05
import Derived.Test.YtmiiplefgkcklaaDoorK04
import Derived.Lib.Builder
import Derived.Lib.AppendStr
import Derived.Lib.UnsafeStr
import Derived.Lib.OthersKept
import Derived.RegionTactic
import Derived.Deep.RegionHeld3
import Derived.Deep.LoopGhost
import Derived.Laws.StructEq
import Derived.StillTailTactics
set_option maxHeartbeats 8000000
set_option maxRecDepth 8000
namespace Go.Proofs.YtmiiplefgkcklaaDoor
open Go.RowKit
def WAt (b:Nat)(p:Value)(bs:List Value)(n:Int)(w:World):Prop:=
 ∃ v,w.heap[b]? = some (.cells #[p,v,.int .i64 n] 79 (0,0)) ∧ w.ownsRow b 5 1 v bs.length bs ∧ v.ownBlock ≠ some b ∧ (bs = [] → v = .slice none 0 0)
def IsW (b:Nat)(bs:List Value)(n:Int)(w:World):Prop:=∃ p,(p = .pointer none ∨ p = .pointer (some ⟨b,0,none⟩)) ∧ WAt b p bs n w
structure Wk (b:Nat) (w w':World):Prop where
 below:Below b w w'
 kept:Lib.OthersKept 5 (some b) w w'
theorem Wk.refl (b:Nat)(w:World):Wk b w w:=⟨Below.refl _ _,Lib.OthersKept.refl _ _ _⟩
theorem Wk.trans {b:Nat}{w w1 w2:World}(h:Wk b w w1)(g:Wk b w1 w2):Wk b w w2:=⟨h.below.trans g.below,h.kept.trans g.kept⟩
theorem IsW.lt {b:Nat}{bs:List Value}{n:Int}{w:World}(h:IsW b bs n w):b < w.heap.size:=by
 obtain ⟨p,-,v,hb,-⟩:=h
 exact (Array.getElem?_eq_some_iff.1 hb).1
theorem zSr:(Tryd.prog.info? 5).map (fun i => (i.zero,i.size,i.bytes)) = some (some (.int .u8 0),1,1):=by kernel_rfl
theorem zR6:(Tryd.prog.info? 77).map (·.size) = some 2:=by kernel_rfl
theorem zR3:liesAt Tryd.prog Tryd.prog.depth 79 (3 / Tryd.prog.cellsOf 79) 0 77 1 = true:=by kernel_rfl
set_option maxRecDepth 100000 in
theorem zRo (b:Nat)(bs:List Value)(n:Int)(w:World)(h:IsW b bs n w) :
 Calls Tryd.prog 91 #[.pointer (some ⟨b,0,none⟩)] w fun e w' => e = .returned (.tuple #[]) ∧ WAt b (.pointer (some ⟨b,0,none⟩)) bs n w' ∧ Wk b w w' ∧ w'.heap.size = w.heap.size:=by
 obtain ⟨j,hj,hjs⟩:=Option.map_eq_some_iff.1 zR6
 obtain ⟨p,hp,v,hb,hown,hne,hnil⟩:=h
 have c0:w.cell? ⟨b,0,none⟩ = some p:=by rw [Lib.cell_of_heap hb]; rfl
 have f0:w.frozen? ⟨b,0,none⟩ = false:=Lib.frozen_of_heap hb 0
 have hsh:w.shape? b = some (79,3):=by simp [World.shape?,hb]
 have HB:=vH hb
 clear hb
 rcases hp with rfl | rfl
 ·go_in
  go_wp2
  rw [Lib.run_to_unsafe w ⟨b,0,none⟩ Tryd.underlying74 Tryd.underlying147 hj (by rw [hjs]; decide) hsh (Nat.zero_lt_succ 2)]
  simp only [Result.andThen]
  rw [Oper.upon_value]
  go_wp2
  have hex:∀ w1,(callFunc 100 #[.pointer (some ⟨b,0,none⟩)]).run Tryd.prog w1 = .ok (.value (.pointer (some ⟨b,0,none⟩))) w1:=fun w1 => by
   rw [run_callFunc_extern Tryd.func100 (by kernel_rfl) (by kernel_rfl) (by kernel_rfl) (e:=Extern.AbiNoEscape.same) (by kernel_rfl),Lib.run_noEscape]
   rfl
  rw [hex]
  rw [Oper.upon_value]
  go_wp2
  rw [Lib.run_from_unsafe w ⟨b,0,none⟩ Tryd.underlying147 Tryd.underlying74 hj hsh zR3]
  simp only [Result.andThen]
  rw [Oper.upon_value]
  go_wp2
  go_end0
  refine ⟨rfl,⟨v,by simp [World.setCell,Array.getElem?_modify,HB.out],?_,hne,hnil⟩,⟨(Below.refl b w).setCell (p:=⟨b,0,none⟩) (Nat.le_refl _) _,(Lib.OthersKept.refl _ _ w).setCell ⟨b,0,none⟩ rfl _⟩,zU _ _ _⟩
  exact hown.kept (row:=some b) ⟨rfl,rfl,rfl,by simp [World.setCell],fun k _ hk => Below.heap_setCell _ _ _ _ (fun e => hk (by simp [e]))⟩ (Or.inr hne)
 ·go_in
  go_wp2
  rw [Lib.run_neq_ptr_same w _ Tryd.underlying74 hj]
  go_wp2
  go_end0
  exact ⟨rfl,⟨v,HB.out,hown,hne,hnil⟩,Wk.refl _ _,rfl⟩
theorem zSc {w:World}{B b:Nat}{v:Value}{n:Nat}{xs:List Value}{cs:Array Value}{fr:Nat × Nat}(hown:w.ownsRow B 5 1 v n xs)(hb:w.heap[b]? = some (.cells cs 79 fr)):v.ownBlock ≠ some b:=by
 rcases hown.2 with ⟨rfl,_⟩ | ⟨g,cap,cur,rfl,_,hg,_⟩
 ·simp [Value.ownBlock]
 ·intro h
  simp only [Value.ownBlock,Option.some.injEq] at h
  subst h
  rw [hg] at hb
  simp only [Option.some.injEq,Obj.cells.injEq] at hb
  exact absurd hb.2.1 (by decide)
set_option maxRecDepth 100000 in
theorem zRa (b:Nat)(l:List UInt8)(n:Int)(s:ByteArray)(w:World)(h:IsW b (Lib.byteCells l) n w)(hlen:l.length + s.size ≤ 140737488355328) :
 Calls Tryd.prog 78 #[.pointer (some ⟨b,0,none⟩),.string s] w fun e w' => e = .returned (.tuple #[.int .i64 s.size,.nilIface]) ∧ IsW b (Lib.byteCells (l ++ s.data.toList)) n w' ∧ Wk b w w':=by
 obtain ⟨i0,hi,hz0,hz1,hz2⟩:=info_parts zSr
 go_in
 go_wp2_with fail
 refine (zRo b _ n _ h).mono ?_
 rintro e w1 ⟨rfl,⟨v,hbk,hown,hne,hnil⟩,hk1,hsz1⟩
 have c0:w1.cell? ⟨b,0,none⟩ = some (.pointer (some ⟨b,0,none⟩)):=by rw [Lib.cell_of_heap hbk]; rfl
 have c1:w1.cell? ⟨b,1,none⟩ = some v:=by rw [Lib.cell_of_heap hbk]; rfl
 have hlt:b < w1.heap.size:=zA hbk
 have HBK:=vH hbk
 have HNIL:=vH hnil
 clear hbk hnil hsz1 h
 rw [Lib.byteCells_length] at hown
 go_wp2_with (at_builtin; refine Lib.wpList_append_own_string _ rfl _ _ 75 9 rfl b 5 i0 Tryd.underlying75 Tryd.underlying9 hi hz0 hz1 hz2 _ _ _ rfl hown s rfl ?c3 ?c4 ?c5 ?_)
 case c3 => unfold maxLen; omega
 case c4 => omega
 case c5 => omega
 intro v' w2 hown' hgrow hn2
 have hb2:w2.heap[b]? = some (.cells #[.pointer (some ⟨b,0,none⟩),v,.int .i64 n] 79 (0,0)):=by
  rw [hgrow.block b hlt (fun e => hne e.symm)]
  exact HBK.out
 have d0:w2.cell? ⟨b,0,none⟩ = some (.pointer (some ⟨b,0,none⟩)):=by rw [Lib.cell_of_heap hb2]; rfl
 have d1:w2.cell? ⟨b,1,none⟩ = some v:=by rw [Lib.cell_of_heap hb2]; rfl
 have f1:w2.frozen? ⟨b,1,none⟩ = false:=Lib.frozen_of_heap hb2 1
 have HB2:=vH hb2
 have HN2:=vH hn2
 clear hb2 hn2
 obtain ⟨ao,n',cap,rfl⟩:∃ ao n' cap,v' = .slice ao n' cap:=by
  rcases hown'.2 with ⟨hv,_⟩ | ⟨g,cap,cur,hv,_⟩
  ·exact ⟨_,_,_,hv⟩
  ·exact ⟨_,_,_,hv⟩
 go_wp2_with fail
 go_ret2
 have hb3:(w2.setCell ⟨b,1,none⟩ (.slice ao n' cap)).heap[b]? = some (.cells #[.pointer (some ⟨b,0,none⟩),.slice ao n' cap,.int .i64 n] 79 (0,0)):=by simp [World.setCell,Array.getElem?_modify,HB2.out]
 refine ⟨rfl,⟨_,.inr rfl,_,hb3,?_,?_,?_⟩,?_,?_⟩
 ·rw [Lib.byteCells_length,Lib.byteCells_append,List.length_append]
  exact hown'.kept (row:=some b) ⟨rfl,rfl,rfl,by simp [World.setCell],fun k _ hk => Below.heap_setCell _ _ _ _ (fun e => hk (by simp [e]))⟩ (Or.inr (zSc hown' HB2.out))
 ·exact zSc hown' HB2.out
 ·intro h0
  have h1:=congrArg List.length h0
  rw [Lib.byteCells_length,List.length_append] at h1
  have h2:l = [] ∧ s = ByteArray.empty:=by simpa using h1
  exact HN2.out.2 ⟨HNIL.out (by rw [h2.1]; rfl),h2.2⟩
 ·exact (hk1.below.grown hgrow (by omega) (fun k hk => (hown.lt k hk).1)).setCell (p:=⟨b,1,none⟩) (Nat.le_refl _) _
 ·exact (hk1.kept.grown hgrow (Lib.ownsRowF_kind (World.ownsRowF_of hown))).setCell ⟨b,1,none⟩ rfl _
set_option maxRecDepth 100000 in
theorem zQ5 (b:Nat)(l:List UInt8)(n:Int)(w:World)(h:IsW b (Lib.byteCells l) n w) :
 Calls Tryd.prog 29 #[.pointer (some ⟨b,0,none⟩)] w fun e w' => e = .returned (.string (cbs l)) ∧ Below b w w':=by
 obtain ⟨p,-,v,hbk,hown,hne,hnil⟩:=h
 by_cases h0:l = []
 ·subst h0
  obtain rfl:=hnil rfl
  have c1:w.drew.cell? ⟨b,1,none⟩ = some (.slice none 0 0):=by rw [Lib.cell_of_heap (show w.drew.heap[b]? = _ from hbk)]; rfl
  have hSD:(Builtin.unsafeSliceData_ #[75] 103 #[.slice none 0 0]).run Tryd.prog w.drew = .ok (.pointer none) w.drew:=rfl
  have hUS:(Builtin.unsafeString_ #[103,3] 9 #[.pointer none,.int .i64 0]).run Tryd.prog w.drew = .ok (.string .empty) w.drew:=Lib.run_unsafeString_none _ _ _ _ none
  clear hown hne hnil hbk
  go_in
  go_wp2
  go_region
  all_goals (go_wp2; go_ret; exact ⟨rfl,Below.drew (Below.refl b w)⟩)
 ·have hl0:l.length ≠ 0:=by simpa using h0
  rw [Lib.byteCells_length] at hown
  obtain ⟨g,cap,cur,rfl,hbg,hg,hnc,hcm,hcs,htake⟩:∃ g cap cur,v = .slice (some ⟨g,0,none⟩) l.length cap ∧ b ≤ g ∧ w.heap[g]? = some (.cells cur 5 (0,0)) ∧ l.length ≤ cap ∧ cap ≤ maxLen ∧ cur.size = cap * 1 ∧ cur.toList.take (l.length * 1) = Lib.byteCells l:=by
   rcases hown.2 with ⟨_,hz⟩ | ⟨g,cap,cur,hv,r⟩
   ·exact absurd hz hl0
   ·exact ⟨g,cap,cur,hv,r⟩
  have c1:w.drew.cell? ⟨b,1,none⟩ = some (.slice (some ⟨g,0,none⟩) l.length cap):=by rw [Lib.cell_of_heap (show w.drew.heap[b]? = _ from hbk)]; rfl
  have hSD:(Builtin.unsafeSliceData_ #[75] 103 #[.slice (some ⟨g,0,none⟩) l.length cap]).run Tryd.prog w.drew = .ok (.pointer (some ⟨g,0,none⟩)) w.drew:=
   Lib.run_unsafeSliceData_row _ _ _ _ _ _ (by omega)
  have hUS:(Builtin.unsafeString_ #[103,3] 9 #[.pointer (some ⟨g,0,none⟩),.int .i64 l.length]).run Tryd.prog w.drew = .ok (.string ⟨l.toArray⟩) (w.drew.freeze ⟨g,0,none⟩ l.length):=by
   refine Lib.run_unsafeString_row w.drew 103 3 9 5 Tryd.underlying103 (by kernel_rfl) g cur.size (by have hg':w.drew.heap[g]? = some (.cells cur 5 (0,0)):=hg; simp [World.shape?,hg']) l h0 (by omega) (by unfold maxLen at hcm; omega) ?_
   intro j x hx
   have:=hown.cells (g:=g) rfl j (.int .u8 x.toNat) (by simp [Lib.byteCells,hx])
   exact this
  clear hown hne hnil hbk htake
  go_in
  go_wp2
  go_region
  all_goals (go_wp2; go_ret; exact ⟨rfl,Lib.below_freeze (Below.drew (Below.refl b w)) (p:=⟨g,0,none⟩) hbg _⟩)
open Px (RT tokAt)
open Pe
mutual
def sameE:Ex → Ex → Bool
 | .mk k n s o d ks _ b r e f,.mk k2 n2 s2 o2 d2 ks2 _ b2 r2 e2 f2 => k == k2 && n == n2 && s == s2 && (o == o2 && d == d2) && (b == b2 && r == r2 && e == e2) && f == f2 && sameL ks ks2
def sameL:List Ex → List Ex → Bool
 | [],[] => true
 | e :: es,e2 :: es2 => sameE e e2 && sameL es es2
 | _,_ => false
end
theorem zCh (a b:List UInt8):((cbs a).toList == (cbs b).toList) = (a == b):=by rw [zM,zM]
theorem zGZ:Tryd.prog.stoodInHeld 40 = false:=by kernel_rfl
theorem zKM:Tryd.prog.stoodInHeld 43 = false:=by kernel_rfl
theorem zKy (a b:List UInt8)(d d2:Int)(w:World):(binOp .eql 40 (.agg #[.string (cbs a),.int .i64 d]) (.agg #[.string (cbs b),.int .i64 d2])).run Tryd.prog w = .ok (.bool (a == b && d == d2)) w:=by
 rw [run_eql_struct,run_equalIn_agg w 9999 _ _ _ (by kernel_rfl) zGZ]
 simp [go_sem,zM]
 split <;> (try split) <;> simp_all
theorem zNf (a b c a2 b2 c2:Int)(w:World):(binOp .eql 43 (.agg #[.int .i64 a,.int .i64 b,.int .i64 c]) (.agg #[.int .i64 a2,.int .i64 b2,.int .i64 c2])).run Tryd.prog w = .ok (.bool (a == a2 && b == b2 && c == c2)) w:=by
 rw [run_eql_struct,run_equalIn_agg w 9999 _ _ _ (by kernel_rfl) zKM]
 simp [go_sem]
 split <;> (try split) <;> (try split) <;> simp_all
mutual
def fitE:Ex → Bool
 | .mk _ _ _ _ _ ks _ _ _ _ _ => decide (ks.length ≤ 9223372036854775807) && fitL ks
def fitL:List Ex → Bool
 | [] => true
 | e :: es => fitE e && fitL es
end
theorem zEc:∀ {es:List Ex}{e:Ex},fitL es = true → e ∈ es → fitE e = true
 | [],_,_,h => by cases h
 | x :: es,e,hf,h => by
   rw [fitL,Bool.and_eq_true] at hf
   rcases List.mem_cons.1 h with rfl | h
   ·exact hf.1
   ·exact zEc hf.2 h
theorem At.get {w:World}{B bl:Nat}:∀ (es:List Ex)(off j:Nat)(e:Ex),At w B bl off es → es[j]? = some e → ∃ vs,Is w B e vs ∧ ∀ (i:Nat)(v:Value),vs[i]? = some v → w.cell? ⟨bl,off + j * 11 + i,none⟩ = some v
 | [],_,j,e,_,h => by simp at h
 | x :: es,off,0,e,ha,h => by
   rw [At] at ha
   obtain ⟨⟨vs,hi,hc⟩,-⟩:=ha
   simp at h
   subst h
   exact ⟨vs,hi,fun i v hv => by have:=hc i v hv; simpa using this⟩
 | x :: es,off,j + 1,e,ha,h => by
   rw [At] at ha
   obtain ⟨vs,hi,hc⟩:=At.get es (off + 11) j e ha.2 (by simpa using h)
   exact ⟨vs,hi,fun i v hv => by have:=hc i v hv; rw [show off + (j + 1) * 11 + i = off + 11 + j * 11 + i by omega]; exact this⟩
theorem zEJ {w:World}{b o:Nat}{kind num:Int}{name ofn:List UInt8}{dims:Int}{kv:Value}{at_ bb r d ref:Int}(h:∀ (i:Nat)(v:Value),(exCells kind num name ofn dims kv at_ bb r d ref)[i]? = some v → w.cell? ⟨b,o + i,none⟩ = some v) :
 w.cell? ⟨b,o,none⟩ = some (.int .i64 kind) ∧ w.cell? ⟨b,o + 1,none⟩ = some (.int .i64 num) ∧ w.cell? ⟨b,o + 2,none⟩ = some (.string (cbs name)) ∧ w.cell? ⟨b,o + 3,none⟩ = some (.string (cbs ofn)) ∧ w.cell? ⟨b,o + 4,none⟩ = some (.int .i64 dims) ∧ w.cell? ⟨b,o + 5,none⟩ = some kv ∧ w.cell? ⟨b,o + 6,none⟩ = some (.int .i64 at_) ∧ w.cell? ⟨b,o + 7,none⟩ = some (.int .i64 bb) ∧ w.cell? ⟨b,o + 8,none⟩ = some (.int .i64 r) ∧ w.cell? ⟨b,o + 9,none⟩ = some (.int .i64 d) ∧ w.cell? ⟨b,o + 10,none⟩ = some (.int .i64 ref):=
 ⟨h 0 _ rfl,h 1 _ rfl,h 2 _ rfl,h 3 _ rfl,h 4 _ rfl,h 5 _ rfl,h 6 _ rfl,h 7 _ rfl,h 8 _ rfl,h 9 _ rfl,h 10 _ rfl⟩
theorem zEq:∀ (a b:List Ex),a.length ≠ b.length → sameL a b = false
 | [],[],h => absurd rfl h
 | [],_ :: _,_ => by rw [sameL]; all_goals simp
 | _ :: _,[],_ => by rw [sameL]; all_goals simp
 | x :: a,y :: b,h => by rw [sameL,zEq a b (by simpa using h),Bool.and_false]
theorem KidsAt.below {w w':World}{B:Nat}{p:Option Addr}{l:List Ex}(h:KidsAt w B p l)(hb:Below w.heap.size w w'):KidsAt w' B p l:=by
 rcases h with h | ⟨bl,off,h1,h2,h3,h4⟩
 ·exact .inl h
 ·exact .inr ⟨bl,off,h1,Nat.lt_of_lt_of_le h2 hb.size,h3,At.keep hb.size (fun bl _ h => hb.block bl h) l off h2 h3 h4⟩
theorem KidsAt.get {w:World}{B:Nat}{p:Option Addr}{l:List Ex}(h:KidsAt w B p l){j:Nat}{e:Ex}(he:l[j]? = some e):∃ bl off vs,p = some ⟨bl,off,none⟩ ∧ bl < w.heap.size ∧ Is w B e vs ∧ ∀ (i:Nat)(v:Value),vs[i]? = some v → w.cell? ⟨bl,off + j * 11 + i,none⟩ = some v:=by
 rcases h with h | ⟨bl,off,h1,h2,h3,h4⟩
 ·rw [h] at he; simp at he
 ·obtain ⟨vs,hi,hc⟩:=At.get l off j e h4 he
  exact ⟨bl,off,vs,h1,h2,hi,hc⟩
theorem Is.kids {w:World}{B:Nat}{kind num:Int}{name ofn:List UInt8}{dims:Int}{ks:List Ex}{at_ b r d ref:Int}{vs:List Value}(h:Is w B (.mk kind num name ofn dims ks at_ b r d ref) vs):∃ p c,vs = exCells kind num name ofn dims (.slice p ks.length c) at_ b r d ref ∧ KidsAt w B p ks:=by
 rw [Is] at h
 exact h
def SameOk (F:Nat)(w:World)(e e2:Ex):Prop:=∀ w1 vs vs2,Below w.heap.size w w1 → Is w1 0 e vs → Is w1 0 e2 vs2 → Calls Tryd.prog F #[.agg ⟨vs⟩,.agg ⟨vs2⟩] w1 fun en w' => en = .returned (.bool (sameE e e2)) ∧ Below w1.heap.size w1 w'
theorem zG2 {ks:List Ex}{e:Ex}(h:e ∈ ks)(kind num:Int)(name ofn:List UInt8)(dims at_ b r d ref:Int):SizeOf.sizeOf e < SizeOf.sizeOf (Ex.mk kind num name ofn dims ks at_ b r d ref):=by
 have:=List.sizeOf_lt_of_mem h
 simp only [Ex.mk.sizeOf_spec]
 omega
end Go.Proofs.YtmiiplefgkcklaaDoor
namespace Go.Proofs.YtmiiplefgkcklaaDoor
open Go.RowKit
def catB (xs:List ByteArray):List UInt8:=xs.flatMap (·.data.toList)
theorem zQN (x:ByteArray)(xs:List ByteArray):catB (x :: xs) = x.data.toList ++ catB xs:=rfl
def Txs (w:World)(bk:Nat)(xs:List ByteArray):Prop:=w.heap[bk]? = some (.cells (xs.map Value.string).toArray 9 (0,0))
theorem Txs.kept {w w':World}{b bk:Nat}{xs:List ByteArray}(h:Txs w bk xs)(hk:Wk b w w')(hb:bk ≠ b):Txs w' bk xs:=
 hk.kept bk _ h (by simpa using hb) (fun c fz hc => by injection hc with _ h2 _; exact absurd h2 (by decide))
theorem Txs.cell {w:World}{bk:Nat}{xs:List ByteArray}(h:Txs w bk xs){j:Nat}(hj:j < xs.length):w.cell? ⟨bk,j,none⟩ = some (.string xs[j]):=by
 rw [Lib.cell_of_heap h]
 simp [hj]
theorem IsW.alloc {b:Nat}{bs:List Value}{n:Int}{w:World}(h:IsW b bs n w)(o:Obj):IsW b bs n (w.alloc o):=by
 have hlt:=h.lt
 obtain ⟨p,hp,v,hb,hown,hne,hnil⟩:=h
 exact ⟨p,hp,v,(Lib.alloc_old w o b hlt).trans hb,hown.kept (World.grownBy_alloc w o none) (by cases hv:v.ownBlock <;> simp),hne,hnil⟩
theorem IsW.drew {b:Nat}{bs:List Value}{n:Int}{w:World}(h:IsW b bs n w):IsW b bs n w.drew:=h
theorem IsW.cast {b:Nat}{l l':List UInt8}{n:Int}{w:World}(h:IsW b (Lib.byteCells l) n w)(hl:l = l'):IsW b (Lib.byteCells l') n w:=hl ▸ h
theorem Wk.alloc {b:Nat}{w w':World}(h:Wk b w w')(hb:b ≤ w'.heap.size)(o:Obj):Wk b w (w'.alloc o):=⟨h.below.alloc hb o,h.kept.alloc o⟩
theorem zRq (b:Nat)(l:List UInt8)(n:Int)(xs:List ByteArray)(bk c:Nat)(w:World)(h:IsW b (Lib.byteCells l) n w)(hx:Txs w bk xs)(hb:bk ≠ b)(hlen:l.length + (catB xs).length ≤ 140737488355328)(hxl:xs.length ≤ 1000) :
 Calls Tryd.prog 62 #[.pointer (some ⟨b,0,none⟩),.slice (some ⟨bk,0,none⟩) xs.length c] w fun e w' => e = .returned (.tuple #[]) ∧ IsW b (Lib.byteCells (l ++ catB xs)) n w' ∧ Wk b w w':=by
 have HX:=vH hx
 have H:=vH h
 clear hx h
 go_in
 go_wp2_with fail
 go_loopg [8] xs.length (fun g v wr => ∃ j:Nat,g + j = xs.length ∧ v = .int .i64 (j:Int) ∧ (∃ l',IsW b (Lib.byteCells l') n wr ∧ l' ++ catB (xs.drop j) = l ++ catB xs) ∧ Wk b w wr)
 case atStart => exact ⟨0,rfl,rfl,⟨l,H.out,rfl⟩,Wk.refl _ _⟩
 case round =>
  obtain ⟨j,hj,rfl,⟨l',hW,hl'⟩,hk⟩:=hrel
  have HJ:=vH hj
  have HL:=vH hl'
  have HK:=vH hk
  have HW:=vH hW
  clear hj hl' hk hW
  cases gk with
  | zero =>
    obtain rfl:j = xs.length:=by have:=HJ.out; omega
    have hd1:decide ((xs.length:Int) < (xs.length:Int)) = false:=decide_eq_false (by omega)
    go_wp2_with fail
    go_end0
    refine ⟨rfl,HW.out.cast ?_,HK.out⟩
    rw [← HL.out,List.drop_of_length_le (Nat.le_refl _)]
    exact (List.append_nil _).symm
  | succ m =>
    have hjl:j < xs.length:=by have:=HJ.out; omega
    have hd1:decide ((j:Int) < (xs.length:Int)) = true:=decide_eq_true (by omega)
    have hi1:(j:Int) < (xs.length:Int):=by omega
    have hi3:(0:Int) ≤ (j:Int):=by omega
    have hc:=(HX.out.kept HK.out hb).cell hjl
    have hd4:xs.drop j = xs[j] :: xs.drop (j + 1):=List.drop_eq_getElem_cons hjl
    generalize xs[j] = x at hc hd4
    have HD:=vH hd4
    have hdw:wrap64 ((j:Int) + 1) = ((j + 1:Nat):Int):=by simp [wrap64]; omega
    have hn:=HL.out
    rw [HD.out,zQN] at hn
    have HN:=vH hn
    have hlen2:l'.length + x.size ≤ 140737488355328:=by
        have:=congrArg List.length HN.out
        rw [List.length_append,List.length_append,List.length_append] at this
        rw [Lib.size_eq]
        omega
    clear hd4 hn
    go_wp2_with fail
    refine (zRa b l' n x _ HW.out hlen2).mono ?_
    rintro e w2 ⟨rfl,hW2,hk2⟩
    have HW2:=vH hW2
    have HK2:=vH (HK.out.trans hk2)
    clear hW2 hk2 hc
    go_wp2_with fail
    go_roundg m
    case measure => omega
    case rel => exact ⟨j + 1,by have:=HJ.out; omega,by first | rfl | simp [hdw],⟨_,HW2.out,by rw [← HN.out,List.append_assoc]⟩,HK2.out⟩
end Go.Proofs.YtmiiplefgkcklaaDoor
namespace Go.Proofs.YtmiiplefgkcklaaDoor
namespace Sim
open Go.RowKit
open Px (RT tokAt isT)
open Pe (Ex)
open Qe (Q)
theorem zFT {kind num:Int}{name ofn:List UInt8}{dims:Int}{kids:List Ex}{at_:Int}(h:fitL kids = true)(hl:kids.length ≤ 9000000000):fitE (Ex.of kind num name ofn dims kids at_) = true:=by
 rw [Ex.of,fitE,h,Bool.and_true]
 exact decide_eq_true (by omega)
theorem fit_nil:fitL [] = true:=by rw [fitL]
theorem zBw {e:Ex}(h:fitE e = true):fitL [e] = true:=by rw [fitL,h,fit_nil]; rfl
theorem zIl {e e2:Ex}(h:fitE e = true)(h2:fitE e2 = true):fitL [e,e2] = true:=by rw [fitL,h,zBw h2]; rfl
theorem zFS:∀ {l:List Ex}{e:Ex},fitL l = true → fitE e = true → fitL (l ++ [e]) = true
 | [],e,_,h => zBw h
 | x :: l,e,hl,h => by
   rw [fitL,Bool.and_eq_true] at hl
   rw [List.cons_append,fitL,hl.1,zFS hl.2 h]; rfl
theorem fit1 {kind num:Int}{name ofn:List UInt8}{dims at_:Int}{e:Ex}(h:fitE e = true):fitE (Ex.of kind num name ofn dims [e] at_) = true:=zFT (zBw h) (by show 1 ≤ 9000000000; decide)
theorem fit2 {kind num:Int}{name ofn:List UInt8}{dims at_:Int}{e e2:Ex}(h:fitE e = true)(h2:fitE e2 = true):fitE (Ex.of kind num name ofn dims [e,e2] at_) = true:=zFT (zIl h h2) (by show 2 ≤ 9000000000; decide)
theorem fit0 {kind num:Int}{name ofn:List UInt8}{dims at_:Int}:fitE (Ex.of kind num name ofn dims [] at_) = true:=zFT fit_nil (Nat.zero_le _)
def RF (recQ:Nat → Q → Qe.Out):Prop:=∀ n q x,recQ n q = some x → fitE x.1 = true
theorem zC3 {ts:List RT}{recQ:Nat → Q → Qe.Out}(hr:RF recQ):∀ (g:Nat){l:List Ex}{q:Q}{x:List Ex × Q},fitL l = true → Qe.argLoop ts recQ g l q = some x → fitL x.1 = true ∧ x.1.length ≤ l.length + g
 | 0,_,_,_,_,h => by rw [Qe.argLoop] at h; cases h
 | g + 1,l,q,x,hl,h => by
   rw [Qe.argLoop] at h
   split at h
   ·split at h
    ·cases h
    ·rename_i e s2 he
     obtain ⟨a,b⟩:=zC3 hr g (zFS hl (hr _ _ _ he)) h
     refine ⟨a,?_⟩
     rw [List.length_append,List.length_singleton] at b
     omega
   ·injection h with h
    subst h
    exact ⟨hl,Nat.le_add_right _ _⟩
theorem zJO {ts:List RT}{recQ:Nat → Q → Qe.Out}(hr:RF recQ){g:Nat}{q:Q}{x:List Ex × Q}(h:Qe.args ts recQ g q = some x):fitL x.1 = true ∧ x.1.length ≤ 1 + g:=by
 unfold Qe.args at h
 split at h
 ·injection h with h
  subst h
  exact ⟨fit_nil,Nat.zero_le _⟩
 ·split at h
  ·cases h
  ·rename_i e s2 he
   split at h
   ·cases h
   ·rename_i l s3 hl
    injection h with h
    subst h
    exact zC3 hr g (x:=(l,s3)) (zBw (hr _ _ (e,s2) he)) hl
theorem zC2 {ts:List RT}{recQ:Nat → Q → Qe.Out}(hr:RF recQ){q:Q}{x:Ex × Q}(h:Qe.inner ts recQ q = some x):fitE x.1 = true:=by
 unfold Qe.inner at h
 split at h
 ·cases h
 ·rename_i e s2 he
  injection h with h
  subst h
  exact hr _ _ (e,s2) he
theorem zIn {ts:List RT}{recQ:Nat → Q → Qe.Out}(hr:RF recQ){q:Q}{a:Int}{x:Ex × Q}(h:Qe.fresh ts recQ q a = some x):fitE x.1 = true:=by
 unfold Qe.fresh at h
 split at h
 ·dsimp only at h
  split at h
  ·cases h
  ·rename_i e s2 he
   injection h with h
   subst h
   exact fit1 (zC2 hr (x:=(e,s2)) he)
 ·injection h with h
  subst h
  exact fit0
theorem zIo {ts:List RT}{recQ:Nat → Q → Qe.Out}(hr:RF recQ){g:Nat}(hg:g ≤ 8999999999){q:Q}{x:Ex × Q}(h:Qe.first ts recQ g q = some x):fitE x.1 = true:=by
 dsimp only [Qe.first] at h
 repeat' split at h
 all_goals first
  | (cases h; done)
  | exact zIn hr h
  | exact zC2 hr h
  | (injection h with h; subst h; exact fit0)
  | (rename_i e s2 he; injection h with h; subst h; exact fit1 (zC2 hr (x:=(e,s2)) he))
  | (rename_i l s2 he; injection h with h; subst h; have ha:=zJO hr (x:=(l,s2)) he; exact zFT ha.1 (by have:=ha.2; dsimp only at this; omega))
theorem zCe {ts:List RT}{recQ:Nat → Q → Qe.Out}(hr:RF recQ):∀ (g:Nat){e:Ex}{q:Q}{x:Ex × Q},fitE e = true → Qe.behind ts recQ g e q = some x → fitE x.1 = true
 | 0,_,_,_,_,h => by rw [Qe.behind] at h; cases h
 | g + 1,e,q,x,he,h => by
   rw [Qe.behind] at h
   split at h
   ·exact zCe hr g (fit1 he) h
   ·split at h
    ·split at h
     ·cases h
     ·rename_i i s2 hi
      exact zCe hr g (fit2 he (hr _ _ (i,s2) hi)) h
    ·injection h with h
     subst h
     exact he
theorem zIm {ts:List RT}{recQ:Nat → Q → Qe.Out}(hr:RF recQ){q:Q}{t:List UInt8}{kind:Int}{x:Ex × Q}(h:Qe.prefixed ts recQ q t kind = some x):fitE x.1 = true:=by
 unfold Qe.prefixed at h
 split at h
 ·cases h
 ·rename_i e s2 he
  injection h with h
  subst h
  exact fit1 (hr _ _ (e,s2) he)
theorem zIk {ts:List RT}{recQ:Nat → Q → Qe.Out}(hr:RF recQ){g:Nat}(hg:g ≤ 8999999999){q:Q}{x:Ex × Q}(h:Qe.unary ts recQ g q = some x):fitE x.1 = true:=by
 unfold Qe.unary at h
 split at h
 ·exact zIm hr h
 ·split at h
  ·exact zIm hr h
  ·split at h
   ·cases h
   ·rename_i e s2 he
    exact zCe hr g (zIo hr hg (x:=(e,s2)) he) h
theorem zIq {ts:List RT}{recQ:Nat → Q → Qe.Out}(hr:RF recQ)(n:Nat):∀ (g:Nat){e:Ex}{q:Q}{x:Ex × Q},fitE e = true → Qe.binLoop ts recQ n g e q = some x → fitE x.1 = true
 | 0,_,_,_,_,h => by rw [Qe.binLoop] at h; cases h
 | g + 1,e,q,x,he,h => by
   rw [Qe.binLoop] at h
   split at h
   ·injection h with h
    subst h
    exact he
   ·split at h
    ·cases h
    ·rename_i r s2 hrr
     exact zIq hr n g (fit2 he (hr _ _ (r,s2) hrr)) h
theorem zFr (ts:List RT):∀ (f:Nat),f ≤ 8999999999 → RF (Qe.run ts f)
 | 0,_ => fun n q x h => by cases h
 | f + 1,hf => fun n q x h => by
   have hr:=zFr ts f (by omega)
   rw [qrun] at h
   split at h
   ·exact zIk hr (by omega) h
   ·split at h
    ·cases h
    ·rename_i l s1 hl
     exact zIq hr n f (hr _ _ (l,s1) hl) h
theorem zN1 {ts:List RT}(hl:ts.length ≤ 800000000){k o:Int}{x:Ex × Int × Int × Int}(h:Qe.expr ts (enough ts) k o = some x):fitE x.1 = true:=by
 unfold Qe.expr at h
 split at h
 ·cases h
 ·rename_i e s he
  injection h with h
  subst h
  unfold Qe.exEnd
  split
  ·exact zFr ts _ (by unfold enough; omega) _ _ (e,s) he
  ·exact fit0
end Sim
end Go.Proofs.YtmiiplefgkcklaaDoor
namespace Go.Proofs.YtmiiplefgkcklaaDoor
open Go.RowKit
open Px (RT tokAt)
open Pe
theorem zGe (w:World)(_B:Nat)(_x _y:Ex)(xk:Int)(xn:Int)(xs:List UInt8)(xo:List UInt8)(xd:Int)(xp:Option Addr)(xl:Nat)(xc:Nat)(xa:Int)(xb:Int)(xr:Int)(xe:Int)(xf:Int)(yk:Int)(yn:Int)(ys:List UInt8)(yo:List UInt8)(yd:Int)(yp:Option Addr)(yl:Nat)(yc:Nat)(ya:Int)(yb:Int)(yr:Int)(ye:Int)(yf:Int)
 (v:Bool) (hk:∀ w1,Below w.heap.size w w1 → Calls Tryd.prog 43 #[.slice xp xl xc,.slice yp yl yc] w1 fun e w' => e = .returned (.bool v) ∧ Below w1.heap.size w1 w') :
 Calls Tryd.prog 17 #[.agg #[.int .i64 xk,.int .i64 xn,.string (cbs xs),.string (cbs xo),.int .i64 xd,.slice xp xl xc,.int .i64 xa,.int .i64 xb,.int .i64 xr,.int .i64 xe,.int .i64 xf],.agg #[.int .i64 yk,.int .i64 yn,.string (cbs ys),.string (cbs yo),.int .i64 yd,.slice yp yl yc,.int .i64 ya,.int .i64 yb,.int .i64 yr,.int .i64 ye,.int .i64 yf]] w fun e w' => e = .returned (.bool (xk == yk && xn == yn && xs == ys && (xo == yo && xd == yd) && (xb == yb && xr == yr && xe == ye) && xf == yf && v)) ∧ Below w.heap.size w w':=by
 have h1:=zKy xo yo xd yd
 have h2:=zNf xb xr xe yb yr ye
 have hsx:=zCh xs ys
 have hbb:Below w.heap.size w ((w.alloc (.cells #[.int .i64 xk,.int .i64 xn,.string (cbs xs),.string (cbs xo),.int .i64 xd,.slice xp xl xc,.int .i64 xa,.int .i64 xb,.int .i64 xr,.int .i64 xe,.int .i64 xf] 45)).alloc (.cells #[.int .i64 yk,.int .i64 yn,.string (cbs ys),.string (cbs yo),.int .i64 yd,.slice yp yl yc,.int .i64 ya,.int .i64 yb,.int .i64 yr,.int .i64 ye,.int .i64 yf] 45)):=((Below.refl _ _).alloc (Nat.le_refl _) _).alloc (by rw [zB]; omega) _
 have HK:=vH (hk _ hbb)
 have HBB:=vH hbb
 clear hk hbb
 generalize (xo == yo && xd == yd) = g1 at h1 ⊢
 generalize (xb == yb && xr == yr && xe == ye) = g2 at h2 ⊢
 generalize (xs == ys) = g3 at hsx ⊢
 cases hc1:(xk == yk) with
 | false =>
   go_in
   go_wp2_with fail
   go_ret
   exact ⟨rfl,HBB.out⟩
 | true =>
   cases hc2:(xn == yn) with
   | false =>
     go_in
     go_wp2_with fail
     go_ret
     exact ⟨rfl,HBB.out⟩
   | true =>
     cases g3 with
     | false =>
       go_in
       go_wp2_with fail
       go_ret
       exact ⟨rfl,HBB.out⟩
     | true =>
       cases g1 with
       | false =>
         go_in
         go_wp2_with fail
         go_ret
         exact ⟨rfl,HBB.out⟩
       | true =>
         cases g2 with
         | false =>
           go_in
           go_wp2_with fail
           go_ret
           exact ⟨rfl,HBB.out⟩
         | true =>
           cases hc6:(xf == yf) with
           | false =>
             go_in
             go_wp2_with fail
             go_ret
             exact ⟨rfl,HBB.out⟩
           | true =>
             go_in
             go_wp2_with (go_at_call 43; refine (HK.out).mono ?_; rintro e w1 ⟨rfl,hb1⟩)
             go_ret
             exact ⟨rfl,zF HBB.out hb1 HBB.out.size⟩
theorem zBU (w:World)(ks ls:List Ex)(p q:Option Addr)(c d:Nat)(hp:KidsAt w 0 p ks)(hq:KidsAt w 0 q ls)(hl:ks.length ≤ 9223372036854775807)(hel:∀ e ∈ ks,∀ e2,SameOk 17 w e e2) :
 Calls Tryd.prog 43 #[.slice p ks.length c,.slice q ls.length d] w fun e w' => e = .returned (.bool (sameL ks ls)) ∧ Below w.heap.size w w':=by
 have HP:=vH hp
 have HQ:=vH hq
 have HEL:=vH hel
 have HL:=vH hl
 clear hp hq hel hl
 by_cases hlen:ks.length = ls.length
 ·have hd0:((ks.length:Int) != (ls.length:Int)) = false:=by rw [hlen]; exact bne_self_eq_false _
  have HLEN:=vH hlen
  clear hlen
  go_in
  go_wp2_with fail
  go_loopg [5] ks.length (fun n v wr => ∃ j:Nat,n + j = ks.length ∧ v = .int .i64 (j:Int) ∧ Below w.heap.size w wr ∧ sameL (ks.drop j) (ls.drop j) = sameL ks ls)
  case atStart => exact ⟨0,rfl,rfl,Below.refl _ _,rfl⟩
  case round =>
   obtain ⟨j,hj,rfl,hb,hs⟩:=hrel
   have HB:=vH hb
   have HS:=vH hs
   have HJ:=vH hj
   clear hb hs hj
   cases gk with
   | zero =>
     obtain rfl:j = ks.length:=by have:=HJ.out; omega
     have hd1:decide ((ks.length:Int) < (ks.length:Int)) = false:=decide_eq_false (by omega)
     go_wp2_with fail
     go_ret
     refine ⟨zS ?_,HB.out⟩
     rw [← HS.out,List.drop_of_length_le (Nat.le_refl _),List.drop_of_length_le (by rw [HLEN.out]; exact Nat.le_refl _),sameL]
   | succ m =>
     have hjl:j < ks.length:=by have:=HJ.out; omega
     have hjl2:j < ls.length:=by have:=HLEN.out; omega
     have hd1:decide ((j:Int) < (ks.length:Int)) = true:=decide_eq_true (by omega)
     have hi1:(j:Int) < (ks.length:Int):=by omega
     have hi2:(j:Int) < (ls.length:Int):=by omega
     have hd2:decide (ks.length ≤ j) = false:=decide_eq_false (by omega)
     have hd3:decide (ls.length ≤ j) = false:=decide_eq_false (by omega)
     have hdw:wrap64 ((j:Int) + 1) = ((j + 1:Nat):Int):=by have:=HL.out; simp [wrap64]; omega
     have he1:=List.getElem?_eq_getElem hjl
     have he2:=List.getElem?_eq_getElem hjl2
     have hd4:ks.drop j = ks[j] :: ks.drop (j + 1):=List.drop_eq_getElem_cons hjl
     have hd5:ls.drop j = ls[j] :: ls.drop (j + 1):=List.drop_eq_getElem_cons hjl2
     have HE:=vH (HEL.out _ (List.getElem_mem hjl) (ls[j]))
     generalize ks[j] = e1 at he1 hd4 HE
     generalize ls[j] = e2 at he2 hd5 HE
     have HD4:=vH hd4
     have HD5:=vH hd5
     obtain ⟨bl,off,vs,rfl,hbl,hi,hc⟩:=(HP.out.below HB.out).get he1
     obtain ⟨bl2,off2,vs2,rfl,hbl2,hi',hc2⟩:=(HQ.out.below HB.out).get he2
     obtain ⟨xk,xn,xs,xo,xd,xp,xl,xc,xa,xb,xr,xe,xf,rfl⟩:=hi.out
     obtain ⟨yk,yn,ys,yo,yd,yp,yl,yc,ya,yb,yr,ye,yf,rfl⟩:=hi'.out
     obtain ⟨x0,x1,x2,x3,x4,x5,x6,x7,x8,x9,xX⟩:=zEJ hc
     obtain ⟨y0,y1,y2,y3,y4,y5,y6,y7,y8,y9,yX⟩:=zEJ hc2
     have HI:=vH hi
     have HI2:=vH hi'
     clear hc hc2 hi hi' he1 he2 hd4 hd5
     have hne1:bl ≠ wr.heap.size:=Nat.ne_of_lt hbl
     have hne2:bl2 ≠ wr.heap.size:=Nat.ne_of_lt hbl2
     have hi3:(0:Int) ≤ (j:Int):=by omega
     go_wp2_with fail
     refine wp_region_still_tail 8 (by kernel_rfl) (by kernel_rfl) ?_
     simp only [List.take_succ_cons,List.take_zero,List.drop_succ_cons,List.drop_zero]
     change wpStill _ _ wr.drew _ _ _
     repeat still_step
     refine wpStill_nil ?_
     change wpList _ _ _ _ _ wr.drew
     have HBD:Hid (Below w.heap.size w wr.drew):=HB.out.drew
     go_wp2_with fail
     refine (HE.out _ _ _ HBD.out (HI.out.below (Below.refl _ _).drew) (HI2.out.below (Below.refl _ _).drew)).mono ?_
     rintro e w2 ⟨rfl,hb3⟩
     have HB2:=vH (zF HBD.out hb3 HBD.out.size)
     clear hb3
     cases hse:sameE e1 e2 with
     | false =>
       have HSE:=vH hse
       try rw [hse]
       clear hse
       go_wp2_with fail
       go_ret
       refine ⟨zS ?_,HB2.out⟩
       rw [← HS.out,HD4.out,HD5.out,sameL,HSE.out,Bool.false_and]
     | true =>
       have HSE:=vH hse
       try rw [hse]
       clear hse
       go_wp2_with fail
       go_roundg m
       case measure => omega
       case rel => exact ⟨j + 1,by have:=HJ.out; omega,by first | rfl | simp [hdw],HB2.out,by rw [← HS.out,HD4.out,HD5.out,sameL,HSE.out,Bool.true_and]⟩
 ·have hd0:((ks.length:Int) != (ls.length:Int)) = true:=bne_iff_ne.2 (by omega)
  rw [zEq _ _ hlen]
  clear hlen
  go_in
  go_wp2_with fail
  go_ret
  exact ⟨rfl,Below.refl _ _⟩
theorem zHf:∀ (n:Nat)(x y:Ex),SizeOf.sizeOf x ≤ n → fitE x = true → ∀ w,SameOk 17 w x y:=by
 intro n
 induction n with
 | zero => intro x y h; cases x; simp at h
 | succ n ih =>
   intro x y hs hf w w1 vs vs2 _ hi hi2
   obtain ⟨xk,xn,xs,xo,xd,ks,xa,xb,xr,xe,xf⟩:=x
   obtain ⟨yk,yn,ys,yo,yd,ls,ya,yb,yr,ye,yf⟩:=y
   obtain ⟨p,c,rfl,hp⟩:=hi.kids
   obtain ⟨q,d,rfl,hq⟩:=hi2.kids
   rw [fitE,Bool.and_eq_true] at hf
   have hk:∀ w2,Below w1.heap.size w1 w2 → _:=fun w2 hb => zBU w2 ks ls p q c d (hp.below hb) (hq.below hb) (of_decide_eq_true hf.1) (fun e he e2 => ih e e2 (by have:=zG2 he xk xn xs xo xd xa xb xr xe xf; omega) (zEc hf.2 he) w2)
   have hst:=zGe w1 0 (.mk xk xn xs xo xd ks xa xb xr xe xf) (.mk yk yn ys yo yd ls ya yb yr ye yf) xk xn xs xo xd p ks.length c xa xb xr xe xf yk yn ys yo yd q ls.length d ya yb yr ye yf (sameL ks ls) hk
   rw [sameE]
   exact hst
theorem zMx (w:World)(x y:Ex){vs vs2:List Value}{B B2:Nat}(hi:Is w B x vs)(hi2:Is w B2 y vs2)(hf:fitE x = true) :
 Calls Tryd.prog 17 #[.agg ⟨vs⟩,.agg ⟨vs2⟩] w fun e w' => e = .returned (.bool (sameE x y)) ∧ Below w.heap.size w w':=
 zHf _ x y (Nat.le_refl _) hf w w vs vs2 (Below.refl _ _) (Is.lower (Nat.zero_le _) _ hi) (Is.lower (Nat.zero_le _) _ hi2)
end Go.Proofs.YtmiiplefgkcklaaDoor
