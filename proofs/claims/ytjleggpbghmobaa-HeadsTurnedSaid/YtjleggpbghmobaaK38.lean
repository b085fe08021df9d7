/-
  Arguments that read as names, a written type, a type, a prog
-/
import Derived.Test.YtjleggpbghmobaaK26
import Derived.Test.YtjleggpbghmobaaK29
import Derived.SizedLaws
import Derived.ChangeArms
import Derived.ChangeSame
import Derived.Deep.Slices
namespace Go.Proofs.Ytjleggpbghmobaa
open Go.RowKit Go.ChangeShapes Go.WideShapes Go.ChangeAt Go.ChangeMaps
open Pg (Pm Rc Fc Gm)
open Hs (Nm)
theorem cbs_ofJ (s:ByteArray):cbs s.data.toList = s:=by
 cases s
 simp [cbs]
theorem slice_cellsJ {P:Program}{W:World}{t e:TypeId}{v:Value}{r:Reach}{b0:Nat}(ht:P.underlying t = some (.slice e))(hv:Value.okWide P W r b0 t v):v.cells.toList = [v]:=by
 simp only [Value.okWide,Cell.okWide,ht] at hv
 cases v <;> first | rfl | (exfalso; simp [Cell.ok,ht] at hv; done)
theorem weights_in {H:Type}{P:Program}{e:TypeId}{d:DataW H}{n:Nat}(hn:n ∈ d.weights P e):∀ {ds:List (DataW H)}{i:Nat},ds[i]? = some d → n ∈ DataW.weightsAll P e ds
 | [],_,h => by simp at h
 | d0 :: ds,0,h => by
   simp only [List.getElem?_cons_zero,Option.some.injEq] at h
   subst h
   simp only [DataW.weightsAll,List.mem_append]
   exact .inl hn
 | d0 :: ds,i + 1,h => by
   simp only [List.getElem?_cons_succ] at h
   simp only [DataW.weightsAll,List.mem_append]
   exact .inr (weights_in hn h)
theorem list_of {α:Type}{P:Nat → α → Prop}:∀ n:Nat,(∀ i,i < n → ∃ a,P i a) → ∃ l:List α,l.length = n ∧ ∀ i a,l[i]? = some a → P i a
 | 0,_ => ⟨[],rfl,fun i a h => by simp at h⟩
 | n + 1,h => by
   obtain ⟨l,hl,hp⟩:=list_of n fun i hi => h i (Nat.lt_succ_of_lt hi)
   obtain ⟨a,ha⟩:=h n (Nat.lt_succ_self n)
   refine ⟨l ++ [a],by simp [hl],fun i x hx => ?_⟩
   by_cases hi:i < l.length
   ·rw [List.getElem?_append_left hi] at hx
    exact hp i x hx
   ·rw [List.getElem?_append_right (by omega)] at hx
    have h0:i - l.length = 0:=by
       rcases Nat.eq_zero_or_pos (i - l.length) with h1 | h1
       ·exact h1
       ·rw [List.getElem?_eq_none (by show [a].length ≤ i - l.length; exact h1)] at hx
        cases hx
    rw [h0] at hx
    obtain rfl:a = x:=by simpa using hx
    obtain rfl:i = n:=by omega
    exact ha
theorem addr_rowJ (bl off i j k:Nat):((⟨bl,off,none⟩:Addr).add (i * k)).add j = ⟨bl,off + i * k + j,none⟩:=by
 rw [Go.Deep.add_add,Addr.add]
 split
 ·rename_i h
  rw [show off + i * k + j = off by omega]
 ·rw [Nat.add_assoc]
section
variable {H:Type} {enc:TypeId × Value → H} {w:World} {sp:Nat → Bool} {held:Bool}
theorem fld_trod {fs:Array Field}{cs:List Value}{xs:List (DataW H × List MemPlace)}{n:Nat}(hxs:xs.length = fs.size)
 (hf:∀ (i:Nat) (f:Field),fs[i]? = some f → DataW.trod enc Try.prog w 0 sp held n f.type ((cs.drop f.offset).take (Try.prog.cellsOf f.type)) = xs[i]?)
 (i:Nat) (T:TypeId) (off k:Nat) (vs:List Value) (hi:(fs[i]?).map (fun f => (f.type,f.offset)) = some (T,off)) (hk:Try.prog.cellsOf T = k) (hv:(cs.drop off).take k = vs) :
 ∃ y,xs[i]? = some y ∧ DataW.trod enc Try.prog w 0 sp held n T vs = some y:=by
 cases hfi:fs[i]? with
 | none => rw [hfi] at hi; cases hi
 | some f =>
   rw [hfi] at hi
   obtain ⟨rfl,rfl⟩:f.type = T ∧ f.offset = off:=by simpa using hi
   have hlt:i < xs.length:=by rw [hxs]; exact (Array.getElem?_eq_some_iff.1 hfi).1
   refine ⟨xs[i],List.getElem?_eq_getElem hlt,?_⟩
   rw [← hv,← hk,hf i f hfi,List.getElem?_eq_getElem hlt]
theorem wt_sub {T:TypeId}{fs:Array Field}{xs:List (DataW H × List MemPlace)}(hT:Try.prog.underlying T = some (.struct fs)){E:TypeId}{i:Nat}{y:DataW H × List MemPlace}(hz:∀ n ∈ (DataW.agg (xs.map (·.1)):DataW H).weights Try.prog T,n ≤ reachBytes)(hy:xs[i]? = some y)(hE:(fs.toList.map (·.type))[i]? = some E):∀ n ∈ y.1.weights Try.prog E,n ≤ reachBytes:=by
 intro n hn
 refine hz n ?_
 simp only [DataW.weights,hT]
 exact DataW.weights_mem_each (j:=i) (t:=E) hE (by rw [List.getElem?_map,hy]; rfl) _ hn
theorem cells_J:Try.prog.cellsOf 3 = 1 ∧ Try.prog.cellsOf 9 = 1 ∧ Try.prog.cellsOf 4 = 1 ∧ Try.prog.cellsOf 45 = 2 ∧ Try.prog.cellsOf 47 = 3 ∧ Try.prog.cellsOf 23 = 1 ∧ Try.prog.cellsOf 76 = 4 ∧ Try.prog.cellsOf 53 = 3 ∧ Try.prog.cellsOf 79 = 1 ∧ Try.prog.cellsOf 81 = 7 ∧ Try.prog.cellsOf 22 = 1 ∧ Try.prog.cellsOf 24 = 1 ∧ Try.prog.cellsOf 26 = 3:=by
 refine ⟨?_,?_,?_,?_,?_,?_,?_,?_,?_,?_,?_,?_,?_⟩ <;> kernel_rfl
theorem int_cellJ {n:Nat}{c:Value}{x:DataW H × List MemPlace}(h:DataW.trod enc Try.prog w 0 sp held n 3 [c] = some x):∃ k,c = .int .i64 k:=by
 obtain ⟨k,hk,-⟩:=DataW.trod_int Try.underlying3 h
 exact ⟨k,(List.cons.inj hk).1⟩
theorem bool_cellJ {n:Nat}{c:Value}{x:DataW H × List MemPlace}(h:DataW.trod enc Try.prog w 0 sp held n 4 [c] = some x):∃ k,c = .bool k:=by
 obtain ⟨k,hk,-⟩:=DataW.trod_bool Try.underlying4 h
 exact ⟨k,(List.cons.inj hk).1⟩
theorem str_cellJ {n:Nat}{c:Value}{x:DataW H × List MemPlace}(h:DataW.trod enc Try.prog w 0 sp held n 9 [c] = some x)(hz:∀ n ∈ x.1.weights Try.prog 9,n ≤ reachBytes):∃ s:Nm,c = .string (cbs s) ∧ s.length ≤ 281474976710656:=by
 obtain ⟨s,hk,hv,-⟩:=DataW.trod_string Try.underlying9 h
 refine ⟨s.data.toList,by rw [cbs_ofJ]; exact (List.cons.inj hk).1,?_⟩
 refine Nat.le_trans (hz _ ?_) (by decide)
 rw [hv]
 simp [DataW.weights]
theorem lat_of_trod {α:Type}{I:World → Nat → α → List Value → Prop}{G : α → Prop}{T E:TypeId}{k:Nat}(hT:Try.prog.underlying T = some (.slice E))(hc:Try.prog.cellsOf E = k)(hk : 0 < k)
 (hE:∀ (m:Nat) (cs:List Value) (x:DataW H × List MemPlace),DataW.trod enc Try.prog w 0 sp held m E cs = some x → (∀ n ∈ x.1.weights Try.prog E,n ≤ reachBytes) → ∃ a : α,I w 0 a cs ∧ G a ∧ cs.length = k)
 {m:Nat} {v:Value} {x:DataW H × List MemPlace} (h:DataW.trod enc Try.prog w 0 sp held m T [v] = some x) (hz:∀ n ∈ x.1.weights Try.prog T,n ≤ reachBytes) :
 ∃ (p:Option Addr) (c:Nat) (l:List α),v = .slice p l.length c ∧ LAt I k w 0 p l ∧ ∀ a ∈ l,G a:=by
 rcases DataW.trod_slice hT h with ⟨h0,-⟩ | ⟨a,len,cap,elems,rest,m',-,h0,rfl,-,-,-,hel,hat,-,-⟩
 ·obtain rfl:=(List.cons.inj h0).1
  exact ⟨none,0,[],rfl,.inl rfl,fun a ha => by cases ha⟩
 ·obtain rfl:=(List.cons.inj h0).1
  rw [hc] at hat
  by_cases hl0:len = 0
  ·subst hl0
   exact ⟨some a,cap,[],rfl,.inl rfl,fun a ha => by cases ha⟩
  ·obtain ⟨bl,off,spot⟩:=a
   have hall:∀ i,i < len → ∃ a : α,∃ cs,I w 0 a cs ∧ G a ∧ cs.length = k ∧ ∀ j,j < k → w.cell? (((⟨bl,off,spot⟩:Addr).add (i * k)).add j) = cs[j]?:=by
        intro i hi
        have h1:=hat i hi
        have hei:elems[i]? = some (elems[i]'(by rw [hel]; exact hi)):=List.getElem?_eq_getElem _
        rw [hei,Option.bind_eq_some_iff] at h1
        obtain ⟨cs,hcs,ht⟩:=h1
        obtain ⟨a,ha,hg,hlen⟩:=hE _ _ _ ht (by
         intro n hn
         refine hz n ?_
         simp only [DataW.weights,hT]
         refine List.mem_cons_of_mem _ (List.mem_append.2 (.inl (weights_in (i:=i) hn ?_)))
         rw [List.getElem?_map,hei]
         rfl)
        exact ⟨a,cs,ha,hg,hlen,(World.cells?_some hcs).2.2⟩
   obtain ⟨a0,cs0,-,-,hl,hc0⟩:=hall 0 (Nat.pos_of_ne_zero hl0)
   have hcell:w.cell? (((⟨bl,off,spot⟩:Addr).add (0 * k)).add 0) = some (cs0[0]'(by rw [hl]; exact hk)):=by rw [hc0 0 hk]; exact List.getElem?_eq_getElem _
   have hspot:spot = none:=by simpa [Addr.add] using World.cell?_spot hcell
   subst hspot
   have hbl:bl < w.heap.size:=by
        rcases Nat.lt_or_ge bl w.heap.size with h1 | h1
        ·exact h1
        ·exfalso
         have h2:w.heap[bl]? = none:=Array.getElem?_eq_none h1
         simp [World.cell?,Addr.add,h2] at hcell
   obtain ⟨l,hll,hp⟩:=list_of len hall
   subst hll
   refine ⟨some ⟨bl,off,none⟩,cap,l,rfl,.inr ⟨bl,off,rfl,hbl,Nat.zero_le _,fun i x hx => ?_⟩,fun a ha => ?_⟩
   ·obtain ⟨cs,hi,-,-,hc⟩:=hp i x hx
    exact ⟨cs,hi,fun j v hj hv => by rw [← hv,← hc j hj,addr_rowJ]⟩
   ·obtain ⟨i,hi,rfl⟩:=List.mem_iff_getElem.1 ha
    obtain ⟨cs,-,hg,-⟩:=hp i _ (List.getElem?_eq_getElem hi)
    exact hg
theorem names_of_trod {v:Value}{d:DataW H}{ps:List MemPlace}(h:DataW.Trod enc Try.prog w 0 sp held 43 v d ps)(hz:∀ n ∈ d.weights Try.prog 43,n ≤ reachBytes)(hv:v.cells.toList = [v]) :
 ∃ (p:Option Addr) (c:Nat) (l:List Nm),v = .slice p l.length c ∧ LAt NIs 1 w 0 p l:=by
 obtain ⟨fuel,h⟩:=h
 rw [hv] at h
 obtain ⟨p,c,l,hl,hp,-⟩:=lat_of_trod (I:=NIs) (G:=fun _ => True) Try.underlying43 cells_J.2.1 (by decide) (fun m cs x hx hw => by
  obtain ⟨s,hs,-⟩:=DataW.trod_string Try.underlying9 hx
  subst hs
  exact ⟨s.data.toList,by rw [NIs,cbs_ofJ],trivial,rfl⟩) h hz
 exact ⟨p,c,l,hl,hp⟩
theorem two_list {cs:List Value}(h:cs.length = 2):∃ a b,cs = [a,b]:=by
 match cs,h with
 | [a,b],_ => exact ⟨a,b,rfl⟩
theorem three_list {cs:List Value}(h:cs.length = 3):∃ a b c,cs = [a,b,c]:=by
 match cs,h with
 | [a,b,c],_ => exact ⟨a,b,c,rfl⟩
theorem four_listJ {cs:List Value}(h:cs.length = 4):∃ a b c d,cs = [a,b,c,d]:=by
 match cs,h with
 | [a,b,c,d],_ => exact ⟨a,b,c,d,rfl⟩
theorem seven_list {cs:List Value}(h:cs.length = 7):∃ a b c d e f g,cs = [a,b,c,d,e,f,g]:=by
 match cs,h with
 | [a,b,c,d,e,f,g],_ => exact ⟨a,b,c,d,e,f,g,rfl⟩
theorem of_cells {m:Nat}{cs:List Value}{x:DataW H × List MemPlace}(h:DataW.trod enc Try.prog w 0 sp held m 45 cs = some x)(hz:∀ n ∈ x.1.weights Try.prog 45,n ≤ reachBytes):∃ (n:Nm)(d:Int),cs = [.string (cbs n),.int .i64 d] ∧ n.length ≤ 281474976710656:=by
 obtain ⟨z1,z2,z3,z4,-⟩:=cells_J
 obtain ⟨xs,m,-,rfl,hl,hxs,hf⟩:=DataW.trod_struct Try.underlying45 h
 rw [z4] at hl
 obtain ⟨c0,c1,rfl⟩:=two_list hl
 obtain ⟨y0,e0,f0⟩:=fld_trod hxs hf 0 9 0 1 [c0] rfl z2 rfl
 obtain ⟨y1,e1,f1⟩:=fld_trod hxs hf 1 3 1 1 [c1] rfl z1 rfl
 obtain ⟨n,rfl,hn⟩:=str_cellJ f0 (wt_sub Try.underlying45 hz e0 rfl)
 obtain ⟨d,rfl⟩:=int_cellJ f1
 exact ⟨n,d,rfl,hn⟩
theorem ty_cells {m:Nat}{cs:List Value}{x:DataW H × List MemPlace}(h:DataW.trod enc Try.prog w 0 sp held m 47 cs = some x):∃ a b c:Int,cs = [.int .i64 a,.int .i64 b,.int .i64 c]:=by
 obtain ⟨z1,z2,z3,z4,z5,-⟩:=cells_J
 obtain ⟨xs,m,-,rfl,hl,hxs,hf⟩:=DataW.trod_struct Try.underlying47 h
 rw [z5] at hl
 obtain ⟨c0,c1,c2,rfl⟩:=three_list hl
 obtain ⟨y0,e0,f0⟩:=fld_trod hxs hf 0 3 0 1 [c0] rfl z1 rfl
 obtain ⟨y1,e1,f1⟩:=fld_trod hxs hf 1 3 1 1 [c1] rfl z1 rfl
 obtain ⟨y2,e2,f2⟩:=fld_trod hxs hf 2 3 2 1 [c2] rfl z1 rfl
 obtain ⟨a,rfl⟩:=int_cellJ f0
 obtain ⟨b,rfl⟩:=int_cellJ f1
 obtain ⟨c,rfl⟩:=int_cellJ f2
 exact ⟨a,b,c,rfl⟩
theorem agg_of {v:Value}{cs:List Value}{n:Nat}(h:v.cells.toList = cs)(hl:cs.length = n)(h2 : 2 ≤ n):v = .agg ⟨cs⟩:=by
 subst h
 cases v with
 | agg a => rfl
 | _ => (simp [Value.cells] at hl; omega)
theorem of_of_trod {v:Value}{d:DataW H}{ps:List MemPlace}(h:DataW.Trod enc Try.prog w 0 sp held 45 v d ps)(hz:∀ n ∈ d.weights Try.prog 45,n ≤ reachBytes):∃ (n:Nm)(d:Int),v = .agg #[.string (cbs n),.int .i64 d]:=by
 obtain ⟨fuel,h⟩:=h
 obtain ⟨n,d,hc,-⟩:=of_cells h hz
 exact ⟨n,d,agg_of (n:=2) hc rfl (by decide)⟩
theorem ty_of_trod {v:Value}{d:DataW H}{ps:List MemPlace}(h:DataW.Trod enc Try.prog w 0 sp held 47 v d ps):∃ a b c:Int,v = .agg #[.int .i64 a,.int .i64 b,.int .i64 c]:=by
 obtain ⟨fuel,h⟩:=h
 obtain ⟨a,b,c,hc⟩:=ty_cells h
 exact ⟨a,b,c,agg_of (n:=3) hc rfl (by decide)⟩
theorem pm_cellsJ {m:Nat}{cs:List Value}{x:DataW H × List MemPlace}(h:DataW.trod enc Try.prog w 0 sp held m 76 cs = some x)(hz:∀ n ∈ x.1.weights Try.prog 76,n ≤ reachBytes):∃ p:Pm,PIs w 0 p cs ∧ PmSm p ∧ cs.length = 4:=by
 obtain ⟨z1,z2,z3,z4,z5,z6,z7,-⟩:=cells_J
 obtain ⟨xs,m,-,rfl,hl,hxs,hf⟩:=DataW.trod_struct Try.underlying76 h
 rw [z7] at hl
 obtain ⟨c0,c1,c2,c3,rfl⟩:=four_listJ hl
 obtain ⟨y0,e0,f0⟩:=fld_trod hxs hf 0 9 0 1 [c0] rfl z2 rfl
 obtain ⟨y1,e1,f1⟩:=fld_trod hxs hf 1 45 1 2 [c1,c2] rfl z4 rfl
 obtain ⟨y2,e2,f2⟩:=fld_trod hxs hf 2 3 3 1 [c3] rfl z1 rfl
 obtain ⟨n,rfl,hn⟩:=str_cellJ f0 (wt_sub Try.underlying76 hz e0 rfl)
 obtain ⟨o,d,ho,hon⟩:=of_cells f1 (wt_sub Try.underlying76 hz e1 rfl)
 obtain ⟨a,rfl⟩:=int_cellJ f2
 obtain ⟨rfl,rfl⟩:c1 = .string (cbs o) ∧ c2 = .int .i64 d:=by simpa using ho
 exact ⟨⟨n,o,d,a⟩,rfl,⟨hn,hon⟩,rfl⟩
def RcSmJ (r:Rc):Prop:=r.name.length ≤ 281474976710656 ∧ ∀ p ∈ r.fields,PmSm p
def FcSmJ (f:Fc):Prop:=f.name.length ≤ 281474976710656 ∧ f.rn.length ≤ 281474976710656 ∧ ∀ p ∈ f.params,PmSm p
theorem rc_cellsJ {m:Nat}{cs:List Value}{x:DataW H × List MemPlace}(h:DataW.trod enc Try.prog w 0 sp held m 53 cs = some x)(hz:∀ n ∈ x.1.weights Try.prog 53,n ≤ reachBytes):∃ r:Rc,RcIs w 0 r cs ∧ RcSmJ r ∧ cs.length = 3:=by
 obtain ⟨z1,z2,z3,z4,z5,z6,z7,z8,-⟩:=cells_J
 obtain ⟨xs,m,-,rfl,hl,hxs,hf⟩:=DataW.trod_struct Try.underlying53 h
 rw [z8] at hl
 obtain ⟨c0,c1,c2,rfl⟩:=three_list hl
 obtain ⟨y0,e0,f0⟩:=fld_trod hxs hf 0 9 0 1 [c0] rfl z2 rfl
 obtain ⟨y1,e1,f1⟩:=fld_trod hxs hf 1 23 1 1 [c1] rfl z6 rfl
 obtain ⟨y2,e2,f2⟩:=fld_trod hxs hf 2 3 2 1 [c2] rfl z1 rfl
 obtain ⟨n,rfl,hn⟩:=str_cellJ f0 (wt_sub Try.underlying53 hz e0 rfl)
 obtain ⟨p,c,l,rfl,hp,hg⟩:=lat_of_trod (I:=PIs) (G:=PmSm) Try.underlying23 z7 (by decide) (fun m cs x hx hw => pm_cellsJ hx hw) f1 (wt_sub Try.underlying53 hz e1 rfl)
 obtain ⟨a,rfl⟩:=int_cellJ f2
 exact ⟨⟨n,l,a⟩,⟨p,c,rfl,hp⟩,⟨hn,hg⟩,rfl⟩
theorem fc_cellsJ {m:Nat}{cs:List Value}{x:DataW H × List MemPlace}(h:DataW.trod enc Try.prog w 0 sp held m 81 cs = some x)(hz:∀ n ∈ x.1.weights Try.prog 81,n ≤ reachBytes):∃ f:Fc,FcIs w 0 f cs ∧ FcSmJ f ∧ cs.length = 7:=by
 obtain ⟨z1,z2,z3,z4,z5,z6,z7,z8,z9,zA,-⟩:=cells_J
 obtain ⟨xs,m,-,rfl,hl,hxs,hf⟩:=DataW.trod_struct Try.underlying81 h
 rw [zA] at hl
 obtain ⟨c0,c1,c2,c3,c4,c5,c6,rfl⟩:=seven_list hl
 obtain ⟨y0,e0,f0⟩:=fld_trod hxs hf 0 9 0 1 [c0] rfl z2 rfl
 obtain ⟨y1,e1,f1⟩:=fld_trod hxs hf 1 23 1 1 [c1] rfl z6 rfl
 obtain ⟨y2,e2,f2⟩:=fld_trod hxs hf 2 4 2 1 [c2] rfl z3 rfl
 obtain ⟨y3,e3,f3⟩:=fld_trod hxs hf 3 45 3 2 [c3,c4] rfl z4 rfl
 obtain ⟨y4,e4,f4⟩:=fld_trod hxs hf 4 79 5 1 [c5] rfl z9 rfl
 obtain ⟨y5,e5,f5⟩:=fld_trod hxs hf 5 3 6 1 [c6] rfl z1 rfl
 obtain ⟨n,rfl,hn⟩:=str_cellJ f0 (wt_sub Try.underlying81 hz e0 rfl)
 obtain ⟨p,c,l,rfl,hp,hg⟩:=lat_of_trod (I:=PIs) (G:=PmSm) Try.underlying23 z7 (by decide) (fun m cs x hx hw => pm_cellsJ hx hw) f1 (wt_sub Try.underlying81 hz e1 rfl)
 obtain ⟨b,rfl⟩:=bool_cellJ f2
 obtain ⟨o,d,ho,hon⟩:=of_cells f3 (wt_sub Try.underlying81 hz e3 rfl)
 obtain ⟨rfl,rfl⟩:c3 = .string (cbs o) ∧ c4 = .int .i64 d:=by simpa using ho
 obtain ⟨q,k,e,rfl⟩:∃ q k e,c5 = .slice q k e:=by
  rcases DataW.trod_slice Try.underlying79 f4 with ⟨h0,-⟩ | ⟨a,len,cap,elems,rest,m',-,h0,-⟩
  ·exact ⟨_,_,_,(List.cons.inj h0).1⟩
  ·exact ⟨_,_,_,(List.cons.inj h0).1⟩
 obtain ⟨a,rfl⟩:=int_cellJ f5
 exact ⟨⟨n,l,b,o,d,[],a⟩,⟨p,c,q,k,e,rfl,hp⟩,⟨hn,hon,hg⟩,rfl⟩
theorem gm_of_trod {v:Value}{d:DataW H}{ps:List MemPlace}(h:DataW.Trod enc Try.prog w 0 sp held 26 v d ps)(hz:∀ n ∈ d.weights Try.prog 26,n ≤ reachBytes) :
 ∃ (g:Gm) (p:Option Addr) (c:Nat) (q:Option Addr) (k:Nat) (r:Option Addr) (f:Nat),v = .agg #[.slice p g.recs.length c,.slice q g.globals.length k,.slice r g.funcs.length f] ∧ LAt RcIs 3 w 0 p g.recs ∧ LAt PIs 4 w 0 q g.globals ∧ LAt FcIs 7 w 0 r g.funcs ∧ (∀ x ∈ g.recs,RcSmJ x) ∧ (∀ x ∈ g.globals,PmSm x) ∧ ∀ x ∈ g.funcs,FcSmJ x:=by
 obtain ⟨fuel,h⟩:=h
 obtain ⟨z1,z2,z3,z4,z5,z6,z7,z8,z9,zA,zB,zC,zD⟩:=cells_J
 obtain ⟨xs,m,-,hd,hl,hxs,hf⟩:=DataW.trod_struct Try.underlying26 h
 obtain rfl:=congrArg Prod.fst hd
 rw [zD] at hl
 obtain ⟨c0,c1,c2,hcs⟩:=three_list hl
 rw [hcs] at hf
 obtain ⟨y0,e0,f0⟩:=fld_trod hxs hf 0 22 0 1 [c0] rfl zB rfl
 obtain ⟨y1,e1,f1⟩:=fld_trod hxs hf 1 23 1 1 [c1] rfl z6 rfl
 obtain ⟨y2,e2,f2⟩:=fld_trod hxs hf 2 24 2 1 [c2] rfl zC rfl
 obtain ⟨p,c,l,rfl,hp,hg⟩:=lat_of_trod (I:=RcIs) (G:=RcSmJ) Try.underlying22 z8 (by decide) (fun m cs x hx hw => rc_cellsJ hx hw) f0 (wt_sub Try.underlying26 hz e0 rfl)
 obtain ⟨q,k,l1,rfl,hp1,hg1⟩:=lat_of_trod (I:=PIs) (G:=PmSm) Try.underlying23 z7 (by decide) (fun m cs x hx hw => pm_cellsJ hx hw) f1 (wt_sub Try.underlying26 hz e1 rfl)
 obtain ⟨r,f,l2,rfl,hp2,hg2⟩:=lat_of_trod (I:=FcIs) (G:=FcSmJ) Try.underlying24 zA (by decide) (fun m cs x hx hw => fc_cellsJ hx hw) f2 (wt_sub Try.underlying26 hz e2 rfl)
 exact ⟨⟨l,l1,l2⟩,p,c,q,k,r,f,agg_of (n:=3) hcs rfl (by decide),hp,hp1,hp2,hg,hg1,hg2⟩
end
end Go.Proofs.Ytjleggpbghmobaa
