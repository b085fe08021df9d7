/-
  What the listed package-level variables give a walk: the two
-/
import Derived.Test.YtipmjjfknhblnaaGreatDoorK06
import Derived.Test.YtipmjjfknhblnaaGreatDoorK02
import Derived.Test.YtipmjjfknhblnaaGreatDoorK33
import Derived.Test.YtipmjjfknhblnaaGreatDoorRows
import Derived.ProofKit
import Derived.LaidMore
import Derived.OpenShut
import Derived.Stop.Joined
import Derived.Stop.LaidErr
import Derived.Lib.LaidTab
import Derived.Lib.SmallJoins
import Derived.Lib.AtoiErrMem
set_option maxRecDepth 8000
set_option maxHeartbeats 8000000
namespace Go.Proofs.YtipmjjfknhblnaaGreatDoor.Ln
open Go.ChangeShapes Go.WideShapes Go.ChangeAt Go.WideMaps Go.WideElems Go.RowKit
def textData {H:Type}(zs:List (List UInt8)):DataW H:=.agg (zs.map fun z => .lit (.string z))
theorem zDo {H:Type}{enc:TypeId × Value → H}{P:Program}{w:World}{base:Nat}{sp:Nat → Bool}{held:Bool}{fuel:Nat}{t e:TypeId}{n:Nat}{cs:List Value}{zs:List (List UInt8)}{p:List MemPlace}
 (ht:P.underlying t = some (.array n e)) (he:P.underlying e = some .string) (hce:P.cellsOf e = 1) (hct:P.cellsOf t = n)
 (h:DataW.trod enc P w base sp held fuel t cs = some (textData zs,p)):cs = zs.map fun z => Value.string (bs z):=by
 cases fuel with
 | zero => simp [DataW.trod] at h
 | succ fuel =>
   simp only [DataW.trod,ht,hce,hct,Nat.mul_one] at h
   split at h
   ·rename_i hl
    obtain ⟨xs,hm,hx⟩:=Option.map_eq_some_iff.1 h
    have hxs:xs.map (·.1) = zs.map fun z => (DataW.lit (.string z):DataW H):=by
        have:=congrArg Prod.fst hx
        simpa [textData] using this
    have hxl:xs.length = n:=by simpa using Lib.mapM_length hm
    have hzl:zs.length = n:=by
        have:=congrArg List.length hxs
        simp at this
        omega
    apply List.ext_getElem?
    intro i
    by_cases hi:i < n
    ·obtain ⟨b,hb,hf⟩:=Lib.mapM_at hm i i (by simp [hi])
     obtain ⟨z,hc,hbz,_⟩:=DataW.trod_string he hf
     have h1:cs[i]? = some (.string z):=by
      have:=congrArg (·[0]?) hc
      simpa [List.getElem?_take,List.getElem?_drop] using this
     have h2:(xs.map (·.1))[i]? = some (DataW.lit (.string z.data.toList):DataW H):=by simp [hb,hbz]
     rw [hxs] at h2
     simp only [List.getElem?_map,Option.map_eq_some_iff,DataW.lit.injEq,Lit.string.injEq] at h2
     obtain ⟨z',hz',hq⟩:=h2
     rw [h1,List.getElem?_map,hz',hq]
     rfl
    ·rw [List.getElem?_eq_none (by omega),List.getElem?_eq_none (by simp; omega)]
   ·cases h
theorem zFN {P:Program}{w:World}{n:String}{g:Nat}{cs:Array Value}(hg:P.globalNamed n = some g)(h:w.var? P n = some cs):∃ t fr,w.heap[g]? = some (.cells cs t fr):=by
 simp only [World.var?,hg,Option.bind_some] at h
 split at h
 ·rename_i cs' t fr he
  injection h with h
  exact ⟨t,fr,by rw [he,h]⟩
 ·cases h
theorem textIs_of_head {P:Program}{W:World}{name:String}{zs:List (List UInt8)}{rest:List (String × DataW Unit)}{g:Nat}{t e:TypeId}{n:Nat}
 (hg:P.globalNamed name = some g) (hty:(P.globals[g]?).map (·.type) = some t) (ht:P.underlying t = some (.array n e)) (he:P.underlying e = some .string) (hce:P.cellsOf e = 1) (hct:P.cellsOf t = n)
 (h:laidMet P ((name,textData zs) :: rest) W):∃ t' fr,W.heap[g]? = some (.cells (zs.map fun z => Value.string (bs z)).toArray t' fr):=by
 obtain ⟨ps,⟨g',t',cs,fuel,p,q,hg',ht',hvar,hd,_,_⟩,_⟩:=h
 obtain rfl:=Option.some.inj (hg.symm.trans hg')
 obtain rfl:=Option.some.inj (hty.symm.trans ht')
 refine zFN hg ?_
 rw [hvar,← zDo ht he hce hct hd]
def signsV:Array Value:=(Lx.signs.map fun z => Value.string (bs z)).toArray
theorem zFg:signsV.size = 23:=by simp [signsV,Lx.signs]
theorem zIc {j:Nat}{g:List UInt8}(h:Lx.signs[j]? = some g):signsV[j]? = some (.string (bs g)):=by
 simp [signsV,h]
structure Env (w:World):Prop where
 syn:∃ a,w.cell? ⟨1,0,none⟩ = some (.iface 169 (.pointer (some a)))
 ran:∃ a,w.cell? ⟨2,0,none⟩ = some (.iface 169 (.pointer (some a)))
 sig:∃ t fr,w.heap[0]? = some (.cells signsV t fr)
theorem zJp {w:World}{b o:Nat}{v:Value}(h:w.cell? ⟨b,o,none⟩ = some v):b < w.heap.size:=by
 rcases Nat.lt_or_ge b w.heap.size with h' | h'
 ·exact h'
 ·simp [World.cell?,Array.getElem?_eq_none h'] at h
theorem zAC {w:World}{b:Nat}{v:Obj}(h:w.heap[b]? = some v):b < w.heap.size:=(Array.getElem?_eq_some_iff.1 h).1
theorem Env.below {w w':World}(h:Env w)(hb:Below w.heap.size w w'):Env w':=by
 refine ⟨?_,?_,?_⟩
 ·obtain ⟨a,ha⟩:=h.syn
  exact ⟨a,by rw [hb.cell (p:=⟨_,_,_⟩) (zJp ha)]; exact ha⟩
 ·obtain ⟨a,ha⟩:=h.ran
  exact ⟨a,by rw [hb.cell (p:=⟨_,_,_⟩) (zJp ha)]; exact ha⟩
 ·obtain ⟨t,fr,ha⟩:=h.sig
  exact ⟨t,fr,by rw [hb.block _ (zAC ha)]; exact ha⟩
theorem signs_is:(Rows.laid_runrig_lex_signs:DataW Unit) = textData Lx.signs:=by kernel_rfl
theorem gSyn : Tryz.prog.globalNamed "strconv.ErrSyntax" = some 1 := by kernel_rfl
theorem gRan : Tryz.prog.globalNamed "strconv.ErrRange" = some 2 := by kernel_rfl
theorem gSynT:(Tryz.prog.globals[1]?).map (·.type) = some 115:=by kernel_rfl
theorem gRanT:(Tryz.prog.globals[2]?).map (·.type) = some 115:=by kernel_rfl
theorem zMJ : ("*errors.errorString" : String) = "*" ++ "errors.errorString" := by decide
theorem rowE (u : TypeId) (h : Tryz.prog.typeName? 3 u = some "*errors.errorString") : u = 169 :=
 typeName_ptr_named (nm := "errors.errorString") (by rw [← zMJ]; kernel_rfl) (by kernel_rfl) (by decide) u (by rw [← zMJ]; exact h)
end Go.Proofs.YtipmjjfknhblnaaGreatDoor.Ln
namespace Go.Proofs.YtipmjjfknhblnaaGreatDoor.Ln
namespace Lx
def oneWord (r:List UInt8):Option (Nat × List UInt8 × Nat × Nat):=
 if isWord (r.take (runN alnB r)) then some (3,r.take (runN alnB r),0,runN alnB r)
 else if isName (r.take (runN alnB r)) then some (1,r.take (runN alnB r),0,runN alnB r)
 else none
def oneNum (r:List UInt8):Option (Nat × List UInt8 × Nat × Nat):=
 if numBad r then none else some (2,[],valN 0 (r.take (runN digB r)),runN digB r)
def oneSign (r:List UInt8):Option (Nat × List UInt8 × Nat × Nat):=
 match signAt r with
 | none => none
 | some g => some (4,g,0,g.length)
theorem one_word (c:UInt8)(r:List UInt8)(h:letB (c.toNat:Int) = true):one (c :: r) = oneWord (c :: r):=by
 rw [one,if_pos h,oneWord]
theorem one_num (c:UInt8)(r:List UInt8)(h:letB (c.toNat:Int) = false)(h2:digB (c.toNat:Int) = true):one (c :: r) = oneNum (c :: r):=by
 rw [one,if_neg (by rw [h]; decide),if_pos h2,oneNum]
theorem one_sign (c:UInt8)(r:List UInt8)(h:letB (c.toNat:Int) = false)(h2:digB (c.toNat:Int) = false):one (c :: r) = oneSign (c :: r):=by
 rw [one,if_neg (by rw [h]; decide),if_neg (by rw [h2]; decide),oneSign]
 cases signAt (c :: r) <;> rfl
end Lx
open Go.RowKit
def scanV (k:Nat):Option (Nat × List UInt8 × Nat × Nat) → Value
 | none => .tuple #[.agg #[.int .i64 0,.string ⟨#[]⟩,.int .i64 0,.int .i64 0],.int .i64 0,.bool false]
 | some (kind,text,num,m) => .tuple #[.agg #[.int .i64 kind,.string (bs text),.int .i64 num,.int .i64 k],.int .i64 (k + m:Nat),.bool true]
theorem zM9:(Tryz.prog.info? 118).map (·.size) = some signsV.size:=by rw [zFg]; kernel_rfl
theorem zHx:∃ i,Tryz.prog.info? 9 = some i ∧ i.size = 1:=by
 have h:(Tryz.prog.info? 9).map (·.size) = some 1:=by kernel_rfl
 cases hi:Tryz.prog.info? 9 with
 | none => rw [hi] at h; cases h
 | some i => rw [hi] at h; exact ⟨i,rfl,by simpa using h⟩
theorem zFM {P:Program}(t e:TypeId)(n:Nat)(i:TypeInfo)(cs:Array Value)(j:Nat)(g:List UInt8)(ht:P.underlying t = some (.array n e))(he:P.underlying e = some .string)(hi:P.info? e = some i)(hs:i.size = 1)(hj:j < n)(hc:cs[j]? = some (.string (bs g)))(w:World) :
 (Instr.index t (.agg cs) (.int .i64 (j:Int))).run P w = .ok (.string (bs g)) w:=by
 have h1:(0:Int) ≤ (j:Int) ∧ (j:Int) < (n:Int):=⟨by omega,by omega⟩
 simp [Instr.index,asIntOf,run_underlying ht,h1,sizeOf,typeInfo,hi,hs,part,hc,run_isAgg_plain he rfl]
 intro h; omega
theorem zBU {k m kind num:Nat}{text:List UInt8}{E:Int}(h:E = ((k + m:Nat):Int)) :
 Ending.returned (.tuple #[.agg #[.int .i64 kind,.string (bs text),.int .i64 num,.int .i64 k],.int .i64 E,.bool true]) = .returned (scanV k (some (kind,text,num,m))):=by rw [h]; rfl
theorem zBl {k:Nat}:Ending.returned (.tuple #[.agg #[.int .i64 0,.string ⟨#[]⟩,.int .i64 0,.int .i64 0],.int .i64 0,.bool false]) = .returned (scanV k none):=rfl
theorem zCN:Lx.signs.length = 23:=by decide
theorem zCO {r:List UInt8}(h:∀ g ∈ Lx.signs,g.isPrefixOf r = false):Lx.signAt r = none:=by
 rw [Lx.signAt,List.find?_eq_none]
 intro g hg
 rw [h g hg]; decide
theorem zDE:∀ (l:List (List UInt8))(p:List UInt8 → Bool)(j:Nat)(g:List UInt8),l[j]? = some g → (∀ x ∈ l.take j,p x = false) → p g = true → l.find? p = some g
 | [],_,_,_,h,_,_ => by simp at h
 | x :: l,p,0,g,h,_,hp => by
   simp at h
   subst h
   simp [hp]
 | x :: l,p,j + 1,g,h,hn,hp => by
   have hx:=hn x (by simp)
   rw [List.find?_cons_of_neg (by rw [hx]; decide)]
   exact zDE l p j g (by simpa using h) (fun y hy => hn y (by simp [hy])) hp
theorem zBu {r g:List UInt8}{j:Nat}(hg:Lx.signs[j]? = some g)(hn:∀ x ∈ Lx.signs.take j,x.isPrefixOf r = false)(hp:g.isPrefixOf r = true):Lx.signAt r = some g:=
 zDE Lx.signs _ j g hg hn hp
theorem zGG {r g:List UInt8}{j:Nat}(hg:Lx.signs[j]? = some g)(hn:∀ x ∈ Lx.signs.take j,x.isPrefixOf r = false)(hp:g.isPrefixOf r = false):∀ x ∈ Lx.signs.take (j + 1),x.isPrefixOf r = false:=by
 intro x hx
 rw [List.take_add_one,hg] at hx
 simp only [Option.toList,List.mem_append,List.mem_singleton] at hx
 rcases hx with hx | rfl
 ·exact hn x hx
 ·exact hp
theorem zEu (s:ByteArray)(hs:s.size ≤ maxLen)(a:Int)(k:Nat)(ha:a = k)(hk:k < s.size)(w:World)(he:Env w) :
 Calls Tryz.prog 59 #[.string s,.int .i64 a] w fun e w' => e = .returned (scanV k (Lx.oneSign (s.data.toList.drop k))) ∧ Below w.heap.size w w':=by
 subst ha
 unfold maxLen at hs
 have hk2:k ≤ s.size:=by omega
 obtain ⟨gt,gfr,hg⟩:=he.sig
 obtain ⟨iS,hiS,hsS⟩:=zHx
 have hlt:=zAC hg
 clear he
 go_in
 go_wp2_with (with_reducible refine wpList_load_row rfl 118 (.global 0) rfl 0 rfl gt signsV gfr _ ?c1 Tryz.underlying118 rfl zM9 ?_)
 case c1 => rw [heap_alloc_old _ _ hlt]; exact hg
 clear hg
 go_loop [10] (fun i => ∃ j:Nat,j ≤ 23 ∧ i = .int .i64 j ∧ ∀ x ∈ Lx.signs.take j,x.isPrefixOf (s.data.toList.drop k) = false) (fun i => 23 - (intOf i).toNat)
 case atStart => exact ⟨0,by omega,rfl,by simp⟩
 case round =>
  obtain ⟨j,hj,rfl,hn⟩:=hrel
  have HN:=vH hn
  clear hn
  by_cases hlt:j < 23
  ·obtain ⟨g,hgj⟩:∃ g,Lx.signs[j]? = some g:=⟨_,List.getElem?_eq_getElem (by rw [zCN]; exact hlt)⟩
   have hix:=zFM 118 9 23 iS signsV j g Tryz.underlying118 Tryz.underlying9 hiS hsS hlt (zIc hgj)
   cases hp:g.isPrefixOf (s.data.toList.drop k)
   ·have HP:=vH hp
    have HG:=vH hgj
    clear hp hgj
    go_wp2_with (go_at_call 53; refine (zAQ _ _ false ((congrArg (List.isPrefixOf g) (zBR s k)).trans HP.out) _).mono ?_; rintro e w' ⟨rfl,rfl⟩)
    go_round
    case rel => exact ⟨j + 1,by omega,by go_num,zGG HG.out HN.out HP.out⟩
    case measure => simp [intOf]; omega
   ·have HP:=vH hp
    have HG:=vH hgj
    have hle:k + g.length ≤ s.size:=by
     have h:=List.isPrefixOf_iff_prefix.1 hp
     have:=h.length_le
     rw [List.length_drop,zAq] at this
     omega
    have hle2:k + (bs g).size ≤ s.size:=hle
    clear hp hgj
    go_wp2_with (go_at_call 53; refine (zAQ _ _ true ((congrArg (List.isPrefixOf g) (zBR s k)).trans HP.out) _).mono ?_; rintro e w' ⟨rfl,rfl⟩)
    refine bodyPost_ret (v:=.tuple #[.agg #[.int .i64 4,.string (bs g),.int .i64 0,.int .i64 k],.int .i64 (k + (bs g).size),.bool true]) (by simp [results,Tryz.results59,go_sem]) rfl ⟨?_,?_⟩
    ·rw [Lx.oneSign,zBu HG.out HN.out HP.out]
     exact zBU (by simp [zMo])
    ·exact (Below.refl _ _).alloc (Nat.le_refl _) _
  ·have HS:Hid (Lx.signAt (s.data.toList.drop k) = none):=zCO (fun x hx => HN.out x (by rw [List.take_of_length_le (by rw [zCN]; omega)]; exact hx))
   go_wp2
   refine bodyPost_ret (v:=.tuple #[.agg #[.int .i64 0,.string ⟨#[]⟩,.int .i64 0,.int .i64 0],.int .i64 0,.bool false]) (by simp [results,Tryz.results59,go_sem]) rfl ⟨?_,(Below.refl _ _).alloc (Nat.le_refl _) _⟩
   rw [Lx.oneSign,HS.out]
   rfl
open Go.RowKit
theorem zBr (s:ByteArray)(k m:Nat):(s.extract k (k + m)).data.toList = (s.data.toList.drop k).take m:=by
 rw [Lib.extract_data]
 congr 1
 omega
theorem zLc (s:ByteArray)(k m n:Nat)(h:k + m = n):s.extract k n = bs ((s.data.toList.drop k).take m):=by
 rw [← h,← zNi (s.extract k (k + m)),zBr]
theorem zD6 (s:ByteArray)(k n:Nat):(s.extract k n).size ≤ s.size:=by
 rw [ByteArray.size_extract]; omega
theorem zBd {s:ByteArray}(h:s.size ≤ 6000):s.size ≤ maxLen:=by unfold maxLen; omega
theorem zFT {s:ByteArray}(k n:Nat)(h:s.size ≤ 6000):(s.extract k n).size ≤ maxLen:=by
 have:=zD6 s k n
 unfold maxLen; omega
theorem clone_any (s:ByteArray)(hs:s.size ≤ 281474976710656)(w:World):Calls Tryz.prog 88 #[.string s] w fun e w' => e = .returned (.string s) ∧ Below w.heap.size w w':=by
 go_in
 go_wp2_with (go_at_call 98; refine (Any.stringslite_Clone Tryz.laysM316 s _ hs).mono ?_; rintro e w1 ⟨rfl,hb⟩)
 go_ret
 exact ⟨rfl,hb⟩
theorem zMt (s:ByteArray)(hs:s.size ≤ 281474976710656)(v:Int)(h:Lib.atoiAll s.data.toList = .ok v)(w:World) :
 Calls Tryz.prog 89 #[.string s] w fun e w' => e = .returned (.tuple #[.int .i64 v,.nilIface]) ∧ Below w.heap.size w w':=
 (Any.strconv_Atoi_ok Tryz.laysC172 s (by omega) v h w).mono fun _ _ ⟨h,hw⟩ => ⟨h,by
  rcases hw with rfl | ⟨t,rfl⟩
  ·exact Below.refl _ _
  ·exact Lib.bytesWorld_below _ _ _⟩
theorem zHL (s:ByteArray)(hs:s.size ≤ 281474976710656)(h:Lib.atoiAll s.data.toList = .range)(w:World)(he:Env w) :
 Calls Tryz.prog 89 #[.string s] w fun e w' => ∃ (v:Int) (N:Nat),e = .returned (.tuple #[.int .i64 v,.iface 145 (.pointer (some ⟨N,0,none⟩))]) ∧ Below w.heap.size w w':=by
 obtain ⟨a,ha⟩:=he.ran
 exact (Any.strconv_Atoi_range Tryz.laysC172 s hs h _ w ha (Or.inr ⟨_,_,rfl⟩)).mono fun _ _ ⟨N,h,_,_,hb⟩ => ⟨_,N,h,hb⟩
theorem zA5 {w w1:World}{cs:Array Value}{T:TypeId}(hb:Below (w.alloc (.cells cs T)).heap.size (w.alloc (.cells cs T)) w1):w1.heap[w.heap.size]? = some (.cells cs T (0,0)):=by
 rw [hb.block _ (by simp)]; exact heap_alloc_new w _
theorem box4 {w1:World}{B:Nat}{T:TypeId}{a b c d:Value}(h:w1.heap[B]? = some (.cells #[a,b,c,d] T (0,0))) :
 (w1.cell? ⟨B,0,none⟩ = some a ∧ w1.cell? ⟨B,1,none⟩ = some b ∧ w1.cell? ⟨B,2,none⟩ = some c ∧ w1.cell? ⟨B,3,none⟩ = some d) ∧
 (w1.frozen? ⟨B,0,none⟩ = false ∧ w1.frozen? ⟨B,1,none⟩ = false ∧ w1.frozen? ⟨B,2,none⟩ = false ∧ w1.frozen? ⟨B,3,none⟩ = false):=
 ⟨⟨by rw [cell_of_row _ _ _ _ _ _ h]; rfl,by rw [cell_of_row _ _ _ _ _ _ h]; rfl,by rw [cell_of_row _ _ _ _ _ _ h]; rfl,by rw [cell_of_row _ _ _ _ _ _ h]; rfl⟩,
   frozen_of_row _ _ _ _ _ h,frozen_of_row _ _ _ _ _ h,frozen_of_row _ _ _ _ _ h,frozen_of_row _ _ _ _ _ h⟩
theorem zAj {w w1:World}{o:Obj}(hb:Below (w.alloc o).heap.size (w.alloc o) w1):Below w.heap.size w w1:=
 ((Below.refl _ _).alloc (Nat.le_refl _) o).trans (hb.mono (by simp))
theorem zCX {s:ByteArray}{k:Nat}(hk:k < s.size)(h:Lx.letB (s[k].toNat:Int) = true):Lx.one (s.data.toList.drop k) = Lx.oneWord (s.data.toList.drop k):=by
 rw [zAn s k hk]; exact Lx.one_word _ _ h
theorem zDv {s:ByteArray}{k:Nat}(hk:k < s.size)(h:Lx.letB (s[k].toNat:Int) = false)(h2:Lx.digB (s[k].toNat:Int) = true):Lx.one (s.data.toList.drop k) = Lx.oneNum (s.data.toList.drop k):=by
 rw [zAn s k hk]; exact Lx.one_num _ _ h h2
theorem zCY {s:ByteArray}{k:Nat}(hk:k < s.size)(h:Lx.letB (s[k].toNat:Int) = false)(h2:Lx.digB (s[k].toNat:Int) = false):Lx.one (s.data.toList.drop k) = Lx.oneSign (s.data.toList.drop k):=by
 rw [zAn s k hk]; exact Lx.one_sign _ _ h h2
theorem zEt (s:ByteArray)(hs:s.size ≤ 6000)(a:Int)(k:Nat)(ha:a = k)(hk:k < s.size)(w:World) :
 Calls Tryz.prog 56 #[.string s,.int .i64 a] w fun e w' => e = .returned (scanV k (Lx.oneWord (s.data.toList.drop k))) ∧ Below w.heap.size w w':=by
 subst ha
 have hk2:k ≤ s.size:=by omega
 have hmax:=zBd hs
 have hb:=zAJ Lx.alnB s k hk2
 generalize hm:Lx.runN Lx.alnB (s.data.toList.drop k) = m at hb
 generalize hn:k + m = n at hb
 have hkn:k ≤ n:=by omega
 have hx:=zLc s k m n hn
 have hl:=zBr s k m
 rw [hn] at hl
 have HM:Hid (k + Lx.runN Lx.alnB (s.data.toList.drop k) = n):=by show _ = _; rw [hm,hn]
 have hone:Lx.oneWord (s.data.toList.drop k) = if Lx.isWord ((s.data.toList.drop k).take m) then some (3,(s.data.toList.drop k).take m,0,m) else if Lx.isName ((s.data.toList.drop k).take m) then some (1,(s.data.toList.drop k).take m,0,m) else none:=by rw [Lx.oneWord,hm]
 have hw:=zFZ (s.extract k n)
 have hnm:=name_any (s.extract k n) (zFT k n hs)
 have hc:=clone_any (s.extract k n) (by have:=zD6 s k n; omega)
 rw [hl] at hw hnm
 have HX:=vH hx
 have HN:=vH hn
 have HC:=vH hc
 cases hcw:Lx.isWord ((s.data.toList.drop k).take m)
 ·rw [hcw] at hw hone
  rw [if_neg (by decide)] at hone
  have HW:=vH hw
  cases hcn:Lx.isName ((s.data.toList.drop k).take m)
  ·rw [hcn] at hnm hone
   rw [if_neg (by decide)] at hone
   have HNM:=vH hnm
   rw [hone]
   clear hone hw hnm hc hx hl hm hn hcw hcn
   go_in
   go_wp2_with (first
      | (go_at_call 51; refine (zAN _ _ zB7 s hmax _ k n rfl hk2 HM.out _).mono ?_; rintro e w' ⟨rfl,rfl⟩)
      | (go_at_call 86; refine (HW.out _).mono ?_; rintro e w' ⟨rfl,rfl⟩)
      | (go_at_call 87; refine (HNM.out _).mono ?_; rintro e w' ⟨rfl,rfl⟩))
   exact bodyPost_ret (v:=.tuple #[.agg #[.int .i64 0,.string ⟨#[]⟩,.int .i64 0,.int .i64 0],.int .i64 0,.bool false]) (by simp [results,Tryz.results56,go_sem]) rfl ⟨zBl,(Below.refl _ _).alloc (Nat.le_refl _) _⟩
  ·rw [hcn] at hnm hone
   rw [if_pos rfl] at hone
   have HNM:=vH hnm
   rw [hone]
   clear hone hw hnm hc hx hl hm hn hcw hcn
   go_in
   go_wp2_with (first
      | (go_at_call 51; refine (zAN _ _ zB7 s hmax _ k n rfl hk2 HM.out _).mono ?_; rintro e w' ⟨rfl,rfl⟩)
      | (go_at_call 86; refine (HW.out _).mono ?_; rintro e w' ⟨rfl,rfl⟩)
      | (go_at_call 87; refine (HNM.out _).mono ?_; rintro e w' ⟨rfl,rfl⟩)
      | (go_at_call 88; refine (HC.out _).mono ?_; rintro e w1 ⟨rfl,hb1⟩; obtain ⟨⟨c0,c1,c2,c3⟩,f0,f1,f2,f3⟩:=box4 (zA5 hb1)))
   refine bodyPost_ret (v:=.tuple #[.agg #[.int .i64 1,.string (s.extract k n),.int .i64 0,.int .i64 k],.int .i64 n,.bool true]) (by simp [results,Tryz.results56,go_sem,c0,c1,c2,c3]) rfl ⟨?_,?_⟩
   ·rw [HX.out]
    exact zBU (by have:=HN.out; omega)
   ·exact ((((zAj hb1).setCell (Nat.le_refl _) _).setCell (Nat.le_refl _) _).setCell (Nat.le_refl _) _).setCell (Nat.le_refl _) _
 ·rw [hcw] at hw hone
  rw [if_pos rfl] at hone
  have HW:=vH hw
  rw [hone]
  clear hone hw hnm hc hx hl hm hn hcw
  go_in
  go_wp2_with (first
   | (go_at_call 51; refine (zAN _ _ zB7 s hmax _ k n rfl hk2 HM.out _).mono ?_; rintro e w' ⟨rfl,rfl⟩)
   | (go_at_call 86; refine (HW.out _).mono ?_; rintro e w' ⟨rfl,rfl⟩)
   | (go_at_call 88; refine (HC.out _).mono ?_; rintro e w1 ⟨rfl,hb1⟩; obtain ⟨⟨c0,c1,c2,c3⟩,f0,f1,f2,f3⟩:=box4 (zA5 hb1)))
  refine bodyPost_ret (v:=.tuple #[.agg #[.int .i64 3,.string (s.extract k n),.int .i64 0,.int .i64 k],.int .i64 n,.bool true]) (by simp [results,Tryz.results56,go_sem,c0,c1,c2,c3]) rfl ⟨?_,?_⟩
  ·rw [HX.out]
   exact zBU (by have:=HN.out; omega)
  ·exact ((((zAj hb1).setCell (Nat.le_refl _) _).setCell (Nat.le_refl _) _).setCell (Nat.le_refl _) _).setCell (Nat.le_refl _) _
theorem zMc {s:ByteArray}{k:Nat}(hk:k < s.size):(s.data.toList.drop k).head? = some s[k]:=by rw [zAn s k hk]; rfl
theorem zDx {s:ByteArray}{n:Nat}(hn:n < s.size):Lx.nextLet (s.data.toList.drop n) = Lx.letB (s[n].toNat:Int):=by rw [zAn s n hn]; rfl
theorem zC0 {s:ByteArray}{n:Nat}(hn:s.size ≤ n):Lx.nextLet (s.data.toList.drop n) = false:=by rw [zBJ s n hn]; rfl
theorem zEN {s:ByteArray}{k m n V:Nat}(hk:k < s.size)(hm:Lx.runN Lx.digB (s.data.toList.drop k) = m)(hn:k + m = n)(hV:Lx.valN 0 ((s.data.toList.drop k).take m) = V) :
 Lx.numBad (s.data.toList.drop k) = (decide (s[k] = 48 ∧ 1 < m) || decide (9223372036854775807 < V) || Lx.nextLet (s.data.toList.drop n)):=by
 rw [Lx.numBad,hm,hV,List.drop_drop,hn,zMc hk]
 simp
theorem zLg {c:UInt8}(h:((c.toNat:Int) == 48) = true):c = 48:=by
 have h1:=beq_iff_eq.1 h
 exact UInt8.toNat_inj.1 (by show c.toNat = 48; omega)
theorem zJq {c:UInt8}(h:((c.toNat:Int) == 48) = false):c ≠ 48:=by
 rintro rfl
 exact absurd h (by decide)
structure NumTests (s:ByteArray) (k n:Nat) (hk:k < s.size) (padded runsOn:Bool):Prop where
 pad:(((s[k].toNat:Int) == 48) = true ∧ k + 1 < n ∧ padded = true) ∨ (((s[k].toNat:Int) == 48) = true ∧ n ≤ k + 1 ∧ padded = false) ∨ (((s[k].toNat:Int) == 48) = false ∧ padded = false)
 run:(∃ hn:n < s.size,(∀ w,Calls Tryz.prog 55 #[.int .u8 (s[n].toNat:Int)] w fun e w' => e = .returned (.bool runsOn) ∧ w = w')) ∨ (s.size ≤ n ∧ runsOn = false)
theorem zKi (s:ByteArray)(k n:Nat)(hk:k < s.size):∃ padded runsOn,NumTests s k n hk padded runsOn ∧ padded = decide (s[k] = 48 ∧ k + 1 < n) ∧ runsOn = Lx.nextLet (s.data.toList.drop n):=by
 refine ⟨_,_,⟨?_,?_⟩,rfl,rfl⟩
 ·cases h:((s[k].toNat:Int) == 48)
  ·exact Or.inr (Or.inr ⟨rfl,decide_eq_false fun ⟨h2,_⟩ => zJq h h2⟩)
  ·by_cases h2:k + 1 < n
   ·exact Or.inl ⟨rfl,h2,decide_eq_true ⟨zLg h,h2⟩⟩
   ·exact Or.inr (Or.inl ⟨rfl,by omega,decide_eq_false fun ⟨_,h3⟩ => h2 h3⟩)
 ·by_cases h:n < s.size
  ·refine Or.inl ⟨h,fun w => ?_⟩
   rw [zDx h]
   exact zAR _ w
  ·exact Or.inr ⟨by omega,zC0 (by omega)⟩
theorem zDg (s:ByteArray)(hs:s.size ≤ 6000)(k n:Nat)(hk:k < s.size)(hkn:k < n)(hns:n ≤ s.size)(hrun:k + Lx.runN Lx.digB (s.data.toList.drop k) = n)
 (padded runsOn:Bool) (ht:NumTests s k n hk padded runsOn) (hbad:(padded || runsOn) = true) (w:World) :
 Calls Tryz.prog 58 #[.string s,.int .i64 k] w fun e w' => e = .returned (scanV k none) ∧ Below w.heap.size w w':=by
 have hmax:=zBd hs
 have hk2:k ≤ s.size:=by omega
 have HR:=vH hrun
 clear hrun
 obtain ⟨hp,hr⟩:=ht
 rcases hp with ⟨p1,p2,rfl⟩ | ⟨p1,p2,rfl⟩ | ⟨p1,rfl⟩ <;> rcases hr with ⟨r1,r2⟩ | ⟨r1,rfl⟩ <;> try (simp at hbad; done)
 ·clear hbad
  have HL:=vH r2
  clear r2
  have p3:(k:Int) + 1 < (n:Int):=by omega
  cases runsOn
  all_goals
   go_in
   go_wp2_with (first
        | (go_at_call 51; refine (zAN _ _ zA4 s hmax _ k n rfl hk2 HR.out _).mono ?_; rintro e w' ⟨rfl,rfl⟩)
        | (go_at_call 55; refine (HL.out _).mono ?_; rintro e w' ⟨rfl,rfl⟩))
   exact bodyPost_ret (v:=.tuple #[.agg #[.int .i64 0,.string ⟨#[]⟩,.int .i64 0,.int .i64 0],.int .i64 0,.bool false]) (by simp [results,Tryz.results58,go_sem]) rfl ⟨zBl,(Below.refl _ _).alloc (Nat.le_refl _) _⟩
 ·have p3:(k:Int) + 1 < (n:Int):=by omega
  have r3:(s.size:Int) ≤ (n:Int):=by omega
  clear hbad
  go_in
  go_wp2_with (go_at_call 51; refine (zAN _ _ zA4 s hmax _ k n rfl hk2 HR.out _).mono ?_; rintro e w' ⟨rfl,rfl⟩)
  exact bodyPost_ret (v:=.tuple #[.agg #[.int .i64 0,.string ⟨#[]⟩,.int .i64 0,.int .i64 0],.int .i64 0,.bool false]) (by simp [results,Tryz.results58,go_sem]) rfl ⟨zBl,(Below.refl _ _).alloc (Nat.le_refl _) _⟩
 ·obtain rfl:runsOn = true:=by simpa using hbad
  have p3:(n:Int) ≤ (k:Int) + 1:=by omega
  have HL:=vH r2
  clear r2 hbad
  go_in
  go_wp2_with (first
   | (go_at_call 51; refine (zAN _ _ zA4 s hmax _ k n rfl hk2 HR.out _).mono ?_; rintro e w' ⟨rfl,rfl⟩)
   | (go_at_call 55; refine (HL.out _).mono ?_; rintro e w' ⟨rfl,rfl⟩))
  exact bodyPost_ret (v:=.tuple #[.agg #[.int .i64 0,.string ⟨#[]⟩,.int .i64 0,.int .i64 0],.int .i64 0,.bool false]) (by simp [results,Tryz.results58,go_sem]) rfl ⟨zBl,(Below.refl _ _).alloc (Nat.le_refl _) _⟩
 ·obtain rfl:runsOn = true:=by simpa using hbad
  have HL:=vH r2
  clear r2 hbad
  go_in
  go_wp2_with (first
   | (go_at_call 51; refine (zAN _ _ zA4 s hmax _ k n rfl hk2 HR.out _).mono ?_; rintro e w' ⟨rfl,rfl⟩)
   | (go_at_call 55; refine (HL.out _).mono ?_; rintro e w' ⟨rfl,rfl⟩))
  exact bodyPost_ret (v:=.tuple #[.agg #[.int .i64 0,.string ⟨#[]⟩,.int .i64 0,.int .i64 0],.int .i64 0,.bool false]) (by simp [results,Tryz.results58,go_sem]) rfl ⟨zBl,(Below.refl _ _).alloc (Nat.le_refl _) _⟩
def AtoiSays (x:ByteArray)(w:World)(V:Nat):Prop:=
 if V ≤ 9223372036854775807 then Calls Tryz.prog 89 #[.string x] w fun e w' => e = .returned (.tuple #[.int .i64 V,.nilIface]) ∧ Below w.heap.size w w'
 else Calls Tryz.prog 89 #[.string x] w fun e w' => ∃ (v:Int) (N:Nat),e = .returned (.tuple #[.int .i64 v,.iface 145 (.pointer (some ⟨N,0,none⟩))]) ∧ Below w.heap.size w w'
def numV (m V:Nat):Option (Nat × List UInt8 × Nat × Nat):=if V ≤ 9223372036854775807 then some (2,[],V,m) else none
theorem zCQ (s:ByteArray)(hs:s.size ≤ 6000)(k m n:Nat)(hk:k < s.size)(hkn:k < n)(hmn:k + m = n)(hns:n ≤ s.size)(hrun:k + Lx.runN Lx.digB (s.data.toList.drop k) = n)
 (ht:NumTests s k n hk false false) (V:Nat) (hA:∀ w,Env w → AtoiSays (s.extract k n) w V) (w:World) (he:Env w) :
 Calls Tryz.prog 58 #[.string s,.int .i64 k] w fun e w' => e = .returned (scanV k (numV m V)) ∧ Below w.heap.size w w':=by
 have hmax:=zBd hs
 have hk2:k ≤ s.size:=by omega
 have hkn2:k ≤ n:=by omega
 have HR:=vH hrun
 have HM:=vH hmn
 have he2:=he.below ((Below.refl _ _).alloc (Nat.le_refl _) (.cells #[.int .i64 0,.string ⟨#[]⟩,.int .i64 0,.int .i64 0] 52))
 have hA2:=hA _ he2
 clear hrun hmn hA he he2
 obtain ⟨hp,hr⟩:=ht
 by_cases hV:V ≤ 9223372036854775807
 ·have hn:numV m V = some (2,[],V,m):=if_pos hV
  rw [hn]
  rw [AtoiSays,if_pos hV] at hA2
  have HA:=vH hA2
  clear hA2 hn
  rcases hp with ⟨_,_,h⟩ | ⟨p1,p2,_⟩ | ⟨p1,_⟩
  ·cases h
  all_goals
   rcases hr with ⟨r1,r2⟩ | ⟨r1,_⟩
   ·have HL:=vH r2
    clear r2
    try have p3:(n:Int) ≤ (k:Int) + 1:=by omega
    go_in
    go_wp2_with (first
     | (go_at_call 51; refine (zAN _ _ zA4 s hmax _ k n rfl hk2 HR.out _).mono ?_; rintro e w' ⟨rfl,rfl⟩)
     | (go_at_call 55; refine (HL.out _).mono ?_; rintro e w' ⟨rfl,rfl⟩)
     | (go_at_call 89; refine HA.out.mono ?_; rintro e w1 ⟨rfl,hb1⟩; obtain ⟨⟨c0,c1,c2,c3⟩,f0,f1,f2,f3⟩:=box4 (zA5 hb1)))
    refine bodyPost_ret (v:=.tuple #[.agg #[.int .i64 2,.string ⟨#[]⟩,.int .i64 V,.int .i64 k],.int .i64 n,.bool true]) (by simp [results,Tryz.results58,go_sem,c0,c1,c2,c3]) rfl ⟨?_,?_⟩
    ·exact zBU (by have:=HM.out; omega)
    ·exact ((((zAj hb1).setCell (Nat.le_refl _) _).setCell (Nat.le_refl _) _).setCell (Nat.le_refl _) _).setCell (Nat.le_refl _) _
   ·try have p3:(n:Int) ≤ (k:Int) + 1:=by omega
    have r3:(s.size:Int) ≤ (n:Int):=by omega
    go_in
    go_wp2_with (first
     | (go_at_call 51; refine (zAN _ _ zA4 s hmax _ k n rfl hk2 HR.out _).mono ?_; rintro e w' ⟨rfl,rfl⟩)
     | (go_at_call 89; refine HA.out.mono ?_; rintro e w1 ⟨rfl,hb1⟩; obtain ⟨⟨c0,c1,c2,c3⟩,f0,f1,f2,f3⟩:=box4 (zA5 hb1)))
    refine bodyPost_ret (v:=.tuple #[.agg #[.int .i64 2,.string ⟨#[]⟩,.int .i64 V,.int .i64 k],.int .i64 n,.bool true]) (by simp [results,Tryz.results58,go_sem,c0,c1,c2,c3]) rfl ⟨?_,?_⟩
    ·exact zBU (by have:=HM.out; omega)
    ·exact ((((zAj hb1).setCell (Nat.le_refl _) _).setCell (Nat.le_refl _) _).setCell (Nat.le_refl _) _).setCell (Nat.le_refl _) _
 ·have hn:numV m V = none:=if_neg hV
  rw [hn]
  rw [AtoiSays,if_neg hV] at hA2
  have HA:=vH hA2
  clear hA2 hn
  rcases hp with ⟨_,_,h⟩ | ⟨p1,p2,_⟩ | ⟨p1,_⟩
  ·cases h
  all_goals
   rcases hr with ⟨r1,r2⟩ | ⟨r1,_⟩
   ·have HL:=vH r2
    clear r2
    try have p3:(n:Int) ≤ (k:Int) + 1:=by omega
    go_in
    go_wp2_with (first
     | (go_at_call 51; refine (zAN _ _ zA4 s hmax _ k n rfl hk2 HR.out _).mono ?_; rintro e w' ⟨rfl,rfl⟩)
     | (go_at_call 55; refine (HL.out _).mono ?_; rintro e w' ⟨rfl,rfl⟩)
     | (go_at_call 89; refine HA.out.mono ?_; rintro e w1 ⟨v1,N1,rfl,hb1⟩; obtain ⟨⟨c0,c1,c2,c3⟩,f0,f1,f2,f3⟩:=box4 (zA5 hb1)))
    refine bodyPost_ret (v:=.tuple #[.agg #[.int .i64 0,.string ⟨#[]⟩,.int .i64 0,.int .i64 0],.int .i64 0,.bool false]) (by simp [results,Tryz.results58,go_sem,c0,c1,c2,c3]) rfl ⟨zBl,?_⟩
    exact ((((zAj hb1).setCell (Nat.le_refl _) _).setCell (Nat.le_refl _) _).setCell (Nat.le_refl _) _).setCell (Nat.le_refl _) _
   ·try have p3:(n:Int) ≤ (k:Int) + 1:=by omega
    have r3:(s.size:Int) ≤ (n:Int):=by omega
    go_in
    go_wp2_with (first
     | (go_at_call 51; refine (zAN _ _ zA4 s hmax _ k n rfl hk2 HR.out _).mono ?_; rintro e w' ⟨rfl,rfl⟩)
     | (go_at_call 89; refine HA.out.mono ?_; rintro e w1 ⟨v1,N1,rfl,hb1⟩; obtain ⟨⟨c0,c1,c2,c3⟩,f0,f1,f2,f3⟩:=box4 (zA5 hb1)))
    refine bodyPost_ret (v:=.tuple #[.agg #[.int .i64 0,.string ⟨#[]⟩,.int .i64 0,.int .i64 0],.int .i64 0,.bool false]) (by simp [results,Tryz.results58,go_sem,c0,c1,c2,c3]) rfl ⟨zBl,?_⟩
    exact ((((zAj hb1).setCell (Nat.le_refl _) _).setCell (Nat.le_refl _) _).setCell (Nat.le_refl _) _).setCell (Nat.le_refl _) _
end Go.Proofs.YtipmjjfknhblnaaGreatDoor.Ln
namespace Go.Proofs.YtipmjjfknhblnaaGreatDoor
open Go.ChangeShapes Go.WideShapes Go.ChangeAt Go.WideMaps Go.WideElems Go.RowKit
open Pe
def laidAll : List (String × DataW Unit) := [("math/bits.deBruijn32tab", Rows.laid_math_bits_deBruijn32tab), ("math/bits.deBruijn64tab", Rows.laid_math_bits_deBruijn64tab), ("internal/strconv.uint64pow10", Rows.laid_internal_strconv_uint64pow10), ("strconv.ErrRange", Rows.laid_strconv_ErrRange), ("strconv.ErrSyntax", Rows.laid_strconv_ErrSyntax), ("runrig/expr.operators", Rows.laid_runrig_expr_operators), ("runrig/lex.signs", Rows.laid_runrig_lex_signs)]
def opData {H:Type}(o:List UInt8 × Int × Int):DataW H:=.agg [.lit (.string o.1),.lit (.int .i64 o.2.1),.lit (.int .i64 o.2.2)]
theorem zM1:(Rows.laid_runrig_expr_operators:DataW Unit) = .agg (opList.map opData):=by kernel_rfl
theorem cS:Tryz.prog.cellsOf 9 = 1:=by kernel_rfl
theorem cI:Tryz.prog.cellsOf 3 = 1:=by kernel_rfl
theorem cO:Tryz.prog.cellsOf 213 = 3:=by kernel_rfl
theorem cOs:Tryz.prog.cellsOf 214 = 33:=by kernel_rfl
theorem zKg {H:Type}{enc:TypeId × Value → H}{w:World}{base:Nat}{sp:Nat → Bool}{held:Bool}{fuel:Nat}{cs:List Value}{o:List UInt8 × Int × Int}{p:List MemPlace}
 (h:DataW.trod enc Tryz.prog w base sp held fuel 213 cs = some (opData o,p)):cs = [.string (cbs o.1),.int .i64 o.2.1,.int .i64 o.2.2]:=by
 obtain ⟨xs,n,-,hx,hlen,hxl,hf⟩:=DataW.trod_struct Tryz.underlying213 h
 have hx1:xs.map (·.1) = [(DataW.lit (.string o.1):DataW H),.lit (.int .i64 o.2.1),.lit (.int .i64 o.2.2)]:=by
  have:=congrArg Prod.fst hx
  simp only [opData,DataW.agg.injEq] at this
  exact this.symm
 have h0:=hf 0 _ rfl
 have h1:=hf 1 _ rfl
 have h2:=hf 2 _ rfl
 change DataW.trod enc Tryz.prog w base sp held n 9 ((cs.drop 0).take (Tryz.prog.cellsOf 9)) = xs[0]? at h0
 change DataW.trod enc Tryz.prog w base sp held n 3 ((cs.drop 1).take (Tryz.prog.cellsOf 3)) = xs[1]? at h1
 change DataW.trod enc Tryz.prog w base sp held n 3 ((cs.drop 2).take (Tryz.prog.cellsOf 3)) = xs[2]? at h2
 rw [cS] at h0
 rw [cI] at h1 h2
 match xs,hx1 with
 | [a,b,c],hx1 =>
   simp only [List.map_cons,List.map_nil,List.cons.injEq,and_true] at hx1
   obtain ⟨ha,hb,hc⟩:=hx1
   simp only [List.getElem?_cons_zero,List.getElem?_cons_succ] at h0 h1 h2
   obtain ⟨s,e0,q0,-⟩:=DataW.trod_string Tryz.underlying9 h0
   obtain ⟨m1,e1,q1,-⟩:=DataW.trod_int Tryz.underlying3 h1
   obtain ⟨m2,e2,q2,-⟩:=DataW.trod_int Tryz.underlying3 h2
   rw [q0] at ha
   rw [q1] at hb
   rw [q2] at hc
   simp only [DataW.lit.injEq,Lit.string.injEq,Lit.int.injEq,true_and] at ha hb hc
   rw [cO] at hlen
   obtain ⟨x,y,z,rfl⟩:∃ x y z,cs = [x,y,z]:=by
    rcases cs with _ | ⟨x,_ | ⟨y,_ | ⟨z,_ | ⟨v,r⟩⟩⟩⟩
    ·simp at hlen
    ·simp at hlen
    ·simp at hlen
    ·exact ⟨x,y,z,rfl⟩
    ·simp at hlen
   simp at e0 e1 e2
   rw [e0,e1,e2,← hb,← hc,← ha]
   rfl
theorem zLf {α β:Type}(f : β → List α):∀ (l:List β)(cs:List α),cs.length = l.length * 3 → (∀ (i:Nat) o,l[i]? = some o → (cs.drop (i * 3)).take 3 = f o) → cs = l.flatMap f
 | [],cs,hl,_ => by simpa using hl
 | o :: l,cs,hl,hk => by
   have h0:=hk 0 o rfl
   rw [Nat.zero_mul,List.drop_zero] at h0
   have ih:=zLf f l (cs.drop 3) (by simp at hl ⊢; omega) fun i o' ho' => by
     have:=hk (i + 1) o' (by simpa using ho')
     rw [List.drop_drop,show 3 + i * 3 = (i + 1) * 3 by omega]
     exact this
   rw [List.flatMap_cons,← h0,← ih,List.take_append_drop]
theorem zE6 {H:Type}{enc:TypeId × Value → H}{w:World}{base:Nat}{sp:Nat → Bool}{held:Bool}{fuel:Nat}{cs:List Value}{p:List MemPlace}
 (h:DataW.trod enc Tryz.prog w base sp held fuel 214 cs = some (.agg (opList.map opData),p)):cs.toArray = opsV:=by
 cases fuel with
 | zero => simp [DataW.trod] at h
 | succ fuel =>
   simp only [DataW.trod,Tryz.underlying214,cO,cOs] at h
   split at h
   ·rename_i hl
    obtain ⟨xs,hm,hx⟩:=Option.map_eq_some_iff.1 h
    have hxs:xs.map (·.1) = opList.map (opData (H:=H)):=by
        have:=congrArg Prod.fst hx
        simpa using this
    have hxl:xs.length = 11:=by simpa using Lib.mapM_length hm
    have key:∀ i o,opList[i]? = some o → ((cs.drop (i * 3)).take 3) = [.string (cbs o.1),.int .i64 o.2.1,.int .i64 o.2.2]:=by
        intro i o ho
        have hi:i < 11:=(List.getElem?_eq_some_iff.1 ho).1
        obtain ⟨b,hb,hf⟩:=Lib.mapM_at hm i i (by simp [hi])
        have h2:(xs.map (·.1))[i]? = some (opData o:DataW H):=by rw [hxs,List.getElem?_map,ho]; rfl
        rw [List.getElem?_map,hb] at h2
        simp only [Option.map_some,Option.some.injEq] at h2
        obtain ⟨b1,b2⟩:=b
        dsimp only at h2
        subst h2
        exact zKg hf
    have hcl:cs.length = 33:=hl
    have hall:cs = opList.flatMap fun o => [Value.string (cbs o.1),.int .i64 o.2.1,.int .i64 o.2.2]:=zLf _ opList cs hl key
    rw [hall]
    rfl
   ·cases h
theorem own:ownKnob Tryz.prog.godebug = none:=by kernel_rfl
theorem zM0 {W : World} {rest : List (String × DataW Unit)} (h : laidMet Tryz.prog (("runrig/expr.operators", Rows.laid_runrig_expr_operators) :: rest) W) : OpsIn W := by
 rw [zM1] at h
 obtain ⟨ps,⟨g',t',cs,fuel,p,q,hg',ht',hvar,hd,_,_⟩,_⟩:=h
 have hg : Tryz.prog.globalNamed "runrig/expr.operators" = some 6 := by kernel_rfl
 have hty:(Tryz.prog.globals[6]?).map (·.type) = some 214:=by kernel_rfl
 obtain rfl:=Option.some.inj (hg.symm.trans hg')
 obtain rfl:=Option.some.inj (hty.symm.trans ht')
 have hc:=zE6 hd
 simp only [World.var?,hg,Option.bind_some] at hvar
 split at hvar
 ·rename_i cs' t fr he
  injection hvar with hvar
  refine ⟨t,fr,?_⟩
  rw [he,← hc,hvar]
 ·cases hvar
structure EnvG (w:World):Prop where
 lex:Ln.Env w
 ops:OpsIn w
theorem EnvG.below {w w':World}(h:EnvG w)(hb:Below w.heap.size w w'):EnvG w':=
 ⟨h.lex.below hb,by obtain ⟨t,fr,ho⟩:=h.ops; exact ⟨t,fr,(hb.block _ (zA ho)).trans ho⟩⟩
theorem env_of {W:World}(h:laidMetH Tryz.prog laidAll W):EnvG W:=by
 rw [MakeChecks.laidMetH_plain _ _ _ (by kernel_rfl)] at h
 have h3:=h.tail.tail.tail
 have h4:=h3.tail
 have h5:=h4.tail
 have h6:=h5.tail
 rw [show (("runrig/lex.signs", Rows.laid_runrig_lex_signs) : String × DataW Unit) = ("runrig/lex.signs", Ln.textData Ln.Lx.signs) by rw [Ln.signs_is]] at h6
 have ht := Ln.textIs_of_head (by kernel_rfl : Tryz.prog.globalNamed "runrig/lex.signs" = some 0) (by kernel_rfl : (Tryz.prog.globals[0]?).map (·.type) = some 118) Tryz.underlying118 Tryz.underlying9 (by kernel_rfl) (by kernel_rfl) h6
 obtain ⟨a1,s1,hv1,-,-,-⟩:=laid_sentinel h3 Ln.gRan Ln.gRanT Tryz.underlying115 Ln.rowE Tryz.underlying169 Tryz.underlying171 rfl rfl Tryz.underlying9 (by kernel_rfl) (by kernel_rfl)
 obtain ⟨a0,s0,hv0,-,-,-⟩:=laid_sentinel h4 Ln.gSyn Ln.gSynT Tryz.underlying115 Ln.rowE Tryz.underlying169 Tryz.underlying171 rfl rfl Tryz.underlying9 (by kernel_rfl) (by kernel_rfl)
 exact ⟨⟨⟨a0,by simpa using World.var?_cell Ln.gSyn hv0 0⟩,⟨a1,by simpa using World.var?_cell Ln.gRan hv1 0⟩,ht⟩,zM0 h5⟩
end Go.Proofs.YtipmjjfknhblnaaGreatDoor
