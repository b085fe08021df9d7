/-
  The contract of sign (the document's answer).
-/
import Derived.Test.YteadgahhchlgeaaDoorK02
import Derived.Test.YteadgahhchlgeaaDoorK16
import Derived.Deep.QuietTactic
import Derived.BigQuiet
import Derived.IntWalk
set_option maxRecDepth 8000
set_option maxHeartbeats 8000000
namespace Go.Proofs.YteadgahhchlgeaaDoor.Ln
open Go.RowKit
def twos:List (List UInt8):=[[60,61],[61,61],[33,61],[38,38],[124,124]]
def ones:List UInt8:=[123,125,40,41,91,93,59,58,44,46,61,43,45,42,47,37,60,33]
theorem zDh:Lx.signs = twos ++ ones.map fun c => [c]:=rfl
theorem zI1:∀ g ∈ twos,g.length = 2:=by decide
def signText (r:List UInt8):List UInt8:=(Lx.signAt r).getD []
def HasTwos (B:Nat)(w:World):Prop:=∀ j g,twos[j]? = some g → w.cell? ⟨B,j,none⟩ = some (.string (bs g))
theorem zGQ (w:World):HasTwos w.heap.size (w.alloc (.cells #[.string ⟨#[60,61]⟩,.string ⟨#[61,61]⟩,.string ⟨#[33,61]⟩,.string ⟨#[38,38]⟩,.string ⟨#[124,124]⟩] 9)):=by
 intro j g hg
 rw [cell_of_row _ _ j _ _ _ (heap_alloc_new w _)]
 match j,hg with
 | 0,hg => injection hg with hg; rw [← hg]; rfl
 | 1,hg => injection hg with hg; rw [← hg]; rfl
 | 2,hg => injection hg with hg; rw [← hg]; rfl
 | 3,hg => injection hg with hg; rw [← hg]; rfl
 | 4,hg => injection hg with hg; rw [← hg]; rfl
theorem zNr (s:ByteArray)(k:Nat)(h:k + 2 ≤ s.size)(g:List UInt8)(hg:g.length = 2):((s.extract k (k + 2)).toList == (bs g).toList) = g.isPrefixOf (s.data.toList.drop k):=by
 rw [Lib.toList_data,Lib.toList_data,zG5,Lib.extract_data,zAy s k (by omega),zAy s (k + 1) (by omega)]
 match g,hg with
 | [a,b],_ =>
   rw [Bool.eq_iff_iff]
   simp [List.isPrefixOf]
   exact ⟨fun ⟨a,b⟩ => ⟨a.symm,b.symm⟩,fun ⟨a,b⟩ => ⟨a.symm,b.symm⟩⟩
theorem zLF {p:List UInt8 → Bool}{l:List (List UInt8)}{g:List UInt8}{j:Nat}(hg:l[j]? = some g)(hn:∀ x ∈ l.take j,p x = false)(hp:p g = false):∀ x ∈ l.take (j + 1),p x = false:=by
 intro x hx
 rw [List.take_add_one,hg] at hx
 simp only [Option.toList,List.mem_append,List.mem_singleton] at hx
 rcases hx with hx | rfl
 ·exact hn x hx
 ·exact hp
def NoTwo (s:ByteArray)(k:Nat):Prop:=∀ x ∈ twos,x.isPrefixOf (s.data.toList.drop k) = false
theorem zGI (s:ByteArray)(k:Nat)(h:¬ k + 2 ≤ s.size):NoTwo s k:=by
 intro x hx
 have h2:=zI1 x hx
 cases hp:x.isPrefixOf (s.data.toList.drop k)
 ·rfl
 ·have:=(List.isPrefixOf_iff_prefix.1 hp).length_le
  rw [List.length_drop,zBm] at this
  omega
theorem zAL {B:Nat}{w wr:World}(h:Below B w wr)(n:Nat):Below B w (wr.drewN n):=⟨h.os,h.tape,h.output,h.size,h.block⟩
theorem zNq {j:Nat}{g:List UInt8}(h:twos[j]? = some g):Lx.signs[j]? = some g:=by
 rw [zDh,List.getElem?_append_left (List.getElem?_eq_some_iff.1 h).1]; exact h
theorem zLe {r g:List UInt8}{j:Nat}(hg:twos[j]? = some g)(hn:∀ x ∈ twos.take j,x.isPrefixOf r = false)(hp:g.isPrefixOf r = true):g = signText r:=by
 have hj:=(List.getElem?_eq_some_iff.1 hg).1
 have:Lx.signAt r = some g:=zC4 (zNq hg) (fun x hx => hn x (by rw [zDh,List.take_append_of_le_length (by omega)] at hx; exact hx)) hp
 rw [signText,this]; rfl
theorem zFT:({ data:=#[123,125,40,41,91,93,59,58,44,46,61,43,45,42,47,37,60,33] }:ByteArray).size = 18:=by decide
theorem zJ7 {q:Nat}{c:UInt8}(h:ones[q]? = some c)(hq:q < ({ data:=#[123,125,40,41,91,93,59,58,44,46,61,43,45,42,47,37,60,33] }:ByteArray).size):({ data:=#[123,125,40,41,91,93,59,58,44,46,61,43,45,42,47,37,60,33] }:ByteArray)[q]'hq = c:=by
 have h2:ones[q]? = some (({ data:=#[123,125,40,41,91,93,59,58,44,46,61,43,45,42,47,37,60,33] }:ByteArray)[q]'hq):=List.getElem?_eq_getElem (l:=ones) hq
 rw [h2] at h
 exact Option.some.inj h
theorem zHq {q:Nat}{c:UInt8}(h:ones[q]? = some c):({ data:=#[123,125,40,41,91,93,59,58,44,46,61,43,45,42,47,37,60,33] }:ByteArray).extract q (q + 1) = bs [c]:=by
 rw [← zRb (({ data:=#[123,125,40,41,91,93,59,58,44,46,61,43,45,42,47,37,60,33] }:ByteArray).extract q (q + 1)),zCI]
 congr 1
 have hq:=(List.getElem?_eq_some_iff.1 h).1
 have h3:({ data:=#[123,125,40,41,91,93,59,58,44,46,61,43,45,42,47,37,60,33] }:ByteArray).data.toList = ones:=rfl
 rw [h3,List.drop_eq_getElem_cons hq]
 have:=(List.getElem?_eq_some_iff.1 h).2
 rw [this]; rfl
theorem zJ8 {s:ByteArray}{k:Nat}(hk:k < s.size)(c:UInt8) : [c].isPrefixOf (s.data.toList.drop k) = (c == s[k]):=by
 rw [zAy s k hk]
 simp [List.isPrefixOf]
theorem zER:twos.length = 5:=rfl
theorem zEv {s:ByteArray}{k q:Nat}(hk:k < s.size)(h:NoTwo s k)(hn:∀ c ∈ ones.take q,c ≠ s[k]):∀ x ∈ Lx.signs.take (5 + q),x.isPrefixOf (s.data.toList.drop k) = false:=by
 intro x hx
 rw [zDh,← zER,List.take_length_add_append,List.mem_append] at hx
 rcases hx with hx | hx
 ·exact h x hx
 ·rw [← List.map_take,List.mem_map] at hx
  obtain ⟨c,hc,rfl⟩:=hx
  rw [zJ8 hk]
  exact beq_eq_false_iff_ne.2 (hn c hc)
theorem zG9 {s:ByteArray}{k q:Nat}(hk:k < s.size)(h:NoTwo s k)(hn:∀ c ∈ ones.take q,c ≠ s[k]){c:UInt8}(hc:ones[q]? = some c)(he:c = s[k]) : [c] = signText (s.data.toList.drop k):=by
 have hs:Lx.signs[5 + q]? = some [c]:=by
  rw [zDh,List.getElem?_append_right (by rw [zER]; omega),zER,show 5 + q - 5 = q from by omega,List.getElem?_map,hc]; rfl
 have:=zC4 hs (zEv hk h hn) (by rw [zJ8 hk]; exact beq_iff_eq.2 he)
 rw [signText,this]; rfl
theorem zJd {s:ByteArray}{k:Nat}(hk:k < s.size)(h:NoTwo s k)(hn:∀ c ∈ ones.take 18,c ≠ s[k]):([]:List UInt8) = signText (s.data.toList.drop k):=by
 have:=zEv hk h hn
 rw [signText,zGj (fun g hg => this g (by rw [List.take_of_length_le (by rw [zJc]; omega)]; exact hg))]; rfl
theorem zFS {g c:UInt8}{q:Nat}(hg:ones[q]? = some g)(hn:∀ x ∈ ones.take q,x ≠ c)(hp:g ≠ c):∀ x ∈ ones.take (q + 1),x ≠ c:=by
 intro x hx
 rw [List.take_add_one,hg] at hx
 simp only [Option.toList,List.mem_append,List.mem_singleton] at hx
 rcases hx with hx | rfl
 ·exact hn x hx
 ·exact hp
theorem zGs (s:ByteArray)(hs:s.size ≤ 6000)(a:Int)(k:Nat)(ha:a = k)(hk:k < s.size)(w:World) :
 Calls Tryd.prog 53 #[.string s,.int .i64 a] w fun e w' => e = .returned (.string (bs (signText (s.data.toList.drop k)))) ∧ Below w.heap.size w w':=by
 subst ha
 have hT:=zGQ w
 have hb0:Below w.heap.size w (w.alloc (.cells #[.string ⟨#[60,61]⟩,.string ⟨#[61,61]⟩,.string ⟨#[33,61]⟩,.string ⟨#[38,38]⟩,.string ⟨#[124,124]⟩] 9)):=(Below.refl _ _).alloc (Nat.le_refl _) _
 have HT:=vH hT
 have HB:=vH hb0
 clear hT hb0
 by_cases h2:k + 2 ≤ s.size
 ·have h3:(k:Int) + 2 ≤ (s.size:Int):=by omega
  have h4:(2:Int) ≤ (s.size:Int) - (k:Int):=by omega
  go_in
  go_wp2
  go_loopw [6] (fun i wr => ∃ j:Nat,j ≤ 5 ∧ i = .int .i64 j ∧ (∀ x ∈ twos.take j,x.isPrefixOf (s.data.toList.drop k) = false) ∧ HasTwos w.heap.size wr ∧ Below w.heap.size w wr) (fun i _ => 5 - (intOf i).toNat)
  case atStart => exact ⟨0,by omega,rfl,by simp,HT.out,HB.out⟩
  case round =>
   obtain ⟨j,hj,rfl,hn,hT,hb⟩:=hrel
   have HN:=vH hn
   have HT2:=vH hT
   clear hn hT
   by_cases hlt:j < 5
   ·obtain ⟨g,hg⟩:∃ g,twos[j]? = some g:=⟨_,List.getElem?_eq_getElem (by exact hlt)⟩
    have hc:=HT2.out j g hg
    have hx:=zNr s k h2 g (zI1 g (List.mem_of_getElem? hg))
    have hj5:(j:Int) < 5:=by omega
    have w1:IntKind.i64.wrap ((s.size:Int) - (k:Int)) = (s.size:Int) - (k:Int):=IntWalk.i64_in _ (by omega)
    have w2:IntKind.i64.wrap ((k:Int) + 2) = (k:Int) + 2:=IntWalk.i64_in _ (by omega)
    have n2:((k:Int) + 2).toNat = k + 2:=by omega
    have hd:decide ((2:Int) ≤ (s.size:Int) - (k:Int)) = true:=by simpa using h4
    cases hp:g.isPrefixOf (s.data.toList.drop k)
    ·rw [hp] at hx
     have HP:=vH hp
     have HG:=vH hg
     clear hp hg
     go_wp2
     go_quiet (fail)
     clear w1 w2 n2 hd hx
     go_wp2
     go_roundw
     case rel => exact ⟨j + 1,by omega,by go_num,zLF HG.out HN.out HP.out,HT2.out,zAL hb _⟩
     case measure => simp [intOf]; omega
    ·rw [hp] at hx
     have HP:=vH hp
     have HG:=vH hg
     clear hp hg
     go_wp2
     go_quiet (fail)
     clear w1 w2 n2 hd hx
     go_wp2
     go_ret
     exact ⟨congrArg (fun l => Ending.returned (.string (bs l))) (zLe HG.out HN.out HP.out),zAL hb _⟩
   ·have HNT:Hid (NoTwo s k):=fun x hx => HN.out x (by rw [List.take_of_length_le (by show 5 ≤ j; omega)]; exact hx)
    clear HN
    go_wp2
    go_loopw [8] (fun i wx => ∃ j:Nat,j ≤ 18 ∧ i = .int .i64 j ∧ (∀ c ∈ ones.take j,c ≠ s[k]) ∧ Below w.heap.size w wx) (fun i _ => 18 - (intOf i).toNat)
    case atStart => exact ⟨0,by omega,rfl,by simp,hb⟩
    case round =>
     obtain ⟨q,hq,rfl,hn,hbx⟩:=hrel
     have HN:=vH hn
     clear hn
     by_cases hlq:q < 18
     ·obtain ⟨c,hc⟩:∃ c,ones[q]? = some c:=⟨_,List.getElem?_eq_getElem (by exact hlq)⟩
      have hq18:(q:Int) < 18:=by omega
      have hk0:(k:Int) < (s.size:Int):=by omega
      have hqs:q < ({ data:=#[123,125,40,41,91,93,59,58,44,46,61,43,45,42,47,37,60,33] }:ByteArray).size:=by rw [zFT]; exact hlq
      have hcc:=zJ7 hc hqs
      have h5:(q:Int) + 1 ≤ 18:=by omega
      by_cases he:c = s[k]
      ·have hx:((s[k].toNat:Int) == ((({ data:=#[123,125,40,41,91,93,59,58,44,46,61,43,45,42,47,37,60,33] }:ByteArray)[q]'hqs).toNat:Int)) = true:=by rw [hcc,he]; exact beq_iff_eq.2 rfl
       have HE:=vH he
       have HC:=vH hc
       clear hcc he hc
       go_wp2
       go_quiet (fail)
       go_wp2
       go_ret
       refine ⟨?_,zAL hbx _⟩
       show Ending.returned (.string (({ data:=#[123,125,40,41,91,93,59,58,44,46,61,43,45,42,47,37,60,33] }:ByteArray).extract q (q + 1))) = _
       rw [zHq HC.out]
       exact congrArg (fun l => Ending.returned (.string (bs l))) (zG9 hk HNT.out HN.out HC.out HE.out)
      ·have hx:((s[k].toNat:Int) == ((({ data:=#[123,125,40,41,91,93,59,58,44,46,61,43,45,42,47,37,60,33] }:ByteArray)[q]'hqs).toNat:Int)) = false:=by
        rw [hcc]
        exact beq_eq_false_iff_ne.2 (fun h => he (UInt8.toNat_inj.1 (by omega)))
       have HE:=vH he
       have HC:=vH hc
       clear hcc he hc
       go_wp2
       go_quiet (fail)
       go_wp2
       go_roundw
       case rel => exact ⟨q + 1,by omega,by go_num,zFS HC.out HN.out HE.out,zAL hbx _⟩
       case measure => simp [intOf]; omega
     ·obtain rfl:q = 18:=by omega
      go_wp2
      go_ret
      exact ⟨congrArg (fun l => Ending.returned (.string (bs l))) (zJd hk HNT.out HN.out),hbx⟩
 ·have h4:(s.size:Int) - (k:Int) < 2:=by omega
  have hnt:=zGI s k h2
  have HNT0:=vH hnt
  clear hnt h2
  go_in
  go_wp2
  go_loopw [6] (fun i wr => ∃ j:Nat,j ≤ 5 ∧ i = .int .i64 j ∧ (∀ x ∈ twos.take j,x.isPrefixOf (s.data.toList.drop k) = false) ∧ HasTwos w.heap.size wr ∧ Below w.heap.size w wr) (fun i _ => 5 - (intOf i).toNat)
  case atStart => exact ⟨0,by omega,rfl,by simp,HT.out,HB.out⟩
  case round =>
   obtain ⟨j,hj,rfl,hn,hT,hb⟩:=hrel
   have HN:=vH hn
   have HT2:=vH hT
   clear hn hT
   by_cases hlt:j < 5
   ·have hj5:(j:Int) < 5:=by omega
    have w1:IntKind.i64.wrap ((s.size:Int) - (k:Int)) = (s.size:Int) - (k:Int):=IntWalk.i64_in _ (by omega)
    have hd:decide ((2:Int) ≤ (s.size:Int) - (k:Int)) = false:=by simpa using h4
    go_wp2
    go_quiet (fail)
    clear w1 hd
    go_wp2
    go_roundw
    case rel => exact ⟨j + 1,by omega,by go_num,fun x hx => HNT0.out x (List.mem_of_mem_take hx),HT2.out,zAL hb _⟩
    case measure => simp [intOf]; omega
   ·have HNT:=HNT0
    clear HN
    go_wp2
    go_loopw [8] (fun i wx => ∃ j:Nat,j ≤ 18 ∧ i = .int .i64 j ∧ (∀ c ∈ ones.take j,c ≠ s[k]) ∧ Below w.heap.size w wx) (fun i _ => 18 - (intOf i).toNat)
    case atStart => exact ⟨0,by omega,rfl,by simp,hb⟩
    case round =>
     obtain ⟨q,hq,rfl,hn,hbx⟩:=hrel
     have HN:=vH hn
     clear hn
     by_cases hlq:q < 18
     ·obtain ⟨c,hc⟩:∃ c,ones[q]? = some c:=⟨_,List.getElem?_eq_getElem (by exact hlq)⟩
      have hq18:(q:Int) < 18:=by omega
      have hk0:(k:Int) < (s.size:Int):=by omega
      have hqs:q < ({ data:=#[123,125,40,41,91,93,59,58,44,46,61,43,45,42,47,37,60,33] }:ByteArray).size:=by rw [zFT]; exact hlq
      have hcc:=zJ7 hc hqs
      have h5:(q:Int) + 1 ≤ 18:=by omega
      by_cases he:c = s[k]
      ·have hx:((s[k].toNat:Int) == ((({ data:=#[123,125,40,41,91,93,59,58,44,46,61,43,45,42,47,37,60,33] }:ByteArray)[q]'hqs).toNat:Int)) = true:=by rw [hcc,he]; exact beq_iff_eq.2 rfl
       have HE:=vH he
       have HC:=vH hc
       clear hcc he hc
       go_wp2
       go_quiet (fail)
       go_wp2
       go_ret
       refine ⟨?_,zAL hbx _⟩
       show Ending.returned (.string (({ data:=#[123,125,40,41,91,93,59,58,44,46,61,43,45,42,47,37,60,33] }:ByteArray).extract q (q + 1))) = _
       rw [zHq HC.out]
       exact congrArg (fun l => Ending.returned (.string (bs l))) (zG9 hk HNT.out HN.out HC.out HE.out)
      ·have hx:((s[k].toNat:Int) == ((({ data:=#[123,125,40,41,91,93,59,58,44,46,61,43,45,42,47,37,60,33] }:ByteArray)[q]'hqs).toNat:Int)) = false:=by
        rw [hcc]
        exact beq_eq_false_iff_ne.2 (fun h => he (UInt8.toNat_inj.1 (by omega)))
       have HE:=vH he
       have HC:=vH hc
       clear hcc he hc
       go_wp2
       go_quiet (fail)
       go_wp2
       go_roundw
       case rel => exact ⟨q + 1,by omega,by go_num,zFS HC.out HN.out HE.out,zAL hbx _⟩
       case measure => simp [intOf]; omega
     ·obtain rfl:q = 18:=by omega
      go_wp2
      go_ret
      exact ⟨congrArg (fun l => Ending.returned (.string (bs l))) (zJd hk HNT.out HN.out),hbx⟩
def oneV (k:Nat):Option (Nat × List UInt8 × Nat × Nat) → Value
 | none => .tuple #[.agg #[.int .i64 0,.string ⟨#[]⟩,.int .i64 0,.int .i64 0],.int .i64 0]
 | some (kind,text,num,m) => .tuple #[.agg #[.int .i64 kind,.string (bs text),.int .i64 num,.int .i64 k],.int .i64 m]
theorem zKa (k:Nat):oneV k none = .tuple #[.agg #[.int .i64 0,.string ⟨#[]⟩,.int .i64 0,.int .i64 0],.int .i64 0]:=rfl
theorem zJ9 (k kind num m:Nat)(text:List UInt8):oneV k (some (kind,text,num,m)) = .tuple #[.agg #[.int .i64 kind,.string (bs text),.int .i64 num,.int .i64 k],.int .i64 m]:=rfl
theorem zCB {k:Nat}:Ending.returned (.tuple #[.agg #[.int .i64 0,.string ⟨#[]⟩,.int .i64 0,.int .i64 0],.int .i64 0]) = .returned (oneV k none):=rfl
theorem zDu {k kind num m:Nat}{text:List UInt8}{t:ByteArray}{E:Int}(ht:t = bs text)(h:E = m):Ending.returned (.tuple #[.agg #[.int .i64 kind,.string t,.int .i64 num,.int .i64 k],.int .i64 E]) = .returned (oneV k (some (kind,text,num,m))):=by rw [h,ht]; rfl
theorem zNe {w1 w2:World}{B:Nat}{o:Obj}(h:w1.heap[B]? = some o)(hb:Below w1.heap.size w1 w2):w2.heap[B]? = some o:=(hb.block _ (zBS h)).trans h
theorem zD6 (s:ByteArray)(hs:s.size ≤ 6000)(k:Nat)(hk:k < s.size)(hc:Lx.letB (s[k].toNat:Int) = true)(w:World) :
 Calls Tryd.prog 31 #[.string s,.int .i64 k] w fun e w' => e = .returned (oneV k (Lx.oneWord (s.data.toList.drop k))) ∧ Below w.heap.size w w':=by
 have hk2:k ≤ s.size:=by omega
 have hmax:=zFE hs
 have hl:=zAm (s[k].toNat:Int)
 rw [hc] at hl
 have hb:=zDs Lx.alnB s k hk2
 generalize hm:Lx.runN Lx.alnB (s.data.toList.drop k) = m at hb
 have hx:=zQQ s k m (k + m) rfl
 have hls:=zCI s k m
 have hone:Lx.oneWord (s.data.toList.drop k) = if Lx.isWord ((s.data.toList.drop k).take m) then some (3,(s.data.toList.drop k).take m,0,m) else if Lx.isName ((s.data.toList.drop k).take m) then some (1,(s.data.toList.drop k).take m,0,m) else none:=by rw [Lx.oneWord,hm]
 have hw:=zDw (s.extract k (k + m))
 have hnm:=zGt (s.extract k (k + m)) (zKJ k (k + m) hs)
 rw [hls] at hw hnm
 have h3:(k:Int) + (m:Int) ≤ (s.size:Int):=by omega
 have HX:=vH hx
 have HM:=vH hm
 have HL:=vH hl
 cases hcw:Lx.isWord ((s.data.toList.drop k).take m)
 ·rw [hcw] at hw hone
  rw [if_neg (by decide)] at hone
  have HW:=vH hw
  cases hcn:Lx.isName ((s.data.toList.drop k).take m)
  ·rw [hcn] at hnm hone
   rw [if_neg (by decide)] at hone
   have HNM:=vH hnm
   rw [hone]
   clear hone hw hnm hx hls hm hcw hcn hl hc
   go_in
   go_wp2_with (first
      | (go_at_call 47; refine (HL.out _).mono ?_; rintro e w' ⟨rfl,rfl⟩)
      | (go_at_call 48; refine (zCu s hmax _ k m rfl hk2 HM.out _).mono ?_; rintro e w' ⟨rfl,rfl⟩)
      | (go_at_call 49; refine (HW.out _).mono ?_; rintro e w1 ⟨rfl,hb1⟩)
      | (go_at_call 50; refine (HNM.out _).mono ?_; rintro e w2 ⟨rfl,hb2⟩; obtain ⟨⟨c0,c1,c2,c3⟩,f0,f1,f2,f3⟩:=box4 (zNe (zGe hb1) hb2)))
   refine bodyPost_ret (v:=.tuple #[.agg #[.int .i64 0,.string ⟨#[]⟩,.int .i64 0,.int .i64 0],.int .i64 0]) (by simp [results,Tryd.results31,go_sem,c0,c1,c2,c3]) rfl ⟨zCB,?_⟩
   exact ((((zDm (zB7 hb1) hb2).setCell (Nat.le_refl _) _).setCell (Nat.le_refl _) _).setCell (Nat.le_refl _) _).setCell (Nat.le_refl _) _
  ·rw [hcn] at hnm hone
   rw [if_pos rfl] at hone
   have HNM:=vH hnm
   rw [hone]
   clear hone hw hnm hx hls hm hcw hcn hl hc
   go_in
   go_wp2_with (first
      | (go_at_call 47; refine (HL.out _).mono ?_; rintro e w' ⟨rfl,rfl⟩)
      | (go_at_call 48; refine (zCu s hmax _ k m rfl hk2 HM.out _).mono ?_; rintro e w' ⟨rfl,rfl⟩)
      | (go_at_call 49; refine (HW.out _).mono ?_; rintro e w1 ⟨rfl,hb1⟩)
      | (go_at_call 50; refine (HNM.out _).mono ?_; rintro e w2 ⟨rfl,hb2⟩; obtain ⟨⟨c0,c1,c2,c3⟩,f0,f1,f2,f3⟩:=box4 (zNe (zGe hb1) hb2)))
   refine bodyPost_ret (v:=.tuple #[.agg #[.int .i64 1,.string (s.extract k (k + m)),.int .i64 0,.int .i64 k],.int .i64 m]) (by simp [results,Tryd.results31,go_sem,c0,c1,c2,c3]) rfl ⟨zDu HX.out rfl,?_⟩
   exact ((((zDm (zB7 hb1) hb2).setCell (Nat.le_refl _) _).setCell (Nat.le_refl _) _).setCell (Nat.le_refl _) _).setCell (Nat.le_refl _) _
 ·rw [hcw] at hw hone
  rw [if_pos rfl] at hone
  have HW:=vH hw
  rw [hone]
  clear hone hw hnm hx hls hm hcw hl hc
  go_in
  go_wp2_with (first
   | (go_at_call 47; refine (HL.out _).mono ?_; rintro e w' ⟨rfl,rfl⟩)
   | (go_at_call 48; refine (zCu s hmax _ k m rfl hk2 HM.out _).mono ?_; rintro e w' ⟨rfl,rfl⟩)
   | (go_at_call 49; refine (HW.out _).mono ?_; rintro e w1 ⟨rfl,hb1⟩; obtain ⟨⟨c0,c1,c2,c3⟩,f0,f1,f2,f3⟩:=box4 (zGe hb1)))
  refine bodyPost_ret (v:=.tuple #[.agg #[.int .i64 3,.string (s.extract k (k + m)),.int .i64 0,.int .i64 k],.int .i64 m]) (by simp [results,Tryd.results31,go_sem,c0,c1,c2,c3]) rfl ⟨zDu HX.out rfl,?_⟩
  exact ((((zB7 hb1).setCell (Nat.le_refl _) _).setCell (Nat.le_refl _) _).setCell (Nat.le_refl _) _).setCell (Nat.le_refl _) _
theorem zEX {r:List UInt8}(h:Lx.signAt r = none):signText r = []:=by rw [signText,h]; rfl
theorem zEW {r g:List UInt8}(h:Lx.signAt r = some g):signText r = g:=by rw [signText,h]; rfl
theorem zD7 (s:ByteArray)(hs:s.size ≤ 6000)(k:Nat)(hk:k < s.size)(hc:Lx.letB (s[k].toNat:Int) = false)(hd:Lx.digB (s[k].toNat:Int) = false)(w:World) :
 Calls Tryd.prog 31 #[.string s,.int .i64 k] w fun e w' => e = .returned (oneV k (Lx.oneSign (s.data.toList.drop k))) ∧ Below w.heap.size w w':=by
 have hl:=zAm (s[k].toNat:Int)
 have hg:=zA3 (s[k].toNat:Int)
 rw [hc] at hl
 rw [hd] at hg
 have hsg:=zGs s hs k k rfl hk
 have HL:=vH hl
 have HD:=vH hg
 cases hat:Lx.signAt (s.data.toList.drop k)
 ·have hone:Lx.oneSign (s.data.toList.drop k) = none:=by rw [Lx.oneSign,hat]
  rw [zEX hat,show bs [] = ⟨#[]⟩ from rfl] at hsg
  rw [hone]
  have HS:=vH hsg
  clear hone hsg hl hg hc hd hat
  go_in
  go_wp2_with (first
   | (go_at_call 47; refine (HL.out _).mono ?_; rintro e w' ⟨rfl,rfl⟩)
   | (go_at_call 51; refine (HD.out _).mono ?_; rintro e w' ⟨rfl,rfl⟩)
   | (go_at_call 53; refine (HS.out _).mono ?_; rintro e w1 ⟨rfl,hb1⟩; obtain ⟨⟨c0,c1,c2,c3⟩,f0,f1,f2,f3⟩:=box4 (zGe hb1)))
  refine bodyPost_ret (v:=.tuple #[.agg #[.int .i64 0,.string ⟨#[]⟩,.int .i64 0,.int .i64 0],.int .i64 0]) (by simp [results,Tryd.results31,go_sem,c0,c1,c2,c3]) rfl ⟨zCB,?_⟩
  exact ((((zB7 hb1).setCell (Nat.le_refl _) _).setCell (Nat.le_refl _) _).setCell (Nat.le_refl _) _).setCell (Nat.le_refl _) _
 ·rename_i g
  have hone:Lx.oneSign (s.data.toList.drop k) = some (4,g,0,g.length):=by rw [Lx.oneSign,hat]
  have hpos:=Lx.signAt_pos hat
  rw [zEW hat] at hsg
  rw [hone]
  have e1:((bs g).toList == []) = false:=zQk _ hpos
  have e2:(bs g).toList.isEmpty = false:=zLQ _ hpos
  have HS:=vH hsg
  clear hone hsg hl hg hc hd hat
  go_in
  go_wp2_with (first
   | (go_at_call 47; refine (HL.out _).mono ?_; rintro e w' ⟨rfl,rfl⟩)
   | (go_at_call 51; refine (HD.out _).mono ?_; rintro e w' ⟨rfl,rfl⟩)
   | (go_at_call 53; refine (HS.out _).mono ?_; rintro e w1 ⟨rfl,hb1⟩; obtain ⟨⟨c0,c1,c2,c3⟩,f0,f1,f2,f3⟩:=box4 (zGe hb1)))
  refine bodyPost_ret (v:=.tuple #[.agg #[.int .i64 4,.string (bs g),.int .i64 0,.int .i64 k],.int .i64 (bs g).size]) (by simp [results,Tryd.results31,go_sem,c0,c1,c2,c3]) rfl ⟨zDu rfl rfl,?_⟩
  exact ((((zB7 hb1).setCell (Nat.le_refl _) _).setCell (Nat.le_refl _) _).setCell (Nat.le_refl _) _).setCell (Nat.le_refl _) _
structure RefTests (s:ByteArray) (k m:Nat) (hk:k < s.size) (padded runsOn:Bool):Prop where
 pad:(((s[k].toNat:Int) == 48) = true ∧ 1 < m ∧ padded = true) ∨ (((s[k].toNat:Int) == 48) = false ∧ 1 < m ∧ padded = false) ∨ (m ≤ 1 ∧ padded = false)
 run:(∃ hn:k + m < s.size,(∀ w,Calls Tryd.prog 47 #[.int .u8 (s[k + m].toNat:Int)] w fun e w' => e = .returned (.bool runsOn) ∧ w = w')) ∨ (s.size ≤ k + m ∧ runsOn = false)
theorem zLj (s:ByteArray)(k m:Nat)(hk:k < s.size):∃ padded runsOn,RefTests s k m hk padded runsOn ∧ padded = decide (s[k] = 48 ∧ 1 < m) ∧ runsOn = Lx.nextLet (s.data.toList.drop (k + m)):=by
 refine ⟨_,_,⟨?_,?_⟩,rfl,rfl⟩
 ·by_cases h2 : 1 < m
  ·cases h:((s[k].toNat:Int) == 48)
   ·exact Or.inr (Or.inl ⟨rfl,h2,decide_eq_false fun ⟨h2,_⟩ => zOQ h h2⟩)
   ·exact Or.inl ⟨rfl,h2,decide_eq_true ⟨zRa h,h2⟩⟩
  ·exact Or.inr (Or.inr ⟨by omega,decide_eq_false fun ⟨_,h3⟩ => h2 h3⟩)
 ·by_cases h:k + m < s.size
  ·refine Or.inl ⟨h,fun w => ?_⟩
   rw [zIH h]
   exact zAm _ w
  ·exact Or.inr ⟨by omega,zGJ (by omega)⟩
def refNumV (padded runsOn:Bool)(m V:Nat):Option (Nat × List UInt8 × Nat × Nat):=if V ≤ 9223372036854775807 ∧ padded = false ∧ runsOn = false then some (2,[],V,m) else none
theorem zFN (s:ByteArray)(hs:s.size ≤ 6000)(k m:Nat)(hk:k < s.size)(hm:Lx.runN Lx.digB (s.data.toList.drop k) = m)(hc:Lx.letB (s[k].toNat:Int) = false)(hd:Lx.digB (s[k].toNat:Int) = true)
 (padded runsOn:Bool) (ht:RefTests s k m hk padded runsOn) (V:Nat) (hV:Lx.valN 0 (s.extract k (k + m)).data.toList = V) (w:World) :
 Calls Tryd.prog 31 #[.string s,.int .i64 k] w fun e w' => e = .returned (oneV k (refNumV padded runsOn m V)) ∧ Below w.heap.size w w':=by
 have hk2:k ≤ s.size:=by omega
 have hmax:=zFE hs
 have hl:=zAm (s[k].toNat:Int)
 have hg:=zA3 (s[k].toNat:Int)
 rw [hc] at hl
 rw [hd] at hg
 have hb:=zDs Lx.digB s k hk2
 rw [hm] at hb
 have h3:(k:Int) + (m:Int) ≤ (s.size:Int):=by omega
 have hall:∀ c ∈ (s.extract k (k + m)).data.toList,Lx.digB (c.toNat:Int) = true:=by
  rw [zCI,← hm]
  exact Lx.runN_all _ _
 have hw:=zIV (s.extract k (k + m)) (zKJ k (k + m) hs) hall V hV
 have HL:=vH hl
 have HD:=vH hg
 have HM:=vH hm
 obtain ⟨hp,hr⟩:=ht
 clear hall hV hl hg hm hc hd
 by_cases hle:V ≤ 9223372036854775807
 ·rw [zD9 hle,zEa hle] at hw
  have HW:=vH hw
  clear hw
  rcases hp with ⟨p1,p2,rfl⟩ | ⟨p1,p2,rfl⟩ | ⟨p1,rfl⟩
  ·rw [show refNumV true runsOn m V = none from if_neg (fun h => by cases h.2.1)]
   have p3:(1:Int) < (m:Int):=by omega
   clear hr
   go_in
   go_wp2_with fail
   refine (HL.out _).mono ?_
   rintro e w' ⟨rfl,rfl⟩
   go_wp2_with (first
      | (go_at_call 51; refine (HD.out _).mono ?_; rintro e w' ⟨rfl,rfl⟩)
      | (go_at_call 48; refine (zBa s hmax _ k m rfl hk2 HM.out _).mono ?_; rintro e w' ⟨rfl,rfl⟩)
      | (go_at_call 52; refine (HW.out _).mono ?_; rintro e w' ⟨rfl,rfl⟩))
   exact bodyPost_ret (v:=.tuple #[.agg #[.int .i64 0,.string ⟨#[]⟩,.int .i64 0,.int .i64 0],.int .i64 0]) (by simp [results,Tryd.results31,go_sem]) rfl ⟨zCB,(Below.refl _ _).alloc (Nat.le_refl _) _⟩
  all_goals
   rcases hr with ⟨r1,r2⟩ | ⟨r1,rfl⟩
   ·have r3:(k:Int) + (m:Int) < (s.size:Int):=by omega
    cases runsOn
    ·rw [show refNumV false false m V = some (2,[],V,m) from if_pos ⟨hle,rfl,rfl⟩]
     have HR:=vH r2
     clear r2
     go_in
     go_wp2_with fail
     refine (HL.out _).mono ?_
     rintro e w' ⟨rfl,rfl⟩
     go_wp2_with (first
      | (go_at_call 51; refine (HD.out _).mono ?_; rintro e w' ⟨rfl,rfl⟩)
      | (go_at_call 48; refine (zBa s hmax _ k m rfl hk2 HM.out _).mono ?_; rintro e w' ⟨rfl,rfl⟩)
      | (go_at_call 52; refine (HW.out _).mono ?_; rintro e w' ⟨rfl,rfl⟩)
      | (go_at_call 47; refine (HR.out _).mono ?_; rintro e w' ⟨rfl,rfl⟩))
     exact bodyPost_ret (v:=.tuple #[.agg #[.int .i64 2,.string ⟨#[]⟩,.int .i64 V,.int .i64 k],.int .i64 m]) (by simp [results,Tryd.results31,go_sem]) rfl ⟨zDu rfl rfl,(Below.refl _ _).alloc (Nat.le_refl _) _⟩
    ·rw [show refNumV false true m V = none from if_neg (fun h => by cases h.2.2)]
     have HR:=vH r2
     clear r2
     go_in
     go_wp2_with fail
     refine (HL.out _).mono ?_
     rintro e w' ⟨rfl,rfl⟩
     go_wp2_with (first
      | (go_at_call 51; refine (HD.out _).mono ?_; rintro e w' ⟨rfl,rfl⟩)
      | (go_at_call 48; refine (zBa s hmax _ k m rfl hk2 HM.out _).mono ?_; rintro e w' ⟨rfl,rfl⟩)
      | (go_at_call 52; refine (HW.out _).mono ?_; rintro e w' ⟨rfl,rfl⟩)
      | (go_at_call 47; refine (HR.out _).mono ?_; rintro e w' ⟨rfl,rfl⟩))
     exact bodyPost_ret (v:=.tuple #[.agg #[.int .i64 0,.string ⟨#[]⟩,.int .i64 0,.int .i64 0],.int .i64 0]) (by simp [results,Tryd.results31,go_sem]) rfl ⟨zCB,(Below.refl _ _).alloc (Nat.le_refl _) _⟩
   ·have r3:(s.size:Int) ≤ (k:Int) + (m:Int):=by omega
    rw [show refNumV false false m V = some (2,[],V,m) from if_pos ⟨hle,rfl,rfl⟩]
    go_in
    go_wp2_with fail
    refine (HL.out _).mono ?_
    rintro e w' ⟨rfl,rfl⟩
    go_wp2_with (first
     | (go_at_call 51; refine (HD.out _).mono ?_; rintro e w' ⟨rfl,rfl⟩)
     | (go_at_call 48; refine (zBa s hmax _ k m rfl hk2 HM.out _).mono ?_; rintro e w' ⟨rfl,rfl⟩)
     | (go_at_call 52; refine (HW.out _).mono ?_; rintro e w' ⟨rfl,rfl⟩))
    exact bodyPost_ret (v:=.tuple #[.agg #[.int .i64 2,.string ⟨#[]⟩,.int .i64 V,.int .i64 k],.int .i64 m]) (by simp [results,Tryd.results31,go_sem]) rfl ⟨zDu rfl rfl,(Below.refl _ _).alloc (Nat.le_refl _) _⟩
 ·rw [zFv hle,zFw hle] at hw
  have HW:=vH hw
  rw [show refNumV padded runsOn m V = none from if_neg (fun h => hle h.1)]
  clear hw hp hr
  go_in
  go_wp2_with fail
  refine (HL.out _).mono ?_
  rintro e w' ⟨rfl,rfl⟩
  go_wp2_with (first
   | (go_at_call 51; refine (HD.out _).mono ?_; rintro e w' ⟨rfl,rfl⟩)
   | (go_at_call 48; refine (zBa s hmax _ k m rfl hk2 HM.out _).mono ?_; rintro e w' ⟨rfl,rfl⟩)
   | (go_at_call 52; refine (HW.out _).mono ?_; rintro e w' ⟨rfl,rfl⟩))
  exact bodyPost_ret (v:=.tuple #[.agg #[.int .i64 0,.string ⟨#[]⟩,.int .i64 0,.int .i64 0],.int .i64 0]) (by simp [results,Tryd.results31,go_sem]) rfl ⟨zCB,(Below.refl _ _).alloc (Nat.le_refl _) _⟩
theorem zE3 (s:ByteArray)(hs:s.size ≤ 6000)(k:Nat)(hk:k < s.size)(hc:Lx.letB (s[k].toNat:Int) = false)(hd:Lx.digB (s[k].toNat:Int) = true)(w:World) :
 Calls Tryd.prog 31 #[.string s,.int .i64 k] w fun e w' => e = .returned (oneV k (Lx.oneNum (s.data.toList.drop k))) ∧ Below w.heap.size w w':=by
 obtain ⟨m,hm⟩:∃ m,Lx.runN Lx.digB (s.data.toList.drop k) = m:=⟨_,rfl⟩
 obtain ⟨V,hV⟩:∃ V,Lx.valN 0 ((s.data.toList.drop k).take m) = V:=⟨_,rfl⟩
 obtain ⟨padded,runsOn,ht,hp,hr⟩:=zLj s k m hk
 have hbad:=zKc hk hm rfl hV
 rw [← hp,← hr] at hbad
 have hone:Lx.oneNum (s.data.toList.drop k) = refNumV padded runsOn m V:=by
  rw [Lx.oneNum,hm,hV,hbad,refNumV]
  by_cases hle:V ≤ 9223372036854775807
  ·cases padded <;> cases runsOn
   ·rw [if_neg (by simp; omega),if_pos ⟨hle,rfl,rfl⟩]
   ·rw [if_pos (by simp),if_neg (by simp)]
   ·rw [if_pos (by simp),if_neg (by simp)]
   ·rw [if_pos (by simp),if_neg (by simp)]
  ·rw [if_pos (by simp; omega),if_neg (fun h => hle h.1)]
 rw [hone]
 exact zFN s hs k m hk hm hc hd padded runsOn ht V (by rw [zCI]; exact hV) w
theorem zIe (s:ByteArray)(hs:s.size ≤ 6000)(a:Int)(k:Nat)(ha:a = k)(hk:k < s.size)(w:World) :
 Calls Tryd.prog 31 #[.string s,.int .i64 a] w fun e w' => e = .returned (oneV k (Lx.one (s.data.toList.drop k))) ∧ Below w.heap.size w w':=by
 subst ha
 cases hcl:Lx.letB (s[k].toNat:Int)
 ·cases hcd:Lx.digB (s[k].toNat:Int)
  ·rw [zGG hk hcl hcd]; exact zD7 s hs k hk hcl hcd w
  ·rw [zIE hk hcl hcd]; exact zE3 s hs k hk hcl hcd w
 ·rw [zGF hk hcl]; exact zD6 s hs k hk hcl w
end Go.Proofs.YteadgahhchlgeaaDoor.Ln
