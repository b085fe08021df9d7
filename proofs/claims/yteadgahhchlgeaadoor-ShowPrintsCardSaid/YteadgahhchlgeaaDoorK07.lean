/-
  Whether two expressions are alike, wherever they stand: plai
-/
import Derived.Test.YteadgahhchlgeaaDoorK03
import Derived.Test.YteadgahhchlgeaaDoorK05
import Derived.Test.YteadgahhchlgeaaDoorK02
import Derived.Deep.RegionHeld3
import Derived.Deep.LoopGhost
import Derived.Laws.StructEq
import Derived.StillTailTactics
set_option maxHeartbeats 8000000
set_option maxRecDepth 8000
namespace Go.Proofs.YteadgahhchlgeaaDoor
open Go.RowKit
open Px (RT tokAt)
open Pe
mutual
def sameE:Ex → Ex → Bool
 | .mk k n s o d ks _ b r e f,.mk k2 n2 s2 o2 d2 ks2 _ b2 r2 e2 f2 => k == k2 && n == n2 && s == s2 && (o == o2 && d == d2) && (b == b2 && r == r2 && e == e2) && f == f2 && sameL ks ks2
def sameL:List Ex → List Ex → Bool
 | [],[] => true
 | e :: es,e2 :: es2 => sameE e e2 && sameL es es2
 | _,_ => false
end
mutual
def fitE:Ex → Bool
 | .mk _ _ _ _ _ ks _ _ _ _ _ => decide (ks.length ≤ 9223372036854775807) && fitL ks
def fitL:List Ex → Bool
 | [] => true
 | e :: es => fitE e && fitL es
end
theorem At.get {w:World}{B bl:Nat}:∀ (es:List Ex)(off j:Nat)(e:Ex),At w B bl off es → es[j]? = some e → ∃ vs,Is w B e vs ∧ ∀ (i:Nat)(v:Value),vs[i]? = some v → w.cell? ⟨bl,off + j * 11 + i,none⟩ = some v
 | [],_,j,e,_,h => by simp at h
 | x :: es,off,0,e,ha,h => by
   rw [At] at ha
   obtain ⟨⟨vs,hi,hc⟩,-⟩:=ha
   simp at h
   subst h
   exact ⟨vs,hi,fun i v hv => by have:=hc i v hv; simpa using this⟩
 | x :: es,off,j + 1,e,ha,h => by
   rw [At] at ha
   obtain ⟨vs,hi,hc⟩:=At.get es (off + 11) j e ha.2 (by simpa using h)
   exact ⟨vs,hi,fun i v hv => by have:=hc i v hv; rw [show off + (j + 1) * 11 + i = off + 11 + j * 11 + i by omega]; exact this⟩
theorem zB4 {w:World}{b o:Nat}{kind num:Int}{name ofn:List UInt8}{dims:Int}{kv:Value}{at_ bb r d ref:Int}(h:∀ (i:Nat)(v:Value),(exCells kind num name ofn dims kv at_ bb r d ref)[i]? = some v → w.cell? ⟨b,o + i,none⟩ = some v) :
 w.cell? ⟨b,o,none⟩ = some (.int .i64 kind) ∧ w.cell? ⟨b,o + 1,none⟩ = some (.int .i64 num) ∧ w.cell? ⟨b,o + 2,none⟩ = some (.string (cbs name)) ∧ w.cell? ⟨b,o + 3,none⟩ = some (.string (cbs ofn)) ∧ w.cell? ⟨b,o + 4,none⟩ = some (.int .i64 dims) ∧ w.cell? ⟨b,o + 5,none⟩ = some kv ∧ w.cell? ⟨b,o + 6,none⟩ = some (.int .i64 at_) ∧ w.cell? ⟨b,o + 7,none⟩ = some (.int .i64 bb) ∧ w.cell? ⟨b,o + 8,none⟩ = some (.int .i64 r) ∧ w.cell? ⟨b,o + 9,none⟩ = some (.int .i64 d) ∧ w.cell? ⟨b,o + 10,none⟩ = some (.int .i64 ref):=
 ⟨h 0 _ rfl,h 1 _ rfl,h 2 _ rfl,h 3 _ rfl,h 4 _ rfl,h 5 _ rfl,h 6 _ rfl,h 7 _ rfl,h 8 _ rfl,h 9 _ rfl,h 10 _ rfl⟩
theorem KidsAt.below {w w':World}{B:Nat}{p:Option Addr}{l:List Ex}(h:KidsAt w B p l)(hb:Below w.heap.size w w'):KidsAt w' B p l:=by
 rcases h with h | ⟨bl,off,h1,h2,h3,h4⟩
 ·exact .inl h
 ·exact .inr ⟨bl,off,h1,Nat.lt_of_lt_of_le h2 hb.size,h3,At.keep hb.size (fun bl _ h => hb.block bl h) l off h2 h3 h4⟩
theorem KidsAt.get {w:World}{B:Nat}{p:Option Addr}{l:List Ex}(h:KidsAt w B p l){j:Nat}{e:Ex}(he:l[j]? = some e):∃ bl off vs,p = some ⟨bl,off,none⟩ ∧ bl < w.heap.size ∧ Is w B e vs ∧ ∀ (i:Nat)(v:Value),vs[i]? = some v → w.cell? ⟨bl,off + j * 11 + i,none⟩ = some v:=by
 rcases h with h | ⟨bl,off,h1,h2,h3,h4⟩
 ·rw [h] at he; simp at he
 ·obtain ⟨vs,hi,hc⟩:=At.get l off j e h4 he
  exact ⟨bl,off,vs,h1,h2,hi,hc⟩
theorem Is.kids {w:World}{B:Nat}{kind num:Int}{name ofn:List UInt8}{dims:Int}{ks:List Ex}{at_ b r d ref:Int}{vs:List Value}(h:Is w B (.mk kind num name ofn dims ks at_ b r d ref) vs):∃ p c,vs = exCells kind num name ofn dims (.slice p ks.length c) at_ b r d ref ∧ KidsAt w B p ks:=by
 rw [Is] at h
 exact h
theorem zFF {ks:List Ex}{e:Ex}(h:e ∈ ks)(kind num:Int)(name ofn:List UInt8)(dims at_ b r d ref:Int):SizeOf.sizeOf e < SizeOf.sizeOf (Ex.mk kind num name ofn dims ks at_ b r d ref):=by
 have:=List.sizeOf_lt_of_mem h
 simp only [Ex.mk.sizeOf_spec]
 omega
end Go.Proofs.YteadgahhchlgeaaDoor
namespace Go.Proofs.YteadgahhchlgeaaDoor
open Go.RowKit
def catB (xs:List ByteArray):List UInt8:=xs.flatMap (·.data.toList)
theorem zAp (x:ByteArray)(xs:List ByteArray):catB (x :: xs) = x.data.toList ++ catB xs:=rfl
def Txs (w:World)(bk:Nat)(xs:List ByteArray):Prop:=w.heap[bk]? = some (.cells (xs.map Value.string).toArray 9 (0,0))
theorem Txs.kept {w w':World}{b bk:Nat}{xs:List ByteArray}(h:Txs w bk xs)(hk:Wk b w w')(hb:bk ≠ b):Txs w' bk xs:=
 hk.kept bk _ h (by simpa using hb) (fun c fz hc => by injection hc with _ h2 _; exact absurd h2 (by decide))
theorem Txs.cell {w:World}{bk:Nat}{xs:List ByteArray}(h:Txs w bk xs){j:Nat}(hj:j < xs.length):w.cell? ⟨bk,j,none⟩ = some (.string xs[j]):=by
 rw [Lib.cell_of_heap h]
 simp [hj]
theorem IsW.alloc {b:Nat}{bs:List Value}{n:Int}{w:World}(h:IsW b bs n w)(o:Obj):IsW b bs n (w.alloc o):=by
 have hlt:=h.lt
 obtain ⟨p,hp,v,hb,hown,hne,hnil⟩:=h
 exact ⟨p,hp,v,(Lib.alloc_old w o b hlt).trans hb,hown.kept (World.grownBy_alloc w o none) (by cases hv:v.ownBlock <;> simp),hne,hnil⟩
theorem IsW.drew {b:Nat}{bs:List Value}{n:Int}{w:World}(h:IsW b bs n w):IsW b bs n w.drew:=h
theorem IsW.cast {b:Nat}{l l':List UInt8}{n:Int}{w:World}(h:IsW b (Lib.byteCells l) n w)(hl:l = l'):IsW b (Lib.byteCells l') n w:=hl ▸ h
theorem Wk.alloc {b:Nat}{w w':World}(h:Wk b w w')(hb:b ≤ w'.heap.size)(o:Obj):Wk b w (w'.alloc o):=⟨h.below.alloc hb o,h.kept.alloc o⟩
theorem zFt (b:Nat)(l:List UInt8)(n:Int)(xs:List ByteArray)(bk c:Nat)(w:World)(h:IsW b (Lib.byteCells l) n w)(hx:Txs w bk xs)(hb:bk ≠ b)(hlen:l.length + (catB xs).length ≤ 140737488355328)(hxl:xs.length ≤ 1000) :
 Calls Tryd.prog 56 #[.pointer (some ⟨b,0,none⟩),.slice (some ⟨bk,0,none⟩) xs.length c] w fun e w' => e = .returned (.tuple #[]) ∧ IsW b (Lib.byteCells (l ++ catB xs)) n w' ∧ Wk b w w':=by
 have HX:=vH hx
 have H:=vH h
 clear hx h
 go_in
 go_wp2_with fail
 go_loopg [8] xs.length (fun g v wr => ∃ j:Nat,g + j = xs.length ∧ v = .int .i64 (j:Int) ∧ (∃ l',IsW b (Lib.byteCells l') n wr ∧ l' ++ catB (xs.drop j) = l ++ catB xs) ∧ Wk b w wr)
 case atStart => exact ⟨0,rfl,rfl,⟨l,H.out,rfl⟩,Wk.refl _ _⟩
 case round =>
  obtain ⟨j,hj,rfl,⟨l',hW,hl'⟩,hk⟩:=hrel
  have HJ:=vH hj
  have HL:=vH hl'
  have HK:=vH hk
  have HW:=vH hW
  clear hj hl' hk hW
  cases gk with
  | zero =>
    obtain rfl:j = xs.length:=by have:=HJ.out; omega
    have hd1:decide ((xs.length:Int) < (xs.length:Int)) = false:=decide_eq_false (by omega)
    go_wp2_with fail
    go_end0
    refine ⟨rfl,HW.out.cast ?_,HK.out⟩
    rw [← HL.out,List.drop_of_length_le (Nat.le_refl _)]
    exact (List.append_nil _).symm
  | succ m =>
    have hjl:j < xs.length:=by have:=HJ.out; omega
    have hd1:decide ((j:Int) < (xs.length:Int)) = true:=decide_eq_true (by omega)
    have hi1:(j:Int) < (xs.length:Int):=by omega
    have hi3:(0:Int) ≤ (j:Int):=by omega
    have hc:=(HX.out.kept HK.out hb).cell hjl
    have hd4:xs.drop j = xs[j] :: xs.drop (j + 1):=List.drop_eq_getElem_cons hjl
    generalize xs[j] = x at hc hd4
    have HD:=vH hd4
    have hdw:wrap64 ((j:Int) + 1) = ((j + 1:Nat):Int):=by simp [wrap64]; omega
    have hn:=HL.out
    rw [HD.out,zAp] at hn
    have HN:=vH hn
    have hlen2:l'.length + x.size ≤ 140737488355328:=by
        have:=congrArg List.length HN.out
        rw [List.length_append,List.length_append,List.length_append] at this
        rw [Lib.size_eq]
        omega
    clear hd4 hn
    go_wp2_with fail
    refine (zDn b l' n x _ HW.out hlen2).mono ?_
    rintro e w2 ⟨rfl,hW2,hk2⟩
    have HW2:=vH hW2
    have HK2:=vH (HK.out.trans hk2)
    clear hW2 hk2 hc
    go_wp2_with fail
    go_roundg m
    case measure => omega
    case rel => exact ⟨j + 1,by have:=HJ.out; omega,by first | rfl | simp [hdw],⟨_,HW2.out,by rw [← HN.out,List.append_assoc]⟩,HK2.out⟩
end Go.Proofs.YteadgahhchlgeaaDoor
namespace Go.Proofs.YteadgahhchlgeaaDoor
namespace Sim
open Go.RowKit
open Px (RT tokAt isT)
open Pe (Ex)
open Qe (Q)
theorem zHB {kind num:Int}{name ofn:List UInt8}{dims:Int}{kids:List Ex}{at_:Int}(h:fitL kids = true)(hl:kids.length ≤ 9000000000):fitE (Ex.of kind num name ofn dims kids at_) = true:=by
 rw [Ex.of,fitE,h,Bool.and_true]
 exact decide_eq_true (by omega)
theorem fit_nil:fitL [] = true:=by rw [fitL]
theorem zB2 {e:Ex}(h:fitE e = true):fitL [e] = true:=by rw [fitL,h,fit_nil]; rfl
theorem zKy {e e2:Ex}(h:fitE e = true)(h2:fitE e2 = true):fitL [e,e2] = true:=by rw [fitL,h,zB2 h2]; rfl
theorem zHz:∀ {l:List Ex}{e:Ex},fitL l = true → fitE e = true → fitL (l ++ [e]) = true
 | [],e,_,h => zB2 h
 | x :: l,e,hl,h => by
   rw [fitL,Bool.and_eq_true] at hl
   rw [List.cons_append,fitL,hl.1,zHz hl.2 h]; rfl
theorem fit1 {kind num:Int}{name ofn:List UInt8}{dims at_:Int}{e:Ex}(h:fitE e = true):fitE (Ex.of kind num name ofn dims [e] at_) = true:=zHB (zB2 h) (by show 1 ≤ 9000000000; decide)
theorem fit2 {kind num:Int}{name ofn:List UInt8}{dims at_:Int}{e e2:Ex}(h:fitE e = true)(h2:fitE e2 = true):fitE (Ex.of kind num name ofn dims [e,e2] at_) = true:=zHB (zKy h h2) (by show 2 ≤ 9000000000; decide)
theorem fit0 {kind num:Int}{name ofn:List UInt8}{dims at_:Int}:fitE (Ex.of kind num name ofn dims [] at_) = true:=zHB fit_nil (Nat.zero_le _)
def RF (recQ:Nat → Q → Qe.Out):Prop:=∀ n q x,recQ n q = some x → fitE x.1 = true
theorem zDR {ts:List RT}{recQ:Nat → Q → Qe.Out}(hr:RF recQ):∀ (g:Nat){l:List Ex}{q:Q}{x:List Ex × Q},fitL l = true → Qe.argLoop ts recQ g l q = some x → fitL x.1 = true ∧ x.1.length ≤ l.length + g
 | 0,_,_,_,_,h => by rw [Qe.argLoop] at h; cases h
 | g + 1,l,q,x,hl,h => by
   rw [Qe.argLoop] at h
   split at h
   ·split at h
    ·cases h
    ·rename_i e s2 he
     obtain ⟨a,b⟩:=zDR hr g (zHz hl (hr _ _ _ he)) h
     refine ⟨a,?_⟩
     rw [List.length_append,List.length_singleton] at b
     omega
   ·injection h with h
    subst h
    exact ⟨hl,Nat.le_add_right _ _⟩
theorem zMh {ts:List RT}{recQ:Nat → Q → Qe.Out}(hr:RF recQ){g:Nat}{q:Q}{x:List Ex × Q}(h:Qe.args ts recQ g q = some x):fitL x.1 = true ∧ x.1.length ≤ 1 + g:=by
 unfold Qe.args at h
 split at h
 ·injection h with h
  subst h
  exact ⟨fit_nil,Nat.zero_le _⟩
 ·split at h
  ·cases h
  ·rename_i e s2 he
   split at h
   ·cases h
   ·rename_i l s3 hl
    injection h with h
    subst h
    exact zDR hr g (x:=(l,s3)) (zB2 (hr _ _ (e,s2) he)) hl
theorem zDQ {ts:List RT}{recQ:Nat → Q → Qe.Out}(hr:RF recQ){q:Q}{x:Ex × Q}(h:Qe.inner ts recQ q = some x):fitE x.1 = true:=by
 unfold Qe.inner at h
 split at h
 ·cases h
 ·rename_i e s2 he
  injection h with h
  subst h
  exact hr _ _ (e,s2) he
theorem zKA {ts:List RT}{recQ:Nat → Q → Qe.Out}(hr:RF recQ){q:Q}{a:Int}{x:Ex × Q}(h:Qe.fresh ts recQ q a = some x):fitE x.1 = true:=by
 unfold Qe.fresh at h
 split at h
 ·dsimp only at h
  split at h
  ·cases h
  ·rename_i e s2 he
   injection h with h
   subst h
   exact fit1 (zDQ hr (x:=(e,s2)) he)
 ·injection h with h
  subst h
  exact fit0
theorem zKB {ts:List RT}{recQ:Nat → Q → Qe.Out}(hr:RF recQ){g:Nat}(hg:g ≤ 8999999999){q:Q}{x:Ex × Q}(h:Qe.first ts recQ g q = some x):fitE x.1 = true:=by
 dsimp only [Qe.first] at h
 repeat' split at h
 all_goals first
  | (cases h; done)
  | exact zKA hr h
  | exact zDQ hr h
  | (injection h with h; subst h; exact fit0)
  | (rename_i e s2 he; injection h with h; subst h; exact fit1 (zDQ hr (x:=(e,s2)) he))
  | (rename_i l s2 he; injection h with h; subst h; have ha:=zMh hr (x:=(l,s2)) he; exact zHB ha.1 (by have:=ha.2; dsimp only at this; omega))
theorem zC0 {ts:List RT}{recQ:Nat → Q → Qe.Out}(hr:RF recQ):∀ (g:Nat){e:Ex}{q:Q}{x:Ex × Q},fitE e = true → Qe.behind ts recQ g e q = some x → fitE x.1 = true
 | 0,_,_,_,_,h => by rw [Qe.behind] at h; cases h
 | g + 1,e,q,x,he,h => by
   rw [Qe.behind] at h
   split at h
   ·exact zC0 hr g (fit1 he) h
   ·split at h
    ·split at h
     ·cases h
     ·rename_i i s2 hi
      exact zC0 hr g (fit2 he (hr _ _ (i,s2) hi)) h
    ·injection h with h
     subst h
     exact he
theorem zKz {ts:List RT}{recQ:Nat → Q → Qe.Out}(hr:RF recQ){q:Q}{t:List UInt8}{kind:Int}{x:Ex × Q}(h:Qe.prefixed ts recQ q t kind = some x):fitE x.1 = true:=by
 unfold Qe.prefixed at h
 split at h
 ·cases h
 ·rename_i e s2 he
  injection h with h
  subst h
  exact fit1 (hr _ _ (e,s2) he)
theorem zKx {ts:List RT}{recQ:Nat → Q → Qe.Out}(hr:RF recQ){g:Nat}(hg:g ≤ 8999999999){q:Q}{x:Ex × Q}(h:Qe.unary ts recQ g q = some x):fitE x.1 = true:=by
 unfold Qe.unary at h
 split at h
 ·exact zKz hr h
 ·split at h
  ·exact zKz hr h
  ·split at h
   ·cases h
   ·rename_i e s2 he
    exact zC0 hr g (zKB hr hg (x:=(e,s2)) he) h
theorem zKD {ts:List RT}{recQ:Nat → Q → Qe.Out}(hr:RF recQ)(n:Nat):∀ (g:Nat){e:Ex}{q:Q}{x:Ex × Q},fitE e = true → Qe.binLoop ts recQ n g e q = some x → fitE x.1 = true
 | 0,_,_,_,_,h => by rw [Qe.binLoop] at h; cases h
 | g + 1,e,q,x,he,h => by
   rw [Qe.binLoop] at h
   split at h
   ·injection h with h
    subst h
    exact he
   ·split at h
    ·cases h
    ·rename_i r s2 hrr
     exact zKD hr n g (fit2 he (hr _ _ (r,s2) hrr)) h
theorem zGZ (ts:List RT):∀ (f:Nat),f ≤ 8999999999 → RF (Qe.run ts f)
 | 0,_ => fun n q x h => by cases h
 | f + 1,hf => fun n q x h => by
   have hr:=zGZ ts f (by omega)
   rw [qrun] at h
   split at h
   ·exact zKx hr (by omega) h
   ·split at h
    ·cases h
    ·rename_i l s1 hl
     exact zKD hr n f (hr _ _ (l,s1) hl) h
theorem zFl {ts:List RT}(hl:ts.length ≤ 800000000){k o:Int}{x:Ex × Int × Int × Int}(h:Qe.expr ts (enough ts) k o = some x):fitE x.1 = true:=by
 unfold Qe.expr at h
 split at h
 ·cases h
 ·rename_i e s he
  injection h with h
  subst h
  unfold Qe.exEnd
  split
  ·exact zGZ ts _ (by unfold enough; omega) _ _ (e,s) he
  ·exact fit0
end Sim
end Go.Proofs.YteadgahhchlgeaaDoor
namespace Go.Proofs.YteadgahhchlgeaaDoor
open Go.RowKit
open Px (RT tokAt)
open Pe
end Go.Proofs.YteadgahhchlgeaaDoor
