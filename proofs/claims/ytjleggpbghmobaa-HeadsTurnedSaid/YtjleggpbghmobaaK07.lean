/-
  The contracts of the project's cursor that counts what is op
-/
import Derived.Test.YtjleggpbghmobaaK01
import Derived.Test.YtjleggpbghmobaaK03
import Derived.Test.YtjleggpbghmobaaK05
import Derived.Test.YtjleggpbghmobaaK06
import Derived.OwnWalk
import Derived.Maps.AppendAt
import Derived.Deep.RegionHeld3
import Derived.Deep.LoopGhost
import Derived.Laws.StructEq
import Derived.StillTailTactics
set_option maxHeartbeats 8000000
namespace Go.Proofs.Ytjleggpbghmobaa
open Go.RowKit
open Px (RT tokAt)
open Pe
theorem Cu.set_o {w:World}{R:Nat}{T:TypeId}{S:Value}{X:List Value}{ts:List RT}{s:Cs}{o:Int}(h:Cu w R T S (.int .i64 o :: X) ts s)(q:Int):Cu (w.setCell ⟨R,4,none⟩ (.int .i64 q)) R T S (.int .i64 q :: X) ts s:=
 ⟨by have:=Lib.heap_setCell_same h.row (i:=4) (v:=.int .i64 q); simpa using this,h.toks.gr ((Gr.refl R w).set 4 _)⟩
theorem dec_eq (x:Int):wrap64 (x - 1) = dec x:=rfl
def IsBut (g:Option Nat)(w:World)(B:Nat)(e:Ex)(vs:List Value):Prop:=
 ∀ w':World,w.heap.size ≤ w'.heap.size → (∀ bl,B ≤ bl → bl < w.heap.size → some bl ≠ g → w'.heap[bl]? = w.heap[bl]?) → Is w' B e vs
theorem IsBut.now {g:Option Nat}{w:World}{B:Nat}{e:Ex}{vs:List Value}(h:IsBut g w B e vs):Is w B e vs:=h w (Nat.le_refl _) fun _ _ _ _ => rfl
theorem IsBut.of {g:Option Nat}{w:World}{B B2:Nat}{e:Ex}{vs:List Value}(h:Is w B2 e vs)(hB:B ≤ B2)(hg:∀ k,g = some k → k < B2):IsBut g w B e vs:=
 fun w' hs hk => Is.lower hB _ (Is.keep hs (fun bl h1 h2 => hk bl (Nat.le_trans hB h1) h2 (fun e => by have:=hg _ e.symm; omega)) _ h)
theorem IsBut.go {g:Option Nat}{w w1:World}{B:Nat}{e:Ex}{vs:List Value}(h:IsBut g w B e vs)(hs:w.heap.size ≤ w1.heap.size)(hk:∀ bl,B ≤ bl → bl < w.heap.size → some bl ≠ g → w1.heap[bl]? = w.heap[bl]?):IsBut g w1 B e vs:=
 fun w' hs' hk' => h w' (Nat.le_trans hs hs') fun bl h1 h2 h3 => (hk' bl h1 (Nat.lt_of_lt_of_le h2 hs) h3).trans (hk bl h1 h2 h3)
theorem IsBut.move {g g':Option Nat}{w w1:World}{B:Nat}{e:Ex}{vs:List Value}(h:IsBut g w B e vs)(hs:w.heap.size ≤ w1.heap.size)(hk:∀ bl,B ≤ bl → bl < w.heap.size → some bl ≠ g → w1.heap[bl]? = w.heap[bl]?)(hg:g' = g ∨ ∃ k,g' = some k ∧ w.heap.size ≤ k):IsBut g' w1 B e vs:=by
 rcases hg with rfl | ⟨k,rfl,hge⟩
 ·exact h.go hs hk
 ·exact fun w' hs' hk' => h w' (Nat.le_trans hs hs') fun bl h1 h2 h3 => (hk' bl h1 (Nat.lt_of_lt_of_le h2 hs) (fun e => by injection e with e; omega)).trans (hk bl h1 h2 h3)
theorem zFT {w w':World}{R base n sz:Nat}{T:TypeId}{v:Value}{xs:List Value}(h:w.ownsRow base T sz v n xs)(hg:Gr R w w')(hR:R < base):w'.ownsRow base T sz v n xs:=by
 refine ⟨h.1,?_⟩
 rcases h.2 with h0 | ⟨g,cap,cur,hv,hb,hc,hr⟩
 ·exact .inl h0
 ·exact .inr ⟨g,cap,cur,hv,hb,hg.box hc (by omega),hr⟩
theorem zAE {W:World}{T:TypeId}{A:Array Value}{vs:List Value}{B:Nat}(hB:B = W.heap.size)(hA:A = ⟨vs⟩):∀ j u,vs[j]? = some u → (W.alloc (.cells A T)).cell? ((⟨B,0,none⟩:Addr).add j) = some u:=by
 intro j u hu
 subst hB hA
 have hadd:(⟨W.heap.size,0,none⟩:Addr).add j = ⟨W.heap.size,j,none⟩:=by unfold Addr.add; split <;> simp_all
 rw [hadd,cell_of_row _ _ j _ _ _ (heap_alloc_new W _)]
 simpa using hu
theorem zHP (kind num:Int)(name ofn:List UInt8)(dims:Int)(p:Option Addr)(n c:Nat)(at_ b r d ref:Int):∀ u ∈ exCells kind num name ofn dims (.slice p n c) at_ b r d ref,u.oneCell' = true:=by
 intro u hu
 simp [exCells] at hu
 rcases hu with rfl | rfl | rfl | rfl | rfl | rfl | rfl | rfl | rfl | rfl | rfl <;> rfl
theorem zJQ:(Try.prog.info? 120).map (fun i => (i.zero,i.size,i.bytes)) = some (some (.agg #[.int .i64 0,.int .i64 0,.string ⟨#[]⟩,.string ⟨#[]⟩,.int .i64 0,.slice none 0 0,.int .i64 0,.int .i64 0,.int .i64 0,.int .i64 0,.int .i64 0]),11,120):=by kernel_rfl
def KidsAt (w:World)(B:Nat)(p:Option Addr)(l:List Ex):Prop:=l = [] ∨ ∃ bl off,p = some ⟨bl,off,none⟩ ∧ bl < w.heap.size ∧ B ≤ bl ∧ At w B bl off l
theorem KidsAt.set {w:World}{B:Nat}{q:Option Addr}{l:List Ex}(h:KidsAt w B q l){p:Addr}(hp:p.block < B)(u:Value):KidsAt (w.setCell p u) B q l:=by
 rcases h with h | ⟨bl,off,h1,h2,h3,h4⟩
 ·exact .inl h
 ·have hs:=((Below.refl 0 w).setCell (p:=p) (Nat.zero_le _) u).size
  exact .inr ⟨bl,off,h1,Nat.lt_of_lt_of_le h2 hs,h3,At.keep hs (fun bl h1 _ => Below.heap_setCell w p u bl (by omega)) l off h2 h3 h4⟩
theorem KidsAt.lower {w:World}{B B2:Nat}{q:Option Addr}{l:List Ex}(h:KidsAt w B q l)(hB:B2 ≤ B):KidsAt w B2 q l:=by
 rcases h with h | ⟨bl,off,h1,h2,h3,h4⟩
 ·exact .inl h
 ·exact .inr ⟨bl,off,h1,h2,Nat.le_trans hB h3,At.lower hB l off h4⟩
theorem KidsAt.put11 {w:World}{B:Nat}{q:Option Addr}{l:List Ex}(h:KidsAt w B q l){N:Nat}(hN:N < B){c0 c1 c2 c3 c4 c5 c6 c7 c8 c9 c10:Value}:KidsAt (((((((((((w.setCell ⟨N,0,none⟩ c0).setCell ⟨N,1,none⟩ c1).setCell ⟨N,2,none⟩ c2).setCell ⟨N,3,none⟩ c3).setCell ⟨N,4,none⟩ c4).setCell ⟨N,5,none⟩ c5).setCell ⟨N,6,none⟩ c6).setCell ⟨N,7,none⟩ c7).setCell ⟨N,8,none⟩ c8).setCell ⟨N,9,none⟩ c9).setCell ⟨N,10,none⟩ c10) B q l:=
 (((((((((((h.set (p:=⟨N,0,none⟩) hN c0).set (p:=⟨N,1,none⟩) hN c1).set (p:=⟨N,2,none⟩) hN c2).set (p:=⟨N,3,none⟩) hN c3).set (p:=⟨N,4,none⟩) hN c4).set (p:=⟨N,5,none⟩) hN c5).set (p:=⟨N,6,none⟩) hN c6).set (p:=⟨N,7,none⟩) hN c7).set (p:=⟨N,8,none⟩) hN c8).set (p:=⟨N,9,none⟩) hN c9).set (p:=⟨N,10,none⟩) hN c10)
theorem KidsAt.is {w:World}{B:Nat}{p:Option Addr}{c:Nat}{l:List Ex}(h:KidsAt w B p l)(kind num:Int)(name ofn:List UInt8)(dims at_:Int):Is w B (Ex.of kind num name ofn dims l at_) (exCells kind num name ofn dims (.slice p l.length c) at_ 0 0 0 0):=by
 rw [Ex.of,Is]
 exact ⟨p,c,rfl,h⟩
theorem zAn {w:World}{B:Nat}{T:TypeId}{A A2:Array Value}(h:w.heap[B]? = some (.cells A T (0,0)))(i:Nat)(u:Value)(hA:A.setIfInBounds i u = A2):(w.setCell ⟨B,i,none⟩ u).heap[B]? = some (.cells A2 T (0,0)):=by
 have:=Lib.heap_setCell_same h (i:=i) (v:=u)
 rw [this,hA]
theorem zFg:Try.prog.stoodInHeld 47 = false:=by kernel_rfl
theorem zBO (a b c a2 b2 c2:Int)(w:World):(binOp .eql 47 (.agg #[.int .i64 a,.int .i64 b,.int .i64 c]) (.agg #[.int .i64 a2,.int .i64 b2,.int .i64 c2])).run Try.prog w = .ok (.bool (a == a2 && b == b2 && c == c2)) w:=by
 rw [run_eql_struct,run_equalIn_agg w 9999 _ _ _ (by kernel_rfl) zFg]
 simp [go_sem]
 split <;> (try split) <;> (try split) <;> simp_all
mutual
def fitE:Ex → Bool
 | .mk _ _ _ _ _ ks _ _ _ _ _ => decide (ks.length ≤ 9223372036854775807) && fitL ks
def fitL:List Ex → Bool
 | [] => true
 | e :: es => fitE e && fitL es
end
theorem At.get {w:World}{B bl:Nat}:∀ (es:List Ex)(off j:Nat)(e:Ex),At w B bl off es → es[j]? = some e → ∃ vs,Is w B e vs ∧ ∀ (i:Nat)(v:Value),vs[i]? = some v → w.cell? ⟨bl,off + j * 11 + i,none⟩ = some v
 | [],_,j,e,_,h => by simp at h
 | x :: es,off,0,e,ha,h => by
   rw [At] at ha
   obtain ⟨⟨vs,hi,hc⟩,-⟩:=ha
   simp at h
   subst h
   exact ⟨vs,hi,fun i v hv => by have:=hc i v hv; simpa using this⟩
 | x :: es,off,j + 1,e,ha,h => by
   rw [At] at ha
   obtain ⟨vs,hi,hc⟩:=At.get es (off + 11) j e ha.2 (by simpa using h)
   exact ⟨vs,hi,fun i v hv => by have:=hc i v hv; rw [show off + (j + 1) * 11 + i = off + 11 + j * 11 + i by omega]; exact this⟩
theorem KidsAt.below {w w':World}{B:Nat}{p:Option Addr}{l:List Ex}(h:KidsAt w B p l)(hb:Below w.heap.size w w'):KidsAt w' B p l:=by
 rcases h with h | ⟨bl,off,h1,h2,h3,h4⟩
 ·exact .inl h
 ·exact .inr ⟨bl,off,h1,Nat.lt_of_lt_of_le h2 hb.size,h3,At.keep hb.size (fun bl _ h => hb.block bl h) l off h2 h3 h4⟩
theorem KidsAt.get {w:World}{B:Nat}{p:Option Addr}{l:List Ex}(h:KidsAt w B p l){j:Nat}{e:Ex}(he:l[j]? = some e):∃ bl off vs,p = some ⟨bl,off,none⟩ ∧ bl < w.heap.size ∧ Is w B e vs ∧ ∀ (i:Nat)(v:Value),vs[i]? = some v → w.cell? ⟨bl,off + j * 11 + i,none⟩ = some v:=by
 rcases h with h | ⟨bl,off,h1,h2,h3,h4⟩
 ·rw [h] at he; simp at he
 ·obtain ⟨vs,hi,hc⟩:=At.get l off j e h4 he
  exact ⟨bl,off,vs,h1,h2,hi,hc⟩
theorem Is.kids {w:World}{B:Nat}{kind num:Int}{name ofn:List UInt8}{dims:Int}{ks:List Ex}{at_ b r d ref:Int}{vs:List Value}(h:Is w B (.mk kind num name ofn dims ks at_ b r d ref) vs):∃ p c,vs = exCells kind num name ofn dims (.slice p ks.length c) at_ b r d ref ∧ KidsAt w B p ks:=by
 rw [Is] at h
 exact h
end Go.Proofs.Ytjleggpbghmobaa
namespace Go.Proofs.Ytjleggpbghmobaa
namespace Sim
open Go.RowKit
open Px (RT tokAt isT)
open Pe (Ex)
open Qe (Q)
theorem zEg {kind num:Int}{name ofn:List UInt8}{dims:Int}{kids:List Ex}{at_:Int}(h:fitL kids = true)(hl:kids.length ≤ 9000000000):fitE (Ex.of kind num name ofn dims kids at_) = true:=by
 rw [Ex.of,fitE,h,Bool.and_true]
 exact decide_eq_true (by omega)
theorem fit_nil:fitL [] = true:=by rw [fitL]
theorem zA2 {e:Ex}(h:fitE e = true):fitL [e] = true:=by rw [fitL,h,fit_nil]; rfl
theorem zGg {e e2:Ex}(h:fitE e = true)(h2:fitE e2 = true):fitL [e,e2] = true:=by rw [fitL,h,zA2 h2]; rfl
theorem zEe:∀ {l:List Ex}{e:Ex},fitL l = true → fitE e = true → fitL (l ++ [e]) = true
 | [],e,_,h => zA2 h
 | x :: l,e,hl,h => by
   rw [fitL,Bool.and_eq_true] at hl
   rw [List.cons_append,fitL,hl.1,zEe hl.2 h]; rfl
theorem fit1 {kind num:Int}{name ofn:List UInt8}{dims at_:Int}{e:Ex}(h:fitE e = true):fitE (Ex.of kind num name ofn dims [e] at_) = true:=zEg (zA2 h) (by show 1 ≤ 9000000000; decide)
theorem fit2 {kind num:Int}{name ofn:List UInt8}{dims at_:Int}{e e2:Ex}(h:fitE e = true)(h2:fitE e2 = true):fitE (Ex.of kind num name ofn dims [e,e2] at_) = true:=zEg (zGg h h2) (by show 2 ≤ 9000000000; decide)
theorem fit0 {kind num:Int}{name ofn:List UInt8}{dims at_:Int}:fitE (Ex.of kind num name ofn dims [] at_) = true:=zEg fit_nil (Nat.zero_le _)
def RF (recQ:Nat → Q → Qe.Out):Prop:=∀ n q x,recQ n q = some x → fitE x.1 = true
theorem zCl {ts:List RT}{recQ:Nat → Q → Qe.Out}(hr:RF recQ):∀ (g:Nat){l:List Ex}{q:Q}{x:List Ex × Q},fitL l = true → Qe.argLoop ts recQ g l q = some x → fitL x.1 = true ∧ x.1.length ≤ l.length + g
 | 0,_,_,_,_,h => by rw [Qe.argLoop] at h; cases h
 | g + 1,l,q,x,hl,h => by
   rw [Qe.argLoop] at h
   split at h
   ·split at h
    ·cases h
    ·rename_i e s2 he
     obtain ⟨a,b⟩:=zCl hr g (zEe hl (hr _ _ _ he)) h
     refine ⟨a,?_⟩
     rw [List.length_append,List.length_singleton] at b
     omega
   ·injection h with h
    subst h
    exact ⟨hl,Nat.le_add_right _ _⟩
theorem zHm {ts:List RT}{recQ:Nat → Q → Qe.Out}(hr:RF recQ){g:Nat}{q:Q}{x:List Ex × Q}(h:Qe.args ts recQ g q = some x):fitL x.1 = true ∧ x.1.length ≤ 1 + g:=by
 unfold Qe.args at h
 split at h
 ·injection h with h
  subst h
  exact ⟨fit_nil,Nat.zero_le _⟩
 ·split at h
  ·cases h
  ·rename_i e s2 he
   split at h
   ·cases h
   ·rename_i l s3 hl
    injection h with h
    subst h
    exact zCl hr g (x:=(l,s3)) (zA2 (hr _ _ (e,s2) he)) hl
theorem zCk {ts:List RT}{recQ:Nat → Q → Qe.Out}(hr:RF recQ){q:Q}{x:Ex × Q}(h:Qe.inner ts recQ q = some x):fitE x.1 = true:=by
 unfold Qe.inner at h
 split at h
 ·cases h
 ·rename_i e s2 he
  injection h with h
  subst h
  exact hr _ _ (e,s2) he
theorem zGi {ts:List RT}{recQ:Nat → Q → Qe.Out}(hr:RF recQ){q:Q}{a:Int}{x:Ex × Q}(h:Qe.fresh ts recQ q a = some x):fitE x.1 = true:=by
 unfold Qe.fresh at h
 split at h
 ·dsimp only at h
  split at h
  ·cases h
  ·rename_i e s2 he
   injection h with h
   subst h
   exact fit1 (zCk hr (x:=(e,s2)) he)
 ·injection h with h
  subst h
  exact fit0
theorem zGj {ts:List RT}{recQ:Nat → Q → Qe.Out}(hr:RF recQ){g:Nat}(hg:g ≤ 8999999999){q:Q}{x:Ex × Q}(h:Qe.first ts recQ g q = some x):fitE x.1 = true:=by
 dsimp only [Qe.first] at h
 repeat' split at h
 all_goals first
  | (cases h; done)
  | exact zGi hr h
  | exact zCk hr h
  | (injection h with h; subst h; exact fit0)
  | (rename_i e s2 he; injection h with h; subst h; exact fit1 (zCk hr (x:=(e,s2)) he))
  | (rename_i l s2 he; injection h with h; subst h; have ha:=zHm hr (x:=(l,s2)) he; exact zEg ha.1 (by have:=ha.2; dsimp only at this; omega))
theorem zBG {ts:List RT}{recQ:Nat → Q → Qe.Out}(hr:RF recQ):∀ (g:Nat){e:Ex}{q:Q}{x:Ex × Q},fitE e = true → Qe.behind ts recQ g e q = some x → fitE x.1 = true
 | 0,_,_,_,_,h => by rw [Qe.behind] at h; cases h
 | g + 1,e,q,x,he,h => by
   rw [Qe.behind] at h
   split at h
   ·exact zBG hr g (fit1 he) h
   ·split at h
    ·split at h
     ·cases h
     ·rename_i i s2 hi
      exact zBG hr g (fit2 he (hr _ _ (i,s2) hi)) h
    ·injection h with h
     subst h
     exact he
theorem zGh {ts:List RT}{recQ:Nat → Q → Qe.Out}(hr:RF recQ){q:Q}{t:List UInt8}{kind:Int}{x:Ex × Q}(h:Qe.prefixed ts recQ q t kind = some x):fitE x.1 = true:=by
 unfold Qe.prefixed at h
 split at h
 ·cases h
 ·rename_i e s2 he
  injection h with h
  subst h
  exact fit1 (hr _ _ (e,s2) he)
theorem zGf {ts:List RT}{recQ:Nat → Q → Qe.Out}(hr:RF recQ){g:Nat}(hg:g ≤ 8999999999){q:Q}{x:Ex × Q}(h:Qe.unary ts recQ g q = some x):fitE x.1 = true:=by
 unfold Qe.unary at h
 split at h
 ·exact zGh hr h
 ·split at h
  ·exact zGh hr h
  ·split at h
   ·cases h
   ·rename_i e s2 he
    exact zBG hr g (zGj hr hg (x:=(e,s2)) he) h
theorem zGl {ts:List RT}{recQ:Nat → Q → Qe.Out}(hr:RF recQ)(n:Nat):∀ (g:Nat){e:Ex}{q:Q}{x:Ex × Q},fitE e = true → Qe.binLoop ts recQ n g e q = some x → fitE x.1 = true
 | 0,_,_,_,_,h => by rw [Qe.binLoop] at h; cases h
 | g + 1,e,q,x,he,h => by
   rw [Qe.binLoop] at h
   split at h
   ·injection h with h
    subst h
    exact he
   ·split at h
    ·cases h
    ·rename_i r s2 hrr
     exact zGl hr n g (fit2 he (hr _ _ (r,s2) hrr)) h
theorem zDZ (ts:List RT):∀ (f:Nat),f ≤ 8999999999 → RF (Qe.run ts f)
 | 0,_ => fun n q x h => by cases h
 | f + 1,hf => fun n q x h => by
   have hr:=zDZ ts f (by omega)
   rw [qrun] at h
   split at h
   ·exact zGf hr (by omega) h
   ·split at h
    ·cases h
    ·rename_i l s1 hl
     exact zGl hr n f (hr _ _ (l,s1) hl) h
end Sim
end Go.Proofs.Ytjleggpbghmobaa
namespace Go.Proofs.Ytjleggpbghmobaa
open Go.RowKit
open Px (RT tokAt)
open Pe
open Go.RowKit
open Px (RT tokAt)
open Pe (Ex)
open Ps (Sm)
open Qe (Q)
mutual
def fitM:Sm → Bool
 | .mk _ _ _ _ es bs ls _ _ => fitL es && decide (es.length ≤ 9000000000) && fitML bs && decide (bs.length ≤ 9000000000) && fitML ls && decide (ls.length ≤ 9000000000)
def fitML:List Sm → Bool
 | [] => true
 | x :: xs => fitM x && fitML xs
end
theorem zCH:∀ {xs:List Sm}{x:Sm},fitML xs = true → fitM x = true → fitML (xs ++ [x]) = true
 | [],x,_,hx => by rw [List.nil_append,fitML,hx,fitML]; rfl
 | y :: ys,x,h,hx => by
   rw [fitML,Bool.and_eq_true] at h
   rw [List.cons_append,fitML,h.1,zCH h.2 hx]
   rfl
namespace Sim
def FM (recQ:Q → Qs.Out):Prop:=∀ q x,recQ q = some x → fitM x.1 = true
def FB (recQ:Q → Qs.OutB):Prop:=∀ q x,recQ q = some x → fitML x.1 = true ∧ x.1.length ≤ 9000000000
def FX (r:Qs.RX):Prop:=∀ q x,r q = some x → fitE x.1 = true
theorem zBH {k:Int}{n o:List UInt8}{d:Int}{es:List Ex}{bs ls:List Sm}{a r:Int}(h1:fitL es = true)(h2:es.length ≤ 9000000000)(h3:fitML bs = true)(h4:bs.length ≤ 9000000000)(h5:fitML ls = true)(h6:ls.length ≤ 9000000000):fitM (.mk k n o d es bs ls a r) = true:=by
 rw [fitM,h1,h3,h5]
 simp [h2,h4,h6]
theorem zAu:fitML [] = true:=by rw [fitML]
theorem zJV {k:Int}{n o:List UInt8}{d a r:Int}:fitM (.mk k n o d [] [] [] a r) = true:=zBH fit_nil (by show 0 ≤ 9000000000; decide) zAu (by show 0 ≤ 9000000000; decide) zAu (by show 0 ≤ 9000000000; decide)
theorem zGn {k:Int}{n o:List UInt8}{d a r:Int}{e:Ex}(h:fitE e = true):fitM (.mk k n o d [e] [] [] a r) = true:=zBH (zA2 h) (by show 1 ≤ 9000000000; decide) zAu (by show 0 ≤ 9000000000; decide) zAu (by show 0 ≤ 9000000000; decide)
theorem zK6 {k:Int}{n o:List UInt8}{d a r:Int}{e e2:Ex}(h:fitE e = true)(h2:fitE e2 = true):fitM (.mk k n o d [e,e2] [] [] a r) = true:=zBH (zGg h h2) (by show 2 ≤ 9000000000; decide) zAu (by show 0 ≤ 9000000000; decide) zAu (by show 0 ≤ 9000000000; decide)
theorem zHl {ts:List RT}{r:Qs.RX}(hx:FX r){recB:Q → Qs.OutB}(hb:FB recB):FM (Qs.stmt ts r recB):=by
 intro q x h
 unfold Qs.stmt at h
 split at h
 ·unfold Qs.declared at h
  dsimp only at h
  split at h
  ·split at h
   ·cases h
   ·rename_i e s2 he
    obtain rfl:=Option.some.inj h
    exact zGn (hx _ _ he)
  ·obtain rfl:=Option.some.inj h
   exact zJV
 ·split at h
  ·unfold Qs.choice at h
   split at h
   ·cases h
   ·rename_i e s1 he
    split at h
    ·cases h
    ·rename_i b s2 hb2
     obtain ⟨f1,f2⟩:=hb _ _ hb2
     split at h
     ·split at h
      ·cases h
      ·rename_i b3 s3 hb3
       obtain ⟨f3,f4⟩:=hb _ _ hb3
       obtain rfl:=Option.some.inj h
       exact zBH (zA2 (hx _ _ he)) (by show 1 ≤ 9000000000; decide) f1 f2 f3 f4
     ·obtain rfl:=Option.some.inj h
      exact zBH (zA2 (hx _ _ he)) (by show 1 ≤ 9000000000; decide) f1 f2 zAu (by show 0 ≤ 9000000000; decide)
  ·split at h
   ·unfold Qs.loop at h
    split at h
    ·cases h
    ·rename_i e s1 he
     split at h
     ·cases h
     ·rename_i b s2 hb2
      obtain ⟨f1,f2⟩:=hb _ _ hb2
      obtain rfl:=Option.some.inj h
      exact zBH (zA2 (hx _ _ he)) (by show 1 ≤ 9000000000; decide) f1 f2 zAu (by show 0 ≤ 9000000000; decide)
   ·split at h
    ·unfold Qs.result at h
     split at h
     ·obtain rfl:=Option.some.inj h
      exact zJV
     ·split at h
      ·cases h
      ·rename_i e s2 he
       obtain rfl:=Option.some.inj h
       exact zGn (hx _ _ he)
    ·split at h
     ·unfold Qs.output at h
      split at h
      ·cases h
      ·rename_i e s2 he
       obtain rfl:=Option.some.inj h
       exact zGn (hx _ _ he)
     ·unfold Qs.plain at h
      split at h
      ·cases h
      ·rename_i e s1 he
       split at h
       ·unfold Qs.plainPut at h
        split at h
        ·cases h
        ·rename_i b s2 hb2
         obtain rfl:=Option.some.inj h
         show fitM (if Ps.kindOf e = 4 then _ else _) = true
         split
         ·exact zGn (hx _ _ hb2)
         ·exact zK6 (hx _ _ he) (hx _ _ hb2)
       ·obtain rfl:=Option.some.inj h
        exact zGn (hx _ _ he)
theorem zCG {ts:List RT}{recS:Q → Qs.Out}(hs:FM recS):∀ (g:Nat){l:List Sm}{q:Q}{x:List Sm × Q},fitML l = true → Qs.stLoop ts recS g l q = some x → fitML x.1 = true ∧ x.1.length ≤ l.length + g
 | 0,_,_,_,_,h => by cases h
 | g + 1,l,q,x,hl,h => by
   rw [Qs.stLoop] at h
   split at h
   ·split at h
    ·cases h
    ·rename_i y s2 hy
     obtain ⟨a,b⟩:=zCG hs g (zCH hl (hs _ _ hy)) h
     exact ⟨a,by rw [List.length_append,List.length_singleton] at b; omega⟩
   ·obtain rfl:=Option.some.inj h
    exact ⟨hl,by dsimp only; omega⟩
theorem zGk {ts:List RT}{recS:Q → Qs.Out}(hs:FM recS){g:Nat}(hg:g ≤ 9000000000):FB (Qs.block ts recS g):=by
 intro q x h
 unfold Qs.block at h
 split at h
 ·cases h
 ·rename_i l s2 hl
  obtain rfl:=Option.some.inj h
  obtain ⟨a,b⟩:=zCG hs g zAu hl
  exact ⟨a,by dsimp only at b; rw [List.length_nil] at b; dsimp only; omega⟩
theorem zBa {ts:List RT}{r:Qs.RX}(hx:FX r):∀ f,f ≤ 9000000000 → FM (Qs.run ts r f).1 ∧ FB (Qs.run ts r f).2
 | 0,_ => ⟨fun q x h => (by cases h),fun q x h => (by cases h)⟩
 | f + 1,hf => ⟨zHl hx (zBa hx f (by omega)).2,zGk (zBa hx f (by omega)).1 (by omega)⟩
theorem zEf {ts:List RT}(hl:ts.length ≤ 800000000):FX (rx ts):=fun q x h => zDZ ts (enough ts) (by unfold enough; omega) 0 q x h
end Sim
end Go.Proofs.Ytjleggpbghmobaa
