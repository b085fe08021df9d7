/-
  Statements: whether two are alike, and that what is read fit
-/
import Derived.Test.YteadgahhchlgeaaDoorK03
import Derived.Test.YteadgahhchlgeaaDoorK06
import Derived.Test.YteadgahhchlgeaaDoorK07
import Derived.Test.YteadgahhchlgeaaDoorK21
import Derived.Test.YteadgahhchlgeaaDoorK18
import Derived.Test.YteadgahhchlgeaaDoorK02
import Derived.Test.YteadgahhchlgeaaDoorK16
import Derived.Test.YteadgahhchlgeaaDoorK22
import Derived.Deep.RegionLawGrows
import Derived.Test.YteadgahhchlgeaaDoorRows
import Derived.ProofKit
import Derived.LaidMore
import Derived.OpenShut
import Derived.Stop.Joined
import Derived.Stop.LaidErr
import Derived.Lib.LaidTab
import Derived.Lib.SmallJoins
namespace Go.Proofs.YteadgahhchlgeaaDoor
open Go.RowKit
open Px (RT tokAt)
open Pe (Ex)
open Ps (Sm)
open Qe (Q)
mutual
def sameM:Sm → Sm → Bool
 | .mk k n o d es bs ls _ r,.mk k2 n2 o2 d2 es2 bs2 ls2 _ r2 => k == k2 && n == n2 && (o == o2 && d == d2) && r == r2 && sameL es es2 && sameML bs bs2 && sameML ls ls2
def sameML:List Sm → List Sm → Bool
 | [],[] => true
 | x :: xs,y :: ys => sameM x y && sameML xs ys
 | _,_ => false
end
mutual
def fitM:Sm → Bool
 | .mk _ _ _ _ es bs ls _ _ => fitL es && decide (es.length ≤ 9000000000) && fitML bs && decide (bs.length ≤ 9000000000) && fitML ls && decide (ls.length ≤ 9000000000)
def fitML:List Sm → Bool
 | [] => true
 | x :: xs => fitM x && fitML xs
end
theorem zEB:∀ {xs:List Sm}{x:Sm},fitML xs = true → fitM x = true → fitML (xs ++ [x]) = true
 | [],x,_,hx => by rw [List.nil_append,fitML,hx,fitML]; rfl
 | y :: ys,x,h,hx => by
   rw [fitML,Bool.and_eq_true] at h
   rw [List.cons_append,fitML,h.1,zEB h.2 hx]
   rfl
namespace Sim
def FM (recQ:Q → Qs.Out):Prop:=∀ q x,recQ q = some x → fitM x.1 = true
def FB (recQ:Q → Qs.OutB):Prop:=∀ q x,recQ q = some x → fitML x.1 = true ∧ x.1.length ≤ 9000000000
def FX (r:Qs.RX):Prop:=∀ q x,r q = some x → fitE x.1 = true
theorem zC1 {k:Int}{n o:List UInt8}{d:Int}{es:List Ex}{bs ls:List Sm}{a r:Int}(h1:fitL es = true)(h2:es.length ≤ 9000000000)(h3:fitML bs = true)(h4:bs.length ≤ 9000000000)(h5:fitML ls = true)(h6:ls.length ≤ 9000000000):fitM (.mk k n o d es bs ls a r) = true:=by
 rw [fitM,h1,h3,h5]
 simp [h2,h4,h6]
theorem zA2:fitML [] = true:=by rw [fitML]
theorem zQM {k:Int}{n o:List UInt8}{d a r:Int}:fitM (.mk k n o d [] [] [] a r) = true:=zC1 fit_nil (by show 0 ≤ 9000000000; decide) zA2 (by show 0 ≤ 9000000000; decide) zA2 (by show 0 ≤ 9000000000; decide)
theorem zKF {k:Int}{n o:List UInt8}{d a r:Int}{e:Ex}(h:fitE e = true):fitM (.mk k n o d [e] [] [] a r) = true:=zC1 (zB2 h) (by show 1 ≤ 9000000000; decide) zA2 (by show 0 ≤ 9000000000; decide) zA2 (by show 0 ≤ 9000000000; decide)
theorem zSI {k:Int}{n o:List UInt8}{d a r:Int}{e e2:Ex}(h:fitE e = true)(h2:fitE e2 = true):fitM (.mk k n o d [e,e2] [] [] a r) = true:=zC1 (zKy h h2) (by show 2 ≤ 9000000000; decide) zA2 (by show 0 ≤ 9000000000; decide) zA2 (by show 0 ≤ 9000000000; decide)
theorem zMg {ts:List RT}{r:Qs.RX}(hx:FX r){recB:Q → Qs.OutB}(hb:FB recB):FM (Qs.stmt ts r recB):=by
 intro q x h
 unfold Qs.stmt at h
 split at h
 ·unfold Qs.declared at h
  dsimp only at h
  split at h
  ·split at h
   ·cases h
   ·rename_i e s2 he
    obtain rfl:=Option.some.inj h
    exact zKF (hx _ _ he)
  ·obtain rfl:=Option.some.inj h
   exact zQM
 ·split at h
  ·unfold Qs.choice at h
   split at h
   ·cases h
   ·rename_i e s1 he
    split at h
    ·cases h
    ·rename_i b s2 hb2
     obtain ⟨f1,f2⟩:=hb _ _ hb2
     split at h
     ·split at h
      ·cases h
      ·rename_i b3 s3 hb3
       obtain ⟨f3,f4⟩:=hb _ _ hb3
       obtain rfl:=Option.some.inj h
       exact zC1 (zB2 (hx _ _ he)) (by show 1 ≤ 9000000000; decide) f1 f2 f3 f4
     ·obtain rfl:=Option.some.inj h
      exact zC1 (zB2 (hx _ _ he)) (by show 1 ≤ 9000000000; decide) f1 f2 zA2 (by show 0 ≤ 9000000000; decide)
  ·split at h
   ·unfold Qs.loop at h
    split at h
    ·cases h
    ·rename_i e s1 he
     split at h
     ·cases h
     ·rename_i b s2 hb2
      obtain ⟨f1,f2⟩:=hb _ _ hb2
      obtain rfl:=Option.some.inj h
      exact zC1 (zB2 (hx _ _ he)) (by show 1 ≤ 9000000000; decide) f1 f2 zA2 (by show 0 ≤ 9000000000; decide)
   ·split at h
    ·unfold Qs.result at h
     split at h
     ·obtain rfl:=Option.some.inj h
      exact zQM
     ·split at h
      ·cases h
      ·rename_i e s2 he
       obtain rfl:=Option.some.inj h
       exact zKF (hx _ _ he)
    ·split at h
     ·unfold Qs.output at h
      split at h
      ·cases h
      ·rename_i e s2 he
       obtain rfl:=Option.some.inj h
       exact zKF (hx _ _ he)
     ·unfold Qs.plain at h
      split at h
      ·cases h
      ·rename_i e s1 he
       split at h
       ·unfold Qs.plainPut at h
        split at h
        ·cases h
        ·rename_i b s2 hb2
         obtain rfl:=Option.some.inj h
         show fitM (if Ps.kindOf e = 4 then _ else _) = true
         split
         ·exact zKF (hx _ _ hb2)
         ·exact zSI (hx _ _ he) (hx _ _ hb2)
       ·obtain rfl:=Option.some.inj h
        exact zKF (hx _ _ he)
theorem zEA {ts:List RT}{recS:Q → Qs.Out}(hs:FM recS):∀ (g:Nat){l:List Sm}{q:Q}{x:List Sm × Q},fitML l = true → Qs.stLoop ts recS g l q = some x → fitML x.1 = true ∧ x.1.length ≤ l.length + g
 | 0,_,_,_,_,h => by cases h
 | g + 1,l,q,x,hl,h => by
   rw [Qs.stLoop] at h
   split at h
   ·split at h
    ·cases h
    ·rename_i y s2 hy
     obtain ⟨a,b⟩:=zEA hs g (zEB hl (hs _ _ hy)) h
     exact ⟨a,by rw [List.length_append,List.length_singleton] at b; omega⟩
   ·obtain rfl:=Option.some.inj h
    exact ⟨hl,by dsimp only; omega⟩
theorem zKC {ts:List RT}{recS:Q → Qs.Out}(hs:FM recS){g:Nat}(hg:g ≤ 9000000000):FB (Qs.block ts recS g):=by
 intro q x h
 unfold Qs.block at h
 split at h
 ·cases h
 ·rename_i l s2 hl
  obtain rfl:=Option.some.inj h
  obtain ⟨a,b⟩:=zEA hs g zA2 hl
  exact ⟨a,by dsimp only at b; rw [List.length_nil] at b; dsimp only; omega⟩
theorem zCj {ts:List RT}{r:Qs.RX}(hx:FX r):∀ f,f ≤ 9000000000 → FM (Qs.run ts r f).1 ∧ FB (Qs.run ts r f).2
 | 0,_ => ⟨fun q x h => (by cases h),fun q x h => (by cases h)⟩
 | f + 1,hf => ⟨zMg hx (zCj hx f (by omega)).2,zKC (zCj hx f (by omega)).1 (by omega)⟩
theorem zHA {ts:List RT}(hl:ts.length ≤ 800000000):FX (rx ts):=fun q x h => zGZ ts (enough ts) (by unfold enough; omega) 0 q x h
end Sim
end Go.Proofs.YteadgahhchlgeaaDoor
namespace Go.Proofs.YteadgahhchlgeaaDoor
open Go.RowKit
open Px (RT tokAt)
open Pe
open Ps (Sm PX)
open Pg (BX Pm Rc Fc Gm)
def But (I:World → Prop)(ex:Nat → Prop)(B:Nat)(w:World):Prop:=
 ∀ w':World,w.heap.size ≤ w'.heap.size → (∀ bl,B ≤ bl → bl < w.heap.size → ¬ ex bl → w'.heap[bl]? = w.heap[bl]?) → I w'
section
variable {I:World → Prop} {ex ex':Nat → Prop} {B B2:Nat} {w w1:World}
theorem But.now (h:But I ex B w):I w:=h w (Nat.le_refl _) fun _ _ _ _ => rfl
theorem But.move (h:But I ex B w)(hs:w.heap.size ≤ w1.heap.size)(hk:∀ bl,B ≤ bl → bl < w.heap.size → ¬ ex bl → w1.heap[bl]? = w.heap[bl]?)(he:∀ k,ex' k → ex k ∨ w.heap.size ≤ k):But I ex' B w1:=
 fun w' hs' hk' => h w' (Nat.le_trans hs hs') fun bl h1 h2 h3 => (hk' bl h1 (Nat.lt_of_lt_of_le h2 hs) (fun hx => by
  rcases he bl hx with hy | hy
  ·exact h3 hy
  ·omega)).trans (hk bl h1 h2 h3)
theorem But.of (h:∀ w',Ag B2 w w' → I w')(hB:B ≤ B2)(hx:∀ k,ex k → k < B2):But I ex B w:=
 fun w' hs hk => h w' ⟨hs,fun bl h1 h2 => hk bl (Nat.le_trans hB h1) h2 (fun he => by have:=hx bl he; omega)⟩
end
def OwnL {α:Type}(I:World → Nat → α → List Value → Prop)(T:TypeId)(n:Nat)(ex:Nat → Prop)(B:Nat)(v:Value)(l:List α)(w:World):Prop:=
 ∃ vss:List (List Value),vss.length = l.length ∧ w.ownsRow B T n v l.length vss.flatten ∧ ∀ (i:Nat) x vs,l[i]? = some x → vss[i]? = some vs → But (fun w => I w B x vs) ex B w
section
variable {α:Type} {I:World → Nat → α → List Value → Prop} {T:TypeId} {n:Nat} {ex ex':Nat → Prop} {B:Nat} {v v':Value} {l:List α} {w w1:World}
theorem OwnL.nil (w:World):OwnL I T n ex B (.slice none 0 0) [] w:=⟨[],rfl,World.ownsRow_nil _ _ _ _,fun i x vs h _ => by simp at h⟩
theorem OwnL.lt (h:OwnL I T n ex B v l w):∀ k,v.ownBlock = some k → B ≤ k ∧ k < w.heap.size:=by
 obtain ⟨vss,-,h2,-⟩:=h
 exact fun k hk => h2.lt k hk
theorem OwnL.slice (h:OwnL I T n ex B v l w):∃ p c,v = .slice p l.length c:=by
 obtain ⟨vss,-,h2,-⟩:=h
 exact zBy h2
theorem zHp {base m sz:Nat}{xs:List Value}(h:w.ownsRow base T sz v m xs)(hk:∀ k,v.ownBlock = some k → w1.heap[k]? = w.heap[k]?):w1.ownsRow base T sz v m xs:=by
 refine ⟨h.1,?_⟩
 rcases h.2 with h0 | ⟨g,cap,cur,hv,hb,hc,hr⟩
 ·exact .inl h0
 ·exact .inr ⟨g,cap,cur,hv,hb,(hk g (by rw [hv]; rfl)).trans hc,hr⟩
theorem OwnL.move (h:OwnL I T n ex B v l w)(hs:w.heap.size ≤ w1.heap.size)(hv:∀ k,v.ownBlock = some k → w1.heap[k]? = w.heap[k]?)(hk:∀ bl,B ≤ bl → bl < w.heap.size → ¬ ex bl → w1.heap[bl]? = w.heap[bl]?)(he:∀ k,ex' k → ex k ∨ w.heap.size ≤ k):OwnL I T n ex' B v l w1:=by
 obtain ⟨vss,h1,h2,h3⟩:=h
 exact ⟨vss,h1,zHp h2 hv,fun i x vs hx hvs => (h3 i x vs hx hvs).move hs hk he⟩
theorem OwnL.go (h:OwnL I T n ex B v l w)(hs:w.heap.size ≤ w1.heap.size)(hk:∀ bl,B ≤ bl → bl < w.heap.size → w1.heap[bl]? = w.heap[bl]?):OwnL I T n ex B v l w1:=
 h.move hs (fun k hv => hk k (h.lt k hv).1 (h.lt k hv).2) (fun bl h1 h2 _ => hk bl h1 h2) (fun _ hx => .inl hx)
theorem OwnL.push {x : α}{vs:List Value}{vss:List (List Value)}(h1:vss.length = l.length)(h3:∀ (i:Nat) x vs,l[i]? = some x → vss[i]? = some vs → But (fun w => I w B x vs) ex B w)(hi:But (fun w => I w B x vs) ex B w)
 (hown:w1.ownsRow B T n v' (l.length + 1) (vss.flatten ++ vs)) (hs:w.heap.size ≤ w1.heap.size) (hk:∀ bl,B ≤ bl → bl < w.heap.size → ¬ ex bl → w1.heap[bl]? = w.heap[bl]?) (he:∀ k,ex' k → ex k ∨ w.heap.size ≤ k):OwnL I T n ex' B v' (l ++ [x]) w1:=by
 refine ⟨vss ++ [vs],by simp [h1],by simpa using hown,fun i e' vs' hx hv => ?_⟩
 by_cases hlt:i < l.length
 ·rw [List.getElem?_append_left hlt] at hx
  rw [List.getElem?_append_left (by omega)] at hv
  exact (h3 i e' vs' hx hv).move hs hk he
 ·have hieq:i = l.length:=by
   have:=(List.getElem?_eq_some_iff.1 hx).1
   simp at this
   omega
  subst hieq
  simp at hx
  rw [← h1] at hv
  simp at hv
  subst hx hv
  exact hi.move hs hk he
end
def LAt {α:Type}(I:World → Nat → α → List Value → Prop)(n:Nat)(w:World)(B:Nat)(q:Option Addr)(l:List α):Prop:=
 l = [] ∨ ∃ bl off,q = some ⟨bl,off,none⟩ ∧ bl < w.heap.size ∧ B ≤ bl ∧ ∀ (i:Nat) x,l[i]? = some x → ∃ vs,I w B x vs ∧ ∀ (j:Nat) v,j < n → vs[j]? = some v → w.cell? ⟨bl,off + i * n + j,none⟩ = some v
section
variable {α:Type} {I:World → Nat → α → List Value → Prop} {T:TypeId} {n:Nat} {ex:Nat → Prop} {B B2:Nat} {v:Value} {q:Option Addr} {l:List α} {w w1:World}
theorem LAt.ag (hI:∀ x vs,I w B x vs → I w1 B x vs)(h:LAt I n w B q l)(g:Ag B w w1):LAt I n w1 B q l:=by
 rcases h with h0 | ⟨bl,off,hp,hb,hne,ha⟩
 ·exact .inl h0
 ·refine .inr ⟨bl,off,hp,Nat.lt_of_lt_of_le hb g.size,hne,fun i x hx => ?_⟩
  obtain ⟨vs,h1,h2⟩:=ha i x hx
  exact ⟨vs,hI x vs h1,fun j v hj hv => by rw [zB6 (g.block bl hne hb)]; exact h2 j v hj hv⟩
theorem LAt.lower (hI:∀ x vs,I w B x vs → I w B2 x vs)(h:LAt I n w B q l)(hB:B2 ≤ B):LAt I n w B2 q l:=by
 rcases h with h0 | ⟨bl,off,hp,hb,hne,ha⟩
 ·exact .inl h0
 ·refine .inr ⟨bl,off,hp,hb,Nat.le_trans hB hne,fun i x hx => ?_⟩
  obtain ⟨vs,h1,h2⟩:=ha i x hx
  exact ⟨vs,hI x vs h1,h2⟩
theorem zOw {vss:List (List Value)}(hn:∀ vs ∈ vss,vs.length = n):∀ (i j:Nat) vs v,vss[i]? = some vs → j < n → vs[j]? = some v → vss.flatten[i * n + j]? = some v:=by
 induction vss with
 | nil => intro i j vs v h; simp at h
 | cons us vss ih =>
   intro i j vs v h hj hv
   have hu:us.length = n:=hn us vA
   cases i with
   | zero =>
     simp at h
     subst h
     rw [List.flatten_cons,List.getElem?_append_left (by omega),Nat.zero_mul,Nat.zero_add,hv]
   | succ i =>
     have:=ih (fun vs hvs => hn vs (List.Mem.tail _ hvs)) i j vs v (by simpa using h) hj hv
     rw [List.flatten_cons,List.getElem?_append_right (by rw [hu,Nat.add_mul]; omega),hu,Nat.add_mul,show i * n + 1 * n + j - n = i * n + j by omega]
     exact this
theorem OwnL.done (hn:∀ w B x vs,I w B x vs → vs.length = n)(h:OwnL I T n ex B v l w):∃ p c,v = .slice p l.length c ∧ LAt I n w B p l:=by
 obtain ⟨vss,h1,h2,h3⟩:=h
 rcases h2.2 with ⟨hv,h0⟩ | ⟨g,cap,cur,hv,hb,hc,hm,hcap,hsize,htake⟩
 ·obtain rfl:=List.eq_nil_of_length_eq_zero h0
  exact ⟨none,0,hv,.inl rfl⟩
 ·refine ⟨_,cap,hv,.inr ⟨g,0,rfl,zA hc,hb,fun i x hx => ?_⟩⟩
  have hi:i < vss.length:=by rw [h1]; exact (List.getElem?_eq_some_iff.1 hx).1
  have hvs:=List.getElem?_eq_getElem hi
  refine ⟨vss[i],(h3 i x _ hx hvs).now,fun j v hj hvj => ?_⟩
  have hall:∀ vs ∈ vss,vs.length = n:=fun vs hm => by
   obtain ⟨k,hk⟩:=List.mem_iff_getElem?.1 hm
   have hkl:k < l.length:=by rw [← h1]; exact (List.getElem?_eq_some_iff.1 hk).1
   exact hn _ _ _ _ (h3 k _ vs (List.getElem?_eq_getElem hkl) hk).now
  have hf:=zOw hall i j _ v hvs hj hvj
  have:=World.ownsRow.cells h2 (g:=g) (by rw [hv]; rfl) _ v hf
  have hadd:∀ k,(⟨g,0,none⟩:Addr).add k = ⟨g,k,none⟩:=fun k => by unfold Addr.add; split <;> simp_all
  rw [hadd] at this
  rw [Nat.zero_add]
  exact this
end
def PIs (_:World)(_:Nat)(x:Pm)(vs:List Value):Prop:=vs = pmCells x
theorem PIs.len (w:World)(B:Nat)(x:Pm)(vs:List Value)(h:PIs w B x vs):vs.length = 4:=by rw [PIs] at h; rw [h]; rfl
theorem RIs.len (w:World)(B:Nat)(x:Rc)(vs:List Value)(h:RIs w B x vs):vs.length = 3:=by obtain ⟨p,c,rfl,-⟩:=h; rfl
theorem FIs.len (w:World)(B:Nat)(x:Fc)(vs:List Value)(h:FIs w B x vs):vs.length = 7:=by obtain ⟨p,c,q,d,rfl,-⟩:=h; rfl
theorem RIs.ag {w w1:World}{B:Nat}{x:Rc}{vs:List Value}(h:RIs w B x vs)(g:Ag B w w1):RIs w1 B x vs:=by obtain ⟨p,c,hv,hp⟩:=h; exact ⟨p,c,hv,hp.ag g⟩
theorem FIs.ag {w w1:World}{B:Nat}{x:Fc}{vs:List Value}(h:FIs w B x vs)(g:Ag B w w1):FIs w1 B x vs:=by obtain ⟨p,c,q,d,hv,hp,hb⟩:=h; exact ⟨p,c,q,d,hv,hp.ag g,hb.ag g⟩
theorem RIs.lower {w:World}{B B2:Nat}{x:Rc}{vs:List Value}(h:RIs w B x vs)(hB:B2 ≤ B):RIs w B2 x vs:=by obtain ⟨p,c,hv,hp⟩:=h; exact ⟨p,c,hv,hp.lower hB⟩
theorem FIs.lower {w:World}{B B2:Nat}{x:Fc}{vs:List Value}(h:FIs w B x vs)(hB:B2 ≤ B):FIs w B2 x vs:=by obtain ⟨p,c,q,d,hv,hp,hb⟩:=h; exact ⟨p,c,q,d,hv,hp.lower hB,hb.lower hB⟩
theorem zQD:(Tryd.prog.info? 75).map (fun i => (i.zero,i.size,i.bytes)) = some (some (.agg #[.string ⟨#[]⟩,.slice none 0 0,.int .i64 0]),3,48):=by kernel_rfl
theorem zQE:(Tryd.prog.info? 82).map (fun i => (i.zero,i.size,i.bytes)) = some (some (.agg #[.string ⟨#[]⟩,.slice none 0 0,.bool false,.string ⟨#[]⟩,.int .i64 0,.slice none 0 0,.int .i64 0]),7,104):=by kernel_rfl
theorem zAB {P:Program}{ops:Array Oper}{o:Oper}{a:Act}{w:World}{K:Act → World → Prop}{Q:Exit → Act → World → Prop}{E:Prop}
 (hg:o.guard = none) (s x:Operand) (t:TypeId) (hop:o.op = Op.call { callee:=Callee.builtin Builtin.append,args:=#[s,x],argTypes:=#[t,t] }) (base:Nat)
 (e:TypeId) (i:TypeInfo) (z:Value) (size bytes:Nat) (h1:P.underlying t = some (.slice e)) (h2:P.info? e = some i) (h3:i.zero = some z) (h4:i.size = size) (h5:i.bytes = bytes) (h6:z.cells.size = size) (h7 : 0 < size)
 (v:Value) (n:Nat) (xs:List Value) (hs:a.eval s = v) (hown:w.ownsRow base e size v n xs)
 (ad:Addr) (m c:Nat) (news:List Value) (hx:a.eval x = .slice (some ad) m c) (hn:news.length = m * size) (hc:∀ j u,news[j]? = some u → w.cell? (ad.add j) = some u) (h1c:∀ u ∈ news,u.oneCell' = true)
 (b1:n + m ≤ maxLen) (b2:(n + m) * bytes ≤ 140737488355328) (hbase:base ≤ w.heap.size)
 (hK:∀ v' w',w'.ownsRow base e size v' (n + m) (xs ++ news) → w.grownBy w' v.ownBlock → (v'.ownBlock = v.ownBlock ∨ v'.ownBlock = some w.heap.size) → K (a.put o.dst v') w') :
 if Region.wanted o (yielded ops a.tmps) = true then Oper.wp P o a w K Q else E:=by
 have hw:Region.wanted o (yielded ops a.tmps) = true:=by simp [Region.wanted,hg]
 rw [if_pos hw]
 obtain ⟨v',w',hrun,r1,r2,_,r3⟩:=run_append_own_at (P:=P) w base t o.type e i z size bytes h1 h2 h3 h4 h5 h6 h7 v n xs hown ad m c news hn hc h1c b1 b2 hbase
 unfold Oper.wp
 simp [execOp,hop,resolve,invoke,builtin,hs,hx,hrun,Result.andThen]
 exact hK v' w' r1 r2 r3
def ex3 (vr vg vf:Value)(k:Nat):Prop:=vr.ownBlock = some k ∨ vg.ownBlock = some k ∨ vf.ownBlock = some k
section
variable {w wr w':World} {R B b:Nat} {S vr vg vf c0 c1 c2 c v':Value} {ts:List RT} {p:Gm} {s s':Cs}
end
theorem zBT (p:Gm):(∀ x,(p.addR x).recs.length = p.recs.length + 1 ∧ (p.addR x).globals = p.globals ∧ (p.addR x).funcs = p.funcs) ∧ (∀ x,(p.addG x).globals.length = p.globals.length + 1 ∧ (p.addG x).recs = p.recs ∧ (p.addG x).funcs = p.funcs) ∧
 (∀ x,(p.addF x).funcs.length = p.funcs.length + 1 ∧ (p.addF x).recs = p.recs ∧ (p.addF x).globals = p.globals):=
 ⟨fun _ => ⟨by simp [Gm.addR],rfl,rfl⟩,fun _ => ⟨by simp [Gm.addG],rfl,rfl⟩,fun _ => ⟨by simp [Gm.addF],rfl,rfl⟩⟩
theorem RIs.one {w:World}{B:Nat}{x:Rc}{vs:List Value}(h:RIs w B x vs):∀ u ∈ vs,u.oneCell' = true:=by
 obtain ⟨p,c,rfl,-⟩:=h
 intro u hu
 simp at hu
 rcases hu with rfl | rfl | rfl <;> rfl
theorem FIs.one {w:World}{B:Nat}{x:Fc}{vs:List Value}(h:FIs w B x vs):∀ u ∈ vs,u.oneCell' = true:=by
 obtain ⟨p,c,q,d,rfl,-⟩:=h
 intro u hu
 simp at hu
 rcases hu with rfl | rfl | rfl | rfl | rfl | rfl | rfl <;> rfl
def GIs (w:World)(B:Nat)(x:Gm)(vs:List Value):Prop:=
 ∃ p c q d r f,vs = [.slice p x.recs.length c,.slice q x.globals.length d,.slice r x.funcs.length f] ∧ LAt RIs 3 w B p x.recs ∧ LAt PIs 4 w B q x.globals ∧ LAt FIs 7 w B r x.funcs
theorem GIs.ag {w w1:World}{B:Nat}{x:Gm}{vs:List Value}(h:GIs w B x vs)(g:Ag B w w1):GIs w1 B x vs:=by
 obtain ⟨p,c,q,d,r,f,hv,h1,h2,h3⟩:=h
 exact ⟨p,c,q,d,r,f,hv,h1.ag (fun _ _ h => h.ag g) g,LAt.ag (w:=w) (w1:=w1) (fun _ _ h => h) h2 g,h3.ag (fun _ _ h => h.ag g) g⟩
theorem GIs.lower {w:World}{B B2:Nat}{x:Gm}{vs:List Value}(h:GIs w B x vs)(hB:B2 ≤ B):GIs w B2 x vs:=by
 obtain ⟨p,c,q,d,r,f,hv,h1,h2,h3⟩:=h
 exact ⟨p,c,q,d,r,f,hv,h1.lower (fun _ _ h => h.lower hB) hB,LAt.lower (B:=B) (B2:=B2) (fun _ _ h => h) h2 hB,h3.lower (fun _ _ h => h.lower hB) hB⟩
theorem GIs.zero {w:World}{B:Nat}:GIs w B Gm.zero [.slice none 0 0,.slice none 0 0,.slice none 0 0]:=⟨none,0,none,0,none,0,rfl,.inl rfl,.inl rfl,.inl rfl⟩
end Go.Proofs.YteadgahhchlgeaaDoor
namespace Go.Proofs.YteadgahhchlgeaaDoor
open Go.ChangeShapes Go.WideShapes Go.ChangeAt Go.WideMaps Go.WideElems Go.RowKit
open Pe
theorem cS:Tryd.prog.cellsOf 9 = 1:=by kernel_rfl
theorem own:ownKnob Tryd.prog.godebug = none:=by kernel_rfl
end Go.Proofs.YteadgahhchlgeaaDoor
namespace Go.Proofs.YteadgahhchlgeaaDoor
open Go.RowKit
open Px (RT tokAt)
open Pe
open Ps (Sm PX)
open Pg (BX Pm Rc Fc Gm)
theorem GIs.put {w:World}{B b i:Nat}{x:Gm}{vs:List Value}{u:Value}(h:GIs w B x vs)(hb:b < B):GIs (w.setCell ⟨b,i,none⟩ u) B x vs:=h.ag ((Ag.refl _ _).set (.inl hb) u)
def PaPost (w:World)(x:Gm × Int × Int)(e:Ending)(w':World):Prop:=
 ∃ p n c q m d r k f,e = .returned (.tuple #[.agg #[.slice p n c,.slice q m d,.slice r k f],.agg #[.int .i64 x.2.1,.int .i64 x.2.2]]) ∧ GIs w' w.heap.size x.1 [.slice p n c,.slice q m d,.slice r k f] ∧ Below w.heap.size w w'
end Go.Proofs.YteadgahhchlgeaaDoor
namespace Go.Proofs.YteadgahhchlgeaaDoor
open Go.RowKit
open Px (RT tokAt)
open Pe
open Ps (Sm PX)
theorem SAt.get {w:World}{B bl:Nat}:∀ (es:List Sm)(off j:Nat)(e:Sm),SAt w B bl off es → es[j]? = some e → ∃ vs,SIs w B e vs ∧ ∀ (i:Nat)(v:Value),vs[i]? = some v → w.cell? ⟨bl,off + j * 9 + i,none⟩ = some v
 | [],_,j,e,_,h => by simp at h
 | x :: es,off,0,e,ha,h => by
   rw [SAt] at ha
   obtain ⟨⟨vs,hi,hc⟩,-⟩:=ha
   simp at h
   subst h
   exact ⟨vs,hi,fun i v hv => by have:=hc i v hv; simpa using this⟩
 | x :: es,off,j + 1,e,ha,h => by
   rw [SAt] at ha
   obtain ⟨vs,hi,hc⟩:=SAt.get es (off + 9) j e ha.2 (by simpa using h)
   exact ⟨vs,hi,fun i v hv => by have:=hc i v hv; rw [show off + (j + 1) * 9 + i = off + 9 + j * 9 + i by omega]; exact this⟩
theorem zKe {w:World}{b o:Nat}{kind:Int}{name ofn:List UInt8}{dims:Int}{ev bv lv:Value}{at_ ref:Int}(h:∀ (i:Nat)(v:Value),(smCells kind name ofn dims ev bv lv at_ ref)[i]? = some v → w.cell? ⟨b,o + i,none⟩ = some v) :
 w.cell? ⟨b,o,none⟩ = some (.int .i64 kind) ∧ w.cell? ⟨b,o + 1,none⟩ = some (.string (cbs name)) ∧ w.cell? ⟨b,o + 2,none⟩ = some (.string (cbs ofn)) ∧ w.cell? ⟨b,o + 3,none⟩ = some (.int .i64 dims) ∧ w.cell? ⟨b,o + 4,none⟩ = some ev ∧ w.cell? ⟨b,o + 5,none⟩ = some bv ∧ w.cell? ⟨b,o + 6,none⟩ = some lv ∧ w.cell? ⟨b,o + 7,none⟩ = some (.int .i64 at_) ∧ w.cell? ⟨b,o + 8,none⟩ = some (.int .i64 ref):=
 ⟨h 0 _ rfl,h 1 _ rfl,h 2 _ rfl,h 3 _ rfl,h 4 _ rfl,h 5 _ rfl,h 6 _ rfl,h 7 _ rfl,h 8 _ rfl⟩
theorem SsAt.below {w w':World}{B:Nat}{p:Option Addr}{l:List Sm}(h:SsAt w B p l)(hb:Below w.heap.size w w'):SsAt w' B p l:=h.ag (Ag.below hb)
theorem SIs.below {w w':World}{B:Nat}{x:Sm}{vs:List Value}(h:SIs w B x vs)(hb:Below w.heap.size w w'):SIs w' B x vs:=SIs.ag (Ag.below hb) _ h
theorem SIs.alloc {w:World}{B:Nat}{x:Sm}{vs:List Value}(h:SIs w B x vs)(o:Obj):SIs (w.alloc o) B x vs:=h.below ((Below.refl _ _).alloc (Nat.le_refl _) _)
theorem SsAt.get {w:World}{B:Nat}{p:Option Addr}{l:List Sm}(h:SsAt w B p l){j:Nat}{e:Sm}(he:l[j]? = some e):∃ bl off vs,p = some ⟨bl,off,none⟩ ∧ bl < w.heap.size ∧ SIs w B e vs ∧ ∀ (i:Nat)(v:Value),vs[i]? = some v → w.cell? ⟨bl,off + j * 9 + i,none⟩ = some v:=by
 rcases h with h | ⟨bl,off,h1,h2,h3,h4⟩
 ·rw [h] at he; simp at he
 ·obtain ⟨vs,hi,hc⟩:=SAt.get l off j e h4 he
  exact ⟨bl,off,vs,h1,h2,hi,hc⟩
open Pg (BX Pm Rc Fc Gm)
def sameLs {α:Type}(f : α → α → Bool):List α → List α → Bool
 | [],[] => true
 | x :: xs,y :: ys => f x y && sameLs f xs ys
 | _,_ => false
theorem zEf {α:Type}{f : α → α → Bool}:∀ (a b:List α),a.length ≠ b.length → sameLs f a b = false
 | [],[],h => absurd rfl h
 | [],_ :: _,_ => by rw [sameLs]; all_goals simp
 | _ :: _,[],_ => by rw [sameLs]; all_goals simp
 | x :: xs,y :: ys,h => by rw [sameLs,zEf xs ys (by simpa using h),Bool.and_false]
def sameP (a b:Pm):Bool:=a.name == b.name && (a.ofn == b.ofn && a.dims == b.dims)
def sameR (a b:Rc):Bool:=a.name == b.name && sameLs sameP a.fields b.fields
def sameF (a b:Fc):Bool:=a.name == b.name && a.has == b.has && (a.rn == b.rn && a.rd == b.rd) && sameLs sameP a.params b.params && sameML a.body b.body
def sameG (a b:Gm):Bool:=sameLs sameR a.recs b.recs && sameLs sameP a.globals b.globals && sameLs sameF a.funcs b.funcs
theorem LAt.get {α:Type}{I:World → Nat → α → List Value → Prop}{n:Nat}{w:World}{B:Nat}{q:Option Addr}{l:List α}(h:LAt I n w B q l){i:Nat}{x : α}(hx:l[i]? = some x) :
 ∃ bl off vs,q = some ⟨bl,off,none⟩ ∧ bl < w.heap.size ∧ I w B x vs ∧ ∀ (j:Nat) v,j < n → vs[j]? = some v → w.cell? ⟨bl,off + i * n + j,none⟩ = some v:=by
 rcases h with rfl | ⟨bl,off,hp,hb,-,ha⟩
 ·simp at hx
 ·obtain ⟨vs,h1,h2⟩:=ha i x hx
  exact ⟨bl,off,vs,hp,hb,h1,h2⟩
theorem zQK:∀ (l:List Pm)(i j:Nat)(x:Pm)(v:Value),l[i]? = some x → j < 4 → (pmCells x)[j]? = some v → (l.flatMap pmCells)[i * 4 + j]? = some v
 | [],_,_,_,_,h,_,_ => by simp at h
 | y :: l,0,j,x,v,h,hj,hv => by
   simp at h
   subst h
   rw [List.flatMap_cons,List.getElem?_append_left (by show _ < 4; omega),Nat.zero_mul,Nat.zero_add,hv]
 | y :: l,i + 1,j,x,v,h,hj,hv => by
   have:=zQK l i j x v (by simpa using h) hj hv
   rw [List.flatMap_cons,List.getElem?_append_right (by show 4 ≤ _; omega),show (i + 1) * 4 + j - (pmCells y).length = i * 4 + j by show (i + 1) * 4 + j - 4 = _; omega]
   exact this
theorem PsAt.lat {w:World}{B:Nat}{q:Option Addr}{l:List Pm}(h:PsAt w B q l):LAt PIs 4 w B q l:=by
 rcases h with h0 | ⟨bl,off,hp,hb,hne,ha⟩
 ·exact .inl h0
 ·refine .inr ⟨bl,off,hp,hb,hne,fun i x hx => ⟨pmCells x,rfl,fun j v hj hv => ?_⟩⟩
  have:=ha _ v (zQK l i j x v hx hj hv)
  rw [show off + i * 4 + j = off + (i * 4 + j) by omega]
  exact this
def pxB (us:List Ln.Lx.Tk)(f:Nat):PX:=fun k o => (parse (us.map toRT) f k o).getD (Ex.zero,0,0,0)
def bxB (us:List Ln.Lx.Tk)(f:Nat):BX:=fun k => (Ps.parseB (us.map toRT) (pxB us f) f k 0).getD ([],0,0,0)
def fuelOf (us:List Ln.Lx.Tk):Nat:=10 * us.length + 20
theorem zBr (us:List Ln.Lx.Tk):Sim.enough (us.map toRT) = fuelOf us:=by unfold Sim.enough fuelOf; rw [List.length_map]
theorem zDx {us:List Ln.Lx.Tk}(hs:us.length ≤ 6001):Sim.IsP (us.map toRT) (pxB us (fuelOf us)):=by
 intro k o
 obtain ⟨x,h,-⟩:=Sim.parse_same (ts:=us.map toRT) (by rw [List.length_map]; omega) k o
 rw [h]
 rw [zBr] at h
 unfold pxB
 rw [h]
 rfl
theorem zEG {us:List Ln.Lx.Tk}(hs:us.length ≤ 6001):Sim.IsB (us.map toRT) (pxB us (fuelOf us)) (bxB us (fuelOf us)):=by
 intro k
 obtain ⟨x,h,-⟩:=Sim.block_same (ts:=us.map toRT) (by rw [List.length_map]; omega) (zDx hs) k 0
 rw [h]
 rw [zBr] at h
 unfold bxB
 rw [h]
 rfl
def runOf (us:List Ln.Lx.Tk):Option (Gm × Int × Int):=Pg.run (us.map toRT) (bxB us (fuelOf us)) (fuelOf us)
def answer (l:List UInt8):Gm × Int × Int:=
 if (Ln.Lx.toks l).2.1 = 0 then (runOf (Ln.Lx.toks l).1).getD (Gm.zero,0,0) else (Gm.zero,((Ln.Lx.toks l).2.1:Nat),((Ln.Lx.toks l).2.2:Nat))
end Go.Proofs.YteadgahhchlgeaaDoor
