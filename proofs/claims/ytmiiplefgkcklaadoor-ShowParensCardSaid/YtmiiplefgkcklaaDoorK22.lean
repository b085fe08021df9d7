/-
  Lists that grow, three at a time: records, global variables,
-/
import Derived.Test.YtmiiplefgkcklaaDoorK19
import Derived.Test.YtmiiplefgkcklaaDoorK05
import Derived.Test.YtmiiplefgkcklaaDoorK16
import Derived.Test.YtmiiplefgkcklaaDoorK04
import Derived.Test.YtmiiplefgkcklaaDoorK14
import Derived.Test.YtmiiplefgkcklaaDoorK20
import Derived.Test.YtmiiplefgkcklaaDoorK21
import Derived.Deep.RegionLawGrows
import Derived.Test.YtmiiplefgkcklaaDoorRows
import Derived.ProofKit
import Derived.LaidMore
import Derived.OpenShut
import Derived.Stop.Joined
import Derived.Stop.LaidErr
import Derived.Lib.LaidTab
import Derived.Lib.SmallJoins
import Derived.BigQuiet
set_option maxRecDepth 8000
set_option maxHeartbeats 8000000
namespace Go.Proofs.YtmiiplefgkcklaaDoor
open Go.RowKit
open Px (RT tokAt)
open Pe
open Ps (Sm PX)
open Pg (BX Pm Rc Fc Gm)
def But (I:World → Prop)(ex:Nat → Prop)(B:Nat)(w:World):Prop:=
 ∀ w':World,w.heap.size ≤ w'.heap.size → (∀ bl,B ≤ bl → bl < w.heap.size → ¬ ex bl → w'.heap[bl]? = w.heap[bl]?) → I w'
section
variable {I:World → Prop} {ex ex':Nat → Prop} {B B2:Nat} {w w1:World}
theorem But.now (h:But I ex B w):I w:=h w (Nat.le_refl _) fun _ _ _ _ => rfl
theorem But.move (h:But I ex B w)(hs:w.heap.size ≤ w1.heap.size)(hk:∀ bl,B ≤ bl → bl < w.heap.size → ¬ ex bl → w1.heap[bl]? = w.heap[bl]?)(he:∀ k,ex' k → ex k ∨ w.heap.size ≤ k):But I ex' B w1:=
 fun w' hs' hk' => h w' (Nat.le_trans hs hs') fun bl h1 h2 h3 => (hk' bl h1 (Nat.lt_of_lt_of_le h2 hs) (fun hx => by
  rcases he bl hx with hy | hy
  ·exact h3 hy
  ·omega)).trans (hk bl h1 h2 h3)
theorem But.of (h:∀ w',Ag B2 w w' → I w')(hB:B ≤ B2)(hx:∀ k,ex k → k < B2):But I ex B w:=
 fun w' hs hk => h w' ⟨hs,fun bl h1 h2 => hk bl (Nat.le_trans hB h1) h2 (fun he => by have:=hx bl he; omega)⟩
end
def OwnL {α:Type}(I:World → Nat → α → List Value → Prop)(T:TypeId)(n:Nat)(ex:Nat → Prop)(B:Nat)(v:Value)(l:List α)(w:World):Prop:=
 ∃ vss:List (List Value),vss.length = l.length ∧ w.ownsRow B T n v l.length vss.flatten ∧ ∀ (i:Nat) x vs,l[i]? = some x → vss[i]? = some vs → But (fun w => I w B x vs) ex B w
section
variable {α:Type} {I:World → Nat → α → List Value → Prop} {T:TypeId} {n:Nat} {ex ex':Nat → Prop} {B:Nat} {v v':Value} {l:List α} {w w1:World}
theorem OwnL.nil (w:World):OwnL I T n ex B (.slice none 0 0) [] w:=⟨[],rfl,World.ownsRow_nil _ _ _ _,fun i x vs h _ => by simp at h⟩
theorem OwnL.lt (h:OwnL I T n ex B v l w):∀ k,v.ownBlock = some k → B ≤ k ∧ k < w.heap.size:=by
 obtain ⟨vss,-,h2,-⟩:=h
 exact fun k hk => h2.lt k hk
theorem OwnL.slice (h:OwnL I T n ex B v l w):∃ p c,v = .slice p l.length c:=by
 obtain ⟨vss,-,h2,-⟩:=h
 exact zA8 h2
theorem zFM {base m sz:Nat}{xs:List Value}(h:w.ownsRow base T sz v m xs)(hk:∀ k,v.ownBlock = some k → w1.heap[k]? = w.heap[k]?):w1.ownsRow base T sz v m xs:=by
 refine ⟨h.1,?_⟩
 rcases h.2 with h0 | ⟨g,cap,cur,hv,hb,hc,hr⟩
 ·exact .inl h0
 ·exact .inr ⟨g,cap,cur,hv,hb,(hk g (by rw [hv]; rfl)).trans hc,hr⟩
theorem OwnL.move (h:OwnL I T n ex B v l w)(hs:w.heap.size ≤ w1.heap.size)(hv:∀ k,v.ownBlock = some k → w1.heap[k]? = w.heap[k]?)(hk:∀ bl,B ≤ bl → bl < w.heap.size → ¬ ex bl → w1.heap[bl]? = w.heap[bl]?)(he:∀ k,ex' k → ex k ∨ w.heap.size ≤ k):OwnL I T n ex' B v l w1:=by
 obtain ⟨vss,h1,h2,h3⟩:=h
 exact ⟨vss,h1,zFM h2 hv,fun i x vs hx hvs => (h3 i x vs hx hvs).move hs hk he⟩
theorem OwnL.go (h:OwnL I T n ex B v l w)(hs:w.heap.size ≤ w1.heap.size)(hk:∀ bl,B ≤ bl → bl < w.heap.size → w1.heap[bl]? = w.heap[bl]?):OwnL I T n ex B v l w1:=
 h.move hs (fun k hv => hk k (h.lt k hv).1 (h.lt k hv).2) (fun bl h1 h2 _ => hk bl h1 h2) (fun _ hx => .inl hx)
theorem OwnL.push {x : α}{vs:List Value}{vss:List (List Value)}(h1:vss.length = l.length)(h3:∀ (i:Nat) x vs,l[i]? = some x → vss[i]? = some vs → But (fun w => I w B x vs) ex B w)(hi:But (fun w => I w B x vs) ex B w)
 (hown:w1.ownsRow B T n v' (l.length + 1) (vss.flatten ++ vs)) (hs:w.heap.size ≤ w1.heap.size) (hk:∀ bl,B ≤ bl → bl < w.heap.size → ¬ ex bl → w1.heap[bl]? = w.heap[bl]?) (he:∀ k,ex' k → ex k ∨ w.heap.size ≤ k):OwnL I T n ex' B v' (l ++ [x]) w1:=by
 refine ⟨vss ++ [vs],by simp [h1],by simpa using hown,fun i e' vs' hx hv => ?_⟩
 by_cases hlt:i < l.length
 ·rw [List.getElem?_append_left hlt] at hx
  rw [List.getElem?_append_left (by omega)] at hv
  exact (h3 i e' vs' hx hv).move hs hk he
 ·have hieq:i = l.length:=by
   have:=(List.getElem?_eq_some_iff.1 hx).1
   simp at this
   omega
  subst hieq
  simp at hx
  rw [← h1] at hv
  simp at hv
  subst hx hv
  exact hi.move hs hk he
end
def LAt {α:Type}(I:World → Nat → α → List Value → Prop)(n:Nat)(w:World)(B:Nat)(q:Option Addr)(l:List α):Prop:=
 l = [] ∨ ∃ bl off,q = some ⟨bl,off,none⟩ ∧ bl < w.heap.size ∧ B ≤ bl ∧ ∀ (i:Nat) x,l[i]? = some x → ∃ vs,I w B x vs ∧ ∀ (j:Nat) v,j < n → vs[j]? = some v → w.cell? ⟨bl,off + i * n + j,none⟩ = some v
section
variable {α:Type} {I:World → Nat → α → List Value → Prop} {T:TypeId} {n:Nat} {ex:Nat → Prop} {B B2:Nat} {v:Value} {q:Option Addr} {l:List α} {w w1:World}
theorem LAt.ag (hI:∀ x vs,I w B x vs → I w1 B x vs)(h:LAt I n w B q l)(g:Ag B w w1):LAt I n w1 B q l:=by
 rcases h with h0 | ⟨bl,off,hp,hb,hne,ha⟩
 ·exact .inl h0
 ·refine .inr ⟨bl,off,hp,Nat.lt_of_lt_of_le hb g.size,hne,fun i x hx => ?_⟩
  obtain ⟨vs,h1,h2⟩:=ha i x hx
  exact ⟨vs,hI x vs h1,fun j v hj hv => by rw [zBx (g.block bl hne hb)]; exact h2 j v hj hv⟩
theorem LAt.lower (hI:∀ x vs,I w B x vs → I w B2 x vs)(h:LAt I n w B q l)(hB:B2 ≤ B):LAt I n w B2 q l:=by
 rcases h with h0 | ⟨bl,off,hp,hb,hne,ha⟩
 ·exact .inl h0
 ·refine .inr ⟨bl,off,hp,hb,Nat.le_trans hB hne,fun i x hx => ?_⟩
  obtain ⟨vs,h1,h2⟩:=ha i x hx
  exact ⟨vs,hI x vs h1,h2⟩
theorem zLA {vss:List (List Value)}(hn:∀ vs ∈ vss,vs.length = n):∀ (i j:Nat) vs v,vss[i]? = some vs → j < n → vs[j]? = some v → vss.flatten[i * n + j]? = some v:=by
 induction vss with
 | nil => intro i j vs v h; simp at h
 | cons us vss ih =>
   intro i j vs v h hj hv
   have hu:us.length = n:=hn us vA
   cases i with
   | zero =>
     simp at h
     subst h
     rw [List.flatten_cons,List.getElem?_append_left (by omega),Nat.zero_mul,Nat.zero_add,hv]
   | succ i =>
     have:=ih (fun vs hvs => hn vs (List.Mem.tail _ hvs)) i j vs v (by simpa using h) hj hv
     rw [List.flatten_cons,List.getElem?_append_right (by rw [hu,Nat.add_mul]; omega),hu,Nat.add_mul,show i * n + 1 * n + j - n = i * n + j by omega]
     exact this
theorem OwnL.done (hn:∀ w B x vs,I w B x vs → vs.length = n)(h:OwnL I T n ex B v l w):∃ p c,v = .slice p l.length c ∧ LAt I n w B p l:=by
 obtain ⟨vss,h1,h2,h3⟩:=h
 rcases h2.2 with ⟨hv,h0⟩ | ⟨g,cap,cur,hv,hb,hc,hm,hcap,hsize,htake⟩
 ·obtain rfl:=List.eq_nil_of_length_eq_zero h0
  exact ⟨none,0,hv,.inl rfl⟩
 ·refine ⟨_,cap,hv,.inr ⟨g,0,rfl,zA hc,hb,fun i x hx => ?_⟩⟩
  have hi:i < vss.length:=by rw [h1]; exact (List.getElem?_eq_some_iff.1 hx).1
  have hvs:=List.getElem?_eq_getElem hi
  refine ⟨vss[i],(h3 i x _ hx hvs).now,fun j v hj hvj => ?_⟩
  have hall:∀ vs ∈ vss,vs.length = n:=fun vs hm => by
   obtain ⟨k,hk⟩:=List.mem_iff_getElem?.1 hm
   have hkl:k < l.length:=by rw [← h1]; exact (List.getElem?_eq_some_iff.1 hk).1
   exact hn _ _ _ _ (h3 k _ vs (List.getElem?_eq_getElem hkl) hk).now
  have hf:=zLA hall i j _ v hvs hj hvj
  have:=World.ownsRow.cells h2 (g:=g) (by rw [hv]; rfl) _ v hf
  have hadd:∀ k,(⟨g,0,none⟩:Addr).add k = ⟨g,k,none⟩:=fun k => by unfold Addr.add; split <;> simp_all
  rw [hadd] at this
  rw [Nat.zero_add]
  exact this
end
def PIs (_:World)(_:Nat)(x:Pm)(vs:List Value):Prop:=vs = pmCells x
theorem PIs.len (w:World)(B:Nat)(x:Pm)(vs:List Value)(h:PIs w B x vs):vs.length = 4:=by rw [PIs] at h; rw [h]; rfl
theorem RIs.len (w:World)(B:Nat)(x:Rc)(vs:List Value)(h:RIs w B x vs):vs.length = 3:=by obtain ⟨p,c,rfl,-⟩:=h; rfl
theorem FIs.len (w:World)(B:Nat)(x:Fc)(vs:List Value)(h:FIs w B x vs):vs.length = 7:=by obtain ⟨p,c,q,d,rfl,-⟩:=h; rfl
theorem RIs.ag {w w1:World}{B:Nat}{x:Rc}{vs:List Value}(h:RIs w B x vs)(g:Ag B w w1):RIs w1 B x vs:=by obtain ⟨p,c,hv,hp⟩:=h; exact ⟨p,c,hv,hp.ag g⟩
theorem FIs.ag {w w1:World}{B:Nat}{x:Fc}{vs:List Value}(h:FIs w B x vs)(g:Ag B w w1):FIs w1 B x vs:=by obtain ⟨p,c,q,d,hv,hp,hb⟩:=h; exact ⟨p,c,q,d,hv,hp.ag g,hb.ag g⟩
theorem RIs.lower {w:World}{B B2:Nat}{x:Rc}{vs:List Value}(h:RIs w B x vs)(hB:B2 ≤ B):RIs w B2 x vs:=by obtain ⟨p,c,hv,hp⟩:=h; exact ⟨p,c,hv,hp.lower hB⟩
theorem FIs.lower {w:World}{B B2:Nat}{x:Fc}{vs:List Value}(h:FIs w B x vs)(hB:B2 ≤ B):FIs w B2 x vs:=by obtain ⟨p,c,q,d,hv,hp,hb⟩:=h; exact ⟨p,c,q,d,hv,hp.lower hB,hb.lower hB⟩
theorem zM4:(Tryd.prog.info? 64).map (fun i => (i.zero,i.size,i.bytes)) = some (some (.agg #[.string ⟨#[]⟩,.slice none 0 0,.int .i64 0]),3,48):=by kernel_rfl
theorem zM5:(Tryd.prog.info? 72).map (fun i => (i.zero,i.size,i.bytes)) = some (some (.agg #[.string ⟨#[]⟩,.slice none 0 0,.bool false,.string ⟨#[]⟩,.int .i64 0,.slice none 0 0,.int .i64 0]),7,104):=by kernel_rfl
theorem zAl {P:Program}{ops:Array Oper}{o:Oper}{a:Act}{w:World}{K:Act → World → Prop}{Q:Exit → Act → World → Prop}{E:Prop}
 (hg:o.guard = none) (s x:Operand) (t:TypeId) (hop:o.op = Op.call { callee:=Callee.builtin Builtin.append,args:=#[s,x],argTypes:=#[t,t] }) (base:Nat)
 (e:TypeId) (i:TypeInfo) (z:Value) (size bytes:Nat) (h1:P.underlying t = some (.slice e)) (h2:P.info? e = some i) (h3:i.zero = some z) (h4:i.size = size) (h5:i.bytes = bytes) (h6:z.cells.size = size) (h7 : 0 < size)
 (v:Value) (n:Nat) (xs:List Value) (hs:a.eval s = v) (hown:w.ownsRow base e size v n xs)
 (ad:Addr) (m c:Nat) (news:List Value) (hx:a.eval x = .slice (some ad) m c) (hn:news.length = m * size) (hc:∀ j u,news[j]? = some u → w.cell? (ad.add j) = some u) (h1c:∀ u ∈ news,u.oneCell' = true)
 (b1:n + m ≤ maxLen) (b2:(n + m) * bytes ≤ 140737488355328) (hbase:base ≤ w.heap.size)
 (hK:∀ v' w',w'.ownsRow base e size v' (n + m) (xs ++ news) → w.grownBy w' v.ownBlock → (v'.ownBlock = v.ownBlock ∨ v'.ownBlock = some w.heap.size) → K (a.put o.dst v') w') :
 if Region.wanted o (yielded ops a.tmps) = true then Oper.wp P o a w K Q else E:=by
 have hw:Region.wanted o (yielded ops a.tmps) = true:=by simp [Region.wanted,hg]
 rw [if_pos hw]
 obtain ⟨v',w',hrun,r1,r2,_,r3⟩:=run_append_own_at (P:=P) w base t o.type e i z size bytes h1 h2 h3 h4 h5 h6 h7 v n xs hown ad m c news hn hc h1c b1 b2 hbase
 unfold Oper.wp
 simp [execOp,hop,resolve,invoke,builtin,hs,hx,hrun,Result.andThen]
 exact hK v' w' r1 r2 r3
def ex3 (vr vg vf:Value)(k:Nat):Prop:=vr.ownBlock = some k ∨ vg.ownBlock = some k ∨ vf.ownBlock = some k
section
variable {w wr w':World} {R B b:Nat} {S vr vg vf c0 c1 c2 c v':Value} {ts:List RT} {p:Gm} {s s':Cs}
end
theorem zBq (p:Gm):(∀ x,(p.addR x).recs.length = p.recs.length + 1 ∧ (p.addR x).globals = p.globals ∧ (p.addR x).funcs = p.funcs) ∧ (∀ x,(p.addG x).globals.length = p.globals.length + 1 ∧ (p.addG x).recs = p.recs ∧ (p.addG x).funcs = p.funcs) ∧
 (∀ x,(p.addF x).funcs.length = p.funcs.length + 1 ∧ (p.addF x).recs = p.recs ∧ (p.addF x).globals = p.globals):=
 ⟨fun _ => ⟨by simp [Gm.addR],rfl,rfl⟩,fun _ => ⟨by simp [Gm.addG],rfl,rfl⟩,fun _ => ⟨by simp [Gm.addF],rfl,rfl⟩⟩
theorem RIs.one {w:World}{B:Nat}{x:Rc}{vs:List Value}(h:RIs w B x vs):∀ u ∈ vs,u.oneCell' = true:=by
 obtain ⟨p,c,rfl,-⟩:=h
 intro u hu
 simp at hu
 rcases hu with rfl | rfl | rfl <;> rfl
theorem FIs.one {w:World}{B:Nat}{x:Fc}{vs:List Value}(h:FIs w B x vs):∀ u ∈ vs,u.oneCell' = true:=by
 obtain ⟨p,c,q,d,rfl,-⟩:=h
 intro u hu
 simp at hu
 rcases hu with rfl | rfl | rfl | rfl | rfl | rfl | rfl <;> rfl
def GIs (w:World)(B:Nat)(x:Gm)(vs:List Value):Prop:=
 ∃ p c q d r f,vs = [.slice p x.recs.length c,.slice q x.globals.length d,.slice r x.funcs.length f] ∧ LAt RIs 3 w B p x.recs ∧ LAt PIs 4 w B q x.globals ∧ LAt FIs 7 w B r x.funcs
theorem GIs.ag {w w1:World}{B:Nat}{x:Gm}{vs:List Value}(h:GIs w B x vs)(g:Ag B w w1):GIs w1 B x vs:=by
 obtain ⟨p,c,q,d,r,f,hv,h1,h2,h3⟩:=h
 exact ⟨p,c,q,d,r,f,hv,h1.ag (fun _ _ h => h.ag g) g,LAt.ag (w:=w) (w1:=w1) (fun _ _ h => h) h2 g,h3.ag (fun _ _ h => h.ag g) g⟩
theorem GIs.lower {w:World}{B B2:Nat}{x:Gm}{vs:List Value}(h:GIs w B x vs)(hB:B2 ≤ B):GIs w B2 x vs:=by
 obtain ⟨p,c,q,d,r,f,hv,h1,h2,h3⟩:=h
 exact ⟨p,c,q,d,r,f,hv,h1.lower (fun _ _ h => h.lower hB) hB,LAt.lower (B:=B) (B2:=B2) (fun _ _ h => h) h2 hB,h3.lower (fun _ _ h => h.lower hB) hB⟩
theorem GIs.zero {w:World}{B:Nat}:GIs w B Gm.zero [.slice none 0 0,.slice none 0 0,.slice none 0 0]:=⟨none,0,none,0,none,0,rfl,.inl rfl,.inl rfl,.inl rfl⟩
end Go.Proofs.YtmiiplefgkcklaaDoor
namespace Go.Proofs.YtmiiplefgkcklaaDoor
open Go.ChangeShapes Go.WideShapes Go.ChangeAt Go.WideMaps Go.WideElems Go.RowKit
open Pe
theorem cS:Tryd.prog.cellsOf 9 = 1:=by kernel_rfl
theorem own:ownKnob Tryd.prog.godebug = none:=by kernel_rfl
end Go.Proofs.YtmiiplefgkcklaaDoor
namespace Go.Proofs.YtmiiplefgkcklaaDoor
open Go.RowKit
open Px (RT tokAt)
open Pe
open Ps (Sm PX)
open Pg (BX Pm Rc Fc Gm)
theorem GIs.put {w:World}{B b i:Nat}{x:Gm}{vs:List Value}{u:Value}(h:GIs w B x vs)(hb:b < B):GIs (w.setCell ⟨b,i,none⟩ u) B x vs:=h.ag ((Ag.refl _ _).set (.inl hb) u)
theorem GIs.dr {w:World}{B:Nat}{x:Gm}{vs:List Value}(h:GIs w B x vs):GIs w.drew B x vs:=h.ag (Ag.below (Below.refl _ _).drew)
def PaPost (w:World)(x:Gm × Int × Int)(e:Ending)(w':World):Prop:=
 ∃ p n c q m d r k f,e = .returned (.tuple #[.agg #[.slice p n c,.slice q m d,.slice r k f],.agg #[.int .i64 x.2.1,.int .i64 x.2.2]]) ∧ GIs w' w.heap.size x.1 [.slice p n c,.slice q m d,.slice r k f] ∧ Below w.heap.size w w'
def sameLs {α:Type}(f : α → α → Bool):List α → List α → Bool
 | [],[] => true
 | x :: xs,y :: ys => f x y && sameLs f xs ys
 | _,_ => false
theorem zA4 {α:Type}{f : α → α → Bool}:∀ (a b:List α),a.length ≠ b.length → sameLs f a b = false
 | [],[],h => absurd rfl h
 | [],_ :: _,_ => by rw [sameLs]; all_goals simp
 | _ :: _,[],_ => by rw [sameLs]; all_goals simp
 | x :: xs,y :: ys,h => by rw [sameLs,zA4 xs ys (by simpa using h),Bool.and_false]
def sameP (a b:Pm):Bool:=a.name == b.name && (a.ofn == b.ofn && a.dims == b.dims)
def sameR (a b:Rc):Bool:=a.name == b.name && sameLs sameP a.fields b.fields
def sameF (a b:Fc):Bool:=a.name == b.name && a.has == b.has && (a.rn == b.rn && a.rd == b.rd) && sameLs sameP a.params b.params && sameML a.body b.body
def sameG (a b:Gm):Bool:=sameLs sameR a.recs b.recs && sameLs sameP a.globals b.globals && sameLs sameF a.funcs b.funcs
def fitR (a:Rc):Prop:=a.fields.length ≤ 9000000000
def fitF (a:Fc):Prop:=a.params.length ≤ 9000000000 ∧ a.body.length ≤ 9000000000 ∧ fitML a.body = true
def fitG (a:Gm):Prop:=a.recs.length ≤ 9000000000 ∧ a.globals.length ≤ 9000000000 ∧ a.funcs.length ≤ 9000000000 ∧ (∀ x ∈ a.recs,fitR x) ∧ ∀ x ∈ a.funcs,fitF x
theorem LAt.get {α:Type}{I:World → Nat → α → List Value → Prop}{n:Nat}{w:World}{B:Nat}{q:Option Addr}{l:List α}(h:LAt I n w B q l){i:Nat}{x : α}(hx:l[i]? = some x) :
 ∃ bl off vs,q = some ⟨bl,off,none⟩ ∧ bl < w.heap.size ∧ I w B x vs ∧ ∀ (j:Nat) v,j < n → vs[j]? = some v → w.cell? ⟨bl,off + i * n + j,none⟩ = some v:=by
 rcases h with rfl | ⟨bl,off,hp,hb,-,ha⟩
 ·simp at hx
 ·obtain ⟨vs,h1,h2⟩:=ha i x hx
  exact ⟨bl,off,vs,hp,hb,h1,h2⟩
theorem zM9:∀ (l:List Pm)(i j:Nat)(x:Pm)(v:Value),l[i]? = some x → j < 4 → (pmCells x)[j]? = some v → (l.flatMap pmCells)[i * 4 + j]? = some v
 | [],_,_,_,_,h,_,_ => by simp at h
 | y :: l,0,j,x,v,h,hj,hv => by
   simp at h
   subst h
   rw [List.flatMap_cons,List.getElem?_append_left (by show _ < 4; omega),Nat.zero_mul,Nat.zero_add,hv]
 | y :: l,i + 1,j,x,v,h,hj,hv => by
   have:=zM9 l i j x v (by simpa using h) hj hv
   rw [List.flatMap_cons,List.getElem?_append_right (by show 4 ≤ _; omega),show (i + 1) * 4 + j - (pmCells y).length = i * 4 + j by show (i + 1) * 4 + j - 4 = _; omega]
   exact this
theorem PsAt.lat {w:World}{B:Nat}{q:Option Addr}{l:List Pm}(h:PsAt w B q l):LAt PIs 4 w B q l:=by
 rcases h with h0 | ⟨bl,off,hp,hb,hne,ha⟩
 ·exact .inl h0
 ·refine .inr ⟨bl,off,hp,hb,hne,fun i x hx => ⟨pmCells x,rfl,fun j v hj hv => ?_⟩⟩
  have:=ha _ v (zM9 l i j x v hx hj hv)
  rw [show off + i * 4 + j = off + (i * 4 + j) by omega]
  exact this
def pxB (us:List Ln.Lx.Tk)(f:Nat):PX:=fun k o => (parse (us.map toRT) f k o).getD (Ex.zero,0,0,0)
def bxB (us:List Ln.Lx.Tk)(f:Nat):BX:=fun k => (Ps.parseB (us.map toRT) (pxB us f) f k 0).getD ([],0,0,0)
def fuelOf (us:List Ln.Lx.Tk):Nat:=10 * us.length + 20
theorem zBv (us:List Ln.Lx.Tk):Sim.enough (us.map toRT) = fuelOf us:=by unfold Sim.enough fuelOf; rw [List.length_map]
theorem zDn {us:List Ln.Lx.Tk}(hs:us.length ≤ 6001):Sim.IsP (us.map toRT) (pxB us (fuelOf us)):=by
 intro k o
 obtain ⟨x,h,-⟩:=Sim.parse_same (ts:=us.map toRT) (by rw [List.length_map]; omega) k o
 rw [h]
 rw [zBv] at h
 unfold pxB
 rw [h]
 rfl
theorem zEQ {us:List Ln.Lx.Tk}(hs:us.length ≤ 6001):Sim.IsB (us.map toRT) (pxB us (fuelOf us)) (bxB us (fuelOf us)):=by
 intro k
 obtain ⟨x,h,-⟩:=Sim.block_same (ts:=us.map toRT) (by rw [List.length_map]; omega) (zDn hs) k 0
 rw [h]
 rw [zBv] at h
 unfold bxB
 rw [h]
 rfl
def runOf (us:List Ln.Lx.Tk):Option (Gm × Int × Int):=Pg.run (us.map toRT) (bxB us (fuelOf us)) (fuelOf us)
def answer (l:List UInt8):Gm × Int × Int:=
 if (Ln.Lx.toks l).2.1 = 0 then (runOf (Ln.Lx.toks l).1).getD (Gm.zero,0,0) else (Gm.zero,((Ln.Lx.toks l).2.1:Nat),((Ln.Lx.toks l).2.2:Nat))
end Go.Proofs.YtmiiplefgkcklaaDoor
namespace Go.Proofs.YtmiiplefgkcklaaDoor
open Go.RowKit
open Pe
open Ps (Sm PX)
open Pg (BX Pm Rc Fc Gm)
theorem zKo (a b:List UInt8)(d d2:Int)(w:World):(binOp .neq 40 (.agg #[.string (cbs a),.int .i64 d]) (.agg #[.string (cbs b),.int .i64 d2])).run Tryd.prog w = .ok (.bool (!(a == b && d == d2))) w:=by
 rw [run_neq_struct,run_equalIn_agg w 9999 _ _ _ (by kernel_rfl) zGZ]
 simp [go_sem,zM]
 split <;> (try split) <;> simp_all
theorem zCA {n:Nat}{w w1:World}(h:Below n w w1)(k:Nat):Below n w (w1.drewN k):=⟨h.os,h.tape,h.output,h.size,h.block⟩
theorem zFx (a b:List UInt8):((cbs a).toList != (cbs b).toList) = !(a == b):=by rw [bne,zCh]
theorem zAZ (w:World)(ks ls:List Pm)(p q:Option Addr)(c d:Nat)(hp:LAt PIs 4 w 0 p ks)(hq:LAt PIs 4 w 0 q ls)(hl:ks.length ≤ 9223372036854775807) :
 Calls Tryd.prog 33 #[.slice p ks.length c,.slice q ls.length d] w fun e w' => e = .returned (.bool (sameLs sameP ks ls)) ∧ Below w.heap.size w w':=by
 have HP:=vH hp
 have HQ:=vH hq
 have HL:=vH hl
 clear hp hq hl
 by_cases hlen:ks.length = ls.length
 ·have hd0:((ks.length:Int) != (ls.length:Int)) = false:=by rw [hlen]; exact bne_self_eq_false _
  have HLEN:=vH hlen
  clear hlen
  go_in
  go_wp2_with fail
  go_loopg [5] ks.length (fun n v wr => ∃ j:Nat,n + j = ks.length ∧ v = .int .i64 (j:Int) ∧ Below w.heap.size w wr ∧ sameLs sameP (ks.drop j) (ls.drop j) = sameLs sameP ks ls)
  case atStart => exact ⟨0,rfl,rfl,Below.refl _ _,rfl⟩
  case round =>
   obtain ⟨j,hj,rfl,hb,hs⟩:=hrel
   have HB:=vH hb
   have HS:=vH hs
   have HJ:=vH hj
   clear hb hs hj
   cases gk with
   | zero =>
     obtain rfl:j = ks.length:=by have:=HJ.out; omega
     have hd1:decide ((ks.length:Int) < (ks.length:Int)) = false:=decide_eq_false (by omega)
     go_wp2_with fail
     go_ret
     refine ⟨zS ?_,HB.out⟩
     rw [← HS.out,List.drop_of_length_le (Nat.le_refl _),List.drop_of_length_le (by rw [HLEN.out]; exact Nat.le_refl _),sameLs]
   | succ m =>
     have hjl:j < ks.length:=by have:=HJ.out; omega
     have hjl2:j < ls.length:=by have:=HLEN.out; omega
     have hd1:decide ((j:Int) < (ks.length:Int)) = true:=decide_eq_true (by omega)
     have hi1:(j:Int) < (ks.length:Int):=by omega
     have hi2:(j:Int) < (ls.length:Int):=by omega
     have hd2:decide (ks.length ≤ j) = false:=decide_eq_false (by omega)
     have hd3:decide (ls.length ≤ j) = false:=decide_eq_false (by omega)
     have hdw:wrap64 ((j:Int) + 1) = ((j + 1:Nat):Int):=by have:=HL.out; simp [wrap64]; omega
     have he1:=List.getElem?_eq_getElem hjl
     have he2:=List.getElem?_eq_getElem hjl2
     have hd4:ks.drop j = ks[j] :: ks.drop (j + 1):=List.drop_eq_getElem_cons hjl
     have hd5:ls.drop j = ls[j] :: ls.drop (j + 1):=List.drop_eq_getElem_cons hjl2
     generalize ks[j] = e1 at he1 hd4
     generalize ls[j] = e2 at he2 hd5
     have HD4:=vH hd4
     have HD5:=vH hd5
     obtain ⟨bl,off,vs,rfl,hbl,hi,hc⟩:=(LAt.ag (w:=w) (w1:=wr) (fun _ _ h => h) HP.out (Ag.below HB.out)).get he1
     obtain ⟨bl2,off2,vs2,rfl,hbl2,hi2',hc2⟩:=(LAt.ag (w:=w) (w1:=wr) (fun _ _ h => h) HQ.out (Ag.below HB.out)).get he2
     clear he1 he2 hd4 hd5
     obtain ⟨xs,xo,xd,xa⟩:=e1
     obtain ⟨ys,yo,yd,ya⟩:=e2
     rw [PIs] at hi hi2'
     subst hi hi2'
     have x0:=hc 0 _ (by decide) rfl
     have x1:=hc 1 _ (by decide) rfl
     have x2:=hc 2 _ (by decide) rfl
     have y0:=hc2 0 _ (by decide) rfl
     have y1:=hc2 1 _ (by decide) rfl
     have y2:=hc2 2 _ (by decide) rfl
     simp only [Nat.add_zero] at x0 y0
     clear hc hc2
     have hi3:(0:Int) ≤ (j:Int):=by omega
     have hN:=zKo xo yo xd yd
     have hsx:=zCh xs ys
     have hsy:=zFx xs ys
     obtain ⟨bs,hbs⟩:∃ bs,sameP ⟨xs,xo,xd,xa⟩ ⟨ys,yo,yd,ya⟩ = bs:=⟨_,rfl⟩
     have HSE:=vH hbs
     have hsp:bs = ((xs == ys) && (xo == yo && xd == yd)):=hbs.symm
     clear hbs
     generalize (xs == ys) = g1 at hsx hsy hsp
     generalize (xo == yo && xd == yd) = g2 at hN hsp
     cases g1 with
     | false =>
       subst hsp
       simp only [Bool.not_false] at hsy
       go_wp2_with fail
       go_quiet (fail)
       go_wp2_with fail
       go_ret
       refine ⟨zS ?_,(zCA HB.out nq)⟩
       rw [← HS.out,HD4.out,HD5.out,sameLs,HSE.out]
       rfl
     | true =>
       simp only [Bool.not_true] at hsy
       cases g2 with
       | false =>
         subst hsp
         simp only [Bool.not_false] at hN
         go_wp2_with fail
         go_quiet (fail)
         go_wp2_with fail
         go_ret
         refine ⟨zS ?_,(zCA HB.out nq)⟩
         rw [← HS.out,HD4.out,HD5.out,sameLs,HSE.out]
         rfl
       | true =>
         subst hsp
         simp only [Bool.not_true] at hN
         go_wp2_with fail
         go_quiet (fail)
         go_wp2_with fail
         go_roundg m
         case measure => omega
         case rel => exact ⟨j + 1,by have:=HJ.out; omega,by first | rfl | simp [hdw],(zCA HB.out nq),by rw [← HS.out,HD4.out,HD5.out,sameLs,HSE.out]; rfl⟩
 ·have hd0:((ks.length:Int) != (ls.length:Int)) = true:=bne_iff_ne.2 (by omega)
  rw [zA4 _ _ hlen]
  clear hlen
  go_in
  go_wp2_with fail
  go_ret
  exact ⟨rfl,Below.refl _ _⟩
end Go.Proofs.YtmiiplefgkcklaaDoor
