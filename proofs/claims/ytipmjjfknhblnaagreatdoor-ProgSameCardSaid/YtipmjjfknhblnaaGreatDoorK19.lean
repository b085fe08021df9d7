/-
  The contracts of the project's reader of statements: any sta
-/
import Derived.Test.YtipmjjfknhblnaaGreatDoorK18
import Derived.Test.YtipmjjfknhblnaaGreatDoorK02
import Derived.Deep.LoopGhost
import Derived.Maps.AppendAt
import Derived.Deep.RegionWith
set_option maxRecDepth 8000
set_option maxHeartbeats 8000000
namespace Go.Proofs.YtipmjjfknhblnaaGreatDoor
open Go.RowKit
open Px (RT tokAt)
open Pe
open Ps (Sm PX)
def StOk (ts:List RT)(recS:St → Ps.Out):Prop:=∀ (s:St)(x:Sm × St),recS s = some x → ∀ (w:World)(R M1 M2:Nat)(S:Value),Rq w R M1 M2 S ts s →
 Calls Tryz.prog 115 #[.pointer (some ⟨R,0,none⟩)] w (StPost w R M1 M2 S ts x)
theorem zDL {ts:List RT}{P:PX}(hP:POk ts P){recB:St → Ps.OutB}(hB:BlOk ts recB):StOk ts (Ps.statement ts P recB):=by
 intro s x hx w R M1 M2 S h
 obtain ⟨y,s2,hy,rfl⟩:∃ y s2,Ps.step ts P recB s = some (y,s2) ∧ x = (y.put (peek ts s.c).at_,s2):=by
  unfold Ps.statement at hx
  split at hx
  ·cases hx
  ·rename_i y s2 hy
   exact ⟨y,s2,hy,(Option.some.inj hx).symm⟩
 have hfr:=fun w1 hh => zKy w1 R M1 M2 S ts s hh P hP
 by_cases h0:(peek ts s.c).text = [118,97,114]
 ·by_cases hK:(peek ts s.c).kind = 3
  ·simp only [Ps.step,if_pos hK,if_pos h0] at hy
   have he:=Option.some.inj hy
   have hc:=fun w1 hh => zEe w1 R M1 M2 S ts s hh
   rw [he] at hc
   exact zND w R M1 M2 S ts s h (y,s2) (fun w1 hm => zEm h0 hm) (.inl ⟨_,rfl,rfl,hK,(enters_of Tryz.func122 (by kernel_rfl) rfl),hc⟩)
  ·simp only [Ps.step,if_neg hK] at hy
   rw [Option.some.inj hy] at hfr
   exact zND w R M1 M2 S ts s h (y,s2) (fun w1 hm => zEm h0 hm) (.inr ⟨.inl hK,hfr⟩)
 by_cases h1:(peek ts s.c).text = [108,101,116]
 ·by_cases hK:(peek ts s.c).kind = 3
  ·simp only [Ps.step,if_pos hK,if_neg h0,if_pos h1] at hy
   have he:=Option.some.inj hy
   have hc:=fun w1 hh => zDn w1 R M1 M2 S ts s hh P hP
   rw [he] at hc
   exact zND w R M1 M2 S ts s h (y,s2) (fun w1 hm => zEl h1 hm) (.inl ⟨_,rfl,rfl,hK,(enters_of Tryz.func123 (by kernel_rfl) rfl),hc⟩)
  ·simp only [Ps.step,if_neg hK] at hy
   rw [Option.some.inj hy] at hfr
   exact zND w R M1 M2 S ts s h (y,s2) (fun w1 hm => zEl h1 hm) (.inr ⟨.inl hK,hfr⟩)
 by_cases h2:(peek ts s.c).text = [105,102]
 ·by_cases hK:(peek ts s.c).kind = 3
  ·simp only [Ps.step,if_pos hK,if_neg h0,if_neg h1,if_pos h2] at hy
   exact zND w R M1 M2 S ts s h (y,s2) (fun w1 hm => zEk h2 hm) (.inl ⟨_,rfl,rfl,hK,(enters_of Tryz.func124 (by kernel_rfl) rfl),(fun w1 hh => zHF w1 R M1 M2 S ts s hh P hP recB hB (y,s2) hy)⟩)
  ·simp only [Ps.step,if_neg hK] at hy
   rw [Option.some.inj hy] at hfr
   exact zND w R M1 M2 S ts s h (y,s2) (fun w1 hm => zEk h2 hm) (.inr ⟨.inl hK,hfr⟩)
 by_cases h3:(peek ts s.c).text = [119,104,105,108,101]
 ·by_cases hK:(peek ts s.c).kind = 3
  ·simp only [Ps.step,if_pos hK,if_neg h0,if_neg h1,if_neg h2,if_pos h3] at hy
   exact zND w R M1 M2 S ts s h (y,s2) (fun w1 hm => zEj h3 hm) (.inl ⟨_,rfl,rfl,hK,(enters_of Tryz.func125 (by kernel_rfl) rfl),(fun w1 hh => zKm w1 R M1 M2 S ts s hh P hP recB hB (y,s2) hy)⟩)
  ·simp only [Ps.step,if_neg hK] at hy
   rw [Option.some.inj hy] at hfr
   exact zND w R M1 M2 S ts s h (y,s2) (fun w1 hm => zEj h3 hm) (.inr ⟨.inl hK,hfr⟩)
 by_cases h4:(peek ts s.c).text = [114,101,116,117,114,110]
 ·by_cases hK:(peek ts s.c).kind = 3
  ·simp only [Ps.step,if_pos hK,if_neg h0,if_neg h1,if_neg h2,if_neg h3,if_pos h4] at hy
   have he:=Option.some.inj hy
   have hc:=fun w1 hh => zGW w1 R M1 M2 S ts s hh P hP
   rw [he] at hc
   exact zND w R M1 M2 S ts s h (y,s2) (fun w1 hm => zEi h4 hm) (.inl ⟨_,rfl,rfl,hK,(enters_of Tryz.func126 (by kernel_rfl) rfl),hc⟩)
  ·simp only [Ps.step,if_neg hK] at hy
   rw [Option.some.inj hy] at hfr
   exact zND w R M1 M2 S ts s h (y,s2) (fun w1 hm => zEi h4 hm) (.inr ⟨.inl hK,hfr⟩)
 by_cases h5:(peek ts s.c).text = [112,114,105,110,116]
 ·by_cases hK:(peek ts s.c).kind = 3
  ·simp only [Ps.step,if_pos hK,if_neg h0,if_neg h1,if_neg h2,if_neg h3,if_neg h4,if_pos h5] at hy
   have he:=Option.some.inj hy
   have hc:=fun w1 hh => zHt w1 R M1 M2 S ts s hh P hP
   rw [he] at hc
   exact zND w R M1 M2 S ts s h (y,s2) (fun w1 hm => zEh h5 hm) (.inl ⟨_,rfl,rfl,hK,(enters_of Tryz.func127 (by kernel_rfl) rfl),hc⟩)
  ·simp only [Ps.step,if_neg hK] at hy
   rw [Option.some.inj hy] at hfr
   exact zND w R M1 M2 S ts s h (y,s2) (fun w1 hm => zEh h5 hm) (.inr ⟨.inl hK,hfr⟩)
 have hy2:Ps.fromExpr ts P s = (y,s2):=by
  by_cases hK:(peek ts s.c).kind = 3
  ·simp only [Ps.step,if_pos hK,if_neg h0,if_neg h1,if_neg h2,if_neg h3,if_neg h4,if_neg h5] at hy
   exact Option.some.inj hy
  ·simp only [Ps.step,if_neg hK] at hy
   exact Option.some.inj hy
 rw [hy2] at hfr
 exact zND w R M1 M2 S ts s h (y,s2) (fun w1 hm => zGC h0 h1 h2 h3 h4 h5 hm) (.inr ⟨.inr rfl,hfr⟩)
def SBut (g:Option Nat)(w:World)(B:Nat)(x:Sm)(vs:List Value):Prop:=
 ∀ w':World,w.heap.size ≤ w'.heap.size → (∀ bl,B ≤ bl → bl < w.heap.size → some bl ≠ g → w'.heap[bl]? = w.heap[bl]?) → SIs w' B x vs
section
variable {g g':Option Nat} {w w1:World} {B B2:Nat} {x:Sm} {vs:List Value}
theorem SBut.now (h:SBut g w B x vs):SIs w B x vs:=h w (Nat.le_refl _) fun _ _ _ _ => rfl
theorem SBut.of (h:SIs w B2 x vs)(hB:B ≤ B2)(hg:∀ k,g = some k → k < B2):SBut g w B x vs:=
 fun w' hs hk => SIs.lower hB _ (SIs.ag ⟨hs,fun bl h1 h2 => hk bl (Nat.le_trans hB h1) h2 (fun e => by have:=hg _ e.symm; omega)⟩ _ h)
theorem SBut.go (h:SBut g w B x vs)(hs:w.heap.size ≤ w1.heap.size)(hk:∀ bl,B ≤ bl → bl < w.heap.size → some bl ≠ g → w1.heap[bl]? = w.heap[bl]?):SBut g w1 B x vs:=
 fun w' hs' hk' => h w' (Nat.le_trans hs hs') fun bl h1 h2 h3 => (hk' bl h1 (Nat.lt_of_lt_of_le h2 hs) h3).trans (hk bl h1 h2 h3)
theorem SBut.move (h:SBut g w B x vs)(hs:w.heap.size ≤ w1.heap.size)(hk:∀ bl,B ≤ bl → bl < w.heap.size → some bl ≠ g → w1.heap[bl]? = w.heap[bl]?)(hg:g' = g ∨ ∃ k,g' = some k ∧ w.heap.size ≤ k):SBut g' w1 B x vs:=by
 rcases hg with rfl | ⟨k,rfl,hge⟩
 ·exact h.go hs hk
 ·exact fun w' hs' hk' => h w' (Nat.le_trans hs hs') fun bl h1 h2 h3 => (hk' bl h1 (Nat.lt_of_lt_of_le h2 hs) (fun e => by injection e with e; omega)).trans (hk bl h1 h2 h3)
end
theorem SAt.of_row {w:World}{B bl:Nat}{T:TypeId}{A:Array Value}(hb:w.heap[bl]? = some (.cells A T (0,0))):∀ (xs:List Sm)(off:Nat)(vss:List (List Value)),vss.length = xs.length → (∀ (i:Nat) x vs,xs[i]? = some x → vss[i]? = some vs → SIs w B x vs) →
 (∀ (i:Nat),i < vss.flatten.length → A[off + i]? = vss.flatten[i]?) → SAt w B bl off xs
 | [],_,_,_,_,_ => by rw [SAt]; trivial
 | x :: xs,off,[],hl,_,_ => by simp at hl
 | x :: xs,off,vs :: vss,hl,hi,hc => by
   rw [SAt]
   have h0:=hi 0 x vs rfl rfl
   have hlen:=h0.len
   refine ⟨⟨vs,h0,fun i v hv => ?_⟩,SAt.of_row hb xs (off + 9) vss (by simpa using hl) (fun i e vs he hvs => hi (i + 1) e vs he hvs) fun i hlt => ?_⟩
   ·have hlt:i < vs.length:=(List.getElem?_eq_some_iff.1 hv).1
    rw [cell_of_row _ _ _ _ _ _ hb,hc i (by simp; omega),List.flatten_cons,List.getElem?_append_left hlt,hv]
   ·have:=hc (9 + i) (by simp at hlt ⊢; omega)
    rw [List.flatten_cons,List.getElem?_append_right (by omega),hlen,show 9 + i - 9 = i by omega] at this
    rw [← this]
    congr 1
    omega
structure SmSt (w wr:World) (R:Nat) (v:Value) (l:List Sm):Prop where
 gr:Gr R w wr
 own:∃ vss:List (List Value),vss.length = l.length ∧ wr.ownsRow w.heap.size 90 9 v l.length vss.flatten ∧ ∀ (i:Nat) e vs,l[i]? = some e → vss[i]? = some vs → SBut v.ownBlock wr w.heap.size e vs
section
variable {w wr w' w1 w3:World} {R:Nat} {v v':Value} {l:List Sm}
theorem SmSt.start (hg:Gr R w wr):SmSt w wr R (.slice none 0 0) []:=⟨hg,[],rfl,World.ownsRow_nil _ _ _ _,fun i e vs h _ => by simp at h⟩
theorem SmSt.go (h:SmSt w wr R v l)(hlt:R < w.heap.size)(hg:Gr R wr w'):SmSt w w' R v l:=by
 obtain ⟨vss,h1,h2,h3⟩:=h.own
 exact ⟨h.gr.trans hg,vss,h1,zEJ h2 hg hlt,fun i e vs he hv => (h3 i e vs he hv).go hg.size fun bl hb hl _ => hg.block bl hl (by omega)⟩
theorem SmSt.own_lt (h:SmSt w wr R v l):∀ k,v.ownBlock = some k → w.heap.size ≤ k ∧ k < wr.heap.size:=by
 obtain ⟨vss,h1,h2,h3⟩:=h.own
 exact fun k hk => h2.lt k hk
theorem SmSt.push {x:Sm}{vs:List Value}{T:TypeId}{A:Array Value}(_hlt:R < w.heap.size)(h:SmSt w w1 R v l)(hwr:∀ k,v.ownBlock = some k → k < wr.heap.size)(hB:w.heap.size ≤ wr.heap.size)
 (hi:SIs w1 wr.heap.size x vs) {vss:List (List Value)} (hl:vss.length = l.length) (hk:∀ (i:Nat) e vs,l[i]? = some e → vss[i]? = some vs → SBut v.ownBlock w1 w.heap.size e vs)
 (hown:w3.ownsRow w.heap.size 90 9 v' (l.length + 1) (vss.flatten ++ vs)) (hgrow:(w1.alloc (.cells A T)).grownBy w3 v.ownBlock) (hat:v'.ownBlock = v.ownBlock ∨ v'.ownBlock = some (w1.heap.size + 1)) :
 SmSt w w3 R v' (l ++ [x]) ∧ Nw R w w1 w3:=by
 have hsz:w.heap.size ≤ w1.heap.size:=h.gr.size
 have ha:∀ bl,bl < w1.heap.size → (w1.alloc (.cells A T)).heap[bl]? = w1.heap[bl]?:=fun bl hb => heap_alloc_old _ _ hb
 have hgb:∀ bl,bl < w1.heap.size → some bl ≠ v.ownBlock → w3.heap[bl]? = w1.heap[bl]?:=fun bl hb hne => (hgrow.block bl (by rw [zB]; omega) hne).trans (ha bl hb)
 have hs3:w1.heap.size ≤ w3.heap.size:=by have:=hgrow.size; rw [zB] at this; omega
 have hlow:∀ bl,bl < w.heap.size → w3.heap[bl]? = w1.heap[bl]?:=fun bl hb => hgb bl (by omega) (fun e => by have:=(h.own_lt bl e.symm).1; omega)
 have hn:Nw R w w1 w3:=⟨⟨hgrow.os,hgrow.tape,hgrow.output,hs3,hlow⟩,⟨hgrow.os.trans h.gr.os,hgrow.tape.trans h.gr.tape,hgrow.output.trans h.gr.output,Nat.le_trans hsz hs3,fun i hi hne => (hlow i hi).trans (h.gr.block i hi hne)⟩⟩
 refine ⟨⟨hn.gr,vss ++ [vs],by simp [hl],by simpa using hown,fun i e' vs' he hv => ?_⟩,hn⟩
 have hnew:v'.ownBlock = v.ownBlock ∨ ∃ k,v'.ownBlock = some k ∧ w1.heap.size ≤ k:=by
  rcases hat with h1 | h1
  ·exact .inl h1
  ·exact .inr ⟨_,h1,by omega⟩
 have hlen:vss.length = l.length:=hl
 by_cases hi':i < l.length
 ·rw [List.getElem?_append_left hi'] at he
  rw [List.getElem?_append_left (by omega)] at hv
  exact (hk i e' vs' he hv).move hs3 (fun bl _ hb hne => hgb bl hb hne) hnew
 ·have hieq:i = l.length:=by
   have:=(List.getElem?_eq_some_iff.1 he).1
   simp at this
   omega
  subst hieq
  simp at he
  rw [← hlen] at hv
  simp at hv
  subst he hv
  exact (SBut.of (g:=v.ownBlock) hi hB hwr).move hs3 (fun bl _ hb hne => hgb bl hb hne) hnew
theorem SmSt.done (h:SmSt w wr R v l):∃ p c,v = .slice p l.length c ∧ SsAt wr w.heap.size p l:=by
 obtain ⟨vss,h1,h2,h3⟩:=h.own
 rcases h2.2 with ⟨hv,h0⟩ | ⟨g,cap,cur,hv,hb,hc,hn,hcap,hsize,htake⟩
 ·have:l = []:=List.eq_nil_of_length_eq_zero h0
  subst this
  exact ⟨none,0,by rw [hv]; rfl,.inl rfl⟩
 ·refine ⟨_,cap,by rw [hv],.inr ⟨g,0,rfl,zA hc,hb,SAt.of_row hc l 0 vss h1 (fun i e vs he hvs => (h3 i e vs he hvs).now) fun i hlt => ?_⟩⟩
  rw [← htake] at hlt ⊢
  have hlt2:i < l.length * 9:=by simp at hlt; omega
  simp [hlt2]
end
theorem zKX (kind:Int)(name ofn:List UInt8)(dims:Int)(p:Option Addr)(n c:Nat)(p2:Option Addr)(n2 c2:Nat)(p3:Option Addr)(n3 c3:Nat)(at_ ref:Int):∀ u ∈ smCells kind name ofn dims (.slice p n c) (.slice p2 n2 c2) (.slice p3 n3 c3) at_ ref,u.oneCell' = true:=by
 intro u hu
 simp [smCells] at hu
 rcases hu with rfl | rfl | rfl | rfl | rfl | rfl | rfl | rfl | rfl <;> rfl
theorem zK8:(Tryz.prog.info? 90).map (fun i => (i.zero,i.size,i.bytes)) = some (some (.agg #[.int .i64 0,.string ⟨#[]⟩,.string ⟨#[]⟩,.int .i64 0,.slice none 0 0,.slice none 0 0,.slice none 0 0,.int .i64 0,.int .i64 0]),9,136):=by kernel_rfl
theorem zHG {ts:List RT}{recS:St → Ps.Out}{g:Nat}{s:St}{x:List Sm × St}(h:Ps.block ts recS g s = some x):∃ l s2,Ps.stLoop ts recS g [] (enter ts s [123]).2 = some (l,s2) ∧ x = (l,leave ts s2 [125]):=by
 unfold Ps.block at h
 split at h
 ·cases h
 ·rename_i l s2 hl
  exact ⟨l,s2,hl,(Option.some.inj h).symm⟩
theorem zLy {ts:List RT}{recS:St → Ps.Out}{l:List Sm}{s:St}{x:List Sm × St}(h:Ps.stLoop ts recS 0 l s = some x):False:=by
 rw [Ps.stLoop] at h; cases h
theorem zMM {ts:List RT}{recS:St → Ps.Out}{g:Nat}{l:List Sm}{s:St}{x:List Sm × St}(h:Ps.stLoop ts recS (g + 1) l s = some x)(hv:sees ts s.c 4 [125] = true):x = (l,s):=by
 rw [Ps.stLoop,if_pos hv] at h
 exact (Option.some.inj h).symm
theorem zML {ts:List RT}{recS:St → Ps.Out}{g:Nat}{l:List Sm}{s:St}{x:List Sm × St}(h:Ps.stLoop ts recS (g + 1) l s = some x)(hv:sees ts s.c 4 [125] = false)(hk:(peek ts s.c).kind = 0):x = (l,s):=by
 rw [Ps.stLoop,if_neg (by rw [hv]; simp),if_pos hk] at h
 exact (Option.some.inj h).symm
theorem zLz {ts:List RT}{recS:St → Ps.Out}{g:Nat}{l:List Sm}{s:St}{x:List Sm × St}(h:Ps.stLoop ts recS (g + 1) l s = some x)(hv:sees ts s.c 4 [125] = false)(hk:¬ (peek ts s.c).kind = 0):∃ y s2,recS s = some (y,s2) ∧ Ps.stLoop ts recS g (l ++ [y]) s2 = some x:=by
 rw [Ps.stLoop,if_neg (by rw [hv]; simp),if_neg hk] at h
 split at h
 ·cases h
 ·rename_i y s2 hy
  exact ⟨y,s2,hy,h⟩
structure LpSt (w wr:World) (R M1 M2:Nat) (S:Value) (ts:List RT) (v:Value) (l:List Sm) (s:St):Prop where
 rq:Rq wr R M1 M2 S ts s
 sm:SmSt w wr R v l
theorem LpSt.go {w wr w':World}{R M1 M2:Nat}{S:Value}{ts:List RT}{v:Value}{l:List Sm}{s s2:St}(h:LpSt w wr R M1 M2 S ts v l s)(hlt:R < w.heap.size)(hr:Rq w' R M1 M2 S ts s2)(hg:Gr R wr w'):LpSt w w' R M1 M2 S ts v l s2:=⟨hr,h.sm.go hlt hg⟩
theorem zJs (w:World)(R M1 M2:Nat)(S:Value)(ts:List RT)(s:St)(h:Rq w R M1 M2 S ts s)(recS:St → Ps.Out)(hS:StOk ts recS)(g:Nat)(hg:g ≤ 1000000000)(x:List Sm × St)(hx:Ps.block ts recS g s = some x) :
 Calls Tryz.prog 103 #[.pointer (some ⟨R,0,none⟩)] w (BlPost w R M1 M2 S ts x):=by
 obtain ⟨l3,s3,h3,rfl⟩:=zHG hx
 have hlt:=h.lt
 have HH:=vH h
 have HS:=vH hS
 have hen:=zDG w R 137 S s.o [.map (some M1),.map (some M2)] ts s.c h.nested ⟨#[123]⟩
 have hes:(enter ts s [123]).2 = ⟨(enterC ts s.c s.o [123]).2,inc s.o⟩:=rfl
 rw [hes] at h3
 obtain ⟨s0,hs0⟩:∃ s0,s0 = (enterC ts s.c s.o [123]).2:=⟨_,rfl⟩
 obtain ⟨t0,ht0⟩:∃ t0,t0 = (enterC ts s.c s.o [123]).1:=⟨_,rfl⟩
 change Calls _ _ _ _ (fun e w' => e = .returned (tokW (enterC ts s.c s.o [123]).1) ∧ Cu w' R _ S (.int .i64 (inc s.o) :: [.map (some M1),.map (some M2)]) ts (enterC ts s.c s.o [123]).2 ∧ Gr R w w') at hen
 rw [← hs0,← ht0] at hen
 rw [← hs0] at h3
 have HE:=vH hen
 have H3:=vH h3
 have HG9:=vH hg
 obtain ⟨i0,hi0,hz0,hz1,hz2⟩:=info_parts zK8
 have hfd:∀ (w1:World) (t:RT),(Instr.field 52 (.agg #[.int .i64 t.kind,.string (cbs t.text),.int .i64 t.num,.int .i64 t.at_]) 0).run Tryz.prog w1 = .ok (.int .i64 t.kind) w1:=fun _ _ => by kernel_rfl
 clear h hS hx hen h3 hs0 ht0 hes hg
 go_in
 go_wp2_with fail
 refine (HE.out).mono ?_
 rintro e w1 ⟨rfl,hc,hg1⟩
 have HA:Hid (LpSt w w1 R M1 M2 S ts (.slice none 0 0) [] ⟨s0,inc s.o⟩):=vH ⟨HH.out.cur hg1 hc,SmSt.start hg1⟩
 clear hc hg1 HE
 go_wp2_with fail
 go_loopg [3] g (fun n v wr => ∃ l s4,LpSt w wr R M1 M2 S ts v l s4 ∧ Ps.stLoop ts recS n l s4 = some (l3,s3) ∧ l.length + n ≤ 1000000001)
 case atStart => exact ⟨_,_,HA.out,H3.out,by have:=HG9.out; simp; omega⟩
 case round =>
  obtain ⟨l,s4,ha,h3,hbd⟩:=hrel
  have HA4:=vH ha
  have H34:=vH h3
  clear ha h3 HA
  cases gk with
  | zero => exact (zLy H34.out).elim
  | succ m =>
    have HBD:=vH (show l.length + 1 ≤ 1000000001 by omega)
    have HBM:=vH hbd
    clear hbd
    go_wp2_with fail
    refine (zG _ R _ S _ ts s4.c HA4.out.rq.cu ⟨#[125]⟩).mono ?_
    rintro e w5 ⟨rfl,hb⟩
    have HA5:=vH (HA4.out.go hlt (HA4.out.rq.go hb) (Gr.of hb))
    clear hb HA4
    cases hv:sees ts s4.c 4 [125] with
    | true =>
      have hx:=zMM H34.out hv
      injection hx with hx1 hx2
      subst hx1 hx2
      try rw [hv]
      clear hv
      go_wp2_with fail
      refine (zJ _ R 137 S _ ts s3.c HA5.out.rq.cu ⟨#[125]⟩).mono ?_
      rintro e w7 ⟨rfl,hc,hg⟩
      have HA7:=vH (HA5.out.go hlt (HA5.out.rq.cur hg hc) hg)
      clear hc hg HA5
      go_wp2_with fail
      refine (zCk _ R 137 S s3.o [.map (some M1),.map (some M2)] ts _ HA7.out.rq.nested).mono ?_
      rintro e w8 ⟨rfl,hc,hg⟩
      have HA8:=vH (HA7.out.go hlt (HA7.out.rq.cur hg hc) hg)
      clear hc hg HA7
      go_wp2_with fail
      obtain ⟨p,c,hpv,hat⟩:=HA8.out.sm.done
      exact bodyPost_ret (v:=u3) (by simp [results,Tryz.results103,go_sem]) rfl ⟨p,c,by rw [hpv],hat,HA8.out.rq,HA8.out.sm.gr⟩
    | false =>
      obtain ⟨t,ht⟩:∃ t,peek ts s4.c = t:=⟨_,rfl⟩
      have HPK:=vH (zAA R M1 M2 S ts s4 ht)
      try rw [hv]
      have HV:=vH hv
      have HT:=vH ht
      clear hv ht
      go_wp2_with fail
      refine (HPK.out _ HA5.out.rq).mono ?_
      rintro e w6 ⟨rfl,hb⟩
      have HA6:=vH (HA5.out.go hlt (HA5.out.rq.go hb) (Gr.of hb))
      clear hb HA5
      by_cases hk:t.kind = 0
      ·have hx:=zML H34.out HV.out (by rw [HT.out]; exact hk)
       injection hx with hx1 hx2
       subst hx1 hx2
       have hkb:(t.kind != 0) = false:=by simp [hk]
       clear hk
       go_wp2_with fail
       refine (zJ _ R 137 S _ ts s3.c HA6.out.rq.cu ⟨#[125]⟩).mono ?_
       rintro e w7 ⟨rfl,hc,hg⟩
       have HA7:=vH (HA6.out.go hlt (HA6.out.rq.cur hg hc) hg)
       clear hc hg HA6
       go_wp2_with fail
       refine (zCk _ R 137 S s3.o [.map (some M1),.map (some M2)] ts _ HA7.out.rq.nested).mono ?_
       rintro e w8 ⟨rfl,hc,hg⟩
       have HA8:=vH (HA7.out.go hlt (HA7.out.rq.cur hg hc) hg)
       clear hc hg HA7
       go_wp2_with fail
       obtain ⟨p,c,hpv,hat⟩:=HA8.out.sm.done
       exact bodyPost_ret (v:=u3) (by simp [results,Tryz.results103,go_sem]) rfl ⟨p,c,by rw [hpv],hat,HA8.out.rq,HA8.out.sm.gr⟩
      ·obtain ⟨y,s5,he,h5⟩:=zLz H34.out HV.out (by rw [HT.out]; exact hk)
       have HREC:=vH he
       have H5:=vH h5
       have hkb:(t.kind != 0) = true:=by simpa using hk
       clear hk he h5 H34
       go_wp2_with fail
       have hwr:∀ k,Value.ownBlock (u3) = some k → k < w6.heap.size:=fun k hk => (HA6.out.sm.own_lt k hk).2
       have HWR:=vH hwr
       clear hwr
       have hsB:w.heap.size ≤ w6.heap.size:=HA6.out.sm.gr.size
       refine (HS.out _ _ HREC.out _ R M1 M2 S HA6.out.rq).mono ?_
       rintro e w7 ⟨sk,sn,so,sd,sep,sel,sec,sbp,sbl,sbc,slp,sll,slc,sa,sr,rfl,hi,hr,hg⟩
       have HIQ:=vH hi
       have HX:=vH (HA6.out.go hlt hr hg)
       clear hi hr hg
       obtain ⟨vss,hv1,hown,hkid⟩:=HX.out.sm.own
       have HO:=vH hown
       have HK:=vH hkid
       have HV1:=vH hv1
       have hsX:w.heap.size ≤ w7.heap.size:=HX.out.sm.gr.size
       clear hown hkid hv1
       go_wp2_with (at_builtin; refine wpList_append_own_at _ rfl _ _ 64 rfl w.heap.size 90 i0 _ 9 136 Tryz.underlying64 hi0 hz0 hz1 hz2 rfl (by decide) _ l.length _ rfl (HO.out.alloc _) ⟨w7.heap.size,0,none⟩ 1 1 (smCells sk sn so sd (.slice sep sel sec) (.slice sbp sbl sbc) (.slice slp sll slc) sa sr) rfl rfl ?c1 ?c2 ?c3 ?c4 ?c5 ?_)
       case c1 => exact zAy rfl rfl
       case c2 => exact zKX _ _ _ _ _ _ _ _ _ _ _ _ _ _ _
       case c3 => have:=HBD.out; unfold maxLen; omega
       case c4 => have:=HBD.out; omega
       case c5 => rw [zB]; omega
       intro v' w8 hown' hgrow _ hat
       have hpush:=SmSt.push hlt HX.out.sm HWR.out hsB HIQ.out HV1.out HK.out hown' hgrow hat
       have HA8:Hid (LpSt w w8 R M1 M2 S ts v' (l ++ [y]) s5):=vH ⟨HH.out.held _ _ _ hpush.2 HX.out.rq,hpush.1⟩
       clear hown' hgrow hat HO HK HV1 HX HIQ HWR hsX hsB hpush
       go_wp2_with fail
       go_roundg m
       case measure => omega
       case rel => exact ⟨_,_,HA8.out,H5.out,by have:=HBM.out; simp; omega⟩
end Go.Proofs.YtipmjjfknhblnaaGreatDoor
namespace Go.Proofs.YtipmjjfknhblnaaGreatDoor
open Go.RowKit
open Px (RT tokAt)
open Pe
open Ps (Sm PX)
theorem zK0 {ts:List RT}{P:PX}(hP:POk ts P):∀ f:Nat,f ≤ 1000000000 → StOk ts (Ps.run ts P f).1 ∧ BlOk ts (Ps.run ts P f).2
 | 0,_ => ⟨fun s x hx => by simp [Ps.run] at hx,fun s x hx => by simp [Ps.run] at hx⟩
 | f + 1,hf => by
   obtain ⟨h1,h2⟩:=zK0 hP f (by omega)
   refine ⟨zDL hP h2,fun s x hx w R M1 M2 S h => zJs w R M1 M2 S ts s h _ h1 f (by omega) x hx⟩
theorem zCr (w:World)(R:Nat)(T:TypeId)(S:Value)(X:List Value)(ts:List RT)(s:Cs)(h:Cu w R T S X ts s)(zp:Option Addr)(zl zc:Nat) :
 Calls Tryz.prog 102 #[.pointer (some ⟨R,0,none⟩),.slice zp zl zc] w fun e w' =>
  e = .returned (.tuple #[if s.E = 0 then .slice zp zl zc else .slice none 0 0,.int .i64 (ends s).1,.agg #[.int .i64 (ends s).2.1,.int .i64 (ends s).2.2]]) ∧ Below w.heap.size w w':=by
 obtain ⟨⟨c0,c1,c2,c3⟩,fr,hR⟩:=h.cells
 clear h c0 fr
 obtain ⟨k,E,F⟩:=s
 dsimp only at c1 c2 c3
 obtain ⟨wa,hwa⟩:∃ wa,wa = (w.alloc (.cells vF 29)):=⟨_,rfl⟩
 have hs:wa.heap.size = w.heap.size + 1:=by rw [hwa]; simp only [zB]
 have hb:Below w.heap.size w wa:=by rw [hwa]; exact (Below.refl _ _).alloc (Nat.le_refl _) _
 have hkb:wa.heap[w.heap.size]? = some (.cells vF 29 (0,0)):=by
  rw [hwa]; have:=heap_alloc_new (w) (.cells vF 29); try simp only [zB] at this
  exact this
 have e1:=zW c1 hR hb
 have e2:=zW c2 hR hb
 have e3:=zW c3 hR hb
 have hRa:R < wa.heap.size:=by omega
 have q2:=e2
 rw [hwa] at q2
 have HB:=vH hb
 by_cases hE:E = 0
 ·subst hE
  rw [show ends ⟨k,0,F⟩ = (k,0,0) from rfl]
  dsimp only
  rw [if_pos rfl]
  obtain ⟨⟨b0,b1⟩,⟨bg0,bg1⟩,hlb⟩:=duo hkb
  clear hkb c1 c2 c3 e2 e3 hb hs
  go_in
  go_wp2_with fail
  rw [← hwa]
  clear hwa q2
  go_region
  go_wp2_with fail
  refine bodyPost_ret (v:=.tuple #[.slice zp zl zc,.int .i64 k,.agg #[.int .i64 0,.int .i64 0]]) (by simp [results,Tryz.results102,go_sem,b0,b1]) rfl ⟨rfl,?_⟩
  refine zAM ?_
  repeat (refine zO ?_ (by omega))
  exact HB.out
 ·rw [show ends ⟨k,E,F⟩ = (0,E,F) from if_neg hE]
  dsimp only
  rw [if_neg hE]
  have hd:(E != 0) = true:=by simpa using hE
  obtain ⟨⟨b0,b1⟩,⟨bg0,bg1⟩,hlb⟩:=duo hkb
  clear hkb c1 c2 c3 e1 hb hs hE
  go_in
  go_wp2_with fail
  rw [← hwa]
  clear hwa q2
  go_region
  go_wp2_with fail
  refine bodyPost_ret (v:=.tuple #[.slice none 0 0,.int .i64 0,.agg #[.int .i64 E,.int .i64 F]]) (by simp [results,Tryz.results102,go_sem,b0,b1]) rfl ⟨rfl,?_⟩
  refine zAM ?_
  repeat (refine zO ?_ (by omega))
  exact HB.out
theorem zJI (w:World)(R0:Nat)(S:Value)(ts:List RT)(k o:Int)(h:Toks w R0 S ts)(hops:OpsIn w) :
 Calls Tryz.prog 101 #[S,.int .i64 k,.int .i64 o] w fun e w' => ∃ R M1 M2,e = .returned (.pointer (some ⟨R,0,none⟩)) ∧ w.heap.size ≤ R ∧ Rq w' R M1 M2 S ts ⟨⟨k,0,0⟩,clamp o⟩ ∧ Below w.heap.size w w':=by
 obtain ⟨p,n,c,rfl⟩:=h.slice
 have HT:=vH (h.re (Nat.le_refl _))
 obtain ⟨gt,gfr,hg⟩:=hops
 have HO:=vH hg
 clear h hg
 go_in
 go_wp2_with fail
 refine (zBX _ p n c k o).mono ?_
 rintro e w1 ⟨rfl,hb1⟩
 have HB1:=vH hb1
 clear hb1
 go_wp2_with fail
 refine (zGQ _).mono ?_
 rintro e w2 ⟨rfl,rfl⟩
 go_wp2_with fail
 refine (zGR _ w1.heap.size).mono ?_
 rintro e w2 ⟨rfl,rfl⟩
 go_wp2_with fail
 obtain ⟨o1,ho1⟩:∃ o1:Obj,o1 = .cells #[.slice p n c,.int .i64 k,.int .i64 0,.int .i64 0,.int .i64 (min (max o 0) 50),.map (some (w1.heap.size + 1)),.map (some (w1.heap.size + 1 + 1))] 137:=⟨_,rfl⟩
 rw [← ho1]
 have hb4:Below w1.heap.size w1 (((w1.alloc o1).alloc (.map smapWord 6)).alloc (.map (smapSign w1.heap.size) 2)):=
  (((Below.refl _ _).alloc (Nat.le_refl _) _).alloc (by rw [zB]; omega) _).alloc (by simp only [zB]; omega) _
 have hw:=zA HO.out
 have hs1:=HB1.out.size
 refine bodyPost_ret (v:=.pointer (some ⟨w1.heap.size,0,none⟩)) (by simp [results,Tryz.results101,go_sem]) rfl ⟨w1.heap.size,w1.heap.size + 1,w1.heap.size + 1 + 1,rfl,hs1,?_,zC HB1.out hb4 hs1⟩
 have k1:=heap_alloc_new (w1.alloc o1) (.map smapWord 6)
 have k2:=heap_alloc_new ((w1.alloc o1).alloc (.map smapWord 6)) (.map (smapSign w1.heap.size) 2)
 simp only [zB] at k1 k2
 refine ⟨⟨?_,((HT.out.below HB1.out).re (Nat.le_refl _)).below hb4⟩,zE _ k1,k2,by omega,by omega,⟨gt,gfr,(hb4.block _ (by omega)).trans ((HB1.out.block _ hw).trans HO.out)⟩,by omega⟩
 have k0:=zE (.map (smapSign w1.heap.size) 2) (zE (.map smapWord 6) (heap_alloc_new w1 o1))
 rw [k0,ho1]
 rfl
theorem own2 {w3:World}{B M:Nat}{d0 d1:Value}(hM:M < B):Ag B w3 ((w3.setCell ⟨M,0,none⟩ d0).setCell ⟨M,1,none⟩ d1):=(((Ag.refl B w3).set (.inl hM) d0).set (.inl hM) d1)
theorem zFY (w:World)(R0:Nat)(S:Value)(ts:List RT)(P:PX)(hP:POk ts P)(k o:Int)(h:Toks w R0 S ts)(hops:OpsIn w)(f:Nat)(hf:f ≤ 1000000000)(x:List Sm × Int × Int × Int)(hx:Ps.parseB ts P f k o = some x) :
 Calls Tryz.prog 93 #[S,.int .i64 k,.int .i64 o] w fun e w' => ∃ (p:Option Addr) (c:Nat),e = .returned (.tuple #[.slice p x.1.length c,.int .i64 x.2.1,.agg #[.int .i64 x.2.2.1,.int .i64 x.2.2.2]]) ∧ SsAt w' w.heap.size p x.1 ∧ Below w.heap.size w w':=by
 obtain ⟨p,n,c,rfl⟩:=h.slice
 obtain ⟨e0,s1,he,rfl⟩:∃ e0 s1,(Ps.run ts P f).2 ⟨⟨k,0,0⟩,clamp o⟩ = some (e0,s1) ∧ x = Ps.blEnd e0 s1.c:=by
  unfold Ps.parseB at hx
  split at hx
  ·cases hx
  ·rename_i e0 s1 he
   exact ⟨e0,s1,he,(Option.some.inj hx).symm⟩
 obtain ⟨w0,hw0⟩:∃ w0,w0 = w.alloc (.cells vF 29):=⟨_,rfl⟩
 have hb0:Below w.heap.size w w0:=by rw [hw0]; exact (Below.refl _ _).alloc (Nat.le_refl _) _
 have hk2:w0.heap[w.heap.size]? = some (.cells vF 29 (0,0)):=by rw [hw0]; exact heap_alloc_new w _
 have hs0:w0.heap.size = w.heap.size + 1:=by rw [hw0]; simp only [zB]
 have hrun:=(zK0 hP f hf).2 _ _ he
 have HRUN:=vH hrun
 have HT:=vH ((h.below hb0))
 have HOP:Hid (OpsIn w0):=by obtain ⟨gt,gfr,hg⟩:=hops; exact ⟨gt,gfr,(hb0.block _ (zA hg)).trans hg⟩
 have HB0:=vH hb0
 have HK2:=vH hk2
 have HS0:=vH hs0
 clear h hops he hx hb0 hk2 hs0 hP hrun
 go_in
 go_wp2_with fail
 rw [← hw0]
 refine (zJI _ R0 _ ts k o HT.out HOP.out).mono ?_
 rintro e w1 ⟨R,M1,M2,rfl,hR,hr,hb⟩
 have HR:=vH hr
 have HB1:=vH hb
 have HRR:=vH hR
 clear hr hb hR hw0
 obtain ⟨⟨k2,E2,F2⟩,o2⟩:=s1
 by_cases hE:E2 = 0
 ·subst hE
  go_wp2_with fail
  go_region_with (first
   | (go_at_call 103; refine (HRUN.out _ R M1 M2 _ (HR.out.go (Below.refl _ _).drew)).mono ?_; rintro e w2 ⟨qp,qc,rfl,hi,hr,hg⟩; have HR2:=vH hr; have HB2:=vH (zCH HB1.out ((Gr.of (Below.refl w1.heap.size w1).drew).trans hg) HRR.out HB1.out.size); have HI:=vH hi; have HZ:Hid (w1.heap.size ≤ w2.heap.size):=hg.size; have HS1:Hid (w0.heap.size ≤ w1.heap.size):=HB1.out.size; clear hr hg hi)
   | (go_at_call 102; refine (zCr _ R _ _ _ ts _ HR2.out.cu qp e0.length qc).mono ?_; rw [show ends ⟨k2,0,F2⟩ = (k2,0,0) from rfl]; dsimp only; rw [if_pos rfl]; rintro e w3 ⟨rfl,hb3⟩; have HB3:=vH (zC HB2.out hb3 (Nat.le_trans HS1.out HZ.out)); have HI3:=vH (HI.out.ag (Ag.below hb3)); obtain ⟨⟨b0,b1⟩,⟨h0,h1⟩,hlb⟩:=duo ((HB3.out.block _ (zA HK2.out)).trans HK2.out); clear hb3))
  all_goals go_wp2_with fail
  have hx:Ps.blEnd e0 ⟨k2,0,F2⟩ = (e0,k2,0,0):=if_pos rfl
  have hbw:Below w.heap.size w w3:=zC HB0.out HB3.out (by have:=HS0.out; omega)
  have hN1:w.heap.size < w1.heap.size:=by have:=HS0.out; have:=HS1.out; omega
  have hN2:w.heap.size < w1.heap.size:=by have:=HS0.out; have:=HS1.out; omega
  exact bodyPost_ret (v:=.tuple #[.slice qp e0.length qc,.int .i64 k2,.agg #[.int .i64 0,.int .i64 0]]) (by simp [results,Tryz.results93,go_sem,b0,b1]) rfl ⟨qp,⟨qc,by rw [hx]⟩,by rw [hx]; exact SsAt.lower (SsAt.ag HI3.out (own2 hN2)) (Nat.le_of_lt hN2),zO (zO hbw (Nat.le_refl _)) (Nat.le_refl _)⟩
 ·have HE2:=vH hE
  clear hE
  go_wp2_with fail
  go_region_with (first
   | (go_at_call 103; refine (HRUN.out _ R M1 M2 _ (HR.out.go (Below.refl _ _).drew)).mono ?_; rintro e w2 ⟨qp,qc,rfl,hi,hr,hg⟩; have HR2:=vH hr; have HB2:=vH (zCH HB1.out ((Gr.of (Below.refl w1.heap.size w1).drew).trans hg) HRR.out HB1.out.size); have HI:=vH hi; have HZ:Hid (w1.heap.size ≤ w2.heap.size):=hg.size; have HS1:Hid (w0.heap.size ≤ w1.heap.size):=HB1.out.size; clear hr hg hi)
   | (go_at_call 102; refine (zCr _ R _ _ _ ts _ HR2.out.cu qp e0.length qc).mono ?_; rw [show ends ⟨k2,E2,F2⟩ = (0,E2,F2) from if_neg HE2.out]; dsimp only; rw [if_neg HE2.out]; rintro e w3 ⟨rfl,hb3⟩; have HB3:=vH (zC HB2.out hb3 (Nat.le_trans HS1.out HZ.out)); have HI3:=vH (HI.out.ag (Ag.below hb3)); obtain ⟨⟨b0,b1⟩,⟨h0,h1⟩,hlb⟩:=duo ((HB3.out.block _ (zA HK2.out)).trans HK2.out); clear hb3))
  all_goals go_wp2_with fail
  have hx:Ps.blEnd e0 ⟨k2,E2,F2⟩ = ([],0,E2,F2):=if_neg HE2.out
  have hbw:Below w.heap.size w w3:=zC HB0.out HB3.out (by have:=HS0.out; omega)
  have hN1:w.heap.size < w1.heap.size:=by have:=HS0.out; have:=HS1.out; omega
  have hN2:w.heap.size < w1.heap.size:=by have:=HS0.out; have:=HS1.out; omega
  exact bodyPost_ret (v:=.tuple #[.slice none 0 0,.int .i64 0,.agg #[.int .i64 E2,.int .i64 F2]]) (by simp [results,Tryz.results93,go_sem,b0,b1]) rfl ⟨none,⟨0,by rw [hx]; rfl⟩,by rw [hx]; exact SsAt.nil,zO (zO hbw (Nat.le_refl _)) (Nat.le_refl _)⟩
end Go.Proofs.YtipmjjfknhblnaaGreatDoor
