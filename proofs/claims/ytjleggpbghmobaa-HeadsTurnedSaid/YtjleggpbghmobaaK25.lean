/-
  The project's reader of programs: the loop over declarations
-/
import Derived.Test.YtjleggpbghmobaaK01
import Derived.Test.YtjleggpbghmobaaK08
import Derived.Test.YtjleggpbghmobaaK19
import Derived.Test.YtjleggpbghmobaaK07
import Derived.Test.YtjleggpbghmobaaK21
import Derived.Test.YtjleggpbghmobaaK23
import Derived.Test.YtjleggpbghmobaaK24
set_option maxRecDepth 8000
set_option maxHeartbeats 8000000
namespace Go.Proofs.Ytjleggpbghmobaa
open Go.RowKit
open Px (RT tokAt)
open Pe
open Ps (Sm PX)
open Pg (BX Pm Rc Fc Gm)
theorem zAX (p:Gm):(∀ x,(p.addR x).recs.length = p.recs.length + 1 ∧ (p.addR x).globals = p.globals ∧ (p.addR x).funcs = p.funcs) ∧ (∀ x,(p.addG x).globals.length = p.globals.length + 1 ∧ (p.addG x).recs = p.recs ∧ (p.addG x).funcs = p.funcs) ∧
 (∀ x,(p.addF x).funcs.length = p.funcs.length + 1 ∧ (p.addF x).recs = p.recs ∧ (p.addF x).globals = p.globals):=
 ⟨fun _ => ⟨by simp [Gm.addR],rfl,rfl⟩,fun _ => ⟨by simp [Gm.addG],rfl,rfl⟩,fun _ => ⟨by simp [Gm.addF],rfl,rfl⟩⟩
theorem RIs.one {w:World}{B:Nat}{x:Rc}{vs:List Value}(h:RIs w B x vs):∀ u ∈ vs,u.oneCell' = true:=by
 obtain ⟨p,c,rfl,-⟩:=h
 intro u hu
 simp at hu
 rcases hu with rfl | rfl | rfl <;> rfl
theorem FIs.one {w:World}{B:Nat}{x:Fc}{vs:List Value}(h:FIs w B x vs):∀ u ∈ vs,u.oneCell' = true:=by
 obtain ⟨p,c,q,d,rfl,-⟩:=h
 intro u hu
 simp at hu
 rcases hu with rfl | rfl | rfl | rfl | rfl | rfl | rfl <;> rfl
def GIs (w:World)(B:Nat)(x:Gm)(vs:List Value):Prop:=
 ∃ p c q d r f,vs = [.slice p x.recs.length c,.slice q x.globals.length d,.slice r x.funcs.length f] ∧ LAt RIs 3 w B p x.recs ∧ LAt PIs 4 w B q x.globals ∧ LAt FIs 7 w B r x.funcs
theorem GIs.ag {w w1:World}{B:Nat}{x:Gm}{vs:List Value}(h:GIs w B x vs)(g:Ag B w w1):GIs w1 B x vs:=by
 obtain ⟨p,c,q,d,r,f,hv,h1,h2,h3⟩:=h
 exact ⟨p,c,q,d,r,f,hv,h1.ag (fun _ _ h => h.ag g) g,LAt.ag (w:=w) (w1:=w1) (fun _ _ h => h) h2 g,h3.ag (fun _ _ h => h.ag g) g⟩
theorem GIs.lower {w:World}{B B2:Nat}{x:Gm}{vs:List Value}(h:GIs w B x vs)(hB:B2 ≤ B):GIs w B2 x vs:=by
 obtain ⟨p,c,q,d,r,f,hv,h1,h2,h3⟩:=h
 exact ⟨p,c,q,d,r,f,hv,h1.lower (fun _ _ h => h.lower hB) hB,LAt.lower (B:=B) (B2:=B2) (fun _ _ h => h) h2 hB,h3.lower (fun _ _ h => h.lower hB) hB⟩
theorem GIs.zero {w:World}{B:Nat}:GIs w B Gm.zero [.slice none 0 0,.slice none 0 0,.slice none 0 0]:=⟨none,0,none,0,none,0,rfl,.inl rfl,.inl rfl,.inl rfl⟩
end Go.Proofs.Ytjleggpbghmobaa
namespace Go.Proofs.Ytjleggpbghmobaa
open Go.RowKit
open Px (RT tokAt)
open Pe
open Ps (Sm PX)
theorem SAt.get {w:World}{B bl:Nat}:∀ (es:List Sm)(off j:Nat)(e:Sm),SAt w B bl off es → es[j]? = some e → ∃ vs,SIs w B e vs ∧ ∀ (i:Nat)(v:Value),vs[i]? = some v → w.cell? ⟨bl,off + j * 9 + i,none⟩ = some v
 | [],_,j,e,_,h => by simp at h
 | x :: es,off,0,e,ha,h => by
   rw [SAt] at ha
   obtain ⟨⟨vs,hi,hc⟩,-⟩:=ha
   simp at h
   subst h
   exact ⟨vs,hi,fun i v hv => by have:=hc i v hv; simpa using this⟩
 | x :: es,off,j + 1,e,ha,h => by
   rw [SAt] at ha
   obtain ⟨vs,hi,hc⟩:=SAt.get es (off + 9) j e ha.2 (by simpa using h)
   exact ⟨vs,hi,fun i v hv => by have:=hc i v hv; rw [show off + (j + 1) * 9 + i = off + 9 + j * 9 + i by omega]; exact this⟩
theorem SsAt.below {w w':World}{B:Nat}{p:Option Addr}{l:List Sm}(h:SsAt w B p l)(hb:Below w.heap.size w w'):SsAt w' B p l:=h.ag (Ag.below hb)
theorem SIs.below {w w':World}{B:Nat}{x:Sm}{vs:List Value}(h:SIs w B x vs)(hb:Below w.heap.size w w'):SIs w' B x vs:=SIs.ag (Ag.below hb) _ h
theorem SIs.alloc {w:World}{B:Nat}{x:Sm}{vs:List Value}(h:SIs w B x vs)(o:Obj):SIs (w.alloc o) B x vs:=h.below ((Below.refl _ _).alloc (Nat.le_refl _) _)
theorem SsAt.get {w:World}{B:Nat}{p:Option Addr}{l:List Sm}(h:SsAt w B p l){j:Nat}{e:Sm}(he:l[j]? = some e):∃ bl off vs,p = some ⟨bl,off,none⟩ ∧ bl < w.heap.size ∧ SIs w B e vs ∧ ∀ (i:Nat)(v:Value),vs[i]? = some v → w.cell? ⟨bl,off + j * 9 + i,none⟩ = some v:=by
 rcases h with h | ⟨bl,off,h1,h2,h3,h4⟩
 ·rw [h] at he; simp at he
 ·obtain ⟨vs,hi,hc⟩:=SAt.get l off j e h4 he
  exact ⟨bl,off,vs,h1,h2,hi,hc⟩
open Pg (BX Pm Rc Fc Gm)
def fitR (a:Rc):Prop:=a.fields.length ≤ 9000000000
def fitF (a:Fc):Prop:=a.params.length ≤ 9000000000 ∧ a.body.length ≤ 9000000000 ∧ fitML a.body = true
def fitG (a:Gm):Prop:=a.recs.length ≤ 9000000000 ∧ a.globals.length ≤ 9000000000 ∧ a.funcs.length ≤ 9000000000 ∧ (∀ x ∈ a.recs,fitR x) ∧ ∀ x ∈ a.funcs,fitF x
theorem LAt.get {α:Type}{I:World → Nat → α → List Value → Prop}{n:Nat}{w:World}{B:Nat}{q:Option Addr}{l:List α}(h:LAt I n w B q l){i:Nat}{x : α}(hx:l[i]? = some x) :
 ∃ bl off vs,q = some ⟨bl,off,none⟩ ∧ bl < w.heap.size ∧ I w B x vs ∧ ∀ (j:Nat) v,j < n → vs[j]? = some v → w.cell? ⟨bl,off + i * n + j,none⟩ = some v:=by
 rcases h with rfl | ⟨bl,off,hp,hb,-,ha⟩
 ·simp at hx
 ·obtain ⟨vs,h1,h2⟩:=ha i x hx
  exact ⟨bl,off,vs,hp,hb,h1,h2⟩
theorem zJT:∀ (l:List Pm)(i j:Nat)(x:Pm)(v:Value),l[i]? = some x → j < 4 → (pmCells x)[j]? = some v → (l.flatMap pmCells)[i * 4 + j]? = some v
 | [],_,_,_,_,h,_,_ => by simp at h
 | y :: l,0,j,x,v,h,hj,hv => by
   simp at h
   subst h
   rw [List.flatMap_cons,List.getElem?_append_left (by show _ < 4; omega),Nat.zero_mul,Nat.zero_add,hv]
 | y :: l,i + 1,j,x,v,h,hj,hv => by
   have:=zJT l i j x v (by simpa using h) hj hv
   rw [List.flatMap_cons,List.getElem?_append_right (by show 4 ≤ _; omega),show (i + 1) * 4 + j - (pmCells y).length = i * 4 + j by show (i + 1) * 4 + j - 4 = _; omega]
   exact this
theorem PsAt.lat {w:World}{B:Nat}{q:Option Addr}{l:List Pm}(h:PsAt w B q l):LAt PIs 4 w B q l:=by
 rcases h with h0 | ⟨bl,off,hp,hb,hne,ha⟩
 ·exact .inl h0
 ·refine .inr ⟨bl,off,hp,hb,hne,fun i x hx => ⟨pmCells x,rfl,fun j v hj hv => ?_⟩⟩
  have:=ha _ v (zJT l i j x v hx hj hv)
  rw [show off + i * 4 + j = off + (i * 4 + j) by omega]
  exact this
end Go.Proofs.Ytjleggpbghmobaa
namespace Go.Proofs.Ytjleggpbghmobaa.Ln
open Go.RowKit
def oneV (k:Nat):Option (Nat × List UInt8 × Nat × Nat) → Value
 | none => .tuple #[.agg #[.int .i64 0,.string ⟨#[]⟩,.int .i64 0,.int .i64 0],.int .i64 0]
 | some (kind,text,num,m) => .tuple #[.agg #[.int .i64 kind,.string (bs text),.int .i64 num,.int .i64 k],.int .i64 m]
theorem zFY (k:Nat):oneV k none = .tuple #[.agg #[.int .i64 0,.string ⟨#[]⟩,.int .i64 0,.int .i64 0],.int .i64 0]:=rfl
theorem zFX (k kind num m:Nat)(text:List UInt8):oneV k (some (kind,text,num,m)) = .tuple #[.agg #[.int .i64 kind,.string (bs text),.int .i64 num,.int .i64 k],.int .i64 m]:=rfl
theorem zBq {k:Nat}:Ending.returned (.tuple #[.agg #[.int .i64 0,.string ⟨#[]⟩,.int .i64 0,.int .i64 0],.int .i64 0]) = .returned (oneV k none):=rfl
theorem zB7 {k kind num m:Nat}{text:List UInt8}{t:ByteArray}{E:Int}(ht:t = bs text)(h:E = m):Ending.returned (.tuple #[.agg #[.int .i64 kind,.string t,.int .i64 num,.int .i64 k],.int .i64 E]) = .returned (oneV k (some (kind,text,num,m))):=by rw [h,ht]; rfl
theorem zHR {w1 w2:World}{B:Nat}{o:Obj}(h:w1.heap[B]? = some o)(hb:Below w1.heap.size w1 w2):w2.heap[B]? = some o:=(hb.block _ (zAW h)).trans h
theorem zCp (s:ByteArray)(hs:s.size ≤ 6000)(k:Nat)(hk:k < s.size)(hc:Lx.letB (s[k].toNat:Int) = true)(w:World) :
 Calls Try.prog 38 #[.string s,.int .i64 k] w fun e w' => e = .returned (oneV k (Lx.oneWord (s.data.toList.drop k))) ∧ Below w.heap.size w w':=by
 have hk2:k ≤ s.size:=by omega
 have hmax:=zDa hs
 have hl:=zY (s[k].toNat:Int)
 rw [hc] at hl
 have hb:=zB6 Lx.alnB s k hk2
 generalize hm:Lx.runN Lx.alnB (s.data.toList.drop k) = m at hb
 have hx:=zJW s k m (k + m) rfl
 have hls:=zBu s k m
 have hone:Lx.oneWord (s.data.toList.drop k) = if Lx.isWord ((s.data.toList.drop k).take m) then some (3,(s.data.toList.drop k).take m,0,m) else if Lx.isName ((s.data.toList.drop k).take m) then some (1,(s.data.toList.drop k).take m,0,m) else none:=by rw [Lx.oneWord,hm]
 have hw:=zB9 (s.extract k (k + m))
 have hnm:=zDD (s.extract k (k + m)) (zGt k (k + m) hs)
 rw [hls] at hw hnm
 have h3:(k:Int) + (m:Int) ≤ (s.size:Int):=by omega
 have HX:=vH hx
 have HM:=vH hm
 have HL:=vH hl
 cases hcw:Lx.isWord ((s.data.toList.drop k).take m)
 ·rw [hcw] at hw hone
  rw [if_neg (by decide)] at hone
  have HW:=vH hw
  cases hcn:Lx.isName ((s.data.toList.drop k).take m)
  ·rw [hcn] at hnm hone
   rw [if_neg (by decide)] at hone
   have HNM:=vH hnm
   rw [hone]
   clear hone hw hnm hx hls hm hcw hcn hl hc
   go_in
   go_wp2_with (first
      | (go_at_call 47; refine (HL.out _).mono ?_; rintro e w' ⟨rfl,rfl⟩)
      | (go_at_call 48; refine (zBi s hmax _ k m rfl hk2 HM.out _).mono ?_; rintro e w' ⟨rfl,rfl⟩)
      | (go_at_call 49; refine (HW.out _).mono ?_; rintro e w1 ⟨rfl,hb1⟩)
      | (go_at_call 50; refine (HNM.out _).mono ?_; rintro e w2 ⟨rfl,hb2⟩; obtain ⟨⟨c0,c1,c2,c3⟩,f0,f1,f2,f3⟩:=box4 (zHR (zDw hb1) hb2)))
   refine bodyPost_ret (v:=.tuple #[.agg #[.int .i64 0,.string ⟨#[]⟩,.int .i64 0,.int .i64 0],.int .i64 0]) (by simp [results,Try.results38,go_sem,c0,c1,c2,c3]) rfl ⟨zBq,?_⟩
   exact ((((zB0 (zA3 hb1) hb2).setCell (Nat.le_refl _) _).setCell (Nat.le_refl _) _).setCell (Nat.le_refl _) _).setCell (Nat.le_refl _) _
  ·rw [hcn] at hnm hone
   rw [if_pos rfl] at hone
   have HNM:=vH hnm
   rw [hone]
   clear hone hw hnm hx hls hm hcw hcn hl hc
   go_in
   go_wp2_with (first
      | (go_at_call 47; refine (HL.out _).mono ?_; rintro e w' ⟨rfl,rfl⟩)
      | (go_at_call 48; refine (zBi s hmax _ k m rfl hk2 HM.out _).mono ?_; rintro e w' ⟨rfl,rfl⟩)
      | (go_at_call 49; refine (HW.out _).mono ?_; rintro e w1 ⟨rfl,hb1⟩)
      | (go_at_call 50; refine (HNM.out _).mono ?_; rintro e w2 ⟨rfl,hb2⟩; obtain ⟨⟨c0,c1,c2,c3⟩,f0,f1,f2,f3⟩:=box4 (zHR (zDw hb1) hb2)))
   refine bodyPost_ret (v:=.tuple #[.agg #[.int .i64 1,.string (s.extract k (k + m)),.int .i64 0,.int .i64 k],.int .i64 m]) (by simp [results,Try.results38,go_sem,c0,c1,c2,c3]) rfl ⟨zB7 HX.out rfl,?_⟩
   exact ((((zB0 (zA3 hb1) hb2).setCell (Nat.le_refl _) _).setCell (Nat.le_refl _) _).setCell (Nat.le_refl _) _).setCell (Nat.le_refl _) _
 ·rw [hcw] at hw hone
  rw [if_pos rfl] at hone
  have HW:=vH hw
  rw [hone]
  clear hone hw hnm hx hls hm hcw hl hc
  go_in
  go_wp2_with (first
   | (go_at_call 47; refine (HL.out _).mono ?_; rintro e w' ⟨rfl,rfl⟩)
   | (go_at_call 48; refine (zBi s hmax _ k m rfl hk2 HM.out _).mono ?_; rintro e w' ⟨rfl,rfl⟩)
   | (go_at_call 49; refine (HW.out _).mono ?_; rintro e w1 ⟨rfl,hb1⟩; obtain ⟨⟨c0,c1,c2,c3⟩,f0,f1,f2,f3⟩:=box4 (zDw hb1)))
  refine bodyPost_ret (v:=.tuple #[.agg #[.int .i64 3,.string (s.extract k (k + m)),.int .i64 0,.int .i64 k],.int .i64 m]) (by simp [results,Try.results38,go_sem,c0,c1,c2,c3]) rfl ⟨zB7 HX.out rfl,?_⟩
  exact ((((zA3 hb1).setCell (Nat.le_refl _) _).setCell (Nat.le_refl _) _).setCell (Nat.le_refl _) _).setCell (Nat.le_refl _) _
theorem zCM {r:List UInt8}(h:Lx.signAt r = none):signText r = []:=by rw [signText,h]; rfl
theorem zCL {r g:List UInt8}(h:Lx.signAt r = some g):signText r = g:=by rw [signText,h]; rfl
theorem zCq (s:ByteArray)(hs:s.size ≤ 6000)(k:Nat)(hk:k < s.size)(hc:Lx.letB (s[k].toNat:Int) = false)(hd:Lx.digB (s[k].toNat:Int) = false)(w:World) :
 Calls Try.prog 38 #[.string s,.int .i64 k] w fun e w' => e = .returned (oneV k (Lx.oneSign (s.data.toList.drop k))) ∧ Below w.heap.size w w':=by
 have hl:=zY (s[k].toNat:Int)
 have hg:=zAv (s[k].toNat:Int)
 rw [hc] at hl
 rw [hd] at hg
 have hsg:=zDC s hs k k rfl hk
 have HL:=vH hl
 have HD:=vH hg
 cases hat:Lx.signAt (s.data.toList.drop k)
 ·have hone:Lx.oneSign (s.data.toList.drop k) = none:=by rw [Lx.oneSign,hat]
  rw [zCM hat,show bs [] = ⟨#[]⟩ from rfl] at hsg
  rw [hone]
  have HS:=vH hsg
  clear hone hsg hl hg hc hd hat
  go_in
  go_wp2_with (first
   | (go_at_call 47; refine (HL.out _).mono ?_; rintro e w' ⟨rfl,rfl⟩)
   | (go_at_call 51; refine (HD.out _).mono ?_; rintro e w' ⟨rfl,rfl⟩)
   | (go_at_call 53; refine (HS.out _).mono ?_; rintro e w1 ⟨rfl,hb1⟩; obtain ⟨⟨c0,c1,c2,c3⟩,f0,f1,f2,f3⟩:=box4 (zDw hb1)))
  refine bodyPost_ret (v:=.tuple #[.agg #[.int .i64 0,.string ⟨#[]⟩,.int .i64 0,.int .i64 0],.int .i64 0]) (by simp [results,Try.results38,go_sem,c0,c1,c2,c3]) rfl ⟨zBq,?_⟩
  exact ((((zA3 hb1).setCell (Nat.le_refl _) _).setCell (Nat.le_refl _) _).setCell (Nat.le_refl _) _).setCell (Nat.le_refl _) _
 ·rename_i g
  have hone:Lx.oneSign (s.data.toList.drop k) = some (4,g,0,g.length):=by rw [Lx.oneSign,hat]
  have hpos:=Lx.signAt_pos hat
  rw [zCL hat] at hsg
  rw [hone]
  have e1:((bs g).toList == []) = false:=zJB _ hpos
  have e2:(bs g).toList.isEmpty = false:=zHb _ hpos
  have HS:=vH hsg
  clear hone hsg hl hg hc hd hat
  go_in
  go_wp2_with (first
   | (go_at_call 47; refine (HL.out _).mono ?_; rintro e w' ⟨rfl,rfl⟩)
   | (go_at_call 51; refine (HD.out _).mono ?_; rintro e w' ⟨rfl,rfl⟩)
   | (go_at_call 53; refine (HS.out _).mono ?_; rintro e w1 ⟨rfl,hb1⟩; obtain ⟨⟨c0,c1,c2,c3⟩,f0,f1,f2,f3⟩:=box4 (zDw hb1)))
  refine bodyPost_ret (v:=.tuple #[.agg #[.int .i64 4,.string (bs g),.int .i64 0,.int .i64 k],.int .i64 (bs g).size]) (by simp [results,Try.results38,go_sem,c0,c1,c2,c3]) rfl ⟨zB7 rfl rfl,?_⟩
  exact ((((zA3 hb1).setCell (Nat.le_refl _) _).setCell (Nat.le_refl _) _).setCell (Nat.le_refl _) _).setCell (Nat.le_refl _) _
structure RefTests (s:ByteArray) (k m:Nat) (hk:k < s.size) (padded runsOn:Bool):Prop where
 pad:(((s[k].toNat:Int) == 48) = true ∧ 1 < m ∧ padded = true) ∨ (((s[k].toNat:Int) == 48) = false ∧ 1 < m ∧ padded = false) ∨ (m ≤ 1 ∧ padded = false)
 run:(∃ hn:k + m < s.size,(∀ w,Calls Try.prog 47 #[.int .u8 (s[k + m].toNat:Int)] w fun e w' => e = .returned (.bool runsOn) ∧ w = w')) ∨ (s.size ≤ k + m ∧ runsOn = false)
theorem zGK (s:ByteArray)(k m:Nat)(hk:k < s.size):∃ padded runsOn,RefTests s k m hk padded runsOn ∧ padded = decide (s[k] = 48 ∧ 1 < m) ∧ runsOn = Lx.nextLet (s.data.toList.drop (k + m)):=by
 refine ⟨_,_,⟨?_,?_⟩,rfl,rfl⟩
 ·by_cases h2 : 1 < m
  ·cases h:((s[k].toNat:Int) == 48)
   ·exact Or.inr (Or.inl ⟨rfl,h2,decide_eq_false fun ⟨h2,_⟩ => zIP h h2⟩)
   ·exact Or.inl ⟨rfl,h2,decide_eq_true ⟨zJ5 h,h2⟩⟩
  ·exact Or.inr (Or.inr ⟨by omega,decide_eq_false fun ⟨_,h3⟩ => h2 h3⟩)
 ·by_cases h:k + m < s.size
  ·refine Or.inl ⟨h,fun w => ?_⟩
   rw [zE0 h]
   exact zY _ w
  ·exact Or.inr ⟨by omega,zDP (by omega)⟩
def refNumV (padded runsOn:Bool)(m V:Nat):Option (Nat × List UInt8 × Nat × Nat):=if V ≤ 9223372036854775807 ∧ padded = false ∧ runsOn = false then some (2,[],V,m) else none
theorem zDf (s:ByteArray)(hs:s.size ≤ 6000)(k m:Nat)(hk:k < s.size)(hm:Lx.runN Lx.digB (s.data.toList.drop k) = m)(hc:Lx.letB (s[k].toNat:Int) = false)(hd:Lx.digB (s[k].toNat:Int) = true)
 (padded runsOn:Bool) (ht:RefTests s k m hk padded runsOn) (V:Nat) (hV:Lx.valN 0 (s.extract k (k + m)).data.toList = V) (w:World) :
 Calls Try.prog 38 #[.string s,.int .i64 k] w fun e w' => e = .returned (oneV k (refNumV padded runsOn m V)) ∧ Below w.heap.size w w':=by
 have hk2:k ≤ s.size:=by omega
 have hmax:=zDa hs
 have hl:=zY (s[k].toNat:Int)
 have hg:=zAv (s[k].toNat:Int)
 rw [hc] at hl
 rw [hd] at hg
 have hb:=zB6 Lx.digB s k hk2
 rw [hm] at hb
 have h3:(k:Int) + (m:Int) ≤ (s.size:Int):=by omega
 have hall:∀ c ∈ (s.extract k (k + m)).data.toList,Lx.digB (c.toNat:Int) = true:=by
  rw [zBu,← hm]
  exact Lx.runN_all _ _
 have hw:=zFa (s.extract k (k + m)) (zGt k (k + m) hs) hall V hV
 have HL:=vH hl
 have HD:=vH hg
 have HM:=vH hm
 obtain ⟨hp,hr⟩:=ht
 clear hall hV hl hg hm hc hd
 by_cases hle:V ≤ 9223372036854775807
 ·rw [zCs hle,zCt hle] at hw
  have HW:=vH hw
  clear hw
  rcases hp with ⟨p1,p2,rfl⟩ | ⟨p1,p2,rfl⟩ | ⟨p1,rfl⟩
  ·rw [show refNumV true runsOn m V = none from if_neg (fun h => by cases h.2.1)]
   have p3:(1:Int) < (m:Int):=by omega
   clear hr
   go_in
   go_wp2_with fail
   refine (HL.out _).mono ?_
   rintro e w' ⟨rfl,rfl⟩
   go_wp2_with (first
      | (go_at_call 51; refine (HD.out _).mono ?_; rintro e w' ⟨rfl,rfl⟩)
      | (go_at_call 48; refine (zAz s hmax _ k m rfl hk2 HM.out _).mono ?_; rintro e w' ⟨rfl,rfl⟩)
      | (go_at_call 52; refine (HW.out _).mono ?_; rintro e w' ⟨rfl,rfl⟩))
   exact bodyPost_ret (v:=.tuple #[.agg #[.int .i64 0,.string ⟨#[]⟩,.int .i64 0,.int .i64 0],.int .i64 0]) (by simp [results,Try.results38,go_sem]) rfl ⟨zBq,(Below.refl _ _).alloc (Nat.le_refl _) _⟩
  all_goals
   rcases hr with ⟨r1,r2⟩ | ⟨r1,rfl⟩
   ·have r3:(k:Int) + (m:Int) < (s.size:Int):=by omega
    cases runsOn
    ·rw [show refNumV false false m V = some (2,[],V,m) from if_pos ⟨hle,rfl,rfl⟩]
     have HR:=vH r2
     clear r2
     go_in
     go_wp2_with fail
     refine (HL.out _).mono ?_
     rintro e w' ⟨rfl,rfl⟩
     go_wp2_with (first
      | (go_at_call 51; refine (HD.out _).mono ?_; rintro e w' ⟨rfl,rfl⟩)
      | (go_at_call 48; refine (zAz s hmax _ k m rfl hk2 HM.out _).mono ?_; rintro e w' ⟨rfl,rfl⟩)
      | (go_at_call 52; refine (HW.out _).mono ?_; rintro e w' ⟨rfl,rfl⟩)
      | (go_at_call 47; refine (HR.out _).mono ?_; rintro e w' ⟨rfl,rfl⟩))
     exact bodyPost_ret (v:=.tuple #[.agg #[.int .i64 2,.string ⟨#[]⟩,.int .i64 V,.int .i64 k],.int .i64 m]) (by simp [results,Try.results38,go_sem]) rfl ⟨zB7 rfl rfl,(Below.refl _ _).alloc (Nat.le_refl _) _⟩
    ·rw [show refNumV false true m V = none from if_neg (fun h => by cases h.2.2)]
     have HR:=vH r2
     clear r2
     go_in
     go_wp2_with fail
     refine (HL.out _).mono ?_
     rintro e w' ⟨rfl,rfl⟩
     go_wp2_with (first
      | (go_at_call 51; refine (HD.out _).mono ?_; rintro e w' ⟨rfl,rfl⟩)
      | (go_at_call 48; refine (zAz s hmax _ k m rfl hk2 HM.out _).mono ?_; rintro e w' ⟨rfl,rfl⟩)
      | (go_at_call 52; refine (HW.out _).mono ?_; rintro e w' ⟨rfl,rfl⟩)
      | (go_at_call 47; refine (HR.out _).mono ?_; rintro e w' ⟨rfl,rfl⟩))
     exact bodyPost_ret (v:=.tuple #[.agg #[.int .i64 0,.string ⟨#[]⟩,.int .i64 0,.int .i64 0],.int .i64 0]) (by simp [results,Try.results38,go_sem]) rfl ⟨zBq,(Below.refl _ _).alloc (Nat.le_refl _) _⟩
   ·have r3:(s.size:Int) ≤ (k:Int) + (m:Int):=by omega
    rw [show refNumV false false m V = some (2,[],V,m) from if_pos ⟨hle,rfl,rfl⟩]
    go_in
    go_wp2_with fail
    refine (HL.out _).mono ?_
    rintro e w' ⟨rfl,rfl⟩
    go_wp2_with (first
     | (go_at_call 51; refine (HD.out _).mono ?_; rintro e w' ⟨rfl,rfl⟩)
     | (go_at_call 48; refine (zAz s hmax _ k m rfl hk2 HM.out _).mono ?_; rintro e w' ⟨rfl,rfl⟩)
     | (go_at_call 52; refine (HW.out _).mono ?_; rintro e w' ⟨rfl,rfl⟩))
    exact bodyPost_ret (v:=.tuple #[.agg #[.int .i64 2,.string ⟨#[]⟩,.int .i64 V,.int .i64 k],.int .i64 m]) (by simp [results,Try.results38,go_sem]) rfl ⟨zB7 rfl rfl,(Below.refl _ _).alloc (Nat.le_refl _) _⟩
 ·rw [zC5 hle,zC6 hle] at hw
  have HW:=vH hw
  rw [show refNumV padded runsOn m V = none from if_neg (fun h => hle h.1)]
  clear hw hp hr
  go_in
  go_wp2_with fail
  refine (HL.out _).mono ?_
  rintro e w' ⟨rfl,rfl⟩
  go_wp2_with (first
   | (go_at_call 51; refine (HD.out _).mono ?_; rintro e w' ⟨rfl,rfl⟩)
   | (go_at_call 48; refine (zAz s hmax _ k m rfl hk2 HM.out _).mono ?_; rintro e w' ⟨rfl,rfl⟩)
   | (go_at_call 52; refine (HW.out _).mono ?_; rintro e w' ⟨rfl,rfl⟩))
  exact bodyPost_ret (v:=.tuple #[.agg #[.int .i64 0,.string ⟨#[]⟩,.int .i64 0,.int .i64 0],.int .i64 0]) (by simp [results,Try.results38,go_sem]) rfl ⟨zBq,(Below.refl _ _).alloc (Nat.le_refl _) _⟩
theorem zCQ (s:ByteArray)(hs:s.size ≤ 6000)(k:Nat)(hk:k < s.size)(hc:Lx.letB (s[k].toNat:Int) = false)(hd:Lx.digB (s[k].toNat:Int) = true)(w:World) :
 Calls Try.prog 38 #[.string s,.int .i64 k] w fun e w' => e = .returned (oneV k (Lx.oneNum (s.data.toList.drop k))) ∧ Below w.heap.size w w':=by
 obtain ⟨m,hm⟩:∃ m,Lx.runN Lx.digB (s.data.toList.drop k) = m:=⟨_,rfl⟩
 obtain ⟨V,hV⟩:∃ V,Lx.valN 0 ((s.data.toList.drop k).take m) = V:=⟨_,rfl⟩
 obtain ⟨padded,runsOn,ht,hp,hr⟩:=zGK s k m hk
 have hbad:=zFZ hk hm rfl hV
 rw [← hp,← hr] at hbad
 have hone:Lx.oneNum (s.data.toList.drop k) = refNumV padded runsOn m V:=by
  rw [Lx.oneNum,hm,hV,hbad,refNumV]
  by_cases hle:V ≤ 9223372036854775807
  ·cases padded <;> cases runsOn
   ·rw [if_neg (by simp; omega),if_pos ⟨hle,rfl,rfl⟩]
   ·rw [if_pos (by simp),if_neg (by simp)]
   ·rw [if_pos (by simp),if_neg (by simp)]
   ·rw [if_pos (by simp),if_neg (by simp)]
  ·rw [if_pos (by simp; omega),if_neg (fun h => hle h.1)]
 rw [hone]
 exact zDf s hs k m hk hm hc hd padded runsOn ht V (by rw [zBu]; exact hV) w
theorem zEC (s:ByteArray)(hs:s.size ≤ 6000)(a:Int)(k:Nat)(ha:a = k)(hk:k < s.size)(w:World) :
 Calls Try.prog 38 #[.string s,.int .i64 a] w fun e w' => e = .returned (oneV k (Lx.one (s.data.toList.drop k))) ∧ Below w.heap.size w w':=by
 subst ha
 cases hcl:Lx.letB (s[k].toNat:Int)
 ·cases hcd:Lx.digB (s[k].toNat:Int)
  ·rw [zDN hk hcl hcd]; exact zCq s hs k hk hcl hcd w
  ·rw [zEZ hk hcl hcd]; exact zCQ s hs k hk hcl hcd w
 ·rw [zDM hk hcl]; exact zCp s hs k hk hcl w
theorem refTokens_any (s:ByteArray)(hs:s.size ≤ maxLen)(w:World) :
 Calls Try.prog 20 #[.string s] w (TokRes s.data.toList w):=by
 by_cases hlong : 6000 < s.size
 ·have HL:Hid (6000 < s.data.toList.length):=by show _ < _; rw [zAF]; exact hlong
  go_in
  go_wp2
  exact bodyPost_ret (v:=.tuple #[.slice none 0 0,.agg #[.int .i64 4,.int .i64 0]]) (by simp [results,Try.results20,go_sem]) rfl (zGJ HL.out ((Below.refl _ _).alloc (Nat.le_refl _) _))
 ·have hsz:s.size ≤ 6000:=by omega
  have HL:Hid (s.data.toList.length ≤ 6000):=by show _ ≤ _; rw [zAF]; exact hsz
  obtain ⟨k0,hk0⟩:∃ k,Lx.skipS false s.data.toList = k:=⟨_,rfl⟩
  have hk0s:k0 ≤ s.size:=by have:=Lx.skipS_le s.data.toList false; rw [zAF] at this; omega
  have HK0:Hid (0 + Lx.skipS false (s.data.toList.drop 0) = k0):=by show _ = _; rw [List.drop_zero,hk0]; omega
  have HS:=vH (TokLoop.start (w:=w) hk0)
  obtain ⟨i0,hi,hz0,hz1,hz2⟩:=info_parts zIy
  clear hk0
  go_in
  go_wp2_with (go_at_call 37; refine (zBL s hs _ 0 k0 rfl (by omega) HK0.out _).mono ?_; rintro e w' ⟨rfl,rfl⟩)
  go_loopw [4,5] (fun v i wr => ∃ (k:Nat) (ts:List Lx.Tk),k ≤ s.size ∧ i = .int .i64 k ∧ TokLoop s.data.toList w ts k v wr) (fun _ i _ => s.size - (intOf i).toNat)
  case atStart => exact ⟨k0,[],hk0s,rfl,HS.out⟩
  case round =>
   obtain ⟨k,ts,hk,rfl,hT⟩:=hrel
   have HT:=vH hT
   clear hT
   by_cases hlt:k < s.size
   ·have hscan:=zEC s hsz k k rfl hlt wr
    cases hone:Lx.one (s.data.toList.drop k)
    ·rw [hone,zFY] at hscan
     have HC:=vH hscan
     have HO:=vH hone
     clear hscan hone
     go_wp2_with (go_at_call 38; refine HC.out.mono ?_; rintro e w1 ⟨rfl,hb1⟩; obtain ⟨⟨d0,d1⟩,⟨g0,g1⟩,hz⟩:=box2 ((hb1.block _ (zAW HT.out.blk)).trans HT.out.blk))
     refine bodyPost_ret (v:=.tuple #[.slice none 0 0,.agg #[.int .i64 1,.int .i64 k]]) (by simp [results,Try.results20,go_sem,d0,d1,hz]) rfl (zFr HL.out (Lx.come_fault HT.out.come (by rw [zAF]; exact hlt) HO.out) ?_)
     exact (((zB0 HT.out.bel hb1).setCell (Nat.le_refl _) _).setCell (Nat.le_refl _) _).alloc (by simp [World.setCell]; omega) _
    ·rename_i o
     obtain ⟨kind,text,num,m⟩:=o
     obtain ⟨p,hp⟩:∃ p,k + m = p:=⟨_,rfl⟩
     rw [hone,zFX] at hscan
     have hlen:=(Lx.one_len hone).2
     have hlen0:=(Lx.one_len hone).1
     rw [List.length_drop,zAF] at hlen
     have hps:p ≤ s.size:=by omega
     have hkp:k < p:=by omega
     obtain ⟨q,hq⟩:∃ q,p + Lx.skipS false (s.data.toList.drop p) = q:=⟨_,rfl⟩
     have hqs:q ≤ s.size:=by
      have:=Lx.skipS_le (s.data.toList.drop p) false
      rw [List.length_drop,zAF] at this
      omega
     have hpq:p ≤ q:=by omega
     have hpk:(k:Int) + (m:Int) ≤ (s.size:Int):=by omega
     have hm0:((m:Int) == 0) = false:=beq_eq_false_iff_ne.2 (by omega)
     have hpi:(k:Int) + (m:Int) = (p:Int):=by omega
     have HPI:=vH hpi
     have hfew:=HT.out.few
     have HC:=vH hscan
     have HO:=vH hone
     have HP:=vH hp
     have HQ:=vH hq
     clear hscan hone hp hq hlen hlen0 hpi
     go_wp2_with (first
      | (go_at_call 38; refine HC.out.mono ?_; rintro e w1 ⟨rfl,hb1⟩; obtain ⟨⟨d0,d1⟩,⟨g0,g1⟩,hz⟩:=box2 ((hb1.block _ (zAW HT.out.blk)).trans HT.out.blk))
      | (at_builtin; refine wpList_append_own _ rfl _ _ 64 rfl (w.heap.size + 1) 71 i0 _ 4 40 Try.underlying64 hi hz0 hz1 hz2 rfl (by decide) _ ts.length (cellsOf ts) rfl (((zFU HT.out.own hb1).alloc _).alloc _) ⟨w1.heap.size + 1,0,none⟩ 1 1 (tokCells ⟨kind,text,num,k⟩) rfl rfl ?c1 ?c2 ?c3 ?c4 ?c5 ?_))
     case c1 => exact zJz _ _ _ _ _ _ _ (by simp)
     case c2 => exact zFf _
     case c3 => unfold maxLen; omega
     case c4 => omega
     case c5 => simp; omega
     intro v' w2 hown' hgrow _
     have HT2:=vH (HT.out.next (by rw [zAF]; exact hlt) HO.out HP.out HQ.out hb1 hgrow hown')
     clear hown' hgrow
     go_wp2_with (go_at_call 37; refine (zBL s hs _ p q HPI.out hps HQ.out _).mono ?_; rintro e w' ⟨rfl,rfl⟩)
     go_roundw
     case rel => exact ⟨q,_,hqs,rfl,HT2.out⟩
     case measure => simp [intOf]; omega
   ·have hfew:=HT.out.few
    have hzb:=zAW HT.out.blk
    go_wp2_with (at_builtin; refine wpList_append_own _ rfl _ _ 64 rfl (w.heap.size + 1) 71 i0 _ 4 40 Try.underlying64 hi hz0 hz1 hz2 rfl (by decide) _ ts.length (cellsOf ts) rfl (HT.out.own.alloc _) ⟨wr.heap.size,0,none⟩ 1 1 (tokCells ⟨0,[],0,s.size⟩) rfl rfl ?e1 ?e2 ?e3 ?e4 ?e5 ?_)
    case e1 => exact zJz _ _ _ _ _ _ _ rfl
    case e2 => exact zFf _
    case e3 => unfold maxLen; omega
    case e4 => omega
    case e5 => simp; omega
    intro v' w2 hown' hgrow _
    obtain ⟨⟨d0,d1⟩,⟨g0,g1⟩,hz⟩:=box2 (HT.out.blk_last hgrow)
    have hbel:=HT.out.bel_last hgrow
    obtain ⟨A,c,rfl,_⟩:=zCc hown'
    have HO:=vH hown'
    clear hown' hgrow
    go_wp2
    refine bodyPost_ret (v:=.tuple #[.slice A (ts.length + 1:Nat) c,.agg #[.int .i64 0,.int .i64 0]]) (by simp [results,Try.results20,go_sem,d0,d1]) rfl (zJt HL.out (Lx.come_end HT.out.come (by rw [zAF]; omega)) ?_ rfl ?_)
    ·exact (hbel.setCell (Nat.le_refl _) _).setCell (Nat.le_refl _) _
    ·rw [zAF]
     exact zF8 HO.out _ _
end Go.Proofs.Ytjleggpbghmobaa.Ln

namespace Go.Proofs.Ytjleggpbghmobaa
open Go.RowKit
open Px (RT tokAt)
open Pe
def toRT (t:Ln.Lx.Tk):RT:=⟨t.kind,t.text,t.num,t.at_⟩
theorem zEl:∀ (us:List Ln.Lx.Tk)(j:Nat)(t:Ln.Lx.Tk),us[j]? = some t → (Ln.cellsOf us)[j * 4]? = some (.int .i64 t.kind) ∧ (Ln.cellsOf us)[j * 4 + 1]? = some (.string (cbs t.text)) ∧ (Ln.cellsOf us)[j * 4 + 2]? = some (.int .i64 t.num) ∧ (Ln.cellsOf us)[j * 4 + 3]? = some (.int .i64 t.at_)
 | [],j,t,h => by simp at h
 | u :: us,0,t,h => by
   simp at h
   subst h
   exact ⟨rfl,rfl,rfl,rfl⟩
 | u :: us,j + 1,t,h => by
   have:=zEl us j t (by simpa using h)
   have hl:(Ln.tokCells u).length = 4:=rfl
   refine ⟨?_,?_,?_,?_⟩ <;> rw [Ln.cellsOf,List.flatMap_cons]
   ·rw [List.getElem?_append_right (by omega),hl,show (j + 1) * 4 - 4 = j * 4 from by omega]; exact this.1
   ·rw [List.getElem?_append_right (by omega),hl,show (j + 1) * 4 + 1 - 4 = j * 4 + 1 from by omega]; exact this.2.1
   ·rw [List.getElem?_append_right (by omega),hl,show (j + 1) * 4 + 2 - 4 = j * 4 + 2 from by omega]; exact this.2.2.1
   ·rw [List.getElem?_append_right (by omega),hl,show (j + 1) * 4 + 3 - 4 = j * 4 + 3 from by omega]; exact this.2.2.2
theorem zHZ {w:World}{A:Option Addr}{c:Nat}{us:List Ln.Lx.Tk}(h:Ln.Lies w w.heap.size A (Ln.cellsOf us))(hs:∀ t ∈ us,t.text.length ≤ 281474976710656):Toks w w.heap.size (.slice A us.length c) (us.map toRT):=by
 refine ⟨⟨A,us.length,c,rfl,by simp,?_⟩,fun t ht => ?_⟩
 ·cases us with
  | nil => exact .inl rfl
  | cons u us =>
    obtain ⟨g,hA,hg,hc⟩:=h (by simp [Ln.cellsOf,Ln.tokCells])
    refine .inr ⟨g,0,hA,hg,Nat.ne_of_lt hg,fun j t ht => ?_⟩
    rw [List.getElem?_map,Option.map_eq_some_iff] at ht
    obtain ⟨t',ht',rfl⟩:=ht
    obtain ⟨h0,h1,h2,h3⟩:=zEl (u :: us) j t' ht'
    rw [show 0 + j * 4 = j * 4 by omega]
    exact ⟨hc _ _ h0,hc _ _ h1,hc _ _ h2,hc _ _ h3⟩
 ·obtain ⟨t',ht',rfl⟩:=List.mem_map.1 ht
  exact hs t' ht'
theorem zG9 {r:List UInt8}{kind:Nat}{text:List UInt8}{num m:Nat}(h:Ln.Lx.one r = some (kind,text,num,m)):text.length ≤ r.length:=by
 unfold Ln.Lx.one at h
 split at h
 ·cases h
 ·rename_i c r'
  split at h
  ·split at h
   ·simp only [Option.some.injEq,Prod.mk.injEq] at h
    rw [← h.2.1,List.length_take]; omega
   ·split at h
    ·simp only [Option.some.injEq,Prod.mk.injEq] at h
     rw [← h.2.1,List.length_take]; omega
    ·cases h
  ·split at h
   ·split at h
    ·cases h
    ·simp only [Option.some.injEq,Prod.mk.injEq] at h
     rw [← h.2.1]; exact Nat.zero_le _
   ·split at h
    ·cases h
    ·rename_i g hg
     simp only [Option.some.injEq,Prod.mk.injEq] at h
     have:=Ln.Lx.signAt_le hg
     rw [← h.2.1]; exact this
theorem zDq:∀ (f k:Nat)(r:List UInt8)(ts:List Ln.Lx.Tk),Ln.Lx.lexF f k r = .ok ts → ∀ t ∈ ts,t.text.length ≤ r.length
 | 0,_,_,_,h => by simp [Ln.Lx.lexF] at h
 | f + 1,k,[],ts,h => by
   simp only [Ln.Lx.lexF] at h
   injection h with h
   rw [← h]; intro t ht; cases ht
 | f + 1,k,c :: r,ts,h => by
   rw [Ln.Lx.lexF] at h
   split at h
   ·cases h
   ·rename_i kind text num m h1
    have hm:=zG9 h1
    split at h
    ·cases h
    ·rename_i us hu
     have:=zDq f _ _ us hu
     injection h with h
     rw [← h]
     intro t ht
     rcases List.mem_cons.1 ht with rfl | ht
     ·exact hm
     ·have:=this t ht
      rw [List.length_drop] at this
      omega
theorem zC7 (l:List UInt8):∀ t ∈ (Ln.Lx.toks l).1,t.text.length ≤ 281474976710656:=by
 unfold Ln.Lx.toks
 by_cases h : 6000 < l.length
 ·rw [if_pos h]; intro t ht; cases ht
 ·rw [if_neg h]
  cases h2:Ln.Lx.lexAll l with
  | error k => intro t ht; cases ht
  | ok ts =>
    intro t ht
    rcases List.mem_append.1 ht with ht | ht
    ·have:=zDq _ _ _ ts h2 t ht
     rw [List.length_drop] at this
     omega
    ·rw [List.mem_singleton] at ht
     subst ht
     exact Nat.zero_le _
open Ps (Sm PX)
open Pg (BX Pm Rc Fc Gm)
theorem GIs.put {w:World}{B b i:Nat}{x:Gm}{vs:List Value}{u:Value}(h:GIs w B x vs)(hb:b < B):GIs (w.setCell ⟨b,i,none⟩ u) B x vs:=h.ag ((Ag.refl _ _).set (.inl hb) u)
def PaPost (w:World)(x:Gm × Int × Int)(e:Ending)(w':World):Prop:=
 ∃ p n c q m d r k f,e = .returned (.tuple #[.agg #[.slice p n c,.slice q m d,.slice r k f],.agg #[.int .i64 x.2.1,.int .i64 x.2.2]]) ∧ GIs w' w.heap.size x.1 [.slice p n c,.slice q m d,.slice r k f] ∧ Below w.heap.size w w'
def pxB (us:List Ln.Lx.Tk)(f:Nat):PX:=fun k o => (parse (us.map toRT) f k o).getD (Ex.zero,0,0,0)
def bxB (us:List Ln.Lx.Tk)(f:Nat):BX:=fun k => (Ps.parseB (us.map toRT) (pxB us f) f k 0).getD ([],0,0,0)
def fuelOf (us:List Ln.Lx.Tk):Nat:=10 * us.length + 20
theorem zBl (us:List Ln.Lx.Tk):Sim.enough (us.map toRT) = fuelOf us:=by unfold Sim.enough fuelOf; rw [List.length_map]
theorem zD6 {us:List Ln.Lx.Tk}(hs:us.length ≤ 6001):Sim.IsP (us.map toRT) (pxB us (fuelOf us)):=by
 intro k o
 obtain ⟨x,h,-⟩:=Sim.parse_same (ts:=us.map toRT) (by rw [List.length_map]; omega) k o
 rw [h]
 rw [zBl] at h
 unfold pxB
 rw [h]
 rfl
theorem zGw {us:List Ln.Lx.Tk}(hs:us.length ≤ 6001):Sim.IsB (us.map toRT) (pxB us (fuelOf us)) (bxB us (fuelOf us)):=by
 intro k
 obtain ⟨x,h,-⟩:=Sim.block_same (ts:=us.map toRT) (by rw [List.length_map]; omega) (zD6 hs) k 0
 rw [h]
 rw [zBl] at h
 unfold bxB
 rw [h]
 rfl
def runOf (us:List Ln.Lx.Tk):Option (Gm × Int × Int):=Pg.run (us.map toRT) (bxB us (fuelOf us)) (fuelOf us)
def answer (l:List UInt8):Gm × Int × Int:=
 if (Ln.Lx.toks l).2.1 = 0 then (runOf (Ln.Lx.toks l).1).getD (Gm.zero,0,0) else (Gm.zero,((Ln.Lx.toks l).2.1:Nat),((Ln.Lx.toks l).2.2:Nat))
end Go.Proofs.Ytjleggpbghmobaa
