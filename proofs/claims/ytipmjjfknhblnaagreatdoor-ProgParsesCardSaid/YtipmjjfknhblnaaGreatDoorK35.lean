/-
  The contract of lex's scan, for texts of at most 6000 bytes.
-/
import Derived.Test.YtipmjjfknhblnaaGreatDoorK02
import Derived.Test.YtipmjjfknhblnaaGreatDoorK34
import Derived.Deep.QuietTactic
import Derived.BigQuiet
import Derived.IntWalk
set_option maxRecDepth 8000
set_option maxHeartbeats 8000000
namespace Go.Proofs.YtipmjjfknhblnaaGreatDoor.Ln
open Go.RowKit
theorem zJu (x:ByteArray)(hx:x.size ≤ 281474976710656)(hne:x.data.toList ≠ [])(hd:∀ c ∈ x.data.toList,Lx.digB (c.toNat:Int) = true)(V:Nat)(hV:Lx.valN 0 x.data.toList = V)(w:World)(he:Env w):AtoiSays x w V:=by
 have h:=Lx.atoi_digits x.data.toList hne hd
 rw [hV] at h
 unfold AtoiSays
 by_cases hle:V ≤ 9223372036854775807
 ·rw [if_pos hle] at h ⊢
  exact zMt x hx V h w
 ·rw [if_neg hle] at h ⊢
  exact zHL x hx h w he
theorem zDh (s:ByteArray)(hs:s.size ≤ 6000)(a:Int)(k:Nat)(ha:a = k)(hk:k < s.size)(hc:Lx.digB (s[k].toNat:Int) = true)(w:World)(he:Env w) :
 Calls Tryz.prog 58 #[.string s,.int .i64 a] w fun e w' => e = .returned (scanV k (Lx.oneNum (s.data.toList.drop k))) ∧ Below w.heap.size w w':=by
 subst ha
 obtain ⟨m,hm⟩:∃ m,Lx.runN Lx.digB (s.data.toList.drop k) = m:=⟨_,rfl⟩
 obtain ⟨n,hn⟩:∃ n,k + m = n:=⟨_,rfl⟩
 obtain ⟨V,hV⟩:∃ V,Lx.valN 0 ((s.data.toList.drop k).take m) = V:=⟨_,rfl⟩
 have hb:=zAJ Lx.digB s k (by omega)
 have hm0 : 0 < m:=by
  rw [← hm,zCq s _ k hk,if_pos hc]; omega
 obtain ⟨padded,runsOn,ht,hp,hr⟩:=zKi s k n hk
 have hbad:=zEN hk hm hn hV
 have hone:Lx.oneNum (s.data.toList.drop k) = if Lx.numBad (s.data.toList.drop k) then none else some (2,[],V,m):=by rw [Lx.oneNum,hm,hV]
 have hp2:padded = decide (s[k] = 48 ∧ 1 < m):=by
  rw [hp]
  congr 1
  rw [eq_iff_iff]
  exact ⟨fun ⟨x,y⟩ => ⟨x,by omega⟩,fun ⟨x,y⟩ => ⟨x,by omega⟩⟩
 rw [← hp2,← hr] at hbad
 have hlist:(s.extract k n).data.toList = (s.data.toList.drop k).take m:=by rw [← hn,zBr]
 by_cases hpr:(padded || runsOn) = true
 ·have:Lx.oneNum (s.data.toList.drop k) = none:=by
   rw [hone,hbad]
   cases padded <;> cases runsOn <;> simp at hpr ⊢
  rw [this]
  exact zDg s hs k n hk (by omega) (by omega) (by omega) padded runsOn ht hpr w
 ·have h1:padded = false ∧ runsOn = false:=by cases padded <;> cases runsOn <;> simp at hpr ⊢
  rw [h1.1,h1.2] at ht hbad
  have:Lx.oneNum (s.data.toList.drop k) = numV m V:=by
   rw [hone,hbad,numV]
   by_cases hle:V ≤ 9223372036854775807
   ·rw [if_pos hle,if_neg (by simp; omega)]
   ·rw [if_neg hle,if_pos (by simp; omega)]
  rw [this]
  refine zCQ s hs k m n hk (by omega) hn (by omega) (by omega) ht V (fun w he => zJu _ (by have:=zD6 s k n; omega) ?_ ?_ V (by rw [hlist]; exact hV) w he) w he
  ·rw [hlist,zAn s k hk]
   obtain ⟨m,rfl⟩:∃ j,m = j + 1:=⟨m - 1,by omega⟩
   simp
  ·rw [hlist,← hm]
   exact Lx.runN_all _ _
theorem zCb (k:Nat)(o:Option (Nat × List UInt8 × Nat × Nat)):∃ (a:Int)(b:ByteArray)(c d e:Int)(f:Bool),scanV k o = .tuple #[.agg #[.int .i64 a,.string b,.int .i64 c,.int .i64 d],.int .i64 e,.bool f]:=by
 rcases o with _ | ⟨kind,text,num,m⟩
 ·exact ⟨_,_,_,_,_,_,rfl⟩
 ·exact ⟨_,_,_,_,_,_,rfl⟩
theorem zJL (s:ByteArray)(hs:s.size ≤ 6000)(a:Int)(k:Nat)(ha:a = k)(hk:k < s.size)(w:World)(he:Env w) :
 Calls Tryz.prog 35 #[.string s,.int .i64 a] w fun e w' => e = .returned (scanV k (Lx.one (s.data.toList.drop k))) ∧ Below w.heap.size w w':=by
 subst ha
 have he2:=he.below ((Below.refl _ _).alloc (Nat.le_refl _) (.cells #[.int .i64 0,.string ⟨#[]⟩,.int .i64 0,.int .i64 0] 52))
 have hl:=zAR (s[k].toNat:Int)
 have hd:=zDc (s[k].toNat:Int)
 cases hcl:Lx.letB (s[k].toNat:Int)
 ·rw [hcl] at hl
  have HL:=vH hl
  cases hcd:Lx.digB (s[k].toNat:Int)
  ·rw [hcd] at hd
   have HD:=vH hd
   rw [zCY hk hcl hcd]
   have hcall:=zEu s (zBd hs) k k rfl hk _ he2
   obtain ⟨x0,x1,x2,x3,x4,x5,hf⟩:=zCb k (Lx.oneSign (s.data.toList.drop k))
   rw [hf] at hcall ⊢
   have HC:=vH hcall
   clear hl hd hcl hcd he he2 hcall hf
   go_in
   go_wp2_with (first
      | (go_at_call 55; refine (HL.out _).mono ?_; rintro e w' ⟨rfl,rfl⟩)
      | (go_at_call 57; refine (HD.out _).mono ?_; rintro e w' ⟨rfl,rfl⟩)
      | (go_at_call 59; refine HC.out.mono ?_; rintro e w1 ⟨rfl,hb1⟩; obtain ⟨⟨c0,c1,c2,c3⟩,f0,f1,f2,f3⟩:=box4 (zA5 hb1)))
   refine bodyPost_ret (v:=.tuple #[.agg #[.int .i64 x0,.string x1,.int .i64 x2,.int .i64 x3],.int .i64 x4,.bool x5]) (by simp [results,Tryz.results35,go_sem,c0,c1,c2,c3]) rfl ⟨rfl,?_⟩
   exact ((((zAj hb1).setCell (Nat.le_refl _) _).setCell (Nat.le_refl _) _).setCell (Nat.le_refl _) _).setCell (Nat.le_refl _) _
  ·rw [hcd] at hd
   have HD:=vH hd
   rw [zDv hk hcl hcd]
   have hcall:=zDh s hs k k rfl hk hcd _ he2
   obtain ⟨x0,x1,x2,x3,x4,x5,hf⟩:=zCb k (Lx.oneNum (s.data.toList.drop k))
   rw [hf] at hcall ⊢
   have HC:=vH hcall
   clear hl hd hcl hcd he he2 hcall hf
   go_in
   go_wp2_with (first
      | (go_at_call 55; refine (HL.out _).mono ?_; rintro e w' ⟨rfl,rfl⟩)
      | (go_at_call 57; refine (HD.out _).mono ?_; rintro e w' ⟨rfl,rfl⟩)
      | (go_at_call 58; refine HC.out.mono ?_; rintro e w1 ⟨rfl,hb1⟩; obtain ⟨⟨c0,c1,c2,c3⟩,f0,f1,f2,f3⟩:=box4 (zA5 hb1)))
   refine bodyPost_ret (v:=.tuple #[.agg #[.int .i64 x0,.string x1,.int .i64 x2,.int .i64 x3],.int .i64 x4,.bool x5]) (by simp [results,Tryz.results35,go_sem,c0,c1,c2,c3]) rfl ⟨rfl,?_⟩
   exact ((((zAj hb1).setCell (Nat.le_refl _) _).setCell (Nat.le_refl _) _).setCell (Nat.le_refl _) _).setCell (Nat.le_refl _) _
 ·rw [hcl] at hl
  have HL:=vH hl
  rw [zCX hk hcl]
  have hcall:=zEt s hs k k rfl hk (w.alloc (.cells #[.int .i64 0,.string ⟨#[]⟩,.int .i64 0,.int .i64 0] 52))
  obtain ⟨x0,x1,x2,x3,x4,x5,hf⟩:=zCb k (Lx.oneWord (s.data.toList.drop k))
  rw [hf] at hcall ⊢
  have HC:=vH hcall
  clear hl hd hcl he he2 hcall hf
  go_in
  go_wp2_with (first
   | (go_at_call 55; refine (HL.out _).mono ?_; rintro e w' ⟨rfl,rfl⟩)
   | (go_at_call 57; refine (HD.out _).mono ?_; rintro e w' ⟨rfl,rfl⟩)
   | (go_at_call 56; refine HC.out.mono ?_; rintro e w1 ⟨rfl,hb1⟩; obtain ⟨⟨c0,c1,c2,c3⟩,f0,f1,f2,f3⟩:=box4 (zA5 hb1)))
  refine bodyPost_ret (v:=.tuple #[.agg #[.int .i64 x0,.string x1,.int .i64 x2,.int .i64 x3],.int .i64 x4,.bool x5]) (by simp [results,Tryz.results35,go_sem,c0,c1,c2,c3]) rfl ⟨rfl,?_⟩
  exact ((((zAj hb1).setCell (Nat.le_refl _) _).setCell (Nat.le_refl _) _).setCell (Nat.le_refl _) _).setCell (Nat.le_refl _) _
def tokCells (t:Lx.Tk):List Value:=[.int .i64 t.kind,.string (bs t.text),.int .i64 t.num,.int .i64 t.at_]
def cellsOf (ts:List Lx.Tk):List Value:=ts.flatMap tokCells
theorem zCy (ts:List Lx.Tk)(t:Lx.Tk):cellsOf (ts ++ [t]) = cellsOf ts ++ tokCells t:=by simp [cellsOf]
def Lies (w:World)(B:Nat)(A:Option Addr)(xs:List Value):Prop:=
 xs ≠ [] → ∃ g,A = some ⟨g,0,none⟩ ∧ g < B ∧ ∀ j u,xs[j]? = some u → w.cell? ⟨g,j,none⟩ = some u
theorem Lies.below {w w':World}{B:Nat}{A:Option Addr}{xs:List Value}(h:Lies w B A xs)(hb:Below B w w'):Lies w' B A xs:=by
 intro hx
 obtain ⟨g,ha,hg,hc⟩:=h hx
 exact ⟨g,ha,hg,fun j u hu => by rw [hb.cell (p:=⟨g,j,none⟩) hg]; exact hc j u hu⟩
theorem Lies.mono {w:World}{B B':Nat}{A:Option Addr}{xs:List Value}(h:Lies w B A xs)(hB:B ≤ B'):Lies w B' A xs:=by
 intro hx
 obtain ⟨g,ha,hg,hc⟩:=h hx
 exact ⟨g,ha,by omega,hc⟩
theorem Lies.nil {w:World}{B:Nat}{A:Option Addr}:Lies w B A []:=fun h => absurd rfl h
theorem zBO {w:World}{base n sz:Nat}{T:TypeId}{v:Value}{xs:List Value}(h:w.ownsRow base T sz v n xs):∃ A c,v = .slice A n c ∧ Lies w w.heap.size A xs:=by
 rcases h.2 with ⟨rfl,rfl⟩ | ⟨g,cap,cur,rfl,_,hg,_⟩
 ·have:xs = []:=List.eq_nil_of_length_eq_zero (by have:=h.1; omega)
  exact ⟨none,0,rfl,by rw [this]; exact Lies.nil⟩
 ·refine ⟨_,_,rfl,fun _ => ⟨g,rfl,zAC hg,fun j u hu => ?_⟩⟩
  have:=h.cells (g:=g) rfl j u hu
  have hadd:(⟨g,0,none⟩:Addr).add j = ⟨g,j,none⟩:=by unfold Addr.add; split <;> simp_all
  rw [← hadd]; exact this
def TokRes (l:List UInt8)(w:World)(e:Ending)(w':World):Prop:=
 ∃ (A:Option Addr) (c:Nat),e = .returned (.tuple #[.slice A (Lx.toks l).1.length c,.agg #[.int .i64 (Lx.toks l).2.1,.int .i64 (Lx.toks l).2.2]]) ∧ Lies w' w'.heap.size A (cellsOf (Lx.toks l).1) ∧ Below w.heap.size w w'
theorem zH0 {l:List UInt8}(h : 6000 < l.length):Lx.toks l = ([],4,0):=by rw [Lx.toks,if_pos h]
theorem zGA {l:List UInt8}{k:Nat}(h:l.length ≤ 6000)(h2:Lx.lexAll l = .error k):Lx.toks l = ([],1,k):=by rw [Lx.toks,if_neg (by omega),h2]
theorem zLo {l:List UInt8}{ts:List Lx.Tk}(h:l.length ≤ 6000)(h2:Lx.lexAll l = .ok ts):Lx.toks l = (ts ++ [⟨0,[],0,l.length⟩],0,0):=by rw [Lx.toks,if_neg (by omega),h2]
theorem zI5:(Tryz.prog.info? 52).map (fun i => (i.zero,i.size,i.bytes)) = some (some (.agg #[.int .i64 0,.string ⟨#[]⟩,.int .i64 0,.int .i64 0]),4,40):=by kernel_rfl
theorem zF7 {l:List UInt8}(h : 6000 < l.length){w w':World}(hb:Below w.heap.size w w'):TokRes l w (.returned (.tuple #[.slice none 0 0,.agg #[.int .i64 4,.int .i64 0]])) w':=by
 unfold TokRes
 rw [zH0 h]
 exact ⟨none,0,rfl,Lies.nil,hb⟩
theorem zEA {l:List UInt8}{k:Nat}(h:l.length ≤ 6000)(h2:Lx.lexAll l = .error k){w w':World}(hb:Below w.heap.size w w'):TokRes l w (.returned (.tuple #[.slice none 0 0,.agg #[.int .i64 1,.int .i64 k]])) w':=by
 unfold TokRes
 rw [zGA h h2]
 exact ⟨none,0,rfl,Lies.nil,hb⟩
theorem zK1 {l:List UInt8}{ts:List Lx.Tk}(h:l.length ≤ 6000)(h2:Lx.lexAll l = .ok ts){w w':World}(hb:Below w.heap.size w w'){A:Option Addr}{n c:Nat}(hn:n = ts.length + 1)(hl:Lies w' w'.heap.size A (cellsOf ts ++ tokCells ⟨0,[],0,l.length⟩)) :
 TokRes l w (.returned (.tuple #[.slice A n c,.agg #[.int .i64 0,.int .i64 0]])) w':=by
 unfold TokRes
 rw [zLo h h2]
 refine ⟨A,c,?_,?_,hb⟩
 ·rw [hn]; simp
 ·rw [zCy]; exact hl
structure TokLoop (l:List UInt8) (w:World) (ts:List Lx.Tk) (k:Nat) (v:Value) (wr:World):Prop where
 come:Lx.Come l ts k
 few:ts.length ≤ k
 own:wr.ownsRow (w.heap.size + 1) 52 4 v ts.length (cellsOf ts)
 blk:wr.heap[w.heap.size]? = some (.cells vF 29 (0,0))
 bel:Below w.heap.size w wr
theorem TokLoop.start {l:List UInt8}{w:World}{k:Nat}(hk:Lx.skipS false l = k):TokLoop l w [] k (.slice none 0 0) (w.alloc (.cells vF 29)):=
 ⟨by rw [← hk]; exact Lx.come_start l,Nat.zero_le _,World.ownsRow_nil _ _ _ _,heap_alloc_new _ _,(Below.refl _ _).alloc (Nat.le_refl _) _⟩
theorem zGL (k:Nat):scanV k none = .tuple #[.agg #[.int .i64 0,.string ⟨#[]⟩,.int .i64 0,.int .i64 0],.int .i64 0,.bool false]:=rfl
theorem zGK (k kind num m:Nat)(text:List UInt8):scanV k (some (kind,text,num,m)) = .tuple #[.agg #[.int .i64 kind,.string (bs text),.int .i64 num,.int .i64 k],.int .i64 (k + m:Nat),.bool true]:=rfl
theorem box2 {w1:World}{B:Nat}{T:TypeId}{a b:Value}(h:w1.heap[B]? = some (.cells #[a,b] T (0,0))) :
 (w1.cell? ⟨B,0,none⟩ = some a ∧ w1.cell? ⟨B,1,none⟩ = some b) ∧ (w1.frozen? ⟨B,0,none⟩ = false ∧ w1.frozen? ⟨B,1,none⟩ = false) ∧ B < w1.heap.size:=
 ⟨⟨by rw [cell_of_row _ _ _ _ _ _ h]; rfl,by rw [cell_of_row _ _ _ _ _ _ h]; rfl⟩,⟨frozen_of_row _ _ _ _ _ h,frozen_of_row _ _ _ _ _ h⟩,zAC h⟩
theorem zB6 {w wr w1:World}(h1:Below w.heap.size w wr)(h2:Below wr.heap.size wr w1):Below w.heap.size w w1:=h1.trans (h2.mono h1.size)
theorem zFP {w w1:World}(hb:Below w.heap.size w w1):w.grownBy w1 none:=⟨hb.os,hb.tape,hb.output,hb.size,fun i hi _ => hb.block i hi⟩
theorem zEK {w w1:World}{base n sz:Nat}{T:TypeId}{v:Value}{xs:List Value}(h:w.ownsRow base T sz v n xs)(hb:Below w.heap.size w w1):w1.ownsRow base T sz v n xs:=
 h.kept (zFP hb) (by cases v.ownBlock <;> simp)
theorem TokLoop.next {l:List UInt8}{w wr w1 w2:World}{ts:List Lx.Tk}{k kind num m p q:Nat}{text:List UInt8}{v v':Value}{o1 o2:Obj}(h:TokLoop l w ts k v wr)(hk:k < l.length)(hone:Lx.one (l.drop k) = some (kind,text,num,m))(hp:k + m = p)
 (hq:p + Lx.skipS false (l.drop p) = q) (hb:Below wr.heap.size wr w1) (hg:((w1.alloc o1).alloc o2).grownBy w2 v.ownBlock) (hown:w2.ownsRow (w.heap.size + 1) 52 4 v' (ts.length + 1) (cellsOf ts ++ tokCells ⟨kind,text,num,k⟩)) :
 TokLoop l w (ts ++ [⟨kind,text,num,k⟩]) q v' w2:=by
 have hm:=Lx.one_len hone
 have hlt:=zAC h.blk
 have hbs:=hb.size
 refine ⟨?_,?_,?_,?_,?_⟩
 ·rw [← hq,← hp]; exact Lx.come_next h.come hk hone
 ·have:=h.few
  rw [List.length_append,List.length_singleton]; omega
 ·rw [zCy,List.length_append,List.length_singleton]; exact hown
 ·rw [hg.block w.heap.size (by simp; omega) (fun e => by have:=(h.own.lt _ e.symm).1; omega)]
  rw [heap_alloc_old _ _ (by simp; omega),heap_alloc_old _ _ (by omega),hb.block _ hlt]
  exact h.blk
 ·refine (((zB6 h.bel hb).alloc (by omega) o1).alloc (by simp; omega) o2).grown hg (by simp; omega) (fun j hj => ?_)
  have:=(h.own.lt _ hj).1
  omega
theorem zKk (W:World)(a b c d:Value)(T:TypeId)(B:Nat)(hB:B = W.heap.size):∀ j u,[a,b,c,d][j]? = some u → (W.alloc (.cells #[a,b,c,d] T)).cell? ((⟨B,0,none⟩:Addr).add j) = some u:=by
 intro j u hu
 subst hB
 have hadd:(⟨W.heap.size,0,none⟩:Addr).add j = ⟨W.heap.size,j,none⟩:=by unfold Addr.add; split <;> simp_all
 rw [hadd,cell_of_row _ _ j _ _ _ (heap_alloc_new W _)]
 simpa using hu
theorem zDK (t:Lx.Tk):∀ u ∈ tokCells t,u.oneCell' = true:=by
 intro u hu
 simp [tokCells] at hu
 rcases hu with rfl | rfl | rfl | rfl <;> rfl
theorem zIN {w:World}{base n sz:Nat}{T:TypeId}{v:Value}{xs:List Value}(h:w.ownsRow base T sz v n xs){p:Addr}(hp:p.block < base)(u:Value):(w.setCell p u).ownsRow base T sz v n xs:=by
 refine h.kept (row:=some p.block) ⟨rfl,rfl,rfl,by simp [World.setCell],fun i _ hne => Below.heap_setCell w p u i (fun e => hne (by rw [e]))⟩ ?_
 cases hv:v.ownBlock with
 | none => exact Or.inl rfl
 | some g => exact Or.inr (fun e => by have:=(h.lt g hv).1; injection e; omega)
theorem zET {w:World}{B n c sz:Nat}{T:TypeId}{A:Option Addr}{xs:List Value}(h:w.ownsRow (B + 1) T sz (.slice A n c) n xs)(x y:Value) :
 Lies ((w.setCell ⟨B,0,none⟩ x).setCell ⟨B,1,none⟩ y) ((w.setCell ⟨B,0,none⟩ x).setCell ⟨B,1,none⟩ y).heap.size A xs:=by
 have h2:=zIN (zIN h (p:=⟨B,0,none⟩) (by simp) x) (p:=⟨B,1,none⟩) (by simp) y
 obtain ⟨A',c',he,hl⟩:=zBO h2
 injection he with he _ _
 rw [he]; exact hl
theorem TokLoop.blk_last {l:List UInt8}{w wr w2:World}{ts:List Lx.Tk}{k:Nat}{v:Value}{o1:Obj}(h:TokLoop l w ts k v wr)(hg:(wr.alloc o1).grownBy w2 v.ownBlock):w2.heap[w.heap.size]? = some (.cells vF 29 (0,0)):=by
 have hlt:=zAC h.blk
 rw [hg.block w.heap.size (by simp; omega) (fun e => by have:=(h.own.lt _ e.symm).1; omega),heap_alloc_old _ _ (by omega)]
 exact h.blk
theorem TokLoop.bel_last {l:List UInt8}{w wr w2:World}{ts:List Lx.Tk}{k:Nat}{v:Value}{o1:Obj}(h:TokLoop l w ts k v wr)(hg:(wr.alloc o1).grownBy w2 v.ownBlock):Below w.heap.size w w2:=by
 have hlt:=zAC h.blk
 refine (h.bel.alloc (by omega) o1).grown hg (by simp; omega) (fun j hj => ?_)
 have:=(h.own.lt _ hj).1
 omega
theorem tokens_any (s:ByteArray)(hs:s.size ≤ maxLen)(w:World)(he:Env w) :
 Calls Tryz.prog 11 #[.string s] w (TokRes s.data.toList w):=by
 by_cases hlong : 6000 < s.size
 ·have HL:Hid (6000 < s.data.toList.length):=by show _ < _; rw [zAq]; exact hlong
  go_in
  go_wp2
  exact bodyPost_ret (v:=.tuple #[.slice none 0 0,.agg #[.int .i64 4,.int .i64 0]]) (by simp [results,Tryz.results11,go_sem]) rfl (zF7 HL.out ((Below.refl _ _).alloc (Nat.le_refl _) _))
 ·have hsz:s.size ≤ 6000:=by omega
  have HL:Hid (s.data.toList.length ≤ 6000):=by show _ ≤ _; rw [zAq]; exact hsz
  have HE:=vH he
  obtain ⟨k0,hk0⟩:∃ k,Lx.skipS false s.data.toList = k:=⟨_,rfl⟩
  have hk0s:k0 ≤ s.size:=by have:=Lx.skipS_le s.data.toList false; rw [zAq] at this; omega
  have HK0:Hid (0 + Lx.skipS false (s.data.toList.drop 0) = k0):=by show _ = _; rw [List.drop_zero,hk0]; omega
  have HS:=vH (TokLoop.start (w:=w) hk0)
  obtain ⟨i0,hi,hz0,hz1,hz2⟩:=info_parts zI5
  clear hk0 he
  go_in
  go_wp2_with (go_at_call 34; refine (zF1 s hs _ 0 k0 rfl (by omega) HK0.out _).mono ?_; rintro e w' ⟨rfl,rfl⟩)
  go_loopw [4,5] (fun v i wr => ∃ (k:Nat) (ts:List Lx.Tk),k ≤ s.size ∧ i = .int .i64 k ∧ TokLoop s.data.toList w ts k v wr) (fun _ i _ => s.size - (intOf i).toNat)
  case atStart => exact ⟨k0,[],hk0s,rfl,HS.out⟩
  case round =>
   obtain ⟨k,ts,hk,rfl,hT⟩:=hrel
   have HT:=vH hT
   clear hT
   by_cases hlt:k < s.size
   ·have hscan:=zJL s hsz k k rfl hlt wr (HE.out.below HT.out.bel)
    cases hone:Lx.one (s.data.toList.drop k)
    ·rw [hone,zGL] at hscan
     have HC:=vH hscan
     have HO:=vH hone
     clear hscan hone
     go_wp2_with (go_at_call 35; refine HC.out.mono ?_; rintro e w1 ⟨rfl,hb1⟩; obtain ⟨⟨d0,d1⟩,⟨g0,g1⟩,hz⟩:=box2 ((hb1.block _ (zAC HT.out.blk)).trans HT.out.blk))
     refine bodyPost_ret (v:=.tuple #[.slice none 0 0,.agg #[.int .i64 1,.int .i64 k]]) (by simp [results,Tryz.results11,go_sem,d0,d1,hz]) rfl (zEA HL.out (Lx.come_fault HT.out.come (by rw [zAq]; exact hlt) HO.out) ?_)
     exact (((zB6 HT.out.bel hb1).setCell (Nat.le_refl _) _).setCell (Nat.le_refl _) _).alloc (by simp [World.setCell]; omega) _
    ·rename_i o
     obtain ⟨kind,text,num,m⟩:=o
     obtain ⟨p,hp⟩:∃ p,k + m = p:=⟨_,rfl⟩
     rw [hone,zGK,hp] at hscan
     have hlen:=(Lx.one_len hone).2
     have hlen0:=(Lx.one_len hone).1
     rw [List.length_drop,zAq] at hlen
     have hps:p ≤ s.size:=by omega
     have hkp:k < p:=by omega
     obtain ⟨q,hq⟩:∃ q,p + Lx.skipS false (s.data.toList.drop p) = q:=⟨_,rfl⟩
     have hqs:q ≤ s.size:=by
      have:=Lx.skipS_le (s.data.toList.drop p) false
      rw [List.length_drop,zAq] at this
      omega
     have hpq:p ≤ q:=by omega
     have hfew:=HT.out.few
     have HC:=vH hscan
     have HO:=vH hone
     have HP:=vH hp
     have HQ:=vH hq
     clear hscan hone hp hq hlen hlen0
     go_wp2_with (first
      | (go_at_call 35; refine HC.out.mono ?_; rintro e w1 ⟨rfl,hb1⟩; obtain ⟨⟨d0,d1⟩,⟨g0,g1⟩,hz⟩:=box2 ((hb1.block _ (zAC HT.out.blk)).trans HT.out.blk))
      | (at_builtin; refine wpList_append_own _ rfl _ _ 36 rfl (w.heap.size + 1) 52 i0 _ 4 40 Tryz.underlying36 hi hz0 hz1 hz2 rfl (by decide) _ ts.length (cellsOf ts) rfl (((zEK HT.out.own hb1).alloc _).alloc _) ⟨w1.heap.size + 1,0,none⟩ 1 1 (tokCells ⟨kind,text,num,k⟩) rfl rfl ?c1 ?c2 ?c3 ?c4 ?c5 ?_))
     case c1 => exact zKk _ _ _ _ _ _ _ (by simp)
     case c2 => exact zDK _
     case c3 => unfold maxLen; omega
     case c4 => omega
     case c5 => simp; omega
     intro v' w2 hown' hgrow _
     have HT2:=vH (HT.out.next (by rw [zAq]; exact hlt) HO.out HP.out HQ.out hb1 hgrow hown')
     clear hown' hgrow
     go_wp2_with (go_at_call 34; refine (zF1 s hs _ p q rfl hps HQ.out _).mono ?_; rintro e w' ⟨rfl,rfl⟩)
     go_roundw
     case rel => exact ⟨q,_,hqs,rfl,HT2.out⟩
     case measure => simp [intOf]; omega
   ·have hfew:=HT.out.few
    have hzb:=zAC HT.out.blk
    go_wp2_with (at_builtin; refine wpList_append_own _ rfl _ _ 36 rfl (w.heap.size + 1) 52 i0 _ 4 40 Tryz.underlying36 hi hz0 hz1 hz2 rfl (by decide) _ ts.length (cellsOf ts) rfl (HT.out.own.alloc _) ⟨wr.heap.size,0,none⟩ 1 1 (tokCells ⟨0,[],0,s.size⟩) rfl rfl ?e1 ?e2 ?e3 ?e4 ?e5 ?_)
    case e1 => exact zKk _ _ _ _ _ _ _ rfl
    case e2 => exact zDK _
    case e3 => unfold maxLen; omega
    case e4 => omega
    case e5 => simp; omega
    intro v' w2 hown' hgrow _
    obtain ⟨⟨d0,d1⟩,⟨g0,g1⟩,hz⟩:=box2 (HT.out.blk_last hgrow)
    have hbel:=HT.out.bel_last hgrow
    obtain ⟨A,c,rfl,_⟩:=zBO hown'
    have HO:=vH hown'
    clear hown' hgrow
    go_wp2
    refine bodyPost_ret (v:=.tuple #[.slice A (ts.length + 1:Nat) c,.agg #[.int .i64 0,.int .i64 0]]) (by simp [results,Tryz.results11,go_sem,d0,d1]) rfl (zK1 HL.out (Lx.come_end HT.out.come (by rw [zAq]; omega)) ?_ rfl ?_)
    ·exact (hbel.setCell (Nat.le_refl _) _).setCell (Nat.le_refl _) _
    ·rw [zAq]
     exact zET HO.out _ _
def twos:List (List UInt8):=[[60,61],[61,61],[33,61],[38,38],[124,124]]
def ones:List UInt8:=[123,125,40,41,91,93,59,58,44,46,61,43,45,42,47,37,60,33]
theorem zCC:Lx.signs = twos ++ ones.map fun c => [c]:=rfl
theorem zHY:∀ g ∈ twos,g.length = 2:=by decide
def signText (r:List UInt8):List UInt8:=(Lx.signAt r).getD []
def HasTwos (B:Nat)(w:World):Prop:=∀ j g,twos[j]? = some g → w.cell? ⟨B,j,none⟩ = some (.string (bs g))
theorem zFO (w:World):HasTwos w.heap.size (w.alloc (.cells #[.string ⟨#[60,61]⟩,.string ⟨#[61,61]⟩,.string ⟨#[33,61]⟩,.string ⟨#[38,38]⟩,.string ⟨#[124,124]⟩] 9)):=by
 intro j g hg
 rw [cell_of_row _ _ j _ _ _ (heap_alloc_new w _)]
 match j,hg with
 | 0,hg => injection hg with hg; rw [← hg]; rfl
 | 1,hg => injection hg with hg; rw [← hg]; rfl
 | 2,hg => injection hg with hg; rw [← hg]; rfl
 | 3,hg => injection hg with hg; rw [← hg]; rfl
 | 4,hg => injection hg with hg; rw [← hg]; rfl
theorem zLn (s:ByteArray)(k:Nat)(h:k + 2 ≤ s.size)(g:List UInt8)(hg:g.length = 2):((s.extract k (k + 2)).toList == (bs g).toList) = g.isPrefixOf (s.data.toList.drop k):=by
 rw [Lib.toList_data,Lib.toList_data,zFW,Lib.extract_data,zAn s k (by omega),zAn s (k + 1) (by omega)]
 match g,hg with
 | [a,b],_ =>
   rw [Bool.eq_iff_iff]
   simp [List.isPrefixOf]
   exact ⟨fun ⟨a,b⟩ => ⟨a.symm,b.symm⟩,fun ⟨a,b⟩ => ⟨a.symm,b.symm⟩⟩
theorem zKa {p:List UInt8 → Bool}{l:List (List UInt8)}{g:List UInt8}{j:Nat}(hg:l[j]? = some g)(hn:∀ x ∈ l.take j,p x = false)(hp:p g = false):∀ x ∈ l.take (j + 1),p x = false:=by
 intro x hx
 rw [List.take_add_one,hg] at hx
 simp only [Option.toList,List.mem_append,List.mem_singleton] at hx
 rcases hx with hx | rfl
 ·exact hn x hx
 ·exact hp
def NoTwo (s:ByteArray)(k:Nat):Prop:=∀ x ∈ twos,x.isPrefixOf (s.data.toList.drop k) = false
theorem zFG (s:ByteArray)(k:Nat)(h:¬ k + 2 ≤ s.size):NoTwo s k:=by
 intro x hx
 have h2:=zHY x hx
 cases hp:x.isPrefixOf (s.data.toList.drop k)
 ·rfl
 ·have:=(List.isPrefixOf_iff_prefix.1 hp).length_le
  rw [List.length_drop,zAq] at this
  omega
theorem zAw {B:Nat}{w wr:World}(h:Below B w wr)(n:Nat):Below B w (wr.drewN n):=⟨h.os,h.tape,h.output,h.size,h.block⟩
theorem zLm {j:Nat}{g:List UInt8}(h:twos[j]? = some g):Lx.signs[j]? = some g:=by
 rw [zCC,List.getElem?_append_left (List.getElem?_eq_some_iff.1 h).1]; exact h
theorem zJK {r g:List UInt8}{j:Nat}(hg:twos[j]? = some g)(hn:∀ x ∈ twos.take j,x.isPrefixOf r = false)(hp:g.isPrefixOf r = true):g = signText r:=by
 have hj:=(List.getElem?_eq_some_iff.1 hg).1
 have:Lx.signAt r = some g:=zBu (zLm hg) (fun x hx => hn x (by rw [zCC,List.take_append_of_le_length (by omega)] at hx; exact hx)) hp
 rw [signText,this]; rfl
theorem zEM:({ data:=#[123,125,40,41,91,93,59,58,44,46,61,43,45,42,47,37,60,33] }:ByteArray).size = 18:=by decide
theorem zIQ {q:Nat}{c:UInt8}(h:ones[q]? = some c)(hq:q < ({ data:=#[123,125,40,41,91,93,59,58,44,46,61,43,45,42,47,37,60,33] }:ByteArray).size):({ data:=#[123,125,40,41,91,93,59,58,44,46,61,43,45,42,47,37,60,33] }:ByteArray)[q]'hq = c:=by
 have h2:ones[q]? = some (({ data:=#[123,125,40,41,91,93,59,58,44,46,61,43,45,42,47,37,60,33] }:ByteArray)[q]'hq):=List.getElem?_eq_getElem (l:=ones) hq
 rw [h2] at h
 exact Option.some.inj h
theorem zGb {q:Nat}{c:UInt8}(h:ones[q]? = some c):({ data:=#[123,125,40,41,91,93,59,58,44,46,61,43,45,42,47,37,60,33] }:ByteArray).extract q (q + 1) = bs [c]:=by
 rw [← zNi (({ data:=#[123,125,40,41,91,93,59,58,44,46,61,43,45,42,47,37,60,33] }:ByteArray).extract q (q + 1)),zBr]
 congr 1
 have hq:=(List.getElem?_eq_some_iff.1 h).1
 have h3:({ data:=#[123,125,40,41,91,93,59,58,44,46,61,43,45,42,47,37,60,33] }:ByteArray).data.toList = ones:=rfl
 rw [h3,List.drop_eq_getElem_cons hq]
 have:=(List.getElem?_eq_some_iff.1 h).2
 rw [this]; rfl
theorem zIR {s:ByteArray}{k:Nat}(hk:k < s.size)(c:UInt8) : [c].isPrefixOf (s.data.toList.drop k) = (c == s[k]):=by
 rw [zAn s k hk]
 simp [List.isPrefixOf]
theorem zDJ:twos.length = 5:=rfl
theorem zDw {s:ByteArray}{k q:Nat}(hk:k < s.size)(h:NoTwo s k)(hn:∀ c ∈ ones.take q,c ≠ s[k]):∀ x ∈ Lx.signs.take (5 + q),x.isPrefixOf (s.data.toList.drop k) = false:=by
 intro x hx
 rw [zCC,← zDJ,List.take_length_add_append,List.mem_append] at hx
 rcases hx with hx | hx
 ·exact h x hx
 ·rw [← List.map_take,List.mem_map] at hx
  obtain ⟨c,hc,rfl⟩:=hx
  rw [zIR hk]
  exact beq_eq_false_iff_ne.2 (hn c hc)
theorem zF2 {s:ByteArray}{k q:Nat}(hk:k < s.size)(h:NoTwo s k)(hn:∀ c ∈ ones.take q,c ≠ s[k]){c:UInt8}(hc:ones[q]? = some c)(he:c = s[k]) : [c] = signText (s.data.toList.drop k):=by
 have hs:Lx.signs[5 + q]? = some [c]:=by
  rw [zCC,List.getElem?_append_right (by rw [zDJ]; omega),zDJ,show 5 + q - 5 = q from by omega,List.getElem?_map,hc]; rfl
 have:=zBu hs (zDw hk h hn) (by rw [zIR hk]; exact beq_iff_eq.2 he)
 rw [signText,this]; rfl
theorem zId {s:ByteArray}{k:Nat}(hk:k < s.size)(h:NoTwo s k)(hn:∀ c ∈ ones.take 18,c ≠ s[k]):([]:List UInt8) = signText (s.data.toList.drop k):=by
 have:=zDw hk h hn
 rw [signText,zCO (fun g hg => this g (by rw [List.take_of_length_le (by rw [zCN]; omega)]; exact hg))]; rfl
theorem zEL {g c:UInt8}{q:Nat}(hg:ones[q]? = some g)(hn:∀ x ∈ ones.take q,x ≠ c)(hp:g ≠ c):∀ x ∈ ones.take (q + 1),x ≠ c:=by
 intro x hx
 rw [List.take_add_one,hg] at hx
 simp only [Option.toList,List.mem_append,List.mem_singleton] at hx
 rcases hx with hx | rfl
 ·exact hn x hx
 ·exact hp
theorem zFl (s:ByteArray)(hs:s.size ≤ 6000)(a:Int)(k:Nat)(ha:a = k)(hk:k < s.size)(w:World) :
 Calls Tryz.prog 77 #[.string s,.int .i64 a] w fun e w' => e = .returned (.string (bs (signText (s.data.toList.drop k)))) ∧ Below w.heap.size w w':=by
 subst ha
 have hT:=zFO w
 have hb0:Below w.heap.size w (w.alloc (.cells #[.string ⟨#[60,61]⟩,.string ⟨#[61,61]⟩,.string ⟨#[33,61]⟩,.string ⟨#[38,38]⟩,.string ⟨#[124,124]⟩] 9)):=(Below.refl _ _).alloc (Nat.le_refl _) _
 have HT:=vH hT
 have HB:=vH hb0
 clear hT hb0
 by_cases h2:k + 2 ≤ s.size
 ·have h3:(k:Int) + 2 ≤ (s.size:Int):=by omega
  have h4:(2:Int) ≤ (s.size:Int) - (k:Int):=by omega
  go_in
  go_wp2
  go_loopw [6] (fun i wr => ∃ j:Nat,j ≤ 5 ∧ i = .int .i64 j ∧ (∀ x ∈ twos.take j,x.isPrefixOf (s.data.toList.drop k) = false) ∧ HasTwos w.heap.size wr ∧ Below w.heap.size w wr) (fun i _ => 5 - (intOf i).toNat)
  case atStart => exact ⟨0,by omega,rfl,by simp,HT.out,HB.out⟩
  case round =>
   obtain ⟨j,hj,rfl,hn,hT,hb⟩:=hrel
   have HN:=vH hn
   have HT2:=vH hT
   clear hn hT
   by_cases hlt:j < 5
   ·obtain ⟨g,hg⟩:∃ g,twos[j]? = some g:=⟨_,List.getElem?_eq_getElem (by exact hlt)⟩
    have hc:=HT2.out j g hg
    have hx:=zLn s k h2 g (zHY g (List.mem_of_getElem? hg))
    have hj5:(j:Int) < 5:=by omega
    have w1:IntKind.i64.wrap ((s.size:Int) - (k:Int)) = (s.size:Int) - (k:Int):=IntWalk.i64_in _ (by omega)
    have w2:IntKind.i64.wrap ((k:Int) + 2) = (k:Int) + 2:=IntWalk.i64_in _ (by omega)
    have n2:((k:Int) + 2).toNat = k + 2:=by omega
    have hd:decide ((2:Int) ≤ (s.size:Int) - (k:Int)) = true:=by simpa using h4
    cases hp:g.isPrefixOf (s.data.toList.drop k)
    ·rw [hp] at hx
     have HP:=vH hp
     have HG:=vH hg
     clear hp hg
     go_wp2
     go_quiet (fail)
     clear w1 w2 n2 hd hx
     go_wp2
     go_roundw
     case rel => exact ⟨j + 1,by omega,by go_num,zKa HG.out HN.out HP.out,HT2.out,zAw hb _⟩
     case measure => simp [intOf]; omega
    ·rw [hp] at hx
     have HP:=vH hp
     have HG:=vH hg
     clear hp hg
     go_wp2
     go_quiet (fail)
     clear w1 w2 n2 hd hx
     go_wp2
     go_ret
     exact ⟨congrArg (fun l => Ending.returned (.string (bs l))) (zJK HG.out HN.out HP.out),zAw hb _⟩
   ·have HNT:Hid (NoTwo s k):=fun x hx => HN.out x (by rw [List.take_of_length_le (by show 5 ≤ j; omega)]; exact hx)
    clear HN
    go_wp2
    go_loopw [8] (fun i wx => ∃ j:Nat,j ≤ 18 ∧ i = .int .i64 j ∧ (∀ c ∈ ones.take j,c ≠ s[k]) ∧ Below w.heap.size w wx) (fun i _ => 18 - (intOf i).toNat)
    case atStart => exact ⟨0,by omega,rfl,by simp,hb⟩
    case round =>
     obtain ⟨q,hq,rfl,hn,hbx⟩:=hrel
     have HN:=vH hn
     clear hn
     by_cases hlq:q < 18
     ·obtain ⟨c,hc⟩:∃ c,ones[q]? = some c:=⟨_,List.getElem?_eq_getElem (by exact hlq)⟩
      have hq18:(q:Int) < 18:=by omega
      have hk0:(k:Int) < (s.size:Int):=by omega
      have hqs:q < ({ data:=#[123,125,40,41,91,93,59,58,44,46,61,43,45,42,47,37,60,33] }:ByteArray).size:=by rw [zEM]; exact hlq
      have hcc:=zIQ hc hqs
      have h5:(q:Int) + 1 ≤ 18:=by omega
      by_cases he:c = s[k]
      ·have hx:((s[k].toNat:Int) == ((({ data:=#[123,125,40,41,91,93,59,58,44,46,61,43,45,42,47,37,60,33] }:ByteArray)[q]'hqs).toNat:Int)) = true:=by rw [hcc,he]; exact beq_iff_eq.2 rfl
       have HE:=vH he
       have HC:=vH hc
       clear hcc he hc
       go_wp2
       go_quiet (fail)
       go_wp2
       go_ret
       refine ⟨?_,zAw hbx _⟩
       show Ending.returned (.string (({ data:=#[123,125,40,41,91,93,59,58,44,46,61,43,45,42,47,37,60,33] }:ByteArray).extract q (q + 1))) = _
       rw [zGb HC.out]
       exact congrArg (fun l => Ending.returned (.string (bs l))) (zF2 hk HNT.out HN.out HC.out HE.out)
      ·have hx:((s[k].toNat:Int) == ((({ data:=#[123,125,40,41,91,93,59,58,44,46,61,43,45,42,47,37,60,33] }:ByteArray)[q]'hqs).toNat:Int)) = false:=by
        rw [hcc]
        exact beq_eq_false_iff_ne.2 (fun h => he (UInt8.toNat_inj.1 (by omega)))
       have HE:=vH he
       have HC:=vH hc
       clear hcc he hc
       go_wp2
       go_quiet (fail)
       go_wp2
       go_roundw
       case rel => exact ⟨q + 1,by omega,by go_num,zEL HC.out HN.out HE.out,zAw hbx _⟩
       case measure => simp [intOf]; omega
     ·obtain rfl:q = 18:=by omega
      go_wp2
      go_ret
      exact ⟨congrArg (fun l => Ending.returned (.string (bs l))) (zId hk HNT.out HN.out),hbx⟩
 ·have h4:(s.size:Int) - (k:Int) < 2:=by omega
  have hnt:=zFG s k h2
  have HNT0:=vH hnt
  clear hnt h2
  go_in
  go_wp2
  go_loopw [6] (fun i wr => ∃ j:Nat,j ≤ 5 ∧ i = .int .i64 j ∧ (∀ x ∈ twos.take j,x.isPrefixOf (s.data.toList.drop k) = false) ∧ HasTwos w.heap.size wr ∧ Below w.heap.size w wr) (fun i _ => 5 - (intOf i).toNat)
  case atStart => exact ⟨0,by omega,rfl,by simp,HT.out,HB.out⟩
  case round =>
   obtain ⟨j,hj,rfl,hn,hT,hb⟩:=hrel
   have HN:=vH hn
   have HT2:=vH hT
   clear hn hT
   by_cases hlt:j < 5
   ·have hj5:(j:Int) < 5:=by omega
    have w1:IntKind.i64.wrap ((s.size:Int) - (k:Int)) = (s.size:Int) - (k:Int):=IntWalk.i64_in _ (by omega)
    have hd:decide ((2:Int) ≤ (s.size:Int) - (k:Int)) = false:=by simpa using h4
    go_wp2
    go_quiet (fail)
    clear w1 hd
    go_wp2
    go_roundw
    case rel => exact ⟨j + 1,by omega,by go_num,fun x hx => HNT0.out x (List.mem_of_mem_take hx),HT2.out,zAw hb _⟩
    case measure => simp [intOf]; omega
   ·have HNT:=HNT0
    clear HN
    go_wp2
    go_loopw [8] (fun i wx => ∃ j:Nat,j ≤ 18 ∧ i = .int .i64 j ∧ (∀ c ∈ ones.take j,c ≠ s[k]) ∧ Below w.heap.size w wx) (fun i _ => 18 - (intOf i).toNat)
    case atStart => exact ⟨0,by omega,rfl,by simp,hb⟩
    case round =>
     obtain ⟨q,hq,rfl,hn,hbx⟩:=hrel
     have HN:=vH hn
     clear hn
     by_cases hlq:q < 18
     ·obtain ⟨c,hc⟩:∃ c,ones[q]? = some c:=⟨_,List.getElem?_eq_getElem (by exact hlq)⟩
      have hq18:(q:Int) < 18:=by omega
      have hk0:(k:Int) < (s.size:Int):=by omega
      have hqs:q < ({ data:=#[123,125,40,41,91,93,59,58,44,46,61,43,45,42,47,37,60,33] }:ByteArray).size:=by rw [zEM]; exact hlq
      have hcc:=zIQ hc hqs
      have h5:(q:Int) + 1 ≤ 18:=by omega
      by_cases he:c = s[k]
      ·have hx:((s[k].toNat:Int) == ((({ data:=#[123,125,40,41,91,93,59,58,44,46,61,43,45,42,47,37,60,33] }:ByteArray)[q]'hqs).toNat:Int)) = true:=by rw [hcc,he]; exact beq_iff_eq.2 rfl
       have HE:=vH he
       have HC:=vH hc
       clear hcc he hc
       go_wp2
       go_quiet (fail)
       go_wp2
       go_ret
       refine ⟨?_,zAw hbx _⟩
       show Ending.returned (.string (({ data:=#[123,125,40,41,91,93,59,58,44,46,61,43,45,42,47,37,60,33] }:ByteArray).extract q (q + 1))) = _
       rw [zGb HC.out]
       exact congrArg (fun l => Ending.returned (.string (bs l))) (zF2 hk HNT.out HN.out HC.out HE.out)
      ·have hx:((s[k].toNat:Int) == ((({ data:=#[123,125,40,41,91,93,59,58,44,46,61,43,45,42,47,37,60,33] }:ByteArray)[q]'hqs).toNat:Int)) = false:=by
        rw [hcc]
        exact beq_eq_false_iff_ne.2 (fun h => he (UInt8.toNat_inj.1 (by omega)))
       have HE:=vH he
       have HC:=vH hc
       clear hcc he hc
       go_wp2
       go_quiet (fail)
       go_wp2
       go_roundw
       case rel => exact ⟨q + 1,by omega,by go_num,zEL HC.out HN.out HE.out,zAw hbx _⟩
       case measure => simp [intOf]; omega
     ·obtain rfl:q = 18:=by omega
      go_wp2
      go_ret
      exact ⟨congrArg (fun l => Ending.returned (.string (bs l))) (zId hk HNT.out HN.out),hbx⟩
end Go.Proofs.YtipmjjfknhblnaaGreatDoor.Ln
