/-
  The contracts of the project's cursor over tokens.
-/
import Derived.Test.YtipmjjfknhblnaaGreatDoorK01
import Derived.Test.YtipmjjfknhblnaaGreatDoorK02
import Derived.Test.YtipmjjfknhblnaaGreatDoorChecked
import Derived.ProofKit
import Derived.WalkKit
import Derived.BigCall
import Derived.Lib.Hide
import Derived.Lib.Strings
import Derived.Lib.BufferMore
import Derived.Outline
import Derived.Deep.QuietTactic
import Derived.BigQuiet
import Derived.IntWalk
import Derived.StillTailTactics
import Derived.Test.YtipmjjfknhblnaaGreatDoorShelf
set_option maxRecDepth 8000
set_option maxHeartbeats 8000000
namespace Go.Proofs.YtipmjjfknhblnaaGreatDoor
open Go.RowKit
open Px (RT tokAt)
open Pe
def cbs (l:List UInt8):ByteArray:=⟨l.toArray⟩
abbrev vT (t:Px.RT):Array Value:=#[.int .i64 t.kind,.string (cbs t.text),.int .i64 t.num,.int .i64 t.at_]
theorem zR (l:List UInt8):(cbs l).toList = l:=by rw [Lib.toList_data]; rfl
theorem zV {a b:Bool}(h:a = b):Ending.returned (.bool a) = .returned (.bool b):=by rw [h]
structure Toks (w:World) (R:Nat) (S:Value) (ts:List RT):Prop where
 val:∃ p n c,S = .slice p n c ∧ ts.length = n ∧ (n = 0 ∨ ∃ b off,p = some ⟨b,off,none⟩ ∧ b < w.heap.size ∧ b ≠ R ∧
  ∀ j t,ts[j]? = some t → w.cell? ⟨b,off + j * 4,none⟩ = some (.int .i64 t.kind) ∧ w.cell? ⟨b,off + j * 4 + 1,none⟩ = some (.string (cbs t.text)) ∧ w.cell? ⟨b,off + j * 4 + 2,none⟩ = some (.int .i64 t.num) ∧ w.cell? ⟨b,off + j * 4 + 3,none⟩ = some (.int .i64 t.at_))
 short:∀ t ∈ ts,t.text.length ≤ 281474976710656
structure Gr (R:Nat) (w w':World):Prop where
 os:w'.os = w.os
 tape:w'.tape = w.tape
 output:w'.output = w.output
 size:w.heap.size ≤ w'.heap.size
 block:∀ i,i < w.heap.size → i ≠ R → w'.heap[i]? = w.heap[i]?
theorem Gr.refl (R:Nat)(w:World):Gr R w w:=⟨rfl,rfl,rfl,Nat.le_refl _,fun _ _ _ => rfl⟩
theorem Gr.of {R:Nat}{w w':World}(h:Below w.heap.size w w'):Gr R w w':=⟨h.os,h.tape,h.output,h.size,fun i hi _ => h.block i hi⟩
theorem Gr.trans {R:Nat}{w w1 w2:World}(h:Gr R w w1)(g:Gr R w1 w2):Gr R w w2:=
 ⟨g.os.trans h.os,g.tape.trans h.tape,g.output.trans h.output,Nat.le_trans h.size g.size,fun i hi hn => (g.block i (Nat.lt_of_lt_of_le hi h.size) hn).trans (h.block i hi hn)⟩
theorem Gr.set {R:Nat}{w w1:World}(h:Gr R w w1)(o:Nat)(u:Value):Gr R w (w1.setCell ⟨R,o,none⟩ u):=by
 have hb:=(Below.refl 0 w1).setCell (p:=⟨R,o,none⟩) (Nat.zero_le _) u
 refine ⟨hb.os.trans h.os,hb.tape.trans h.tape,hb.output.trans h.output,Nat.le_trans h.size hb.size,fun i hi hn => ?_⟩
 rw [Below.heap_setCell w1 ⟨R,o,none⟩ u i hn]
 exact h.block i hi hn
theorem Gr.below {R:Nat}{w w1 w2:World}(h:Gr R w w1)(hb:Below w1.heap.size w1 w2):Gr R w w2:=h.trans (Gr.of hb)
theorem Gr.alloc {R:Nat}{w w1:World}(h:Gr R w w1)(o:Obj):Gr R w (w1.alloc o):=h.trans (Gr.of ((Below.refl _ _).alloc (Nat.le_refl _) _))
theorem Gr.setNew {R:Nat}{w w1:World}(h:Gr R w w1){p:Addr}(hp:w.heap.size ≤ p.block)(u:Value):Gr R w (w1.setCell p u):=by
 have hb:=(Below.refl w.heap.size w1).setCell (p:=p) hp u
 exact ⟨hb.os.trans h.os,hb.tape.trans h.tape,hb.output.trans h.output,Nat.le_trans h.size hb.size,fun i hi hn => (hb.block i hi).trans (h.block i hi hn)⟩
theorem Toks.gr {w w':World}{R:Nat}{S:Value}{ts:List RT}(h:Toks w R S ts)(hg:Gr R w w'):Toks w' R S ts:=by
 obtain ⟨p,n,c,hS,hn,hm⟩:=h.val
 refine ⟨⟨p,n,c,hS,hn,?_⟩,h.short⟩
 rcases hm with h0 | ⟨b,off,hp,hb,hne,hc⟩
 ·exact .inl h0
 ·refine .inr ⟨b,off,hp,Nat.lt_of_lt_of_le hb hg.size,hne,fun j t ht => ?_⟩
  have hcc:∀ o:Nat,w'.cell? ⟨b,o,none⟩ = w.cell? ⟨b,o,none⟩:=fun o => by
   have:=hg.block b hb hne
   simp only [World.cell?,this]
  rw [hcc,hcc,hcc,hcc]
  exact hc j t ht
structure Cu (w:World) (R:Nat) (T:TypeId) (S:Value) (X:List Value) (ts:List RT) (s:Cs):Prop where
 row:w.heap[R]? = some (.cells ⟨S :: .int .i64 s.k :: .int .i64 s.E :: .int .i64 s.F :: X⟩ T (0,0))
 toks:Toks w R S ts
theorem Cu.lt {w:World}{R:Nat}{T:TypeId}{S:Value}{X:List Value}{ts:List RT}{s:Cs}(h:Cu w R T S X ts s):R < w.heap.size:=(Array.getElem?_eq_some_iff.1 h.row).1
theorem Cu.cells {w:World}{R:Nat}{T:TypeId}{S:Value}{X:List Value}{ts:List RT}{s:Cs}(h:Cu w R T S X ts s) :
 (w.cell? ⟨R,0,none⟩ = some S ∧ w.cell? ⟨R,1,none⟩ = some (.int .i64 s.k) ∧ w.cell? ⟨R,2,none⟩ = some (.int .i64 s.E) ∧ w.cell? ⟨R,3,none⟩ = some (.int .i64 s.F)) ∧
 (∀ i,w.frozen? ⟨R,i,none⟩ = false) ∧ R < w.heap.size:=by
 have hr:=h.row
 refine ⟨⟨?_,?_,?_,?_⟩,fun i => frozen_of_row _ _ _ _ _ hr,h.lt⟩ <;> (rw [cell_of_row _ _ _ _ _ _ hr]; simp)
theorem Cu.go {w w':World}{R:Nat}{T:TypeId}{S:Value}{X:List Value}{ts:List RT}{s:Cs}(h:Cu w R T S X ts s)(hb:Below w.heap.size w w'):Cu w' R T S X ts s:=
 ⟨(hb.block _ h.lt).trans h.row,h.toks.gr (Gr.of hb)⟩
theorem Cu.set_k {w:World}{R:Nat}{T:TypeId}{S:Value}{X:List Value}{ts:List RT}{s:Cs}(h:Cu w R T S X ts s)(q:Int):Cu (w.setCell ⟨R,1,none⟩ (.int .i64 q)) R T S X ts ⟨q,s.E,s.F⟩:=
 ⟨by have:=Lib.heap_setCell_same h.row (i:=1) (v:=.int .i64 q); simpa using this,h.toks.gr ((Gr.refl R w).set 1 _)⟩
theorem Cu.set_f {w:World}{R:Nat}{T:TypeId}{S:Value}{X:List Value}{ts:List RT}{s:Cs}(h:Cu w R T S X ts s)(e a:Int):Cu ((w.setCell ⟨R,2,none⟩ (.int .i64 e)).setCell ⟨R,3,none⟩ (.int .i64 a)) R T S X ts ⟨s.k,e,a⟩:=by
 have h1:=Lib.heap_setCell_same h.row (i:=2) (v:=.int .i64 e)
 have h2:=Lib.heap_setCell_same h1 (i:=3) (v:=.int .i64 a)
 exact ⟨by simpa using h2,h.toks.gr (((Gr.refl R w).set 2 _).set 3 _)⟩
def tokW (t:RT):Value:=.agg #[.int .i64 t.kind,.string (cbs t.text),.int .i64 t.num,.int .i64 t.at_]
theorem Toks.tok {w:World}{R:Nat}{S:Value}{ts:List RT}(h:Toks w R S ts)(k:Int):(tokAt ts k).text.length ≤ 281474976710656:=by
 unfold tokAt
 split
 ·rename_i hk
  have hq:k.toNat < ts.length:=by omega
  have:ts.getD k.toNat RT.none = ts[k.toNat]:=by simp [List.getD,hq]
  rw [this]
  exact h.short _ (List.getElem_mem hq)
 ·exact Nat.zero_le _
theorem Toks.peek {w:World}{R:Nat}{S:Value}{ts:List RT}(h:Toks w R S ts)(s:Cs):(Pe.peek ts s).text.length ≤ 281474976710656:=by
 unfold Pe.peek
 split
 ·exact h.tok _
 ·exact Nat.zero_le _
theorem zF {B:Nat}{w wr:World}(h:Below B w wr)(n:Nat):Below B w (wr.drewN n):=⟨h.os,h.tape,h.output,h.size,h.block⟩
theorem quad {w1:World}{B:Nat}{T:TypeId}{a b c d:Value}(h:w1.heap[B]? = some (.cells #[a,b,c,d] T (0,0))) :
 (w1.cell? ⟨B,0,none⟩ = some a ∧ w1.cell? ⟨B,1,none⟩ = some b ∧ w1.cell? ⟨B,2,none⟩ = some c ∧ w1.cell? ⟨B,3,none⟩ = some d) ∧
 (w1.frozen? ⟨B,0,none⟩ = false ∧ w1.frozen? ⟨B,1,none⟩ = false ∧ w1.frozen? ⟨B,2,none⟩ = false ∧ w1.frozen? ⟨B,3,none⟩ = false):=
 ⟨⟨by rw [cell_of_row _ _ _ _ _ _ h]; rfl,by rw [cell_of_row _ _ _ _ _ _ h]; rfl,by rw [cell_of_row _ _ _ _ _ _ h]; rfl,by rw [cell_of_row _ _ _ _ _ _ h]; rfl⟩,
   frozen_of_row _ _ _ _ _ h,frozen_of_row _ _ _ _ _ h,frozen_of_row _ _ _ _ _ h,frozen_of_row _ _ _ _ _ h⟩
theorem zKb (w:World)(R:Nat)(T:TypeId)(S:Value)(X:List Value)(ts:List RT)(s:Cs)(h:Cu w R T S X ts s)(hk:¬ (s.E = 0 ∧ 0 ≤ s.k ∧ s.k < (ts.length:Int))) :
 Calls Tryz.prog 36 #[.pointer (some ⟨R,0,none⟩)] w fun e w' => e = .returned (tokW RT.none) ∧ Below w.heap.size w w':=by
 obtain ⟨⟨c0,c1,c2,c3⟩,fr,hR⟩:=h.cells
 obtain ⟨p,n,c,rfl,hn,-⟩:=h.toks.val
 rw [hn] at hk
 obtain ⟨k,E,F⟩:=s
 dsimp only at c1 c2 c3 hk
 clear h hn
 have hbel:=zF ((Below.refl w.heap.size w).alloc (Nat.le_refl _) (.cells #[.int .i64 0,.string ⟨#[]⟩,.int .i64 0,.int .i64 0] 52))
 by_cases hE:E = 0
 ·subst hE
  by_cases h0:k < 0
  ·have hd0:decide (k < 0) = true:=decide_eq_true h0
   clear hk
   go_in
   go_wp2
   go_quiet (fail)
   go_wp2
   refine bodyPost_ret (v:=tokW RT.none) (by simp [tokW,RT.none,cbs,results,Tryz.results36,go_sem]) rfl ⟨rfl,?_⟩
   exact ((((hbel _).setCell (Nat.le_refl _) _).setCell (Nat.le_refl _) _).setCell (Nat.le_refl _) _).setCell (Nat.le_refl _) _
  ·have hd0:decide (k < 0) = false:=decide_eq_false h0
   have hd1:decide ((n:Int) ≤ k) = true:=decide_eq_true (by omega)
   clear hk
   go_in
   go_wp2
   go_quiet (fail)
   go_wp2
   refine bodyPost_ret (v:=tokW RT.none) (by simp [tokW,RT.none,cbs,results,Tryz.results36,go_sem]) rfl ⟨rfl,?_⟩
   exact ((((hbel _).setCell (Nat.le_refl _) _).setCell (Nat.le_refl _) _).setCell (Nat.le_refl _) _).setCell (Nat.le_refl _) _
 ·have hd0:(E == 0) = false:=by simpa using hE
  have hd1:(E != 0) = true:=by simpa using hE
  clear hk
  go_in
  go_wp2
  go_quiet (fail)
  go_wp2
  refine bodyPost_ret (v:=tokW RT.none) (by simp [tokW,RT.none,cbs,results,Tryz.results36,go_sem]) rfl ⟨rfl,?_⟩
  exact ((((hbel _).setCell (Nat.le_refl _) _).setCell (Nat.le_refl _) _).setCell (Nat.le_refl _) _).setCell (Nat.le_refl _) _
theorem zLW (w:World)(R:Nat)(T:TypeId)(S:Value)(X:List Value)(ts:List RT)(k F:Int)(h:Cu w R T S X ts ⟨k,0,F⟩)(hk0 : 0 ≤ k)(hk1:k < (ts.length:Int)) :
 Calls Tryz.prog 36 #[.pointer (some ⟨R,0,none⟩)] w fun e w' => e = .returned (tokW (tokAt ts k)) ∧ Below w.heap.size w w':=by
 obtain ⟨⟨c0,c1,c2,c3⟩,fr,hR⟩:=h.cells
 obtain ⟨p,n,c,rfl,hn,hm⟩:=h.toks.val
 obtain ⟨q,rfl⟩:∃ q:Nat,k = q:=⟨k.toNat,by omega⟩
 have hq:q < ts.length:=by omega
 have ht:ts[q]? = some (tokAt ts q):=by
  rw [tokAt,if_pos ⟨hk0,by omega⟩,List.getElem?_eq_getElem hq]
  simp [List.getD,hq]
 generalize tokAt ts q = t at ht ⊢
 rcases hm with h0 | ⟨b,off,rfl,hb,hne,hc⟩
 ·omega
 obtain ⟨t0,t1,t2,t3⟩:=hc q t ht
 have hki:(q:Int) < (n:Int):=by omega
 have hkn:q < n:=by omega
 have hd0:decide ((q:Int) < 0) = false:=decide_eq_false (by omega)
 have hd1:decide ((n:Int) ≤ (q:Int)) = false:=decide_eq_false (by omega)
 have hd2:decide (n ≤ q) = false:=decide_eq_false (by omega)
 dsimp only at c1 c2 c3
 clear h hn hc ht
 go_in
 go_wp2
 go_quiet (fail)
 go_wp2
 obtain ⟨wq,hwq⟩:∃ wq,wq = ((w.alloc (.cells #[.int .i64 0,.string ⟨#[]⟩,.int .i64 0,.int .i64 0] 52)).drewN nq):=⟨_,rfl⟩
 rw [← hwq]
 have hbel:Below w.heap.size w wq:=by rw [hwq]; exact zF ((Below.refl _ _).alloc (Nat.le_refl _) _) _
 rw [← hbel.cell (p:=⟨R,_,none⟩) hR] at c0 c1
 rw [← hbel.cell (p:=⟨b,_,none⟩) hb] at t0 t1 t2 t3
 have hblk:wq.heap[w.heap.size]? = some (.cells #[.int .i64 0,.string ⟨#[]⟩,.int .i64 0,.int .i64 0] 52 (0,0)):=by rw [hwq]; exact heap_alloc_new w _
 obtain ⟨⟨d0,d1,d2,d3⟩,g0,g1,g2,g3⟩:=quad hblk
 clear hwq hblk c2 c3 fr hd0 hd1 hd2
 refine wp_region_still_tail 10 (by kernel_rfl) (by kernel_rfl) ?_
 simp only [List.take_succ_cons,List.take_zero,List.drop_succ_cons,List.drop_zero]
 change wpStill _ _ wq.drew _ _ _
 repeat still_step
 refine wpStill_nil ?_
 change wpList _ _ _ _ _ wq.drew
 go_wp2
 refine bodyPost_ret (v:=tokW t) (by simp [tokW,results,Tryz.results36,go_sem,d0,d1,d2,d3]) rfl ⟨rfl,?_⟩
 exact ((((zF hbel 1).setCell (Nat.le_refl _) _).setCell (Nat.le_refl _) _).setCell (Nat.le_refl _) _).setCell (Nat.le_refl _) _
theorem zU (w:World)(R:Nat)(T:TypeId)(S:Value)(X:List Value)(ts:List RT)(s:Cs)(h:Cu w R T S X ts s) :
 Calls Tryz.prog 36 #[.pointer (some ⟨R,0,none⟩)] w fun e w' => e = .returned (tokW (peek ts s)) ∧ Below w.heap.size w w':=by
 by_cases hk:s.E = 0 ∧ 0 ≤ s.k ∧ s.k < (ts.length:Int)
 ·obtain ⟨k,E,F⟩:=s
  obtain ⟨rfl,hk0,hk1⟩:=hk
  exact zLW w R T S X ts k F h hk0 hk1
 ·have hp:peek ts s = RT.none:=by
   unfold peek
   split
   ·exact Px.tokAt_out fun hh => hk ⟨by assumption,hh.1,hh.2⟩
   ·rfl
  rw [hp]
  exact zKb w R T S X ts s h hk
theorem Gr.box {R B:Nat}{w w1:World}{o:Obj}(h:Gr R w w1)(hb:w.heap[B]? = some o)(hne:B ≠ R):w1.heap[B]? = some o:=(h.block _ (Array.getElem?_eq_some_iff.1 hb).1 hne).trans hb
theorem zE {w:World}{B:Nat}{o:Obj}(o2:Obj)(hb:w.heap[B]? = some o):(w.alloc o2).heap[B]? = some o:=
 (Gr.alloc (Gr.refl (w.heap.size) w) o2).box hb (Nat.ne_of_lt (Array.getElem?_eq_some_iff.1 hb).1)
theorem zA {w:World}{B:Nat}{o:Obj}(h:w.heap[B]? = some o):B < w.heap.size:=(Array.getElem?_eq_some_iff.1 h).1
theorem zC {B:Nat}{w w1 w2:World}(h:Below B w w1)(hb:Below w1.heap.size w1 w2)(hB:B ≤ w1.heap.size):Below B w w2:=⟨hb.os.trans h.os,hb.tape.trans h.tape,hb.output.trans h.output,Nat.le_trans h.size hb.size,fun i hi => (hb.block i (Nat.lt_of_lt_of_le hi hB)).trans (h.block i hi)⟩
theorem zB (w:World)(o:Obj):(w.alloc o).heap.size = w.heap.size + 1:=Array.size_push _
theorem mine {R:Nat}{w w1:World}{o:Obj}(hg:Gr R (w.alloc o) w1)(hR:R < w.heap.size):w1.heap[w.heap.size]? = some o:=hg.box (heap_alloc_new w _) (Nat.ne_of_gt hR)
theorem zNu {w w1:World}{o:Obj}(hb:Below (w.alloc o).heap.size (w.alloc o) w1):w1.heap[w.heap.size]? = some o:=(hb.block _ (by rw [zB]; omega)).trans (heap_alloc_new w _)
structure Nw (R:Nat) (w wA wB:World):Prop where
 below:Below w.heap.size wA wB
 gr:Gr R w wB
theorem Nw.start {R:Nat}{w wA:World}(h:Gr R w wA):Nw R w wA wA:=⟨Below.refl _ _,h⟩
theorem Nw.set {R:Nat}{w wA wB:World}(h:Nw R w wA wB){p:Addr}(hp:w.heap.size ≤ p.block)(u:Value):Nw R w wA (wB.setCell p u):=⟨h.below.setCell hp u,h.gr.setNew hp u⟩
theorem Nw.alloc {R:Nat}{w wA wB:World}(h:Nw R w wA wB)(o:Obj):Nw R w wA (wB.alloc o):=⟨h.below.alloc h.gr.size o,h.gr.alloc o⟩
theorem Cu.fin {w wA wB:World}{R:Nat}{T:TypeId}{S:Value}{X X2:List Value}{ts:List RT}{s0 s:Cs}(h0:Cu w R T S X ts s0)(hA:Cu wA R T S X2 ts s)(n:Nw R w wA wB):Cu wB R T S X2 ts s:=
 ⟨(n.below.block R h0.lt).trans hA.row,h0.toks.gr n.gr⟩
theorem Cu.keep {w wB:World}{R:Nat}{T:TypeId}{S:Value}{X:List Value}{ts:List RT}{s0:Cs}(h0:Cu w R T S X ts s0)(n:Nw R w w wB):Cu wB R T S X ts s0:=h0.fin h0 n
theorem zL (w:World)(R:Nat)(T:TypeId)(S:Value)(X:List Value)(ts:List RT)(s:Cs)(h:Cu w R T S X ts s) :
 Calls Tryz.prog 60 #[.pointer (some ⟨R,0,none⟩)] w fun e w' => e = .returned (tokW (peek ts s)) ∧ Cu w' R T S X ts (next s) ∧ Gr R w w':=by
 have h1:=h.go ((Below.refl w.heap.size w).alloc (Nat.le_refl _) (.cells #[.int .i64 0,.string ⟨#[]⟩,.int .i64 0,.int .i64 0] 52))
 have hp:=zU _ R T S X ts s h1
 have hlt:=h.lt
 generalize peek ts s = t at hp ⊢
 unfold tokW at hp
 have HP:=vH hp
 have HH:=vH h
 have H1:=vH h1
 have hne:R ≠ w.heap.size:=Nat.ne_of_lt hlt
 have hne2:w.heap.size ≠ R:=fun e => hne e.symm
 clear h hp h1
 go_in
 go_wp2_with (first
  | (go_at_call 36; refine (HP.out).mono ?_; rintro e w1 ⟨rfl,hb1⟩; have hr1:=H1.out.go hb1; obtain ⟨⟨c0,c1,c2,c3⟩,fr,hRl⟩:=hr1.cells; have HR1:=vH hr1; clear hr1; have fr1:=fr 1; clear fr c0 c2 c3; have hk1:=mine (Gr.of hb1) hlt; obtain ⟨⟨d0,d1,d2,d3⟩,g0,g1,g2,g3⟩:=quad hk1; have hl1:=zA hk1; clear hk1; have hn1:w.heap.size ≠ w1.heap.size:=Nat.ne_of_lt hl1; have hn2:w1.heap.size ≠ w.heap.size:=fun e => hn1 e.symm; have hn3:R ≠ w1.heap.size:=Nat.ne_of_lt hRl; have hn4:w1.heap.size ≠ R:=fun e => hn3 e.symm; have HB1:=vH hb1; clear hb1))
 refine bodyPost_ret (v:=tokW t) (by simp [tokW,results,Tryz.results60,go_sem,hl1,d0,d1,d2,d3]) rfl ⟨rfl,?_⟩
 have hn:=((((((Nw.start (((Gr.alloc (Gr.refl R w) _).below HB1.out).set 1 (.int .i64 (wrap64 (s.k + 1))))).set (p:=⟨w.heap.size,0,none⟩) (Nat.le_refl _) (.int .i64 t.kind)).set (p:=⟨w.heap.size,1,none⟩) (Nat.le_refl _) (.string (cbs t.text))).set (p:=⟨w.heap.size,2,none⟩) (Nat.le_refl _) (.int .i64 t.num)).set (p:=⟨w.heap.size,3,none⟩) (Nat.le_refl _) (.int .i64 t.at_))).alloc (.cells (vT t) 52)
 exact ⟨HH.out.fin (HR1.out.set_k (inc s.k)) hn,hn.gr⟩
theorem zAF (w:World)(R:Nat)(T:TypeId)(S:Value)(X:List Value)(ts:List RT)(s:Cs)(h:Cu w R T S X ts s)(kind:Int)(text:ByteArray) :
 Calls Tryz.prog 37 #[.pointer (some ⟨R,0,none⟩),.int .i64 kind,.string text] w fun e w' => e = .returned (.bool (sees ts s kind text.data.toList)) ∧ Below w.heap.size w w':=by
 have hp:=zU _ R T S X ts s h
 unfold sees
 generalize peek ts s = t at hp ⊢
 unfold tokW at hp
 have htx:((cbs t.text).toList == text.toList) = (t.text == text.data.toList):=by rw [zR,Lib.toList_data]
 generalize (t.text == text.data.toList) = tx at htx ⊢
 have HP:=vH hp
 generalize hR:(decide (t.kind = kind) && tx) = res
 have HR:=vH hR
 clear h hp hR
 go_in
 go_wp2_with (first
  | (go_at_call 36; refine (HP.out).mono ?_; rintro e w1 ⟨rfl,hb1⟩))
 all_goals go_ret
 all_goals refine ⟨zV ?_,hb1.alloc hb1.size _⟩
 all_goals (rw [← HR.out]; clear HR HP; try simp_all)
theorem zG (w:World)(R:Nat)(T:TypeId)(S:Value)(X:List Value)(ts:List RT)(s:Cs)(h:Cu w R T S X ts s)(text:ByteArray) :
 Calls Tryz.prog 66 #[.pointer (some ⟨R,0,none⟩),.string text] w fun e w' => e = .returned (.bool (sees ts s 4 text.data.toList)) ∧ Below w.heap.size w w':=by
 have hp:=zAF _ R T S X ts s h 4 text
 generalize sees ts s 4 text.data.toList = res at hp ⊢
 clear h
 go_in
 go_wp2_with (first
  | (go_at_call 37; refine (hp).mono ?_; rintro e w1 ⟨rfl,hb1⟩))
 go_ret
 exact ⟨rfl,hb1⟩
theorem zA2 (w:World)(R:Nat)(T:TypeId)(S:Value)(X:List Value)(ts:List RT)(s:Cs)(h:Cu w R T S X ts s)(q:Int) :
 Calls Tryz.prog 42 #[.pointer (some ⟨R,0,none⟩),.int .i64 q] w fun e w' => e = .returned (.tuple #[]) ∧ Cu w' R T S X ts (fail ts s q) ∧ Gr R w w':=by
 obtain ⟨⟨c0,c1,c2,c3⟩,fr,hR⟩:=h.cells
 have hp:=zU _ R T S X ts s h
 have HH:=vH h
 by_cases hE:s.E = 0
 ·have hf:fail ts s q = ⟨s.k,q,(tokAt ts s.k).at_⟩:=by unfold fail; rw [if_pos hE]
  have hpk:peek ts s = tokAt ts s.k:=by unfold peek; rw [if_pos hE]
  rw [hE] at c2
  rw [hpk] at hp
  rw [hf]
  generalize tokAt ts s.k = t at hp ⊢
  unfold tokW at hp
  have hfd:∀ w1:World,(Instr.field 52 (.agg #[.int .i64 t.kind,.string (cbs t.text),.int .i64 t.num,.int .i64 t.at_]) 3).run Tryz.prog w1 = .ok (.int .i64 t.at_) w1:=fun _ => by kernel_rfl
  have HP:=vH hp
  clear h hp hE hf hpk c0 c1 c3 fr
  go_in
  go_wp2_with (first
   | (go_at_call 36; refine (HP.out).mono ?_; rintro e w1 ⟨rfl,hb1⟩; have hr1:=HH.out.go hb1; obtain ⟨⟨c0,c1,c2,c3⟩,fr,hRl⟩:=hr1.cells; have HR1:=vH hr1; clear hr1; have fr2:=fr 2; have fr3:=fr 3; clear fr))
  have hg:Gr R w ((w1.setCell ⟨R,2,none⟩ (.int .i64 q)).setCell ⟨R,3,none⟩ (.int .i64 t.at_)):=((Gr.of hb1).set 2 _).set 3 _
  first
   | exact bodyPost_end (results_none rfl _ _ _) rfl ⟨rfl,HR1.out.set_f q t.at_,hg⟩
   | exact bodyPost_ret (results_none rfl _ _ _) rfl ⟨rfl,HR1.out.set_f q t.at_,hg⟩
 ·have hf:fail ts s q = s:=by unfold fail; rw [if_neg hE]
  have hd0:(s.E == 0) = false:=by simpa using hE
  rw [hf]
  clear h hp hf hE c0 c1 c3 fr
  go_in
  go_wp2_with fail
  first
   | exact bodyPost_end (results_none rfl _ _ _) rfl ⟨rfl,HH.out,Gr.refl _ _⟩
   | exact bodyPost_ret (results_none rfl _ _ _) rfl ⟨rfl,HH.out,Gr.refl _ _⟩
theorem zKN (l:List UInt8):(cbs l).size = l.length:=by simp [cbs,ByteArray.size]
theorem clone_any (w:World)(s:ByteArray)(hs:s.size ≤ 281474976710656) :
 Calls Tryz.prog 88 #[.string s] w fun e w' => e = .returned (.string s) ∧ Below w.heap.size w w':=by
 go_in
 go_wp2_with (go_at_call 98; refine (Any.stringslite_Clone Tryz.laysM316 s _ hs).mono ?_; rintro e w1 ⟨rfl,hb⟩)
 go_ret
 exact ⟨rfl,hb⟩
theorem zBD (w:World)(R:Nat)(T:TypeId)(S:Value)(X:List Value)(ts:List RT)(s:Cs)(h:Cu w R T S X ts s) :
 Calls Tryz.prog 90 #[.pointer (some ⟨R,0,none⟩)] w fun e w' => e = .returned (.string (cbs (peek ts s).text)) ∧ Cu w' R T S X ts (next s) ∧ Gr R w w':=by
 have hp:=zL w R T S X ts s h
 have hsz:=h.toks.peek s
 generalize peek ts s = t at hp hsz ⊢
 unfold tokW at hp
 have hfd:∀ w1:World,(Instr.field 52 (.agg #[.int .i64 t.kind,.string (cbs t.text),.int .i64 t.num,.int .i64 t.at_]) 1).run Tryz.prog w1 = .ok (.string (cbs t.text)) w1:=fun _ => by kernel_rfl
 have HP:=vH hp
 have HS:=vH hsz
 clear h hp hsz
 go_in
 go_wp2_with (first
  | (go_at_call 60; refine (HP.out).mono ?_; rintro e w1 ⟨rfl,hr1,hg1⟩; have HR1:=vH hr1; have HG1:=vH hg1; clear hr1 hg1)
  | (go_at_call 88; refine (clone_any w1 (cbs t.text) (by rw [zKN]; exact HS.out)).mono ?_; rintro e w2 ⟨rfl,hb2⟩))
 go_ret
 exact ⟨rfl,HR1.out.go hb2,HG1.out.below hb2⟩
theorem zJ (w:World)(R:Nat)(T:TypeId)(S:Value)(X:List Value)(ts:List RT)(s:Cs)(h:Cu w R T S X ts s)(text:ByteArray) :
 Calls Tryz.prog 62 #[.pointer (some ⟨R,0,none⟩),.string text] w fun e w' => e = .returned (tokW (sign ts s text.data.toList).1) ∧ Cu w' R T S X ts (sign ts s text.data.toList).2 ∧ Gr R w w':=by
 have h1:=h.go ((Below.refl w.heap.size w).alloc (Nat.le_refl _) (.cells #[.int .i64 0,.string ⟨#[]⟩,.int .i64 0,.int .i64 0] 52))
 have hs:=zG _ R T S X ts s h1 text
 have hlt:=h.lt
 cases hb:sees ts s 4 text.data.toList with
 | true =>
   have hsg:sign ts s text.data.toList = (peek ts s,next s):=by simp [sign,failUnless,hb]
   rw [hsg]
   rw [hb] at hs
   have hp:∀ w1,Cu w1 R T S X ts s → Calls Tryz.prog 60 #[.pointer (some ⟨R,0,none⟩)] w1 _:=fun w1 h1 => zL w1 R T S X ts s h1
   dsimp only
   generalize peek ts s = t at hp ⊢
   unfold tokW at hp
   have HP:=vH hp
   have HH:=vH h
   have H1:=vH h1
   have HS:=vH hs
   clear h h1 hs hp hsg hb
   go_in
   go_wp2_with (first
    | (go_at_call 66; refine (HS.out).mono ?_; rintro e w1 ⟨rfl,hb1⟩; have HG1:=vH (Gr.of (R:=R) hb1); have HR1:=vH (H1.out.go hb1); clear hb1)
    | (go_at_call 60; refine (HP.out _ HR1.out).mono ?_; rintro e w2 ⟨rfl,hr2,hg2⟩; have HG2:=vH (HG1.out.trans hg2); have HR2:=vH hr2; clear hr2 hg2; have hk:=mine HG2.out hlt; obtain ⟨⟨d0,d1,d2,d3⟩,g0,g1,g2,g3⟩:=quad hk; have hl:=zA hk; clear hk))
   have hn:=((((Nw.start ((Gr.alloc (Gr.refl R w) _).trans HG2.out)).set (p:=⟨w.heap.size,0,none⟩) (Nat.le_refl _) (.int .i64 t.kind)).set (p:=⟨w.heap.size,1,none⟩) (Nat.le_refl _) (.string (cbs t.text))).set (p:=⟨w.heap.size,2,none⟩) (Nat.le_refl _) (.int .i64 t.num)).set (p:=⟨w.heap.size,3,none⟩) (Nat.le_refl _) (.int .i64 t.at_)
   exact bodyPost_ret (v:=tokW t) (by simp [tokW,results,Tryz.results62,go_sem,d0,d1,d2,d3]) rfl ⟨rfl,HH.out.fin HR2.out hn,hn.gr⟩
 | false =>
   have hsg:sign ts s text.data.toList = (peek ts (fail ts s 2),next (fail ts s 2)):=by simp [sign,failUnless,hb]
   rw [hsg]
   rw [hb] at hs
   have hp:∀ w1,Cu w1 R T S X ts (fail ts s 2) → Calls Tryz.prog 60 #[.pointer (some ⟨R,0,none⟩)] w1 _:=fun w1 h1 => zL w1 R T S X ts (fail ts s 2) h1
   dsimp only
   generalize peek ts (fail ts s 2) = t at hp ⊢
   unfold tokW at hp
   have HP:=vH hp
   have HH:=vH h
   have H1:=vH h1
   have HS:=vH hs
   clear h h1 hs hp hsg hb
   go_in
   go_wp2_with (first
    | (go_at_call 66; refine (HS.out).mono ?_; rintro e w1 ⟨rfl,hb1⟩; have HG1:=vH (Gr.of (R:=R) hb1); have HR1:=vH (H1.out.go hb1); clear hb1)
    | (go_at_call 42; refine (zA2 _ R T S X ts s HR1.out 2).mono ?_; rintro e wf ⟨rfl,hrf,hgf⟩; have HGF:=vH (HG1.out.trans hgf); have HRF:=vH hrf; clear hrf hgf)
    | (go_at_call 60; refine (HP.out _ HRF.out).mono ?_; rintro e w2 ⟨rfl,hr2,hg2⟩; have HG2:=vH (HGF.out.trans hg2); have HR2:=vH hr2; clear hr2 hg2; have hk:=mine HG2.out hlt; obtain ⟨⟨d0,d1,d2,d3⟩,g0,g1,g2,g3⟩:=quad hk; have hl:=zA hk; clear hk))
   have hn:=((((Nw.start ((Gr.alloc (Gr.refl R w) _).trans HG2.out)).set (p:=⟨w.heap.size,0,none⟩) (Nat.le_refl _) (.int .i64 t.kind)).set (p:=⟨w.heap.size,1,none⟩) (Nat.le_refl _) (.string (cbs t.text))).set (p:=⟨w.heap.size,2,none⟩) (Nat.le_refl _) (.int .i64 t.num)).set (p:=⟨w.heap.size,3,none⟩) (Nat.le_refl _) (.int .i64 t.at_)
   exact bodyPost_ret (v:=tokW t) (by simp [tokW,results,Tryz.results62,go_sem,d0,d1,d2,d3]) rfl ⟨rfl,HH.out.fin HR2.out hn,hn.gr⟩
theorem name_any (w:World)(R:Nat)(T:TypeId)(S:Value)(X:List Value)(ts:List RT)(s:Cs)(h:Cu w R T S X ts s) :
 Calls Tryz.prog 61 #[.pointer (some ⟨R,0,none⟩)] w fun e w' => e = .returned (.string (cbs (name ts s).1)) ∧ Cu w' R T S X ts (name ts s).2 ∧ Gr R w w':=by
 have hp:=zU w R T S X ts s h
 unfold tokW at hp
 have hfd:∀ w1:World,(Instr.field 52 (.agg #[.int .i64 (peek ts s).kind,.string (cbs (peek ts s).text),.int .i64 (peek ts s).num,.int .i64 (peek ts s).at_]) 0).run Tryz.prog w1 = .ok (.int .i64 (peek ts s).kind) w1:=fun _ => by kernel_rfl
 by_cases hk:(peek ts s).kind = 1
 ·have hsg:name ts s = ((peek ts s).text,next s):=by simp [name,failUnless,hk]
  rw [hsg]
  have ht:∀ w1,Cu w1 R T S X ts s → Calls Tryz.prog 90 #[.pointer (some ⟨R,0,none⟩)] w1 _:=fun w1 h1 => zBD w1 R T S X ts s h1
  dsimp only
  generalize peek ts s = t at hp hfd hk ht ⊢
  have hd:(t.kind != 1) = false:=by simp [hk]
  have HP:=vH hp
  have HH:=vH h
  have HT:=vH ht
  clear h hp hsg hk ht
  go_in
  go_wp2_with (first
   | (go_at_call 36; refine (HP.out).mono ?_; rintro e w1 ⟨rfl,hb1⟩; have HR1:=vH (HH.out.go hb1); have HG1:=vH (Gr.of (R:=R) hb1); clear hb1)
   | (go_at_call 90; refine (HT.out _ HR1.out).mono ?_; rintro e w2 ⟨rfl,hr2,hg2⟩; have HR2:=vH hr2; have HG2:=vH (HG1.out.trans hg2); clear hr2 hg2))
  go_ret
  exact ⟨rfl,HR2.out,HG2.out⟩
 ·have hsg:name ts s = ((peek ts (fail ts s 2)).text,next (fail ts s 2)):=by simp [name,failUnless,hk]
  rw [hsg]
  dsimp only
  generalize peek ts s = t at hp hfd hk
  have hd:(t.kind != 1) = true:=by simp [hk]
  have ht:∀ w1,Cu w1 R T S X ts (fail ts s 2) → Calls Tryz.prog 90 #[.pointer (some ⟨R,0,none⟩)] w1 _:=fun w1 h1 => zBD w1 R T S X ts (fail ts s 2) h1
  generalize (peek ts (fail ts s 2)).text = tx at ht ⊢
  have HP:=vH hp
  have HH:=vH h
  have HT:=vH ht
  clear h hp hsg hk ht
  go_in
  go_wp2_with (first
   | (go_at_call 36; refine (HP.out).mono ?_; rintro e w1 ⟨rfl,hb1⟩; have HR1:=vH (HH.out.go hb1); have HG1:=vH (Gr.of (R:=R) hb1); clear hb1)
   | (go_at_call 42; refine (zA2 _ R T S X ts s HR1.out 2).mono ?_; rintro e wf ⟨rfl,hrf,hgf⟩; have HGF:=vH (HG1.out.trans hgf); have HRF:=vH hrf; clear hrf hgf)
   | (go_at_call 90; refine (HT.out _ HRF.out).mono ?_; rintro e w2 ⟨rfl,hr2,hg2⟩; have HR2:=vH hr2; have HG2:=vH (HGF.out.trans hg2); clear hr2 hg2))
  go_ret
  exact ⟨rfl,HR2.out,HG2.out⟩
end Go.Proofs.YtipmjjfknhblnaaGreatDoor
