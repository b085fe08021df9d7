/-
  The contracts of the answer's reader (runrigref3) over the p
-/
import Derived.Test.YteadgahhchlgeaaDoorK03
import Derived.Test.YteadgahhchlgeaaDoorK04
import Derived.Test.YteadgahhchlgeaaDoorK02
set_option maxRecDepth 8000
set_option maxHeartbeats 8000000
namespace Go.Proofs.YteadgahhchlgeaaDoor
open Go.RowKit
open Px (RT tokAt isT)
open Pe (inc dec)
open Qe (Q)
structure Qr (w:World) (R:Nat) (S:Value) (ts:List RT) (s:Q):Prop where
 row:w.heap[R]? = some (.cells #[S,.int .i64 s.k,.int .i64 s.o,.int .i64 s.E,.int .i64 s.F] 69 (0,0))
 toks:Toks w R S ts
theorem Qr.lt {w:World}{R:Nat}{S:Value}{ts:List RT}{s:Q}(h:Qr w R S ts s):R < w.heap.size:=(Array.getElem?_eq_some_iff.1 h.row).1
theorem Qr.cells {w:World}{R:Nat}{S:Value}{ts:List RT}{s:Q}(h:Qr w R S ts s) :
 (w.cell? ⟨R,0,none⟩ = some S ∧ w.cell? ⟨R,1,none⟩ = some (.int .i64 s.k) ∧ w.cell? ⟨R,2,none⟩ = some (.int .i64 s.o) ∧ w.cell? ⟨R,3,none⟩ = some (.int .i64 s.E) ∧ w.cell? ⟨R,4,none⟩ = some (.int .i64 s.F)) ∧
 (∀ i,w.frozen? ⟨R,i,none⟩ = false) ∧ R < w.heap.size:=by
 have hr:=h.row
 refine ⟨⟨?_,?_,?_,?_,?_⟩,fun i => frozen_of_row _ _ _ _ _ hr,h.lt⟩ <;> (rw [cell_of_row _ _ _ _ _ _ hr]; rfl)
theorem Qr.go {w w':World}{R:Nat}{S:Value}{ts:List RT}{s:Q}(h:Qr w R S ts s)(hb:Below w.heap.size w w'):Qr w' R S ts s:=
 ⟨(hb.block _ h.lt).trans h.row,h.toks.gr (Gr.of hb)⟩
theorem Qr.fin {w wA wB:World}{R:Nat}{S:Value}{ts:List RT}{s0 s:Q}(h0:Qr w R S ts s0)(hA:Qr wA R S ts s)(n:Nw R w wA wB):Qr wB R S ts s:=
 ⟨(n.below.block _ h0.lt).trans hA.row,h0.toks.gr n.gr⟩
theorem Qr.set_k {w:World}{R:Nat}{S:Value}{ts:List RT}{s:Q}(h:Qr w R S ts s)(q:Int):Qr (w.setCell ⟨R,1,none⟩ (.int .i64 q)) R S ts ⟨q,s.o,s.E,s.F⟩:=
 ⟨by have:=Lib.heap_setCell_same h.row (i:=1) (v:=.int .i64 q); simpa using this,h.toks.gr ((Gr.refl R w).set 1 _)⟩
theorem Qr.set_o {w:World}{R:Nat}{S:Value}{ts:List RT}{s:Q}(h:Qr w R S ts s)(q:Int):Qr (w.setCell ⟨R,2,none⟩ (.int .i64 q)) R S ts ⟨s.k,q,s.E,s.F⟩:=
 ⟨by have:=Lib.heap_setCell_same h.row (i:=2) (v:=.int .i64 q); simpa using this,h.toks.gr ((Gr.refl R w).set 2 _)⟩
theorem Qr.set_f {w:World}{R:Nat}{S:Value}{ts:List RT}{s:Q}(h:Qr w R S ts s)(e a:Int):Qr ((w.setCell ⟨R,3,none⟩ (.int .i64 e)).setCell ⟨R,4,none⟩ (.int .i64 a)) R S ts ⟨s.k,s.o,e,a⟩:=by
 have h1:=Lib.heap_setCell_same h.row (i:=3) (v:=.int .i64 e)
 have h2:=Lib.heap_setCell_same h1 (i:=4) (v:=.int .i64 a)
 exact ⟨by simpa using h2,h.toks.gr (((Gr.refl R w).set 3 _).set 4 _)⟩
theorem zAS (w:World)(R:Nat)(S:Value)(ts:List RT)(s:Q)(h:Qr w R S ts s) :
 Calls Tryd.prog 16 #[.pointer (some ⟨R,0,none⟩)] w fun e w' => e = .returned (.bool (s.E == 0)) ∧ w = w':=by
 obtain ⟨⟨c0,c1,c2,c3,c4⟩,fr,hR⟩:=h.cells
 clear h
 go_in
 go_wp2
 go_ret
 exact ⟨rfl,rfl⟩
theorem zLs (w:World)(R:Nat)(S:Value)(ts:List RT)(s:Q)(h:Qr w R S ts s)(hk:¬ (0 ≤ s.k ∧ s.k < (ts.length:Int))) :
 Calls Tryd.prog 17 #[.pointer (some ⟨R,0,none⟩)] w fun e w' => e = .returned (tokW RT.none) ∧ Below w.heap.size w w':=by
 obtain ⟨⟨c0,c1,c2,c3,c4⟩,fr,hR⟩:=h.cells
 obtain ⟨p,n,c,rfl,hn,-⟩:=h.toks.val
 rw [hn] at hk
 obtain ⟨k,o,E,F⟩:=s
 dsimp only at c1 c2 c3 c4 hk
 clear h hn
 have hbel:=zE ((Below.refl w.heap.size w).alloc (Nat.le_refl _) (.cells #[.int .i64 0,.string ⟨#[]⟩,.int .i64 0,.int .i64 0] 71))
 by_cases h0:k < 0
 ·have hd0:decide (k < 0) = true:=decide_eq_true h0
  clear hk
  go_in
  go_wp2
  go_quiet (fail)
  go_wp2
  refine bodyPost_ret (v:=tokW RT.none) (by simp [tokW,RT.none,cbs,results,Tryd.results17,go_sem]) rfl ⟨rfl,?_⟩
  exact ((((hbel _).setCell (Nat.le_refl _) _).setCell (Nat.le_refl _) _).setCell (Nat.le_refl _) _).setCell (Nat.le_refl _) _
 ·have hd0:decide (k < 0) = false:=decide_eq_false h0
  have hd1:decide ((n:Int) ≤ k) = true:=decide_eq_true (by omega)
  clear hk
  go_in
  go_wp2
  go_quiet (fail)
  go_wp2
  refine bodyPost_ret (v:=tokW RT.none) (by simp [tokW,RT.none,cbs,results,Tryd.results17,go_sem]) rfl ⟨rfl,?_⟩
  exact ((((hbel _).setCell (Nat.le_refl _) _).setCell (Nat.le_refl _) _).setCell (Nat.le_refl _) _).setCell (Nat.le_refl _) _
theorem zNT (w:World)(R:Nat)(S:Value)(ts:List RT)(k o E F:Int)(h:Qr w R S ts ⟨k,o,E,F⟩)(hk0 : 0 ≤ k)(hk1:k < (ts.length:Int)) :
 Calls Tryd.prog 17 #[.pointer (some ⟨R,0,none⟩)] w fun e w' => e = .returned (tokW (tokAt ts k)) ∧ Below w.heap.size w w':=by
 obtain ⟨⟨c0,c1,c2,c3,c4⟩,fr,hR⟩:=h.cells
 obtain ⟨p,n,c,rfl,hn,hm⟩:=h.toks.val
 obtain ⟨q,rfl⟩:∃ q:Nat,k = q:=⟨k.toNat,by omega⟩
 have hq:q < ts.length:=by omega
 have ht:ts[q]? = some (tokAt ts q):=by
  rw [tokAt,if_pos ⟨hk0,by omega⟩,List.getElem?_eq_getElem hq]
  simp [List.getD,hq]
 generalize tokAt ts q = t at ht ⊢
 rcases hm with h0 | ⟨b,off,rfl,hb,hne,hc⟩
 ·omega
 obtain ⟨t0,t1,t2,t3⟩:=hc q t ht
 have hki:(q:Int) < (n:Int):=by omega
 have hkn:q < n:=by omega
 have hd0:decide ((q:Int) < 0) = false:=decide_eq_false (by omega)
 have hd1:decide ((n:Int) ≤ (q:Int)) = false:=decide_eq_false (by omega)
 have hd2:decide (n ≤ q) = false:=decide_eq_false (by omega)
 dsimp only at c1 c2 c3 c4
 clear h hn hc ht
 go_in
 go_wp2
 go_quiet (fail)
 go_wp2
 obtain ⟨wq,hwq⟩:∃ wq,wq = ((w.alloc (.cells #[.int .i64 0,.string ⟨#[]⟩,.int .i64 0,.int .i64 0] 71)).drewN nq):=⟨_,rfl⟩
 rw [← hwq]
 have hbel:Below w.heap.size w wq:=by rw [hwq]; exact zE ((Below.refl _ _).alloc (Nat.le_refl _) _) _
 rw [← hbel.cell (p:=⟨R,_,none⟩) hR] at c0 c1
 rw [← hbel.cell (p:=⟨b,_,none⟩) hb] at t0 t1 t2 t3
 have hblk:wq.heap[w.heap.size]? = some (.cells #[.int .i64 0,.string ⟨#[]⟩,.int .i64 0,.int .i64 0] 71 (0,0)):=by rw [hwq]; exact heap_alloc_new w _
 obtain ⟨⟨d0,d1,d2,d3⟩,g0,g1,g2,g3⟩:=quad hblk
 clear hwq hblk c2 c3 c4 fr hd0 hd1 hd2
 refine wp_region_still_tail 10 (by kernel_rfl) (by kernel_rfl) ?_
 simp only [List.take_succ_cons,List.take_zero,List.drop_succ_cons,List.drop_zero]
 change wpStill _ _ wq.drew _ _ _
 repeat still_step
 refine wpStill_nil ?_
 change wpList _ _ _ _ _ wq.drew
 go_wp2
 refine bodyPost_ret (v:=tokW t) (by simp [tokW,results,Tryd.results17,go_sem,d0,d1,d2,d3]) rfl ⟨rfl,?_⟩
 exact ((((zE hbel 1).setCell (Nat.le_refl _) _).setCell (Nat.le_refl _) _).setCell (Nat.le_refl _) _).setCell (Nat.le_refl _) _
theorem zAt (w:World)(R:Nat)(S:Value)(ts:List RT)(s:Q)(h:Qr w R S ts s) :
 Calls Tryd.prog 17 #[.pointer (some ⟨R,0,none⟩)] w fun e w' => e = .returned (tokW (tokAt ts s.k)) ∧ Below w.heap.size w w':=by
 by_cases hk : 0 ≤ s.k ∧ s.k < (ts.length:Int)
 ·obtain ⟨k,o,E,F⟩:=s
  exact zNT w R S ts k o E F h hk.1 hk.2
 ·rw [Px.tokAt_out hk]
  exact zLs w R S ts s h hk
theorem zI (w:World)(R:Nat)(S:Value)(ts:List RT)(s:Q)(h:Qr w R S ts s)(text:ByteArray)(h0 : 0 < text.size)(wd:Bool)(hw:wd = decide (97 ≤ (text[0].toNat:Int) ∧ (text[0].toNat:Int) ≤ 122)) :
 Calls Tryd.prog 18 #[.pointer (some ⟨R,0,none⟩),.string text] w fun e w' => e = .returned (.bool (Qe.is ts s wd text.data.toList)) ∧ Below w.heap.size w w':=by
 have ht:=zAt w R S ts s h
 have hok:∀ w1,Below w.heap.size w w1 → Calls Tryd.prog 16 #[.pointer (some ⟨R,0,none⟩)] w1 fun e w' => e = .returned (.bool (s.E == 0)) ∧ w1 = w':=fun w1 hb => zAS w1 R S ts s (h.go hb)
 unfold Qe.is isT
 generalize hT:tokAt ts s.k = T at ht ⊢
 unfold tokW at ht
 have htx:((cbs T.text).toList == text.toList) = (T.text == text.data.toList):=by rw [zR,Lib.toList_data]
 generalize (T.text == text.data.toList) = tx at htx ⊢
 have HT:=vH ht
 have HOK:=vH hok
 clear h hT ht hok
 generalize (s.E == 0) = e0 at HOK ⊢
 generalize hR:(e0 && (decide (T.kind = if wd = true then 3 else 4) && tx)) = res
 have HR:=vH hR
 have HW:=vH hw
 clear hR hw
 go_in
 go_wp2_with (first
  | (go_at_call 17; refine (HT.out).mono ?_; rintro e w1 ⟨rfl,hb1⟩)
  | (go_at_call 16; refine (HOK.out _ (hb1.alloc hb1.size _)).mono ?_; rintro e w1 ⟨rfl,rfl⟩))
 all_goals go_ret
 all_goals refine ⟨zKP ?_,hb1.alloc hb1.size _⟩
 all_goals (rw [← HR.out,HW.out]; clear HR HW HT HOK; try simp_all)
 all_goals (intro hk; rw [if_neg (by omega)] at hk; contradiction)
theorem zIA (w:World)(R:Nat)(S:Value)(ts:List RT)(s:Q)(h:Qr w R S ts s)(e:Int)(hE:(s.E == 0) = false) :
 Calls Tryd.prog 19 #[.pointer (some ⟨R,0,none⟩),.int .i64 e] w fun en w' => en = .returned (.tuple #[]) ∧ w = w':=by
 have hok:=zAS w R S ts s h
 rw [hE] at hok
 go_in
 go_wp2_with (first
  | (go_at_call 16; refine hok.mono ?_; rintro e w1 ⟨rfl,rfl⟩))
 first
  | refine bodyPost_end (results_none rfl _ _ _) rfl ⟨rfl,rfl⟩
  | refine bodyPost_ret (results_none rfl _ _ _) rfl ⟨rfl,rfl⟩
theorem zIz (w:World)(R:Nat)(S:Value)(ts:List RT)(s:Q)(h:Qr w R S ts s)(e:Int)(hE:(s.E == 0) = true) :
 Calls Tryd.prog 19 #[.pointer (some ⟨R,0,none⟩),.int .i64 e] w fun en w' => en = .returned (.tuple #[]) ∧ Qr w' R S ts ⟨s.k,s.o,e,(tokAt ts s.k).at_⟩ ∧ Gr R w w':=by
 have hok:=zAS w R S ts s h
 rw [hE] at hok
 have ht:=zAt w R S ts s h
 generalize hT:tokAt ts s.k = T at ht ⊢
 unfold tokW at ht
 have HT:=vH ht
 have HOK:=vH hok
 have HH:=vH h
 have hfd:∀ w1:World,(Instr.field 71 (.agg #[.int .i64 T.kind,.string (cbs T.text),.int .i64 T.num,.int .i64 T.at_]) 3).run Tryd.prog w1 = .ok (.int .i64 T.at_) w1:=fun _ => by kernel_rfl
 clear ht hok h hT
 go_in
 go_wp2_with (first
  | (go_at_call 16; refine (HOK.out).mono ?_; rintro e w1 ⟨rfl,rfl⟩)
  | (go_at_call 17; refine (HT.out).mono ?_; rintro e w1 ⟨rfl,hb1⟩; have hr1:=HH.out.go hb1; obtain ⟨⟨c0,c1,c2,c3,c4⟩,fr,hRl⟩:=hr1.cells; have HR1:=vH hr1; clear hr1; have fr3:=fr 3; have fr4:=fr 4; clear fr))
 have hg:Gr R w ((w1.setCell ⟨R,3,none⟩ (.int .i64 e)).setCell ⟨R,4,none⟩ (.int .i64 T.at_)):=((Gr.of hb1).set 3 _).set 4 _
 first
  | exact bodyPost_end (results_none rfl _ _ _) rfl ⟨rfl,HR1.out.set_f e T.at_,hg⟩
  | exact bodyPost_ret (results_none rfl _ _ _) rfl ⟨rfl,HR1.out.set_f e T.at_,hg⟩
theorem zAn (w:World)(R:Nat)(S:Value)(ts:List RT)(s:Q)(h:Qr w R S ts s)(e:Int) :
 Calls Tryd.prog 19 #[.pointer (some ⟨R,0,none⟩),.int .i64 e] w fun en w' => en = .returned (.tuple #[]) ∧ Qr w' R S ts (Qe.fail ts s e) ∧ Gr R w w':=by
 unfold Qe.fail
 by_cases hE:s.E = 0
 ·rw [if_pos hE]
  exact zIz w R S ts s h e (by rw [hE]; rfl)
 ·rw [if_neg hE]
  refine (zIA w R S ts s h e (by simpa using hE)).mono ?_
  rintro en w1 ⟨rfl,rfl⟩
  exact ⟨rfl,h,Gr.refl _ _⟩
theorem zNV (w:World)(R:Nat)(S:Value)(ts:List RT)(s:Q)(h:Qr w R S ts s)(text:ByteArray)(h0 : 0 < text.size)(wd:Bool)(hw:wd = decide (97 ≤ (text[0].toNat:Int) ∧ (text[0].toNat:Int) ≤ 122))(hv:Qe.is ts s wd text.data.toList = true) :
 Calls Tryd.prog 22 #[.pointer (some ⟨R,0,none⟩),.string text] w fun en w' => en = .returned (.tuple #[]) ∧ Qr w' R S ts (Qe.next s) ∧ Gr R w w':=by
 have his:=zI w R S ts s h text h0 wd hw
 rw [hv] at his
 have HI:=vH his
 have HH:=vH h
 clear his h hv hw
 go_in
 go_wp2_with (first
  | (go_at_call 18; refine (HI.out).mono ?_; rintro e w1 ⟨rfl,hb1⟩; have hr1:=HH.out.go hb1; obtain ⟨⟨c0,c1,c2,c3,c4⟩,fr,hRl⟩:=hr1.cells; have HR1:=vH hr1; clear hr1; have fr1:=fr 1; clear fr))
 have hg:Gr R w (w1.setCell ⟨R,1,none⟩ (.int .i64 (inc s.k))):=(Gr.of hb1).set 1 _
 first
  | exact bodyPost_end (results_none rfl _ _ _) rfl ⟨rfl,HR1.out.set_k (inc s.k),hg⟩
  | exact bodyPost_ret (results_none rfl _ _ _) rfl ⟨rfl,HR1.out.set_k (inc s.k),hg⟩
theorem zNU (w:World)(R:Nat)(S:Value)(ts:List RT)(s:Q)(h:Qr w R S ts s)(text:ByteArray)(h0 : 0 < text.size)(wd:Bool)(hw:wd = decide (97 ≤ (text[0].toNat:Int) ∧ (text[0].toNat:Int) ≤ 122))(hv:Qe.is ts s wd text.data.toList = false) :
 Calls Tryd.prog 22 #[.pointer (some ⟨R,0,none⟩),.string text] w fun en w' => en = .returned (.tuple #[]) ∧ Qr w' R S ts (Qe.fail ts s 2) ∧ Gr R w w':=by
 have his:=zI w R S ts s h text h0 wd hw
 rw [hv] at his
 have HI:=vH his
 have HH:=vH h
 clear his h hv hw
 go_in
 go_wp2_with (first
  | (go_at_call 18; refine (HI.out).mono ?_; rintro e w1 ⟨rfl,hb1⟩)
  | (go_at_call 19; refine (zAn w1 R S ts s (HH.out.go hb1) 2).mono ?_; rintro e w2 ⟨rfl,hr2,hg2⟩; have HR2:=vH hr2; clear hr2))
 first
  | exact bodyPost_end (results_none rfl _ _ _) rfl ⟨rfl,HR2.out,(Gr.of hb1).trans hg2⟩
  | exact bodyPost_ret (results_none rfl _ _ _) rfl ⟨rfl,HR2.out,(Gr.of hb1).trans hg2⟩
theorem zJ (w:World)(R:Nat)(S:Value)(ts:List RT)(s:Q)(h:Qr w R S ts s)(text:ByteArray)(h0 : 0 < text.size)(wd:Bool)(hw:wd = decide (97 ≤ (text[0].toNat:Int) ∧ (text[0].toNat:Int) ≤ 122)) :
 Calls Tryd.prog 22 #[.pointer (some ⟨R,0,none⟩),.string text] w fun en w' => en = .returned (.tuple #[]) ∧ Qr w' R S ts (Qe.take ts s wd text.data.toList) ∧ Gr R w w':=by
 unfold Qe.take
 cases hv:Qe.is ts s wd text.data.toList with
 | true => exact zNV w R S ts s h text h0 wd hw hv
 | false => exact zNU w R S ts s h text h0 wd hw hv
def NoLetter (text:ByteArray):Prop:=∃ h0 : 0 < text.size,decide (97 ≤ (text[0].toNat:Int) ∧ (text[0].toNat:Int) ≤ 122) = false
theorem zLv (w:World)(R:Nat)(S:Value)(ts:List RT)(s:Q)(h:Qr w R S ts s)(text:ByteArray)(ht:NoLetter text)(hv:Qe.is ts s false text.data.toList = true)(ho:decide (50 ≤ s.o) = true) :
 Calls Tryd.prog 71 #[.pointer (some ⟨R,0,none⟩),.string text] w fun en w' => en = .returned (.tuple #[]) ∧ Qr w' R S ts (Qe.fail ts s 4) ∧ Gr R w w':=by
 have his:=zI w R S ts s h text ht.1 false ht.2.symm
 rw [hv] at his
 have HI:=vH his
 have HH:=vH h
 clear his h hv ht
 go_in
 go_wp2_with (first
  | (go_at_call 18; refine (HI.out).mono ?_; rintro e w1 ⟨rfl,hb1⟩; have hr1:=HH.out.go hb1; obtain ⟨⟨c0,c1,c2,c3,c4⟩,fr,hRl⟩:=hr1.cells; have fr2:=fr 2; clear fr; have HR1:=vH hr1; clear hr1)
  | (go_at_call 19; refine (zAn w1 R S ts s HR1.out 4).mono ?_; rintro e w2 ⟨rfl,hr2,hg2⟩; have HR2:=vH hr2; clear hr2))
 first
  | exact bodyPost_end (results_none rfl _ _ _) rfl ⟨rfl,HR2.out,(Gr.of hb1).trans hg2⟩
  | exact bodyPost_ret (results_none rfl _ _ _) rfl ⟨rfl,HR2.out,(Gr.of hb1).trans hg2⟩
theorem zLu (w:World)(R:Nat)(S:Value)(ts:List RT)(s:Q)(h:Qr w R S ts s)(text:ByteArray)(ht:NoLetter text)(hv:Qe.is ts s false text.data.toList = true)(ho:decide (50 ≤ s.o) = false) :
 Calls Tryd.prog 71 #[.pointer (some ⟨R,0,none⟩),.string text] w fun en w' => en = .returned (.tuple #[]) ∧ Qr w' R S ts ⟨(Qe.take ts s false text.data.toList).k,inc (Qe.take ts s false text.data.toList).o,(Qe.take ts s false text.data.toList).E,(Qe.take ts s false text.data.toList).F⟩ ∧ Gr R w w':=by
 have his:=zI w R S ts s h text ht.1 false ht.2.symm
 rw [hv] at his
 have htk:=fun w1 hh => zJ w1 R S ts s hh text ht.1 false ht.2.symm
 generalize Qe.take ts s false text.data.toList = s2 at htk ⊢
 have HI:=vH his
 have HTK:=vH htk
 have HH:=vH h
 clear his h hv ht htk
 go_in
 go_wp2_with (first
  | (go_at_call 18; refine (HI.out).mono ?_; rintro e w1 ⟨rfl,hb1⟩; have hr1:=HH.out.go hb1; obtain ⟨⟨c0,c1,c2,c3,c4⟩,fr,hRl⟩:=hr1.cells; clear fr; have HR1:=vH hr1; clear hr1)
  | (go_at_call 22; refine (HTK.out w1 HR1.out).mono ?_; rintro e w2 ⟨rfl,hr2,hg2⟩; clear c0 c1 c2 c3 c4 hRl; obtain ⟨⟨c0,c1,c2,c3,c4⟩,fr,hRl⟩:=hr2.cells; have fr2:=fr 2; clear fr; have HR2:=vH hr2; clear hr2))
 have hg:Gr R w (w2.setCell ⟨R,2,none⟩ (.int .i64 (inc s2.o))):=((Gr.of hb1).trans hg2).set 2 _
 first
  | exact bodyPost_end (results_none rfl _ _ _) rfl ⟨rfl,HR2.out.set_o (inc s2.o),hg⟩
  | exact bodyPost_ret (results_none rfl _ _ _) rfl ⟨rfl,HR2.out.set_o (inc s2.o),hg⟩
theorem zLt (w:World)(R:Nat)(S:Value)(ts:List RT)(s:Q)(h:Qr w R S ts s)(text:ByteArray)(ht:NoLetter text)(hv:Qe.is ts s false text.data.toList = false) :
 Calls Tryd.prog 71 #[.pointer (some ⟨R,0,none⟩),.string text] w fun en w' => en = .returned (.tuple #[]) ∧ Qr w' R S ts ⟨(Qe.take ts s false text.data.toList).k,inc (Qe.take ts s false text.data.toList).o,(Qe.take ts s false text.data.toList).E,(Qe.take ts s false text.data.toList).F⟩ ∧ Gr R w w':=by
 have his:=zI w R S ts s h text ht.1 false ht.2.symm
 rw [hv] at his
 have htk:=fun w1 hh => zJ w1 R S ts s hh text ht.1 false ht.2.symm
 generalize Qe.take ts s false text.data.toList = s2 at htk ⊢
 have HI:=vH his
 have HTK:=vH htk
 have HH:=vH h
 clear his h hv ht htk
 go_in
 go_wp2_with (first
  | (go_at_call 18; refine (HI.out).mono ?_; rintro e w1 ⟨rfl,hb1⟩; have HR1:=vH (HH.out.go hb1))
  | (go_at_call 22; refine (HTK.out w1 HR1.out).mono ?_; rintro e w2 ⟨rfl,hr2,hg2⟩; obtain ⟨⟨c0,c1,c2,c3,c4⟩,fr,hRl⟩:=hr2.cells; have fr2:=fr 2; clear fr; have HR2:=vH hr2; clear hr2))
 have hg:Gr R w (w2.setCell ⟨R,2,none⟩ (.int .i64 (inc s2.o))):=((Gr.of hb1).trans hg2).set 2 _
 first
  | exact bodyPost_end (results_none rfl _ _ _) rfl ⟨rfl,HR2.out.set_o (inc s2.o),hg⟩
  | exact bodyPost_ret (results_none rfl _ _ _) rfl ⟨rfl,HR2.out.set_o (inc s2.o),hg⟩
theorem zAM (w:World)(R:Nat)(S:Value)(ts:List RT)(s:Q)(h:Qr w R S ts s)(text:ByteArray)(ht:NoLetter text) :
 Calls Tryd.prog 71 #[.pointer (some ⟨R,0,none⟩),.string text] w fun en w' => en = .returned (.tuple #[]) ∧ Qr w' R S ts (Qe.opens ts s text.data.toList) ∧ Gr R w w':=by
 unfold Qe.opens
 cases hv:Qe.is ts s false text.data.toList with
 | true =>
   cases ho:decide (50 ≤ s.o) with
   | true => exact zLv w R S ts s h text ht hv ho
   | false => exact zLu w R S ts s h text ht hv ho
 | false => exact zLt w R S ts s h text ht hv
theorem zAK (w:World)(R:Nat)(S:Value)(ts:List RT)(s:Q)(h:Qr w R S ts s)(text:ByteArray)(ht:NoLetter text) :
 Calls Tryd.prog 73 #[.pointer (some ⟨R,0,none⟩),.string text] w fun en w' => en = .returned (.tuple #[]) ∧ Qr w' R S ts (Qe.closes ts s text.data.toList) ∧ Gr R w w':=by
 have htk:=zJ w R S ts s h text ht.1 false ht.2.symm
 unfold Qe.closes
 generalize Qe.take ts s false text.data.toList = s2 at htk ⊢
 have HTK:=vH htk
 clear h ht htk
 go_in
 go_wp2_with (first
  | (go_at_call 22; refine (HTK.out).mono ?_; rintro e w2 ⟨rfl,hr2,hg2⟩; obtain ⟨⟨c0,c1,c2,c3,c4⟩,fr,hRl⟩:=hr2.cells; have fr2:=fr 2; clear fr; have HR2:=vH hr2; clear hr2))
 have hg:Gr R w (w2.setCell ⟨R,2,none⟩ (.int .i64 (dec s2.o))):=hg2.set 2 _
 first
  | exact bodyPost_end (results_none rfl _ _ _) rfl ⟨rfl,HR2.out.set_o (dec s2.o),hg⟩
  | exact bodyPost_ret (results_none rfl _ _ _) rfl ⟨rfl,HR2.out.set_o (dec s2.o),hg⟩
end Go.Proofs.YteadgahhchlgeaaDoor
