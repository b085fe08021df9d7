/-
  The contracts of the answer's reader (runrigref3) over the p
-/
import Derived.Test.YtipmjjfknhblnaaGreatDoorK06
import Derived.Test.YtipmjjfknhblnaaGreatDoorK01
import Derived.Test.YtipmjjfknhblnaaGreatDoorK02
set_option maxRecDepth 8000
set_option maxHeartbeats 8000000
namespace Go.Proofs.YtipmjjfknhblnaaGreatDoor
open Go.RowKit
open Px (RT tokAt isT)
open Pe (inc dec)
open Qe (Q)
structure Qr (w:World) (R:Nat) (S:Value) (ts:List RT) (s:Q):Prop where
 row:w.heap[R]? = some (.cells #[S,.int .i64 s.k,.int .i64 s.o,.int .i64 s.E,.int .i64 s.F] 50 (0,0))
 toks:Toks w R S ts
theorem Qr.lt {w:World}{R:Nat}{S:Value}{ts:List RT}{s:Q}(h:Qr w R S ts s):R < w.heap.size:=(Array.getElem?_eq_some_iff.1 h.row).1
theorem Qr.cells {w:World}{R:Nat}{S:Value}{ts:List RT}{s:Q}(h:Qr w R S ts s) :
 (w.cell? ⟨R,0,none⟩ = some S ∧ w.cell? ⟨R,1,none⟩ = some (.int .i64 s.k) ∧ w.cell? ⟨R,2,none⟩ = some (.int .i64 s.o) ∧ w.cell? ⟨R,3,none⟩ = some (.int .i64 s.E) ∧ w.cell? ⟨R,4,none⟩ = some (.int .i64 s.F)) ∧
 (∀ i,w.frozen? ⟨R,i,none⟩ = false) ∧ R < w.heap.size:=by
 have hr:=h.row
 refine ⟨⟨?_,?_,?_,?_,?_⟩,fun i => frozen_of_row _ _ _ _ _ hr,h.lt⟩ <;> (rw [cell_of_row _ _ _ _ _ _ hr]; rfl)
theorem Qr.go {w w':World}{R:Nat}{S:Value}{ts:List RT}{s:Q}(h:Qr w R S ts s)(hb:Below w.heap.size w w'):Qr w' R S ts s:=
 ⟨(hb.block _ h.lt).trans h.row,h.toks.gr (Gr.of hb)⟩
theorem Qr.fin {w wA wB:World}{R:Nat}{S:Value}{ts:List RT}{s0 s:Q}(h0:Qr w R S ts s0)(hA:Qr wA R S ts s)(n:Nw R w wA wB):Qr wB R S ts s:=
 ⟨(n.below.block _ h0.lt).trans hA.row,h0.toks.gr n.gr⟩
theorem Qr.set_k {w:World}{R:Nat}{S:Value}{ts:List RT}{s:Q}(h:Qr w R S ts s)(q:Int):Qr (w.setCell ⟨R,1,none⟩ (.int .i64 q)) R S ts ⟨q,s.o,s.E,s.F⟩:=
 ⟨by have:=Lib.heap_setCell_same h.row (i:=1) (v:=.int .i64 q); simpa using this,h.toks.gr ((Gr.refl R w).set 1 _)⟩
theorem Qr.set_o {w:World}{R:Nat}{S:Value}{ts:List RT}{s:Q}(h:Qr w R S ts s)(q:Int):Qr (w.setCell ⟨R,2,none⟩ (.int .i64 q)) R S ts ⟨s.k,q,s.E,s.F⟩:=
 ⟨by have:=Lib.heap_setCell_same h.row (i:=2) (v:=.int .i64 q); simpa using this,h.toks.gr ((Gr.refl R w).set 2 _)⟩
theorem Qr.set_f {w:World}{R:Nat}{S:Value}{ts:List RT}{s:Q}(h:Qr w R S ts s)(e a:Int):Qr ((w.setCell ⟨R,3,none⟩ (.int .i64 e)).setCell ⟨R,4,none⟩ (.int .i64 a)) R S ts ⟨s.k,s.o,e,a⟩:=by
 have h1:=Lib.heap_setCell_same h.row (i:=3) (v:=.int .i64 e)
 have h2:=Lib.heap_setCell_same h1 (i:=4) (v:=.int .i64 a)
 exact ⟨by simpa using h2,h.toks.gr (((Gr.refl R w).set 3 _).set 4 _)⟩
theorem zAd (w:World)(R:Nat)(S:Value)(ts:List RT)(s:Q)(h:Qr w R S ts s) :
 Calls Tryz.prog 16 #[.pointer (some ⟨R,0,none⟩)] w fun e w' => e = .returned (.bool (s.E == 0)) ∧ w = w':=by
 obtain ⟨⟨c0,c1,c2,c3,c4⟩,fr,hR⟩:=h.cells
 clear h
 go_in
 go_wp2
 go_ret
 exact ⟨rfl,rfl⟩
theorem zJY (w:World)(R:Nat)(S:Value)(ts:List RT)(s:Q)(h:Qr w R S ts s)(hk:¬ (0 ≤ s.k ∧ s.k < (ts.length:Int))) :
 Calls Tryz.prog 17 #[.pointer (some ⟨R,0,none⟩)] w fun e w' => e = .returned (tokW RT.none) ∧ Below w.heap.size w w':=by
 obtain ⟨⟨c0,c1,c2,c3,c4⟩,fr,hR⟩:=h.cells
 obtain ⟨p,n,c,rfl,hn,-⟩:=h.toks.val
 rw [hn] at hk
 obtain ⟨k,o,E,F⟩:=s
 dsimp only at c1 c2 c3 c4 hk
 clear h hn
 have hbel:=zF ((Below.refl w.heap.size w).alloc (Nat.le_refl _) (.cells #[.int .i64 0,.string ⟨#[]⟩,.int .i64 0,.int .i64 0] 52))
 by_cases h0:k < 0
 ·have hd0:decide (k < 0) = true:=decide_eq_true h0
  clear hk
  go_in
  go_wp2
  go_quiet (fail)
  go_wp2
  refine bodyPost_ret (v:=tokW RT.none) (by simp [tokW,RT.none,cbs,results,Tryz.results17,go_sem]) rfl ⟨rfl,?_⟩
  exact ((((hbel _).setCell (Nat.le_refl _) _).setCell (Nat.le_refl _) _).setCell (Nat.le_refl _) _).setCell (Nat.le_refl _) _
 ·have hd0:decide (k < 0) = false:=decide_eq_false h0
  have hd1:decide ((n:Int) ≤ k) = true:=decide_eq_true (by omega)
  clear hk
  go_in
  go_wp2
  go_quiet (fail)
  go_wp2
  refine bodyPost_ret (v:=tokW RT.none) (by simp [tokW,RT.none,cbs,results,Tryz.results17,go_sem]) rfl ⟨rfl,?_⟩
  exact ((((hbel _).setCell (Nat.le_refl _) _).setCell (Nat.le_refl _) _).setCell (Nat.le_refl _) _).setCell (Nat.le_refl _) _
theorem zLK (w:World)(R:Nat)(S:Value)(ts:List RT)(k o E F:Int)(h:Qr w R S ts ⟨k,o,E,F⟩)(hk0 : 0 ≤ k)(hk1:k < (ts.length:Int)) :
 Calls Tryz.prog 17 #[.pointer (some ⟨R,0,none⟩)] w fun e w' => e = .returned (tokW (tokAt ts k)) ∧ Below w.heap.size w w':=by
 obtain ⟨⟨c0,c1,c2,c3,c4⟩,fr,hR⟩:=h.cells
 obtain ⟨p,n,c,rfl,hn,hm⟩:=h.toks.val
 obtain ⟨q,rfl⟩:∃ q:Nat,k = q:=⟨k.toNat,by omega⟩
 have hq:q < ts.length:=by omega
 have ht:ts[q]? = some (tokAt ts q):=by
  rw [tokAt,if_pos ⟨hk0,by omega⟩,List.getElem?_eq_getElem hq]
  simp [List.getD,hq]
 generalize tokAt ts q = t at ht ⊢
 rcases hm with h0 | ⟨b,off,rfl,hb,hne,hc⟩
 ·omega
 obtain ⟨t0,t1,t2,t3⟩:=hc q t ht
 have hki:(q:Int) < (n:Int):=by omega
 have hkn:q < n:=by omega
 have hd0:decide ((q:Int) < 0) = false:=decide_eq_false (by omega)
 have hd1:decide ((n:Int) ≤ (q:Int)) = false:=decide_eq_false (by omega)
 have hd2:decide (n ≤ q) = false:=decide_eq_false (by omega)
 dsimp only at c1 c2 c3 c4
 clear h hn hc ht
 go_in
 go_wp2
 go_quiet (fail)
 go_wp2
 obtain ⟨wq,hwq⟩:∃ wq,wq = ((w.alloc (.cells #[.int .i64 0,.string ⟨#[]⟩,.int .i64 0,.int .i64 0] 52)).drewN nq):=⟨_,rfl⟩
 rw [← hwq]
 have hbel:Below w.heap.size w wq:=by rw [hwq]; exact zF ((Below.refl _ _).alloc (Nat.le_refl _) _) _
 rw [← hbel.cell (p:=⟨R,_,none⟩) hR] at c0 c1
 rw [← hbel.cell (p:=⟨b,_,none⟩) hb] at t0 t1 t2 t3
 have hblk:wq.heap[w.heap.size]? = some (.cells #[.int .i64 0,.string ⟨#[]⟩,.int .i64 0,.int .i64 0] 52 (0,0)):=by rw [hwq]; exact heap_alloc_new w _
 obtain ⟨⟨d0,d1,d2,d3⟩,g0,g1,g2,g3⟩:=quad hblk
 clear hwq hblk c2 c3 c4 fr hd0 hd1 hd2
 refine wp_region_still_tail 10 (by kernel_rfl) (by kernel_rfl) ?_
 simp only [List.take_succ_cons,List.take_zero,List.drop_succ_cons,List.drop_zero]
 change wpStill _ _ wq.drew _ _ _
 repeat still_step
 refine wpStill_nil ?_
 change wpList _ _ _ _ _ wq.drew
 go_wp2
 refine bodyPost_ret (v:=tokW t) (by simp [tokW,results,Tryz.results17,go_sem,d0,d1,d2,d3]) rfl ⟨rfl,?_⟩
 exact ((((zF hbel 1).setCell (Nat.le_refl _) _).setCell (Nat.le_refl _) _).setCell (Nat.le_refl _) _).setCell (Nat.le_refl _) _
theorem zK (w:World)(R:Nat)(S:Value)(ts:List RT)(s:Q)(h:Qr w R S ts s) :
 Calls Tryz.prog 17 #[.pointer (some ⟨R,0,none⟩)] w fun e w' => e = .returned (tokW (tokAt ts s.k)) ∧ Below w.heap.size w w':=by
 by_cases hk : 0 ≤ s.k ∧ s.k < (ts.length:Int)
 ·obtain ⟨k,o,E,F⟩:=s
  exact zLK w R S ts k o E F h hk.1 hk.2
 ·rw [Px.tokAt_out hk]
  exact zJY w R S ts s h hk
theorem zD (w:World)(R:Nat)(S:Value)(ts:List RT)(s:Q)(h:Qr w R S ts s)(text:ByteArray)(h0 : 0 < text.size)(wd:Bool)(hw:wd = decide (97 ≤ (text[0].toNat:Int) ∧ (text[0].toNat:Int) ≤ 122)) :
 Calls Tryz.prog 18 #[.pointer (some ⟨R,0,none⟩),.string text] w fun e w' => e = .returned (.bool (Qe.is ts s wd text.data.toList)) ∧ Below w.heap.size w w':=by
 have ht:=zK w R S ts s h
 have hok:∀ w1,Below w.heap.size w w1 → Calls Tryz.prog 16 #[.pointer (some ⟨R,0,none⟩)] w1 fun e w' => e = .returned (.bool (s.E == 0)) ∧ w1 = w':=fun w1 hb => zAd w1 R S ts s (h.go hb)
 unfold Qe.is isT
 generalize hT:tokAt ts s.k = T at ht ⊢
 unfold tokW at ht
 have htx:((cbs T.text).toList == text.toList) = (T.text == text.data.toList):=by rw [zR,Lib.toList_data]
 generalize (T.text == text.data.toList) = tx at htx ⊢
 have HT:=vH ht
 have HOK:=vH hok
 clear h hT ht hok
 generalize (s.E == 0) = e0 at HOK ⊢
 generalize hR:(e0 && (decide (T.kind = if wd = true then 3 else 4) && tx)) = res
 have HR:=vH hR
 have HW:=vH hw
 clear hR hw
 go_in
 go_wp2_with (first
  | (go_at_call 17; refine (HT.out).mono ?_; rintro e w1 ⟨rfl,hb1⟩)
  | (go_at_call 16; refine (HOK.out _ (hb1.alloc hb1.size _)).mono ?_; rintro e w1 ⟨rfl,rfl⟩))
 all_goals go_ret
 all_goals refine ⟨zV ?_,hb1.alloc hb1.size _⟩
 all_goals (rw [← HR.out,HW.out]; clear HR HW HT HOK; try simp_all)
 all_goals (intro hk; rw [if_neg (by omega)] at hk; contradiction)
theorem zHp (w:World)(R:Nat)(S:Value)(ts:List RT)(s:Q)(h:Qr w R S ts s)(e:Int)(hE:(s.E == 0) = false) :
 Calls Tryz.prog 19 #[.pointer (some ⟨R,0,none⟩),.int .i64 e] w fun en w' => en = .returned (.tuple #[]) ∧ w = w':=by
 have hok:=zAd w R S ts s h
 rw [hE] at hok
 go_in
 go_wp2_with (first
  | (go_at_call 16; refine hok.mono ?_; rintro e w1 ⟨rfl,rfl⟩))
 first
  | refine bodyPost_end (results_none rfl _ _ _) rfl ⟨rfl,rfl⟩
  | refine bodyPost_ret (results_none rfl _ _ _) rfl ⟨rfl,rfl⟩
theorem zHo (w:World)(R:Nat)(S:Value)(ts:List RT)(s:Q)(h:Qr w R S ts s)(e:Int)(hE:(s.E == 0) = true) :
 Calls Tryz.prog 19 #[.pointer (some ⟨R,0,none⟩),.int .i64 e] w fun en w' => en = .returned (.tuple #[]) ∧ Qr w' R S ts ⟨s.k,s.o,e,(tokAt ts s.k).at_⟩ ∧ Gr R w w':=by
 have hok:=zAd w R S ts s h
 rw [hE] at hok
 have ht:=zK w R S ts s h
 generalize hT:tokAt ts s.k = T at ht ⊢
 unfold tokW at ht
 have HT:=vH ht
 have HOK:=vH hok
 have HH:=vH h
 have hfd:∀ w1:World,(Instr.field 52 (.agg #[.int .i64 T.kind,.string (cbs T.text),.int .i64 T.num,.int .i64 T.at_]) 3).run Tryz.prog w1 = .ok (.int .i64 T.at_) w1:=fun _ => by kernel_rfl
 clear ht hok h hT
 go_in
 go_wp2_with (first
  | (go_at_call 16; refine (HOK.out).mono ?_; rintro e w1 ⟨rfl,rfl⟩)
  | (go_at_call 17; refine (HT.out).mono ?_; rintro e w1 ⟨rfl,hb1⟩; have hr1:=HH.out.go hb1; obtain ⟨⟨c0,c1,c2,c3,c4⟩,fr,hRl⟩:=hr1.cells; have HR1:=vH hr1; clear hr1; have fr3:=fr 3; have fr4:=fr 4; clear fr))
 have hg:Gr R w ((w1.setCell ⟨R,3,none⟩ (.int .i64 e)).setCell ⟨R,4,none⟩ (.int .i64 T.at_)):=((Gr.of hb1).set 3 _).set 4 _
 first
  | exact bodyPost_end (results_none rfl _ _ _) rfl ⟨rfl,HR1.out.set_f e T.at_,hg⟩
  | exact bodyPost_ret (results_none rfl _ _ _) rfl ⟨rfl,HR1.out.set_f e T.at_,hg⟩
theorem zAh (w:World)(R:Nat)(S:Value)(ts:List RT)(s:Q)(h:Qr w R S ts s)(e:Int) :
 Calls Tryz.prog 19 #[.pointer (some ⟨R,0,none⟩),.int .i64 e] w fun en w' => en = .returned (.tuple #[]) ∧ Qr w' R S ts (Qe.fail ts s e) ∧ Gr R w w':=by
 unfold Qe.fail
 by_cases hE:s.E = 0
 ·rw [if_pos hE]
  exact zHo w R S ts s h e (by rw [hE]; rfl)
 ·rw [if_neg hE]
  refine (zHp w R S ts s h e (by simpa using hE)).mono ?_
  rintro en w1 ⟨rfl,rfl⟩
  exact ⟨rfl,h,Gr.refl _ _⟩
theorem zLM (w:World)(R:Nat)(S:Value)(ts:List RT)(s:Q)(h:Qr w R S ts s)(text:ByteArray)(h0 : 0 < text.size)(wd:Bool)(hw:wd = decide (97 ≤ (text[0].toNat:Int) ∧ (text[0].toNat:Int) ≤ 122))(hv:Qe.is ts s wd text.data.toList = true) :
 Calls Tryz.prog 22 #[.pointer (some ⟨R,0,none⟩),.string text] w fun en w' => en = .returned (.tuple #[]) ∧ Qr w' R S ts (Qe.next s) ∧ Gr R w w':=by
 have his:=zD w R S ts s h text h0 wd hw
 rw [hv] at his
 have HI:=vH his
 have HH:=vH h
 clear his h hv hw
 go_in
 go_wp2_with (first
  | (go_at_call 18; refine (HI.out).mono ?_; rintro e w1 ⟨rfl,hb1⟩; have hr1:=HH.out.go hb1; obtain ⟨⟨c0,c1,c2,c3,c4⟩,fr,hRl⟩:=hr1.cells; have HR1:=vH hr1; clear hr1; have fr1:=fr 1; clear fr))
 have hg:Gr R w (w1.setCell ⟨R,1,none⟩ (.int .i64 (inc s.k))):=(Gr.of hb1).set 1 _
 first
  | exact bodyPost_end (results_none rfl _ _ _) rfl ⟨rfl,HR1.out.set_k (inc s.k),hg⟩
  | exact bodyPost_ret (results_none rfl _ _ _) rfl ⟨rfl,HR1.out.set_k (inc s.k),hg⟩
theorem zLL (w:World)(R:Nat)(S:Value)(ts:List RT)(s:Q)(h:Qr w R S ts s)(text:ByteArray)(h0 : 0 < text.size)(wd:Bool)(hw:wd = decide (97 ≤ (text[0].toNat:Int) ∧ (text[0].toNat:Int) ≤ 122))(hv:Qe.is ts s wd text.data.toList = false) :
 Calls Tryz.prog 22 #[.pointer (some ⟨R,0,none⟩),.string text] w fun en w' => en = .returned (.tuple #[]) ∧ Qr w' R S ts (Qe.fail ts s 2) ∧ Gr R w w':=by
 have his:=zD w R S ts s h text h0 wd hw
 rw [hv] at his
 have HI:=vH his
 have HH:=vH h
 clear his h hv hw
 go_in
 go_wp2_with (first
  | (go_at_call 18; refine (HI.out).mono ?_; rintro e w1 ⟨rfl,hb1⟩)
  | (go_at_call 19; refine (zAh w1 R S ts s (HH.out.go hb1) 2).mono ?_; rintro e w2 ⟨rfl,hr2,hg2⟩; have HR2:=vH hr2; clear hr2))
 first
  | exact bodyPost_end (results_none rfl _ _ _) rfl ⟨rfl,HR2.out,(Gr.of hb1).trans hg2⟩
  | exact bodyPost_ret (results_none rfl _ _ _) rfl ⟨rfl,HR2.out,(Gr.of hb1).trans hg2⟩
theorem zH (w:World)(R:Nat)(S:Value)(ts:List RT)(s:Q)(h:Qr w R S ts s)(text:ByteArray)(h0 : 0 < text.size)(wd:Bool)(hw:wd = decide (97 ≤ (text[0].toNat:Int) ∧ (text[0].toNat:Int) ≤ 122)) :
 Calls Tryz.prog 22 #[.pointer (some ⟨R,0,none⟩),.string text] w fun en w' => en = .returned (.tuple #[]) ∧ Qr w' R S ts (Qe.take ts s wd text.data.toList) ∧ Gr R w w':=by
 unfold Qe.take
 cases hv:Qe.is ts s wd text.data.toList with
 | true => exact zLM w R S ts s h text h0 wd hw hv
 | false => exact zLL w R S ts s h text h0 wd hw hv
def NoLetter (text:ByteArray):Prop:=∃ h0 : 0 < text.size,decide (97 ≤ (text[0].toNat:Int) ∧ (text[0].toNat:Int) ≤ 122) = false
theorem zJ1 (w:World)(R:Nat)(S:Value)(ts:List RT)(s:Q)(h:Qr w R S ts s)(text:ByteArray)(ht:NoLetter text)(hv:Qe.is ts s false text.data.toList = true)(ho:decide (50 ≤ s.o) = true) :
 Calls Tryz.prog 78 #[.pointer (some ⟨R,0,none⟩),.string text] w fun en w' => en = .returned (.tuple #[]) ∧ Qr w' R S ts (Qe.fail ts s 4) ∧ Gr R w w':=by
 have his:=zD w R S ts s h text ht.1 false ht.2.symm
 rw [hv] at his
 have HI:=vH his
 have HH:=vH h
 clear his h hv ht
 go_in
 go_wp2_with (first
  | (go_at_call 18; refine (HI.out).mono ?_; rintro e w1 ⟨rfl,hb1⟩; have hr1:=HH.out.go hb1; obtain ⟨⟨c0,c1,c2,c3,c4⟩,fr,hRl⟩:=hr1.cells; have fr2:=fr 2; clear fr; have HR1:=vH hr1; clear hr1)
  | (go_at_call 19; refine (zAh w1 R S ts s HR1.out 4).mono ?_; rintro e w2 ⟨rfl,hr2,hg2⟩; have HR2:=vH hr2; clear hr2))
 first
  | exact bodyPost_end (results_none rfl _ _ _) rfl ⟨rfl,HR2.out,(Gr.of hb1).trans hg2⟩
  | exact bodyPost_ret (results_none rfl _ _ _) rfl ⟨rfl,HR2.out,(Gr.of hb1).trans hg2⟩
theorem zJ0 (w:World)(R:Nat)(S:Value)(ts:List RT)(s:Q)(h:Qr w R S ts s)(text:ByteArray)(ht:NoLetter text)(hv:Qe.is ts s false text.data.toList = true)(ho:decide (50 ≤ s.o) = false) :
 Calls Tryz.prog 78 #[.pointer (some ⟨R,0,none⟩),.string text] w fun en w' => en = .returned (.tuple #[]) ∧ Qr w' R S ts ⟨(Qe.take ts s false text.data.toList).k,inc (Qe.take ts s false text.data.toList).o,(Qe.take ts s false text.data.toList).E,(Qe.take ts s false text.data.toList).F⟩ ∧ Gr R w w':=by
 have his:=zD w R S ts s h text ht.1 false ht.2.symm
 rw [hv] at his
 have htk:=fun w1 hh => zH w1 R S ts s hh text ht.1 false ht.2.symm
 generalize Qe.take ts s false text.data.toList = s2 at htk ⊢
 have HI:=vH his
 have HTK:=vH htk
 have HH:=vH h
 clear his h hv ht htk
 go_in
 go_wp2_with (first
  | (go_at_call 18; refine (HI.out).mono ?_; rintro e w1 ⟨rfl,hb1⟩; have hr1:=HH.out.go hb1; obtain ⟨⟨c0,c1,c2,c3,c4⟩,fr,hRl⟩:=hr1.cells; clear fr; have HR1:=vH hr1; clear hr1)
  | (go_at_call 22; refine (HTK.out w1 HR1.out).mono ?_; rintro e w2 ⟨rfl,hr2,hg2⟩; clear c0 c1 c2 c3 c4 hRl; obtain ⟨⟨c0,c1,c2,c3,c4⟩,fr,hRl⟩:=hr2.cells; have fr2:=fr 2; clear fr; have HR2:=vH hr2; clear hr2))
 have hg:Gr R w (w2.setCell ⟨R,2,none⟩ (.int .i64 (inc s2.o))):=((Gr.of hb1).trans hg2).set 2 _
 first
  | exact bodyPost_end (results_none rfl _ _ _) rfl ⟨rfl,HR2.out.set_o (inc s2.o),hg⟩
  | exact bodyPost_ret (results_none rfl _ _ _) rfl ⟨rfl,HR2.out.set_o (inc s2.o),hg⟩
theorem zJZ (w:World)(R:Nat)(S:Value)(ts:List RT)(s:Q)(h:Qr w R S ts s)(text:ByteArray)(ht:NoLetter text)(hv:Qe.is ts s false text.data.toList = false) :
 Calls Tryz.prog 78 #[.pointer (some ⟨R,0,none⟩),.string text] w fun en w' => en = .returned (.tuple #[]) ∧ Qr w' R S ts ⟨(Qe.take ts s false text.data.toList).k,inc (Qe.take ts s false text.data.toList).o,(Qe.take ts s false text.data.toList).E,(Qe.take ts s false text.data.toList).F⟩ ∧ Gr R w w':=by
 have his:=zD w R S ts s h text ht.1 false ht.2.symm
 rw [hv] at his
 have htk:=fun w1 hh => zH w1 R S ts s hh text ht.1 false ht.2.symm
 generalize Qe.take ts s false text.data.toList = s2 at htk ⊢
 have HI:=vH his
 have HTK:=vH htk
 have HH:=vH h
 clear his h hv ht htk
 go_in
 go_wp2_with (first
  | (go_at_call 18; refine (HI.out).mono ?_; rintro e w1 ⟨rfl,hb1⟩; have HR1:=vH (HH.out.go hb1))
  | (go_at_call 22; refine (HTK.out w1 HR1.out).mono ?_; rintro e w2 ⟨rfl,hr2,hg2⟩; obtain ⟨⟨c0,c1,c2,c3,c4⟩,fr,hRl⟩:=hr2.cells; have fr2:=fr 2; clear fr; have HR2:=vH hr2; clear hr2))
 have hg:Gr R w (w2.setCell ⟨R,2,none⟩ (.int .i64 (inc s2.o))):=((Gr.of hb1).trans hg2).set 2 _
 first
  | exact bodyPost_end (results_none rfl _ _ _) rfl ⟨rfl,HR2.out.set_o (inc s2.o),hg⟩
  | exact bodyPost_ret (results_none rfl _ _ _) rfl ⟨rfl,HR2.out.set_o (inc s2.o),hg⟩
theorem zAx (w:World)(R:Nat)(S:Value)(ts:List RT)(s:Q)(h:Qr w R S ts s)(text:ByteArray)(ht:NoLetter text) :
 Calls Tryz.prog 78 #[.pointer (some ⟨R,0,none⟩),.string text] w fun en w' => en = .returned (.tuple #[]) ∧ Qr w' R S ts (Qe.opens ts s text.data.toList) ∧ Gr R w w':=by
 unfold Qe.opens
 cases hv:Qe.is ts s false text.data.toList with
 | true =>
   cases ho:decide (50 ≤ s.o) with
   | true => exact zJ1 w R S ts s h text ht hv ho
   | false => exact zJ0 w R S ts s h text ht hv ho
 | false => exact zJZ w R S ts s h text ht hv
theorem zAv (w:World)(R:Nat)(S:Value)(ts:List RT)(s:Q)(h:Qr w R S ts s)(text:ByteArray)(ht:NoLetter text) :
 Calls Tryz.prog 80 #[.pointer (some ⟨R,0,none⟩),.string text] w fun en w' => en = .returned (.tuple #[]) ∧ Qr w' R S ts (Qe.closes ts s text.data.toList) ∧ Gr R w w':=by
 have htk:=zH w R S ts s h text ht.1 false ht.2.symm
 unfold Qe.closes
 generalize Qe.take ts s false text.data.toList = s2 at htk ⊢
 have HTK:=vH htk
 clear h ht htk
 go_in
 go_wp2_with (first
  | (go_at_call 22; refine (HTK.out).mono ?_; rintro e w2 ⟨rfl,hr2,hg2⟩; obtain ⟨⟨c0,c1,c2,c3,c4⟩,fr,hRl⟩:=hr2.cells; have fr2:=fr 2; clear fr; have HR2:=vH hr2; clear hr2))
 have hg:Gr R w (w2.setCell ⟨R,2,none⟩ (.int .i64 (dec s2.o))):=hg2.set 2 _
 first
  | exact bodyPost_end (results_none rfl _ _ _) rfl ⟨rfl,HR2.out.set_o (dec s2.o),hg⟩
  | exact bodyPost_ret (results_none rfl _ _ _) rfl ⟨rfl,HR2.out.set_o (dec s2.o),hg⟩
end Go.Proofs.YtipmjjfknhblnaaGreatDoor
namespace Go.Proofs.YtipmjjfknhblnaaGreatDoor
open Go.RowKit
open Px (RT tokAt isT)
theorem zAZ {w wr:World}(h:Below w.heap.size w wr)(o:Obj):Below w.heap.size w (wr.alloc o):=h.alloc h.size o
theorem zFx (w:World)(l:Nat)(t:RT)(ht:¬ t.kind = 4) :
 Calls Tryz.prog 105 #[.int .i64 l,tokW t] w fun e w' => e = .returned (.int .i64 (Px.levelT l t)) ∧ Below w.heap.size w w':=by
 have hl:Px.levelT l t = 0:=by rw [Px.levelT,if_neg ht]
 rw [hl]
 have hd:(t.kind == 4) = false:=beq_eq_false_iff_ne.2 ht
 have hd2:(t.kind != 4) = true:=by rw [bne,hd]; rfl
 unfold tokW
 clear ht hl
 go_in
 go_wp2_with fail
 go_ret
 exact ⟨rfl,(Below.refl _ _).alloc (Nat.le_refl _) _⟩
theorem zJ6 (w:World)(t:RT)(ht:t.kind = 4) :
 Calls Tryz.prog 105 #[.int .i64 0,tokW t] w fun e w' => e = .returned (.int .i64 (Px.levelT 0 t)) ∧ Below w.heap.size w w':=by
 have hd:(t.kind == 4) = true:=by rw [ht]; rfl
 have hd2:(t.kind != 4) = false:=by rw [bne,hd]; rfl
 obtain ⟨v,hv⟩:∃ v,Px.levelT 0 t = v:=⟨_,rfl⟩
 rw [hv]
 rw [Px.levelT,if_pos ht] at hv
 have HV:=vH hv
 unfold tokW
 clear ht hv
 go_in
 go_wp2_with fail
 change Code.wp _ _ _ _ ?wx
 obtain ⟨wq,hwq⟩:∃ wq,wq = ?wx:=⟨_,rfl⟩
 rw [← hwq]
 have cS:wq.cell? ⟨w.heap.size + 1 + 1 + 1 + 1 + 1 + 1,0,none⟩ = some (.slice (some ⟨w.heap.size + 1,0,none⟩) 1 1):=by rw [hwq]; simp [go_sem]
 have cK:wq.cell? ⟨w.heap.size + 1 + 1 + 1 + 1 + 1 + 1 + 1 + 1 + 1 + 1 + 1 + 1,0,none⟩ = some (.slice (some ⟨w.heap.size + 1 + 1 + 1 + 1 + 1 + 1 + 1,0,none⟩) 1 1):=by rw [hwq]; simp [go_sem]
 have s0:wq.cell? ⟨w.heap.size + 1,0,none⟩ = some (.string ⟨#[124,124]⟩):=by rw [hwq]; simp [go_sem]
 have v0:wq.cell? ⟨w.heap.size + 1 + 1 + 1 + 1 + 1 + 1 + 1,0,none⟩ = some (.int .i64 24):=by rw [hwq]; simp [go_sem]
 have t1:wq.cell? ⟨w.heap.size,1,none⟩ = some (.string (cbs t.text)):=by rw [hwq]; simp [go_sem]
 have hb:Below w.heap.size w wq:=by
  rw [hwq]
  repeat (refine zAZ ?_ _)
  exact Below.refl _ _
 clear hwq
 have HB:=vH hb
 clear hb
 have hx0:([124,124] == (cbs t.text).toList) = ([124,124] == t.text):=by rw [zR]
 obtain ⟨x0,e0⟩:∃ x,([124,124] == t.text) = x:=⟨_,rfl⟩
 rw [e0] at hx0
 have HE0:=vH e0
 clear e0
 go_loopw [7] (fun iv wr => (iv = .int .i64 0 ∧ ∃ nn,wr = wq.drewN nn) ∨ (iv = .int .i64 1 ∧ x0 = false ∧ ∃ nn,wr = wq.drewN nn)) (fun iv _ => 1 - (intOf iv).toNat)
 case atStart => exact Or.inl ⟨rfl,0,rfl⟩
 case round =>
  rcases hrel with ⟨rfl,nn,rfl⟩ | ⟨rfl,rfl,nn,rfl⟩
  ·cases x0
   ·go_wp2_with fail
    go_quiet (fail)
    go_wp2_with fail
    go_roundw
    case rel => exact Or.inr (⟨rfl,by trivial,_,rfl⟩)
    case measure => simp [intOf]
   ·have hv:v = 24:=by rw [← HV.out]; first | (simp [Px.signsOf,HE0.out]; done) | simp [Px.signsOf,List.find?,HE0.out]
    go_wp2_with fail
    go_quiet (fail)
    go_wp2_with fail
    go_ret
    exact ⟨by rw [hv]; rfl,by first | exact zF HB.out _ | exact zF (zF HB.out _) _⟩
  ·have hv:v = 0:=by rw [← HV.out]; first | (simp [Px.signsOf,HE0.out]; done) | simp [Px.signsOf,List.find?,HE0.out]
   go_wp2_with fail
   go_ret
   exact ⟨by rw [hv]; rfl,by first | exact zF HB.out _ | exact zF (zF HB.out _) _⟩
theorem zJ5 (w:World)(t:RT)(ht:t.kind = 4) :
 Calls Tryz.prog 105 #[.int .i64 1,tokW t] w fun e w' => e = .returned (.int .i64 (Px.levelT 1 t)) ∧ Below w.heap.size w w':=by
 have hd:(t.kind == 4) = true:=by rw [ht]; rfl
 have hd2:(t.kind != 4) = false:=by rw [bne,hd]; rfl
 obtain ⟨v,hv⟩:∃ v,Px.levelT 1 t = v:=⟨_,rfl⟩
 rw [hv]
 rw [Px.levelT,if_pos ht] at hv
 have HV:=vH hv
 unfold tokW
 clear ht hv
 go_in
 go_wp2_with fail
 change Code.wp _ _ _ _ ?wx
 obtain ⟨wq,hwq⟩:∃ wq,wq = ?wx:=⟨_,rfl⟩
 rw [← hwq]
 have cS:wq.cell? ⟨w.heap.size + 1 + 1 + 1 + 1 + 1 + 1,1,none⟩ = some (.slice (some ⟨w.heap.size + 1 + 1,0,none⟩) 1 1):=by rw [hwq]; simp [go_sem]
 have cK:wq.cell? ⟨w.heap.size + 1 + 1 + 1 + 1 + 1 + 1 + 1 + 1 + 1 + 1 + 1 + 1,1,none⟩ = some (.slice (some ⟨w.heap.size + 1 + 1 + 1 + 1 + 1 + 1 + 1 + 1,0,none⟩) 1 1):=by rw [hwq]; simp [go_sem]
 have s0:wq.cell? ⟨w.heap.size + 1 + 1,0,none⟩ = some (.string ⟨#[38,38]⟩):=by rw [hwq]; simp [go_sem]
 have v0:wq.cell? ⟨w.heap.size + 1 + 1 + 1 + 1 + 1 + 1 + 1 + 1,0,none⟩ = some (.int .i64 23):=by rw [hwq]; simp [go_sem]
 have t1:wq.cell? ⟨w.heap.size,1,none⟩ = some (.string (cbs t.text)):=by rw [hwq]; simp [go_sem]
 have hb:Below w.heap.size w wq:=by
  rw [hwq]
  repeat (refine zAZ ?_ _)
  exact Below.refl _ _
 clear hwq
 have HB:=vH hb
 clear hb
 have hx0:([38,38] == (cbs t.text).toList) = ([38,38] == t.text):=by rw [zR]
 obtain ⟨x0,e0⟩:∃ x,([38,38] == t.text) = x:=⟨_,rfl⟩
 rw [e0] at hx0
 have HE0:=vH e0
 clear e0
 go_loopw [7] (fun iv wr => (iv = .int .i64 0 ∧ ∃ nn,wr = wq.drewN nn) ∨ (iv = .int .i64 1 ∧ x0 = false ∧ ∃ nn,wr = wq.drewN nn)) (fun iv _ => 1 - (intOf iv).toNat)
 case atStart => exact Or.inl ⟨rfl,0,rfl⟩
 case round =>
  rcases hrel with ⟨rfl,nn,rfl⟩ | ⟨rfl,rfl,nn,rfl⟩
  ·cases x0
   ·go_wp2_with fail
    go_quiet (fail)
    go_wp2_with fail
    go_roundw
    case rel => exact Or.inr (⟨rfl,by trivial,_,rfl⟩)
    case measure => simp [intOf]
   ·have hv:v = 23:=by rw [← HV.out]; first | (simp [Px.signsOf,HE0.out]; done) | simp [Px.signsOf,List.find?,HE0.out]
    go_wp2_with fail
    go_quiet (fail)
    go_wp2_with fail
    go_ret
    exact ⟨by rw [hv]; rfl,by first | exact zF HB.out _ | exact zF (zF HB.out _) _⟩
  ·have hv:v = 0:=by rw [← HV.out]; first | (simp [Px.signsOf,HE0.out]; done) | simp [Px.signsOf,List.find?,HE0.out]
   go_wp2_with fail
   go_ret
   exact ⟨by rw [hv]; rfl,by first | exact zF HB.out _ | exact zF (zF HB.out _) _⟩
theorem zJ4 (w:World)(t:RT)(ht:t.kind = 4) :
 Calls Tryz.prog 105 #[.int .i64 2,tokW t] w fun e w' => e = .returned (.int .i64 (Px.levelT 2 t)) ∧ Below w.heap.size w w':=by
 have hd:(t.kind == 4) = true:=by rw [ht]; rfl
 have hd2:(t.kind != 4) = false:=by rw [bne,hd]; rfl
 obtain ⟨v,hv⟩:∃ v,Px.levelT 2 t = v:=⟨_,rfl⟩
 rw [hv]
 rw [Px.levelT,if_pos ht] at hv
 have HV:=vH hv
 unfold tokW
 clear ht hv
 go_in
 go_wp2_with fail
 change Code.wp _ _ _ _ ?wx
 obtain ⟨wq,hwq⟩:∃ wq,wq = ?wx:=⟨_,rfl⟩
 rw [← hwq]
 have cS:wq.cell? ⟨w.heap.size + 1 + 1 + 1 + 1 + 1 + 1,2,none⟩ = some (.slice (some ⟨w.heap.size + 1 + 1 + 1,0,none⟩) 4 4):=by rw [hwq]; simp [go_sem]
 have cK:wq.cell? ⟨w.heap.size + 1 + 1 + 1 + 1 + 1 + 1 + 1 + 1 + 1 + 1 + 1 + 1,2,none⟩ = some (.slice (some ⟨w.heap.size + 1 + 1 + 1 + 1 + 1 + 1 + 1 + 1 + 1,0,none⟩) 4 4):=by rw [hwq]; simp [go_sem]
 have s0:wq.cell? ⟨w.heap.size + 1 + 1 + 1,0,none⟩ = some (.string ⟨#[60]⟩):=by rw [hwq]; simp [go_sem]
 have v0:wq.cell? ⟨w.heap.size + 1 + 1 + 1 + 1 + 1 + 1 + 1 + 1 + 1,0,none⟩ = some (.int .i64 19):=by rw [hwq]; simp [go_sem]
 have s1:wq.cell? ⟨w.heap.size + 1 + 1 + 1,1,none⟩ = some (.string ⟨#[60,61]⟩):=by rw [hwq]; simp [go_sem]
 have v1:wq.cell? ⟨w.heap.size + 1 + 1 + 1 + 1 + 1 + 1 + 1 + 1 + 1,1,none⟩ = some (.int .i64 20):=by rw [hwq]; simp [go_sem]
 have s2:wq.cell? ⟨w.heap.size + 1 + 1 + 1,2,none⟩ = some (.string ⟨#[61,61]⟩):=by rw [hwq]; simp [go_sem]
 have v2:wq.cell? ⟨w.heap.size + 1 + 1 + 1 + 1 + 1 + 1 + 1 + 1 + 1,2,none⟩ = some (.int .i64 21):=by rw [hwq]; simp [go_sem]
 have s3:wq.cell? ⟨w.heap.size + 1 + 1 + 1,3,none⟩ = some (.string ⟨#[33,61]⟩):=by rw [hwq]; simp [go_sem]
 have v3:wq.cell? ⟨w.heap.size + 1 + 1 + 1 + 1 + 1 + 1 + 1 + 1 + 1,3,none⟩ = some (.int .i64 22):=by rw [hwq]; simp [go_sem]
 have t1:wq.cell? ⟨w.heap.size,1,none⟩ = some (.string (cbs t.text)):=by rw [hwq]; simp [go_sem]
 have hb:Below w.heap.size w wq:=by
  rw [hwq]
  repeat (refine zAZ ?_ _)
  exact Below.refl _ _
 clear hwq
 have HB:=vH hb
 clear hb
 have hx0:([60] == (cbs t.text).toList) = ([60] == t.text):=by rw [zR]
 have hx1:([60,61] == (cbs t.text).toList) = ([60,61] == t.text):=by rw [zR]
 have hx2:([61,61] == (cbs t.text).toList) = ([61,61] == t.text):=by rw [zR]
 have hx3:([33,61] == (cbs t.text).toList) = ([33,61] == t.text):=by rw [zR]
 obtain ⟨x0,e0⟩:∃ x,([60] == t.text) = x:=⟨_,rfl⟩
 rw [e0] at hx0
 have HE0:=vH e0
 clear e0
 obtain ⟨x1,e1⟩:∃ x,([60,61] == t.text) = x:=⟨_,rfl⟩
 rw [e1] at hx1
 have HE1:=vH e1
 clear e1
 obtain ⟨x2,e2⟩:∃ x,([61,61] == t.text) = x:=⟨_,rfl⟩
 rw [e2] at hx2
 have HE2:=vH e2
 clear e2
 obtain ⟨x3,e3⟩:∃ x,([33,61] == t.text) = x:=⟨_,rfl⟩
 rw [e3] at hx3
 have HE3:=vH e3
 clear e3
 go_loopw [7] (fun iv wr => (iv = .int .i64 0 ∧ ∃ nn,wr = wq.drewN nn) ∨ (iv = .int .i64 1 ∧ x0 = false ∧ ∃ nn,wr = wq.drewN nn) ∨ (iv = .int .i64 2 ∧ x0 = false ∧ x1 = false ∧ ∃ nn,wr = wq.drewN nn) ∨ (iv = .int .i64 3 ∧ x0 = false ∧ x1 = false ∧ x2 = false ∧ ∃ nn,wr = wq.drewN nn) ∨ (iv = .int .i64 4 ∧ x0 = false ∧ x1 = false ∧ x2 = false ∧ x3 = false ∧ ∃ nn,wr = wq.drewN nn)) (fun iv _ => 4 - (intOf iv).toNat)
 case atStart => exact Or.inl ⟨rfl,0,rfl⟩
 case round =>
  rcases hrel with ⟨rfl,nn,rfl⟩ | ⟨rfl,rfl,nn,rfl⟩ | ⟨rfl,rfl,rfl,nn,rfl⟩ | ⟨rfl,rfl,rfl,rfl,nn,rfl⟩ | ⟨rfl,rfl,rfl,rfl,rfl,nn,rfl⟩
  ·cases x0
   ·go_wp2_with fail
    go_quiet (fail)
    go_wp2_with fail
    go_roundw
    case rel => exact Or.inr (Or.inl ⟨rfl,by trivial,_,rfl⟩)
    case measure => simp [intOf]
   ·have hv:v = 19:=by rw [← HV.out]; first | (simp [Px.signsOf,HE0.out]; done) | simp [Px.signsOf,List.find?,HE0.out]
    go_wp2_with fail
    go_quiet (fail)
    go_wp2_with fail
    go_ret
    exact ⟨by rw [hv]; rfl,by first | exact zF HB.out _ | exact zF (zF HB.out _) _⟩
  ·cases x1
   ·go_wp2_with fail
    go_quiet (fail)
    go_wp2_with fail
    go_roundw
    case rel => exact Or.inr (Or.inr (Or.inl ⟨rfl,by trivial,by trivial,_,rfl⟩))
    case measure => simp [intOf]
   ·have hv:v = 20:=by rw [← HV.out]; first | (simp [Px.signsOf,HE0.out,HE1.out]; done) | simp [Px.signsOf,List.find?,HE0.out,HE1.out]
    go_wp2_with fail
    go_quiet (fail)
    go_wp2_with fail
    go_ret
    exact ⟨by rw [hv]; rfl,by first | exact zF HB.out _ | exact zF (zF HB.out _) _⟩
  ·cases x2
   ·go_wp2_with fail
    go_quiet (fail)
    go_wp2_with fail
    go_roundw
    case rel => exact Or.inr (Or.inr (Or.inr (Or.inl ⟨rfl,by trivial,by trivial,by trivial,_,rfl⟩)))
    case measure => simp [intOf]
   ·have hv:v = 21:=by rw [← HV.out]; first | (simp [Px.signsOf,HE0.out,HE1.out,HE2.out]; done) | simp [Px.signsOf,List.find?,HE0.out,HE1.out,HE2.out]
    go_wp2_with fail
    go_quiet (fail)
    go_wp2_with fail
    go_ret
    exact ⟨by rw [hv]; rfl,by first | exact zF HB.out _ | exact zF (zF HB.out _) _⟩
  ·cases x3
   ·go_wp2_with fail
    go_quiet (fail)
    go_wp2_with fail
    go_roundw
    case rel => exact Or.inr (Or.inr (Or.inr (Or.inr (⟨rfl,by trivial,by trivial,by trivial,by trivial,_,rfl⟩))))
    case measure => simp [intOf]
   ·have hv:v = 22:=by rw [← HV.out]; first | (simp [Px.signsOf,HE0.out,HE1.out,HE2.out,HE3.out]; done) | simp [Px.signsOf,List.find?,HE0.out,HE1.out,HE2.out,HE3.out]
    go_wp2_with fail
    go_quiet (fail)
    go_wp2_with fail
    go_ret
    exact ⟨by rw [hv]; rfl,by first | exact zF HB.out _ | exact zF (zF HB.out _) _⟩
  ·have hv:v = 0:=by rw [← HV.out]; first | (simp [Px.signsOf,HE0.out,HE1.out,HE2.out,HE3.out]; done) | simp [Px.signsOf,List.find?,HE0.out,HE1.out,HE2.out,HE3.out]
   go_wp2_with fail
   go_ret
   exact ⟨by rw [hv]; rfl,by first | exact zF HB.out _ | exact zF (zF HB.out _) _⟩
theorem zJ3 (w:World)(t:RT)(ht:t.kind = 4) :
 Calls Tryz.prog 105 #[.int .i64 3,tokW t] w fun e w' => e = .returned (.int .i64 (Px.levelT 3 t)) ∧ Below w.heap.size w w':=by
 have hd:(t.kind == 4) = true:=by rw [ht]; rfl
 have hd2:(t.kind != 4) = false:=by rw [bne,hd]; rfl
 obtain ⟨v,hv⟩:∃ v,Px.levelT 3 t = v:=⟨_,rfl⟩
 rw [hv]
 rw [Px.levelT,if_pos ht] at hv
 have HV:=vH hv
 unfold tokW
 clear ht hv
 go_in
 go_wp2_with fail
 change Code.wp _ _ _ _ ?wx
 obtain ⟨wq,hwq⟩:∃ wq,wq = ?wx:=⟨_,rfl⟩
 rw [← hwq]
 have cS:wq.cell? ⟨w.heap.size + 1 + 1 + 1 + 1 + 1 + 1,3,none⟩ = some (.slice (some ⟨w.heap.size + 1 + 1 + 1 + 1,0,none⟩) 2 2):=by rw [hwq]; simp [go_sem]
 have cK:wq.cell? ⟨w.heap.size + 1 + 1 + 1 + 1 + 1 + 1 + 1 + 1 + 1 + 1 + 1 + 1,3,none⟩ = some (.slice (some ⟨w.heap.size + 1 + 1 + 1 + 1 + 1 + 1 + 1 + 1 + 1 + 1,0,none⟩) 2 2):=by rw [hwq]; simp [go_sem]
 have s0:wq.cell? ⟨w.heap.size + 1 + 1 + 1 + 1,0,none⟩ = some (.string ⟨#[43]⟩):=by rw [hwq]; simp [go_sem]
 have v0:wq.cell? ⟨w.heap.size + 1 + 1 + 1 + 1 + 1 + 1 + 1 + 1 + 1 + 1,0,none⟩ = some (.int .i64 14):=by rw [hwq]; simp [go_sem]
 have s1:wq.cell? ⟨w.heap.size + 1 + 1 + 1 + 1,1,none⟩ = some (.string ⟨#[45]⟩):=by rw [hwq]; simp [go_sem]
 have v1:wq.cell? ⟨w.heap.size + 1 + 1 + 1 + 1 + 1 + 1 + 1 + 1 + 1 + 1,1,none⟩ = some (.int .i64 15):=by rw [hwq]; simp [go_sem]
 have t1:wq.cell? ⟨w.heap.size,1,none⟩ = some (.string (cbs t.text)):=by rw [hwq]; simp [go_sem]
 have hb:Below w.heap.size w wq:=by
  rw [hwq]
  repeat (refine zAZ ?_ _)
  exact Below.refl _ _
 clear hwq
 have HB:=vH hb
 clear hb
 have hx0:([43] == (cbs t.text).toList) = ([43] == t.text):=by rw [zR]
 have hx1:([45] == (cbs t.text).toList) = ([45] == t.text):=by rw [zR]
 obtain ⟨x0,e0⟩:∃ x,([43] == t.text) = x:=⟨_,rfl⟩
 rw [e0] at hx0
 have HE0:=vH e0
 clear e0
 obtain ⟨x1,e1⟩:∃ x,([45] == t.text) = x:=⟨_,rfl⟩
 rw [e1] at hx1
 have HE1:=vH e1
 clear e1
 go_loopw [7] (fun iv wr => (iv = .int .i64 0 ∧ ∃ nn,wr = wq.drewN nn) ∨ (iv = .int .i64 1 ∧ x0 = false ∧ ∃ nn,wr = wq.drewN nn) ∨ (iv = .int .i64 2 ∧ x0 = false ∧ x1 = false ∧ ∃ nn,wr = wq.drewN nn)) (fun iv _ => 2 - (intOf iv).toNat)
 case atStart => exact Or.inl ⟨rfl,0,rfl⟩
 case round =>
  rcases hrel with ⟨rfl,nn,rfl⟩ | ⟨rfl,rfl,nn,rfl⟩ | ⟨rfl,rfl,rfl,nn,rfl⟩
  ·cases x0
   ·go_wp2_with fail
    go_quiet (fail)
    go_wp2_with fail
    go_roundw
    case rel => exact Or.inr (Or.inl ⟨rfl,by trivial,_,rfl⟩)
    case measure => simp [intOf]
   ·have hv:v = 14:=by rw [← HV.out]; first | (simp [Px.signsOf,HE0.out]; done) | simp [Px.signsOf,List.find?,HE0.out]
    go_wp2_with fail
    go_quiet (fail)
    go_wp2_with fail
    go_ret
    exact ⟨by rw [hv]; rfl,by first | exact zF HB.out _ | exact zF (zF HB.out _) _⟩
  ·cases x1
   ·go_wp2_with fail
    go_quiet (fail)
    go_wp2_with fail
    go_roundw
    case rel => exact Or.inr (Or.inr (⟨rfl,by trivial,by trivial,_,rfl⟩))
    case measure => simp [intOf]
   ·have hv:v = 15:=by rw [← HV.out]; first | (simp [Px.signsOf,HE0.out,HE1.out]; done) | simp [Px.signsOf,List.find?,HE0.out,HE1.out]
    go_wp2_with fail
    go_quiet (fail)
    go_wp2_with fail
    go_ret
    exact ⟨by rw [hv]; rfl,by first | exact zF HB.out _ | exact zF (zF HB.out _) _⟩
  ·have hv:v = 0:=by rw [← HV.out]; first | (simp [Px.signsOf,HE0.out,HE1.out]; done) | simp [Px.signsOf,List.find?,HE0.out,HE1.out]
   go_wp2_with fail
   go_ret
   exact ⟨by rw [hv]; rfl,by first | exact zF HB.out _ | exact zF (zF HB.out _) _⟩
theorem zJ2 (w:World)(t:RT)(ht:t.kind = 4) :
 Calls Tryz.prog 105 #[.int .i64 4,tokW t] w fun e w' => e = .returned (.int .i64 (Px.levelT 4 t)) ∧ Below w.heap.size w w':=by
 have hd:(t.kind == 4) = true:=by rw [ht]; rfl
 have hd2:(t.kind != 4) = false:=by rw [bne,hd]; rfl
 obtain ⟨v,hv⟩:∃ v,Px.levelT 4 t = v:=⟨_,rfl⟩
 rw [hv]
 rw [Px.levelT,if_pos ht] at hv
 have HV:=vH hv
 unfold tokW
 clear ht hv
 go_in
 go_wp2_with fail
 change Code.wp _ _ _ _ ?wx
 obtain ⟨wq,hwq⟩:∃ wq,wq = ?wx:=⟨_,rfl⟩
 rw [← hwq]
 have cS:wq.cell? ⟨w.heap.size + 1 + 1 + 1 + 1 + 1 + 1,4,none⟩ = some (.slice (some ⟨w.heap.size + 1 + 1 + 1 + 1 + 1,0,none⟩) 3 3):=by rw [hwq]; simp [go_sem]
 have cK:wq.cell? ⟨w.heap.size + 1 + 1 + 1 + 1 + 1 + 1 + 1 + 1 + 1 + 1 + 1 + 1,4,none⟩ = some (.slice (some ⟨w.heap.size + 1 + 1 + 1 + 1 + 1 + 1 + 1 + 1 + 1 + 1 + 1,0,none⟩) 3 3):=by rw [hwq]; simp [go_sem]
 have s0:wq.cell? ⟨w.heap.size + 1 + 1 + 1 + 1 + 1,0,none⟩ = some (.string ⟨#[42]⟩):=by rw [hwq]; simp [go_sem]
 have v0:wq.cell? ⟨w.heap.size + 1 + 1 + 1 + 1 + 1 + 1 + 1 + 1 + 1 + 1 + 1,0,none⟩ = some (.int .i64 16):=by rw [hwq]; simp [go_sem]
 have s1:wq.cell? ⟨w.heap.size + 1 + 1 + 1 + 1 + 1,1,none⟩ = some (.string ⟨#[47]⟩):=by rw [hwq]; simp [go_sem]
 have v1:wq.cell? ⟨w.heap.size + 1 + 1 + 1 + 1 + 1 + 1 + 1 + 1 + 1 + 1 + 1,1,none⟩ = some (.int .i64 17):=by rw [hwq]; simp [go_sem]
 have s2:wq.cell? ⟨w.heap.size + 1 + 1 + 1 + 1 + 1,2,none⟩ = some (.string ⟨#[37]⟩):=by rw [hwq]; simp [go_sem]
 have v2:wq.cell? ⟨w.heap.size + 1 + 1 + 1 + 1 + 1 + 1 + 1 + 1 + 1 + 1 + 1,2,none⟩ = some (.int .i64 18):=by rw [hwq]; simp [go_sem]
 have t1:wq.cell? ⟨w.heap.size,1,none⟩ = some (.string (cbs t.text)):=by rw [hwq]; simp [go_sem]
 have hb:Below w.heap.size w wq:=by
  rw [hwq]
  repeat (refine zAZ ?_ _)
  exact Below.refl _ _
 clear hwq
 have HB:=vH hb
 clear hb
 have hx0:([42] == (cbs t.text).toList) = ([42] == t.text):=by rw [zR]
 have hx1:([47] == (cbs t.text).toList) = ([47] == t.text):=by rw [zR]
 have hx2:([37] == (cbs t.text).toList) = ([37] == t.text):=by rw [zR]
 obtain ⟨x0,e0⟩:∃ x,([42] == t.text) = x:=⟨_,rfl⟩
 rw [e0] at hx0
 have HE0:=vH e0
 clear e0
 obtain ⟨x1,e1⟩:∃ x,([47] == t.text) = x:=⟨_,rfl⟩
 rw [e1] at hx1
 have HE1:=vH e1
 clear e1
 obtain ⟨x2,e2⟩:∃ x,([37] == t.text) = x:=⟨_,rfl⟩
 rw [e2] at hx2
 have HE2:=vH e2
 clear e2
 go_loopw [7] (fun iv wr => (iv = .int .i64 0 ∧ ∃ nn,wr = wq.drewN nn) ∨ (iv = .int .i64 1 ∧ x0 = false ∧ ∃ nn,wr = wq.drewN nn) ∨ (iv = .int .i64 2 ∧ x0 = false ∧ x1 = false ∧ ∃ nn,wr = wq.drewN nn) ∨ (iv = .int .i64 3 ∧ x0 = false ∧ x1 = false ∧ x2 = false ∧ ∃ nn,wr = wq.drewN nn)) (fun iv _ => 3 - (intOf iv).toNat)
 case atStart => exact Or.inl ⟨rfl,0,rfl⟩
 case round =>
  rcases hrel with ⟨rfl,nn,rfl⟩ | ⟨rfl,rfl,nn,rfl⟩ | ⟨rfl,rfl,rfl,nn,rfl⟩ | ⟨rfl,rfl,rfl,rfl,nn,rfl⟩
  ·cases x0
   ·go_wp2_with fail
    go_quiet (fail)
    go_wp2_with fail
    go_roundw
    case rel => exact Or.inr (Or.inl ⟨rfl,by trivial,_,rfl⟩)
    case measure => simp [intOf]
   ·have hv:v = 16:=by rw [← HV.out]; first | (simp [Px.signsOf,HE0.out]; done) | simp [Px.signsOf,List.find?,HE0.out]
    go_wp2_with fail
    go_quiet (fail)
    go_wp2_with fail
    go_ret
    exact ⟨by rw [hv]; rfl,by first | exact zF HB.out _ | exact zF (zF HB.out _) _⟩
  ·cases x1
   ·go_wp2_with fail
    go_quiet (fail)
    go_wp2_with fail
    go_roundw
    case rel => exact Or.inr (Or.inr (Or.inl ⟨rfl,by trivial,by trivial,_,rfl⟩))
    case measure => simp [intOf]
   ·have hv:v = 17:=by rw [← HV.out]; first | (simp [Px.signsOf,HE0.out,HE1.out]; done) | simp [Px.signsOf,List.find?,HE0.out,HE1.out]
    go_wp2_with fail
    go_quiet (fail)
    go_wp2_with fail
    go_ret
    exact ⟨by rw [hv]; rfl,by first | exact zF HB.out _ | exact zF (zF HB.out _) _⟩
  ·cases x2
   ·go_wp2_with fail
    go_quiet (fail)
    go_wp2_with fail
    go_roundw
    case rel => exact Or.inr (Or.inr (Or.inr (⟨rfl,by trivial,by trivial,by trivial,_,rfl⟩)))
    case measure => simp [intOf]
   ·have hv:v = 18:=by rw [← HV.out]; first | (simp [Px.signsOf,HE0.out,HE1.out,HE2.out]; done) | simp [Px.signsOf,List.find?,HE0.out,HE1.out,HE2.out]
    go_wp2_with fail
    go_quiet (fail)
    go_wp2_with fail
    go_ret
    exact ⟨by rw [hv]; rfl,by first | exact zF HB.out _ | exact zF (zF HB.out _) _⟩
  ·have hv:v = 0:=by rw [← HV.out]; first | (simp [Px.signsOf,HE0.out,HE1.out,HE2.out]; done) | simp [Px.signsOf,List.find?,HE0.out,HE1.out,HE2.out]
   go_wp2_with fail
   go_ret
   exact ⟨by rw [hv]; rfl,by first | exact zF HB.out _ | exact zF (zF HB.out _) _⟩
theorem zHg (w:World)(n:Nat)(hn:n < 5)(t:RT) :
 Calls Tryz.prog 105 #[.int .i64 n,tokW t] w fun e w' => e = .returned (.int .i64 (Px.levelT n t)) ∧ Below w.heap.size w w':=by
 by_cases ht:t.kind = 4
 ·match n,hn with
  | 0,_ => exact zJ6 w t ht
  | 1,_ => exact zJ5 w t ht
  | 2,_ => exact zJ4 w t ht
  | 3,_ => exact zJ3 w t ht
  | 4,_ => exact zJ2 w t ht
 ·exact zFx w n t ht
end Go.Proofs.YtipmjjfknhblnaaGreatDoor
