/-
  The contracts of the answer's reader (runrigref3) over the p
-/
import Derived.Test.YteadgahhchlgeaaDoorK08
import Derived.Test.YteadgahhchlgeaaDoorK02
set_option maxHeartbeats 8000000
namespace Go.Proofs.YteadgahhchlgeaaDoor
open Go.RowKit
open Px (RT tokAt isT)
open Pe (inc dec)
open Qe (Q)
theorem zNY (w:World)(R:Nat)(S:Value)(ts:List RT)(s:Q)(h:Qr w R S ts s)(hE:(s.E == 0) = true)(hi:(tokAt ts s.k).kind = 1) :
 Calls Tryd.prog 38 #[.pointer (some ⟨R,0,none⟩)] w fun en w' => en = .returned (.string (cbs (tokAt ts s.k).text)) ∧ Qr w' R S ts (Qe.next s) ∧ Gr R w w':=by
 have ht:=zAt w R S ts s h
 have hok:∀ w1,Below w.heap.size w w1 → Calls Tryd.prog 16 #[.pointer (some ⟨R,0,none⟩)] w1 fun e w' => e = .returned (.bool true) ∧ w1 = w':=fun w1 hb => by rw [← hE]; exact zAS w1 R S ts s (h.go hb)
 generalize hT:tokAt ts s.k = T at ht hi ⊢
 unfold tokW at ht
 have hd1:(T.kind == 1) = true:=by rw [hi]; rfl
 have HT:=vH ht
 have HOK:=vH hok
 have HH:=vH h
 clear ht hok h hT hi hE
 go_in
 go_wp2_with (first
  | (go_at_call 17; refine (HT.out).mono ?_; rintro e w1 ⟨rfl,hb1⟩; have hb1:=hb1)
  | (go_at_call 16; refine (HOK.out _ (hb1.alloc hb1.size _)).mono ?_; rintro e w2 ⟨rfl,he⟩; have hb2:Below w.heap.size w w2:=(by rw [← he]; exact hb1.alloc hb1.size _); have hblk:w2.heap[w1.heap.size]? = some (.cells (vT T) 71 (0,0)):=(by rw [← he]; exact heap_alloc_new w1 _); clear he; obtain ⟨⟨d0,d1,d2,d3⟩,g0,g1,g2,g3⟩:=quad hblk; clear hblk g0 g1 g2 g3; have hr2:=HH.out.go hb2; obtain ⟨⟨c0,c1,c2,c3,c4⟩,fr,hRl⟩:=hr2.cells; have HR2:=vH hr2; clear hr2; have fr1:=fr 1; clear fr; have hne:w1.heap.size ≠ R:=(by have:=HH.out.lt; have:=hb1.size; omega); have hne2:R ≠ w1.heap.size:=fun h => hne h.symm))
 refine bodyPost_ret (results_tmp rfl _ _ _) rfl ⟨rfl,?_,?_⟩
 ·exact HR2.out.set_k (inc s.k)
 ·exact (Gr.of hb2).set 1 _
theorem zNX (w:World)(R:Nat)(S:Value)(ts:List RT)(s:Q)(h:Qr w R S ts s)(hE:(s.E == 0) = true)(hi:¬ (tokAt ts s.k).kind = 1) :
 Calls Tryd.prog 38 #[.pointer (some ⟨R,0,none⟩)] w fun en w' => en = .returned (.string ⟨#[]⟩) ∧ Qr w' R S ts (Qe.fail ts s 2) ∧ Gr R w w':=by
 have ht:=zAt w R S ts s h
 have hok:∀ w1,Below w.heap.size w w1 → Calls Tryd.prog 16 #[.pointer (some ⟨R,0,none⟩)] w1 fun e w' => e = .returned (.bool true) ∧ w1 = w':=fun w1 hb => by rw [← hE]; exact zAS w1 R S ts s (h.go hb)
 have hf:=fun w1 hh => zAn w1 R S ts s hh 2
 generalize Qe.fail ts s 2 = s2 at hf ⊢
 generalize hT:tokAt ts s.k = T at ht hi
 unfold tokW at ht
 have hd1:(T.kind == 1) = false:=beq_eq_false_iff_ne.2 hi
 have HT:=vH ht
 have HOK:=vH hok
 have HH:=vH h
 have HF:=vH hf
 clear ht hok h hT hi hE hf
 go_in
 go_wp2_with (first
  | (go_at_call 17; refine (HT.out).mono ?_; rintro e w1 ⟨rfl,hb1⟩; have hb1:=hb1)
  | (go_at_call 16; refine (HOK.out _ (hb1.alloc hb1.size _)).mono ?_; rintro e w2 ⟨rfl,he⟩; have hb2:Below w.heap.size w w2:=(by rw [← he]; exact hb1.alloc hb1.size _); have hblk:w2.heap[w1.heap.size]? = some (.cells (vT T) 71 (0,0)):=(by rw [← he]; exact heap_alloc_new w1 _); clear he; obtain ⟨⟨d0,d1,d2,d3⟩,g0,g1,g2,g3⟩:=quad hblk; clear hblk g0 g1 g2 g3; have HR2:=vH (HH.out.go hb2))
  | (go_at_call 19; refine (HF.out w2 HR2.out).mono ?_; rintro e w3 ⟨rfl,hr3,hg3⟩; have HR3:=vH hr3; clear hr3))
 refine bodyPost_ret (results_tmp rfl _ _ _) rfl ⟨rfl,HR3.out,(Gr.of hb2).trans hg3⟩
theorem zNW (w:World)(R:Nat)(S:Value)(ts:List RT)(s:Q)(h:Qr w R S ts s)(hE:(s.E == 0) = false) :
 Calls Tryd.prog 38 #[.pointer (some ⟨R,0,none⟩)] w fun en w' => en = .returned (.string ⟨#[]⟩) ∧ Qr w' R S ts (Qe.fail ts s 2) ∧ Gr R w w':=by
 have ht:=zAt w R S ts s h
 have hok:∀ w1,Below w.heap.size w w1 → Calls Tryd.prog 16 #[.pointer (some ⟨R,0,none⟩)] w1 fun e w' => e = .returned (.bool false) ∧ w1 = w':=fun w1 hb => by rw [← hE]; exact zAS w1 R S ts s (h.go hb)
 have hf:=fun w1 hh => zAn w1 R S ts s hh 2
 generalize Qe.fail ts s 2 = s2 at hf ⊢
 generalize hT:tokAt ts s.k = T at ht
 unfold tokW at ht
 have HT:=vH ht
 have HOK:=vH hok
 have HH:=vH h
 have HF:=vH hf
 clear ht hok h hT hE hf
 go_in
 go_wp2_with (first
  | (go_at_call 17; refine (HT.out).mono ?_; rintro e w1 ⟨rfl,hb1⟩; have hb1:=hb1)
  | (go_at_call 16; refine (HOK.out _ (hb1.alloc hb1.size _)).mono ?_; rintro e w2 ⟨rfl,he⟩; have hb2:Below w.heap.size w w2:=(by rw [← he]; exact hb1.alloc hb1.size _); clear he; have HR2:=vH (HH.out.go hb2))
  | (go_at_call 19; refine (HF.out w2 HR2.out).mono ?_; rintro e w3 ⟨rfl,hr3,hg3⟩; have HR3:=vH hr3; clear hr3))
 refine bodyPost_ret (results_tmp rfl _ _ _) rfl ⟨rfl,HR3.out,(Gr.of hb2).trans hg3⟩
theorem zAG (w:World)(R:Nat)(S:Value)(ts:List RT)(s:Q)(h:Qr w R S ts s) :
 Calls Tryd.prog 38 #[.pointer (some ⟨R,0,none⟩)] w fun en w' => en = .returned (.string (cbs (Qe.name ts s).1)) ∧ Qr w' R S ts (Qe.name ts s).2 ∧ Gr R w w':=by
 unfold Qe.name
 by_cases hE:s.E = 0
 ·by_cases hi:(tokAt ts s.k).kind = 1
  ·rw [if_pos ⟨hE,hi⟩]
   exact zNY w R S ts s h (by rw [hE]; rfl) hi
  ·rw [if_neg (fun h => hi h.2)]
   exact zNX w R S ts s h (by rw [hE]; rfl) hi
 ·rw [if_neg (fun h => hE h.1)]
  exact zNW w R S ts s h (by simpa using hE)
theorem zAu (text:ByteArray)(h:(match text.data.toList with | [] => false | c :: _ => !decide (97 ≤ (c.toNat:Int) ∧ (c.toNat:Int) ≤ 122)) = true):NoLetter text:=by
 obtain ⟨⟨l⟩⟩:=text
 cases l with
 | nil => cases h
 | cons c l =>
   refine ⟨Nat.succ_pos _,?_⟩
   have h1:(!decide (97 ≤ (c.toNat:Int) ∧ (c.toNat:Int) ≤ 122)) = true:=h
   have h2:decide (97 ≤ (c.toNat:Int) ∧ (c.toNat:Int) ≤ 122) = false:=by rwa [Bool.not_eq_true'] at h1
   exact h2
theorem zJJ {ts:List RT}{n:Nat}{s:Q}(h:Qe.is ts s false [91] = true):Qe.dims ts (n + 1) s = ((Qe.dims ts n (Qe.next s)).1.map (· + 1),(Qe.dims ts n (Qe.next s)).2):=by rw [Qe.dims,if_pos h]
theorem zLq {ts:List RT}{n:Nat}{s:Q}(h:Qe.is ts s false [91] = false):Qe.dims ts n s = (some 0,s):=by
 cases n with
 | zero => rw [Qe.dims,h]; rfl
 | succ n => rw [Qe.dims,h]; rfl
theorem zIn {ts:List RT}{s:Q}(h:Qe.is ts s false [91] = true):Qe.dims ts 0 s = (none,Qe.fail ts s 4):=by rw [Qe.dims,if_pos h]
theorem zJM {ts:List RT}{s:Q}(h:Qe.is ts s true [105,110,116] = true):Qe.base ts s = ((tokAt ts s.k).text,Qe.next s):=by rw [Qe.base,h]; rfl
theorem zIq {ts:List RT}{s:Q}(h:Qe.is ts s true [98,111,111,108] = true):Qe.base ts s = ((tokAt ts s.k).text,Qe.next s):=by rw [Qe.base,h,Bool.or_true]; rfl
theorem zIp {ts:List RT}{s:Q}(h:Qe.is ts s true [105,110,116] = false)(h2:Qe.is ts s true [98,111,111,108] = false):Qe.base ts s = Qe.name ts s:=by rw [Qe.base,h,h2]; rfl
def DimSt (ts:List RT)(s s1:Q)(d:Nat):Prop:=(Qe.dims ts (3 - d) s1).1.map (· + d) = (Qe.dims ts 3 s).1 ∧ (Qe.dims ts (3 - d) s1).2 = (Qe.dims ts 3 s).2
theorem DimSt.next {ts:List RT}{s s1:Q}{d:Nat}(h:DimSt ts s s1 d)(hd:d < 3)(hi:Qe.is ts s1 false [91] = true):DimSt ts s (Qe.next s1) (d + 1):=by
 unfold DimSt at h ⊢
 rw [show 3 - d = (3 - (d + 1)) + 1 by omega,zJJ hi] at h
 refine ⟨?_,h.2⟩
 rw [← h.1,Option.map_map]
 congr 1
 funext x
 show x + (d + 1) = x + 1 + d
 omega
theorem DimSt.stop {ts:List RT}{s s1:Q}{d:Nat}(h:DimSt ts s s1 d)(hi:Qe.is ts s1 false [91] = false):Qe.of ts s = ((Qe.base ts s1).1,d,Qe.shut ts d (Qe.base ts s1).2):=by
 obtain ⟨h1,h2⟩:=h
 rw [zLq hi] at h1 h2
 have h3:(Qe.dims ts 3 s).1 = some d:=by rw [← h1]; simp
 unfold Qe.of
 rw [h3,← h2]
theorem DimSt.over {ts:List RT}{s s1:Q}(h:DimSt ts s s1 3)(hi:Qe.is ts s1 false [91] = true):Qe.of ts s = ([],0,Qe.fail ts s1 4):=by
 obtain ⟨h1,h2⟩:=h
 rw [Nat.sub_self,zIn hi] at h1 h2
 have h3:(Qe.dims ts 3 s).1 = none:=by rw [← h1]; rfl
 unfold Qe.of
 rw [h3,← h2]
structure Tq (w wr:World) (R:Nat) (S:Value) (ts:List RT) (s:Q) (B:Nat) (a:Value) (d:Nat):Prop where
 qr:Qr wr R S ts s
 gr:Gr R w wr
 res:wr.heap[w.heap.size]? = some (.cells vO 40 (0,0))
 new:w.heap.size < B
 own:wr.heap[B]? = some (.cells #[a,.int .i64 d] 40 (0,0))
theorem Tq.go {w wr w':World}{R:Nat}{S:Value}{ts:List RT}{s s2:Q}{B:Nat}{a:Value}{d:Nat}(h:Tq w wr R S ts s B a d)(hR:R < w.heap.size)(hc:Qr w' R S ts s2)(hg:Gr R wr w'):Tq w w' R S ts s2 B a d:=
 ⟨hc,h.gr.trans hg,hg.box h.res (by omega),h.new,hg.box h.own (by have:=h.new; omega)⟩
theorem Tq.set0 {w wr:World}{R:Nat}{S:Value}{ts:List RT}{s s0:Q}{B:Nat}{a:Value}{d:Nat}(h:Tq w wr R S ts s B a d)(hw:Qr w R S ts s0)(u:Value):Tq w (wr.setCell ⟨B,0,none⟩ u) R S ts s B u d:=by
 have hn:=(Nw.start h.gr).set (p:=⟨B,0,none⟩) (Nat.le_of_lt h.new) u
 exact ⟨hw.fin h.qr hn,hn.gr,zAh h.res (Nat.ne_of_lt h.new) u,h.new,zHI h.own u⟩
theorem Tq.set_k {w wr:World}{R:Nat}{S:Value}{ts:List RT}{s:Q}{B:Nat}{a:Value}{d:Nat}(h:Tq w wr R S ts s B a d)(hR:R < w.heap.size)(q:Int):Tq w (wr.setCell ⟨R,1,none⟩ (.int .i64 q)) R S ts ⟨q,s.o,s.E,s.F⟩ B a d:=
 h.go hR (h.qr.set_k q) ((Gr.refl R wr).set 1 _)
theorem zCT (w:World)(R:Nat)(S:Value)(ts:List RT)(s:Q)(h:Qr w R S ts s) :
 Calls Tryd.prog 39 #[.pointer (some ⟨R,0,none⟩)] w fun e w' => e = .returned (.agg #[.string (cbs (Qe.of ts s).1),.int .i64 (Qe.of ts s).2.1]) ∧ Qr w' R S ts (Qe.of ts s).2.2 ∧ Gr R w w':=by
 have hlt:=h.lt
 have HH:=vH h
 clear h
 go_in
 go_wp2_with fail
 go_loopw [3] (fun dv wr => ∃ (d:Nat) (s1:Q),d ≤ 3 ∧ dv = .int .i64 d ∧ Qr wr R S ts s1 ∧ Gr R w wr ∧ wr.heap[w.heap.size]? = some (.cells vO 40 (0,0)) ∧ DimSt ts s s1 d) (fun dv _ => 3 - (intOf dv).toNat)
 case atStart =>
  have hb:=(Below.refl w.heap.size w).alloc (Nat.le_refl _) (.cells vO 40)
  exact ⟨0,s,by omega,rfl,HH.out.go hb,Gr.of hb,heap_alloc_new w _,by unfold DimSt; simp⟩
 case round =>
  obtain ⟨d,s1,hd,rfl,hr,hg,hblk,hdim⟩:=hrel
  have HR:=vH hr
  have HG:=vH hg
  have HK:=vH hblk
  have HD:=vH hdim
  clear hr hg hblk hdim
  cases hI:Qe.is ts s1 false [91]
  ·have HI:=vH hI
   clear hI
   go_wp2_with fail
   refine (zI _ R S ts s1 HR.out ⟨#[91]⟩ (by decide) false (by decide)).mono ?_
   rintro e w1 ⟨rfl,hb1⟩
   rw [HI.out]
   have HOF:=vH (HD.out.stop HI.out)
   have hsz:w.heap.size < w1.heap.size:=Nat.lt_of_lt_of_le (zA HK.out) hb1.size
   have hg1:=HG.out.trans (Gr.of hb1)
   have HT1:Hid (Tq w (w1.alloc (.cells #[.string ⟨#[]⟩,.int .i64 (d:Int)] 40)) R S ts s1 w1.heap.size (.string ⟨#[]⟩) d):=⟨(HR.out.go hb1).go ((Below.refl _ _).alloc (Nat.le_refl _) _),hg1.alloc _,zM _ ((hb1.block _ (zA HK.out)).trans HK.out),hsz,heap_alloc_new w1 _⟩
   clear hb1 hg1 hsz HR HG HK HD HI
   obtain ⟨B,hB⟩:∃ B,B = w1.heap.size:=⟨_,rfl⟩
   rw [← hB] at HT1
   go_wp2_with fail
   rw [← hB]
   refine (zI _ R S ts s1 HT1.out.qr ⟨#[105,110,116]⟩ (by decide) true (by decide)).mono ?_
   rintro e w2 ⟨rfl,hb2⟩
   have HT2:=vH (HT1.out.go hlt (HT1.out.qr.go hb2) (Gr.of hb2))
   clear hb2 HT1 hB
   cases hI3:Qe.is ts s1 true [105,110,116]
   ·have HI3:=vH hI3
    try rw [hI3]
    clear hI3
    go_wp2_with fail
    refine (zI _ R S ts s1 HT2.out.qr ⟨#[98,111,111,108]⟩ (by decide) true (by decide)).mono ?_
    rintro e w3 ⟨rfl,hb3⟩
    have HT3:=vH (HT2.out.go hlt (HT2.out.qr.go hb3) (Gr.of hb3))
    clear hb3 HT2
    cases hI4:Qe.is ts s1 true [98,111,111,108]
    ·have HB:=vH (zIp HI3.out hI4)
     try rw [hI4]
     clear hI4
     go_wp2_with fail
     refine (zAG _ R S ts s1 HT3.out.qr).mono ?_
     rintro e w4 ⟨rfl,hr4,hg4⟩
     rw [← HB.out]
     rw [← HB.out] at hr4
     have HT4:=vH (HT3.out.go hlt hr4 hg4)
     clear hr4 hg4 HT3 HB
     obtain ⟨⟨e0,e1⟩,⟨f0,f1⟩,hl⟩:=duo HT4.out.own
     have HT5:=vH (HT4.out.set0 HH.out (.string (cbs (Qe.base ts s1).1)))
     go_wp2_with fail
     clear HT4 e0 e1 f0 f1 hl
     go_loopw [5] (fun iv wr => ∃ (j:Nat) (s4:Q),j ≤ d ∧ iv = .int .i64 j ∧ Tq w wr R S ts s4 B (.string (cbs (Qe.base ts s1).1)) d ∧ Qe.shut ts (d - j) s4 = Qe.shut ts d (Qe.base ts s1).2) (fun iv _ => d - (intOf iv).toNat)
     case atStart => exact ⟨0,_,Nat.zero_le _,rfl,HT5.out,rfl⟩
     case round =>
      obtain ⟨j,s4,hj,rfl,hty4,hsh⟩:=hrel
      have HTL:=vH hty4
      have HSH:=vH hsh
      clear hty4 hsh HT5
      by_cases hlt4:j < d
      ·have hlt2:(j:Int) < (d:Int):=by omega
       go_wp2_with fail
       refine (zJ _ R S ts s4 HTL.out.qr ⟨#[93]⟩ (by decide) false (by decide)).mono ?_
       rintro e w9 ⟨rfl,hr9,hg9⟩
       have HT9:=vH (HTL.out.go hlt hr9 hg9)
       clear hr9 hg9
       go_wp2_with fail
       go_roundw
       case rel => exact ⟨j + 1,_,by omega,by go_num,HT9.out,by have:=HSH.out; rw [show d - j = (d - (j + 1)) + 1 by omega,Qe.shut] at this; exact this⟩
       case measure => simp [intOf]; omega
      ·obtain rfl:j = d:=by omega
       obtain ⟨⟨e0,e1⟩,⟨f0,f1⟩,hl⟩:=duo HTL.out.own
       obtain ⟨⟨r0,r1⟩,⟨q0,q1⟩,hl2⟩:=duo HTL.out.res
       go_wp2_with fail
       have hn:=((Nw.start HTL.out.gr).set (p:=⟨w.heap.size,0,none⟩) (Nat.le_refl _) (.string (cbs (Qe.base ts s1).1))).set (p:=⟨w.heap.size,1,none⟩) (Nat.le_refl _) (.int .i64 j)
       have hs4:=HSH.out
       rw [Nat.sub_self,Qe.shut] at hs4
       rw [HOF.out]
       refine bodyPost_ret (v:=.agg #[.string (cbs (Qe.base ts s1).1),.int .i64 j]) (by simp [results,Tryd.results39,go_sem,r0,r1]) rfl ⟨rfl,?_,hn.gr⟩
       dsimp only
       rw [← hs4]
       exact HH.out.fin HTL.out.qr hn
    ·have HB:=vH (zIq hI4)
     try rw [hI4]
     clear hI4
     have ht:=zAt _ R S ts s1 HT3.out.qr
     obtain ⟨TK,hTT⟩:∃ TK,TK = tokAt ts s1.k:=⟨_,rfl⟩
     rw [← hTT] at ht
     unfold tokW at ht
     have hbt:(Qe.base ts s1).1 = TK.text:=by rw [HB.out,hTT]
     have hfd:∀ w1:World,(Instr.field 71 (.agg #[.int .i64 TK.kind,.string (cbs TK.text),.int .i64 TK.num,.int .i64 TK.at_]) 1).run Tryd.prog w1 = .ok (.string (cbs (Qe.base ts s1).1)) w1:=fun _ => by rw [hbt]; kernel_rfl
     have HTK:=vH ht
     clear ht hTT hbt
     go_wp2_with fail
     refine (HTK.out).mono ?_
     rintro e w4 ⟨rfl,hb4⟩
     have HT4:=vH (HT3.out.go hlt (HT3.out.qr.go hb4) (Gr.of hb4))
     clear hb4 HT3 HTK
     obtain ⟨⟨e0,e1⟩,⟨f0,f1⟩,hl⟩:=duo HT4.out.own
     have HT5:=vH (HT4.out.set0 HH.out (.string (cbs (Qe.base ts s1).1)))
     obtain ⟨⟨c0,c1,c2,c3,c4⟩,fr,_⟩:=HT5.out.qr.cells
     obtain ⟨⟨b0,b1,b2,b3,b4⟩,fr0,_⟩:=HT4.out.qr.cells
     have fr1:=fr 1
     have fr2:=fr0 1
     clear fr fr0
     have HT6:=vH (HT5.out.set_k hlt (inc s1.k))
     rw [show (⟨inc s1.k,s1.o,s1.E,s1.F⟩:Q) = (Qe.base ts s1).2 by rw [HB.out]; rfl] at HT6
     go_wp2_with fail
     clear HT4 HT5 c0 c1 c2 c3 c4 b0 b1 b2 b3 b4 fr1 fr2 hfd e0 e1 f0 f1 hl
     go_loopw [5] (fun iv wr => ∃ (j:Nat) (s4:Q),j ≤ d ∧ iv = .int .i64 j ∧ Tq w wr R S ts s4 B (.string (cbs (Qe.base ts s1).1)) d ∧ Qe.shut ts (d - j) s4 = Qe.shut ts d (Qe.base ts s1).2) (fun iv _ => d - (intOf iv).toNat)
     case atStart => exact ⟨0,_,Nat.zero_le _,rfl,HT6.out,rfl⟩
     case round =>
      obtain ⟨j,s4,hj,rfl,hty4,hsh⟩:=hrel
      have HTL:=vH hty4
      have HSH:=vH hsh
      clear hty4 hsh HT6
      by_cases hlt4:j < d
      ·have hlt2:(j:Int) < (d:Int):=by omega
       go_wp2_with fail
       refine (zJ _ R S ts s4 HTL.out.qr ⟨#[93]⟩ (by decide) false (by decide)).mono ?_
       rintro e w9 ⟨rfl,hr9,hg9⟩
       have HT9:=vH (HTL.out.go hlt hr9 hg9)
       clear hr9 hg9
       go_wp2_with fail
       go_roundw
       case rel => exact ⟨j + 1,_,by omega,by go_num,HT9.out,by have:=HSH.out; rw [show d - j = (d - (j + 1)) + 1 by omega,Qe.shut] at this; exact this⟩
       case measure => simp [intOf]; omega
      ·obtain rfl:j = d:=by omega
       obtain ⟨⟨e0,e1⟩,⟨f0,f1⟩,hl⟩:=duo HTL.out.own
       obtain ⟨⟨r0,r1⟩,⟨q0,q1⟩,hl2⟩:=duo HTL.out.res
       go_wp2_with fail
       have hn:=((Nw.start HTL.out.gr).set (p:=⟨w.heap.size,0,none⟩) (Nat.le_refl _) (.string (cbs (Qe.base ts s1).1))).set (p:=⟨w.heap.size,1,none⟩) (Nat.le_refl _) (.int .i64 j)
       have hs4:=HSH.out
       rw [Nat.sub_self,Qe.shut] at hs4
       rw [HOF.out]
       refine bodyPost_ret (v:=.agg #[.string (cbs (Qe.base ts s1).1),.int .i64 j]) (by simp [results,Tryd.results39,go_sem,r0,r1]) rfl ⟨rfl,?_,hn.gr⟩
       dsimp only
       rw [← hs4]
       exact HH.out.fin HTL.out.qr hn
   ·have HB:=vH (zJM hI3)
    try rw [hI3]
    clear hI3
    have HT3:=HT2
    clear HT2
    have ht:=zAt _ R S ts s1 HT3.out.qr
    obtain ⟨TK,hTT⟩:∃ TK,TK = tokAt ts s1.k:=⟨_,rfl⟩
    rw [← hTT] at ht
    unfold tokW at ht
    have hbt:(Qe.base ts s1).1 = TK.text:=by rw [HB.out,hTT]
    have hfd:∀ w1:World,(Instr.field 71 (.agg #[.int .i64 TK.kind,.string (cbs TK.text),.int .i64 TK.num,.int .i64 TK.at_]) 1).run Tryd.prog w1 = .ok (.string (cbs (Qe.base ts s1).1)) w1:=fun _ => by rw [hbt]; kernel_rfl
    have HTK:=vH ht
    clear ht hTT hbt
    go_wp2_with fail
    refine (HTK.out).mono ?_
    rintro e w4 ⟨rfl,hb4⟩
    have HT4:=vH (HT3.out.go hlt (HT3.out.qr.go hb4) (Gr.of hb4))
    clear hb4 HT3 HTK
    obtain ⟨⟨e0,e1⟩,⟨f0,f1⟩,hl⟩:=duo HT4.out.own
    have HT5:=vH (HT4.out.set0 HH.out (.string (cbs (Qe.base ts s1).1)))
    obtain ⟨⟨c0,c1,c2,c3,c4⟩,fr,_⟩:=HT5.out.qr.cells
    obtain ⟨⟨b0,b1,b2,b3,b4⟩,fr0,_⟩:=HT4.out.qr.cells
    have fr1:=fr 1
    have fr2:=fr0 1
    clear fr fr0
    have HT6:=vH (HT5.out.set_k hlt (inc s1.k))
    rw [show (⟨inc s1.k,s1.o,s1.E,s1.F⟩:Q) = (Qe.base ts s1).2 by rw [HB.out]; rfl] at HT6
    go_wp2_with fail
    clear HT4 HT5 c0 c1 c2 c3 c4 b0 b1 b2 b3 b4 fr1 fr2 hfd e0 e1 f0 f1 hl
    go_loopw [5] (fun iv wr => ∃ (j:Nat) (s4:Q),j ≤ d ∧ iv = .int .i64 j ∧ Tq w wr R S ts s4 B (.string (cbs (Qe.base ts s1).1)) d ∧ Qe.shut ts (d - j) s4 = Qe.shut ts d (Qe.base ts s1).2) (fun iv _ => d - (intOf iv).toNat)
    case atStart => exact ⟨0,_,Nat.zero_le _,rfl,HT6.out,rfl⟩
    case round =>
     obtain ⟨j,s4,hj,rfl,hty4,hsh⟩:=hrel
     have HTL:=vH hty4
     have HSH:=vH hsh
     clear hty4 hsh HT6
     by_cases hlt4:j < d
     ·have hlt2:(j:Int) < (d:Int):=by omega
      go_wp2_with fail
      refine (zJ _ R S ts s4 HTL.out.qr ⟨#[93]⟩ (by decide) false (by decide)).mono ?_
      rintro e w9 ⟨rfl,hr9,hg9⟩
      have HT9:=vH (HTL.out.go hlt hr9 hg9)
      clear hr9 hg9
      go_wp2_with fail
      go_roundw
      case rel => exact ⟨j + 1,_,by omega,by go_num,HT9.out,by have:=HSH.out; rw [show d - j = (d - (j + 1)) + 1 by omega,Qe.shut] at this; exact this⟩
      case measure => simp [intOf]; omega
     ·obtain rfl:j = d:=by omega
      obtain ⟨⟨e0,e1⟩,⟨f0,f1⟩,hl⟩:=duo HTL.out.own
      obtain ⟨⟨r0,r1⟩,⟨q0,q1⟩,hl2⟩:=duo HTL.out.res
      go_wp2_with fail
      have hn:=((Nw.start HTL.out.gr).set (p:=⟨w.heap.size,0,none⟩) (Nat.le_refl _) (.string (cbs (Qe.base ts s1).1))).set (p:=⟨w.heap.size,1,none⟩) (Nat.le_refl _) (.int .i64 j)
      have hs4:=HSH.out
      rw [Nat.sub_self,Qe.shut] at hs4
      rw [HOF.out]
      refine bodyPost_ret (v:=.agg #[.string (cbs (Qe.base ts s1).1),.int .i64 j]) (by simp [results,Tryd.results39,go_sem,r0,r1]) rfl ⟨rfl,?_,hn.gr⟩
      dsimp only
      rw [← hs4]
      exact HH.out.fin HTL.out.qr hn
  ·have HI:=vH hI
   clear hI
   go_wp2_with fail
   refine (zI _ R S ts s1 HR.out ⟨#[91]⟩ (by decide) false (by decide)).mono ?_
   rintro e w1 ⟨rfl,hb1⟩
   rw [HI.out]
   have HR1:=vH (HR.out.go hb1)
   have HG1:=vH (HG.out.trans (Gr.of hb1))
   have HK1:=vH ((hb1.block _ (zA HK.out)).trans HK.out)
   clear hb1 HR HG HK
   by_cases h3:d = 3
   ·subst h3
    go_wp2_with fail
    refine (zAn _ R S ts s1 HR1.out 4).mono ?_
    rintro e w2 ⟨rfl,hr2,hg2⟩
    have hk2:=hg2.box HK1.out (by omega)
    obtain ⟨⟨r0,r1⟩,⟨q0,q1⟩,hl2⟩:=duo hk2
    have HR2:=vH hr2
    have HG2:=vH (HG1.out.trans hg2)
    have HOV:=vH (HD.out.over HI.out)
    clear hk2 hr2 hg2
    go_wp2_with fail
    have hn:=((Nw.start HG2.out).set (p:=⟨w.heap.size,0,none⟩) (Nat.le_refl _) (.string ⟨#[]⟩)).set (p:=⟨w.heap.size,1,none⟩) (Nat.le_refl _) (.int .i64 0)
    rw [HOV.out]
    exact bodyPost_ret (v:=.agg #[.string ⟨#[]⟩,.int .i64 0]) (by simp [results,Tryd.results39,go_sem,r0,r1]) rfl ⟨rfl,HH.out.fin HR2.out hn,hn.gr⟩
   ·have hd3:decide ((d:Int) = 3) = false:=decide_eq_false (by omega)
    have hd3b:((d:Int) == 3) = false:=beq_eq_false_iff_ne.2 (by omega)
    obtain ⟨⟨c0,c1,c2,c3,c4⟩,fr,_⟩:=HR1.out.cells
    have fr1:=fr 1
    clear fr
    go_wp2_with fail
    go_roundw
    case rel => exact ⟨d + 1,Qe.next s1,by omega,by go_num,HR1.out.set_k (inc s1.k),HG1.out.set 1 _,zAh HK1.out (by show w.heap.size ≠ R; omega) _,HD.out.next (by omega) HI.out⟩
    case measure => simp [intOf]; omega
end Go.Proofs.YteadgahhchlgeaaDoor
