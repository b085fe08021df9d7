/-
  ShowSigns: expressions by hand, with signs before and behind
-/
import Derived.Test.YteadgahhchlgeaaDoorK02
import Derived.Test.YteadgahhchlgeaaDoorK44
import Derived.Deep.RegionHeld3
set_option maxRecDepth 8000
set_option maxHeartbeats 8000000
namespace Go.Proofs.YteadgahhchlgeaaDoor
open Go.RowKit
open Pe (Ex)
open Rt (prE shE)
theorem zIQ {w:World}{b:Nat}{A:Array Value}{T:TypeId}{i:Nat}{v:Value}(h:w.heap[b]? = some (.cells A T (0,0)))(hv:A[i]? = some v):w.cell? ⟨b,i,none⟩ = some v:=by
 rw [cell_of_row _ _ _ _ _ _ h]
 exact hv
def zsT:List (List UInt8):=[[45,40,97,32,43,32,98,41],[45,97,32,43,32,98],[33,40,97,32,38,38,32,98,41],[33,33,97],[45,45,97],[40,45,97,41,46,102],[45,97,46,102],[40,97,32,43,32,98,41,91,49,93],[110,101,119,32,82,46,102],[40,110,101,119,32,91,105,110,116,93,40,51,41,41,91,48,93],[40,110,117,108,108,32,82,41,46,102],[45,40,45,40,97,41,41],[102,40,40,97,41,44,32,40,98,32,43,32,99,41,41],[97,32,45,32,40,98,32,45,32,99,41],[40,97,32,45,32,98,41,32,45,32,99]]
def zsW:List (List UInt8):=[[45,40,97,32,43,32,98,41],[45,97,32,43,32,98],[33,40,97,32,38,38,32,98,41],[33,33,97],[45,45,97],[40,45,97,41,46,102],[45,97,46,102],[40,97,32,43,32,98,41,91,49,93],[110,101,119,32,82,46,102],[110,101,119,32,91,105,110,116,93,40,51,41,91,48,93],[110,117,108,108,32,82,46,102],[45,45,97],[102,40,97,44,32,98,32,43,32,99,41],[97,32,45,32,40,98,32,45,32,99,41],[97,32,45,32,98,32,45,32,99]]
def zsC (k:Nat):Bool:=
 let u:=Ln.Lx.toks (zsT.getD k [])
 u.2.1 == 0 && u.2.2 == 0 && (match Qe.expr (u.1.map toRT) (Sim.enough (u.1.map toRT)) 0 0 with
    | some x => x.2.1 == (u.1.length:Int) - 1 && x.2.2.1 == 0 && x.2.2.2 == 0 && prE x.1 == zsW.getD k []
    | none => false)
set_option maxRecDepth 100000 in
theorem zPo:((List.range 15).all zsC) = true:=by kernel_rfl
theorem zK0 {k:Nat}(hk:k < 15):∃ us e,Ln.Lx.toks (zsT.getD k []) = (us,0,0) ∧ Qe.expr (us.map toRT) (Sim.enough (us.map toRT)) 0 0 = some (e,(us.length:Int) - 1,0,0) ∧ prE e = zsW.getD k []:=by
 have h:=List.all_eq_true.1 zPo k (List.mem_range.2 hk)
 unfold zsC at h
 dsimp only at h
 rw [Bool.and_eq_true,Bool.and_eq_true] at h
 obtain ⟨⟨h1,h2⟩,h3⟩:=h
 split at h3
 ·rename_i x hx
  rw [Bool.and_eq_true,Bool.and_eq_true,Bool.and_eq_true] at h3
  obtain ⟨⟨⟨h4,h5⟩,h6⟩,h7⟩:=h3
  refine ⟨_,x.1,?_,hx.trans ?_,?_⟩
  ·exact Prod.ext rfl (Prod.ext (by simpa using h1) (by simpa using h2))
  ·exact congrArg some (Prod.ext rfl (Prod.ext (by simpa using h4) (Prod.ext (by simpa using h5) (by simpa using h6))))
  ·exact eq_of_beq h7
 ·cases h3
theorem zNg {k:Nat}(hk:k < 15):(#[.string ⟨#[45,40,97,32,43,32,98,41]⟩,.string ⟨#[45,97,32,43,32,98]⟩,.string ⟨#[33,40,97,32,38,38,32,98,41]⟩,.string ⟨#[33,33,97]⟩,.string ⟨#[45,45,97]⟩,.string ⟨#[40,45,97,41,46,102]⟩,.string ⟨#[45,97,46,102]⟩,.string ⟨#[40,97,32,43,32,98,41,91,49,93]⟩,.string ⟨#[110,101,119,32,82,46,102]⟩,.string ⟨#[40,110,101,119,32,91,105,110,116,93,40,51,41,41,91,48,93]⟩,.string ⟨#[40,110,117,108,108,32,82,41,46,102]⟩,.string ⟨#[45,40,45,40,97,41,41]⟩,.string ⟨#[102,40,40,97,41,44,32,40,98,32,43,32,99,41,41]⟩,.string ⟨#[97,32,45,32,40,98,32,45,32,99,41]⟩,.string ⟨#[40,97,32,45,32,98,41,32,45,32,99]⟩]:Array Value)[k]? = some (.string (cbs (zsT.getD k []))):=by
 obtain rfl | rfl | rfl | rfl | rfl | rfl | rfl | rfl | rfl | rfl | rfl | rfl | rfl | rfl | rfl:k = 0 ∨ k = 1 ∨ k = 2 ∨ k = 3 ∨ k = 4 ∨ k = 5 ∨ k = 6 ∨ k = 7 ∨ k = 8 ∨ k = 9 ∨ k = 10 ∨ k = 11 ∨ k = 12 ∨ k = 13 ∨ k = 14:=by omega
 all_goals rfl
theorem zNf {k:Nat}(hk:k < 15):(#[.string ⟨#[45,40,97,32,43,32,98,41]⟩,.string ⟨#[45,97,32,43,32,98]⟩,.string ⟨#[33,40,97,32,38,38,32,98,41]⟩,.string ⟨#[33,33,97]⟩,.string ⟨#[45,45,97]⟩,.string ⟨#[40,45,97,41,46,102]⟩,.string ⟨#[45,97,46,102]⟩,.string ⟨#[40,97,32,43,32,98,41,91,49,93]⟩,.string ⟨#[110,101,119,32,82,46,102]⟩,.string ⟨#[110,101,119,32,91,105,110,116,93,40,51,41,91,48,93]⟩,.string ⟨#[110,117,108,108,32,82,46,102]⟩,.string ⟨#[45,45,97]⟩,.string ⟨#[102,40,97,44,32,98,32,43,32,99,41]⟩,.string ⟨#[97,32,45,32,40,98,32,45,32,99,41]⟩,.string ⟨#[97,32,45,32,98,32,45,32,99]⟩]:Array Value)[k]? = some (.string (cbs (zsW.getD k []))):=by
 obtain rfl | rfl | rfl | rfl | rfl | rfl | rfl | rfl | rfl | rfl | rfl | rfl | rfl | rfl | rfl:k = 0 ∨ k = 1 ∨ k = 2 ∨ k = 3 ∨ k = 4 ∨ k = 5 ∨ k = 6 ∨ k = 7 ∨ k = 8 ∨ k = 9 ∨ k = 10 ∨ k = 11 ∨ k = 12 ∨ k = 13 ∨ k = 14:=by omega
 all_goals rfl
theorem zNh {k:Nat}(hk:k < 15):(zsT.getD k []).length ≤ 100:=by
 obtain rfl | rfl | rfl | rfl | rfl | rfl | rfl | rfl | rfl | rfl | rfl | rfl | rfl | rfl | rfl:k = 0 ∨ k = 1 ∨ k = 2 ∨ k = 3 ∨ k = 4 ∨ k = 5 ∨ k = 6 ∨ k = 7 ∨ k = 8 ∨ k = 9 ∨ k = 10 ∨ k = 11 ∨ k = 12 ∨ k = 13 ∨ k = 14:=by omega
 all_goals decide
set_option maxHeartbeats 16000000 in
theorem zFG (w:World)(he:EnvS w)(k:Nat)(hk:k < 15) :
 Calls Tryd.prog 4 #[.int .i64 (k:Int)] w fun e w' => e = .returned (.bool true) ∧ Below w.heap.size w w':=by
 obtain ⟨us,e1,ht,hx,hpr⟩:=zK0 hk
 obtain ⟨x2,hx2,hf,-,hrest⟩:=zIL ht
 rw [hx] at hx2
 obtain rfl:=Option.some.inj hx2
 obtain ⟨hs1,hl1,-⟩:=hrest rfl
 dsimp only at hs1 hl1
 have hlen:us.length ≤ 6001:=by have:=Ln.Lx.toks_len (zsT.getD k []); rw [ht] at this; exact this
 have hsh:∀ t ∈ us,t.text.length ≤ 281474976710656:=by have:=zFx (zsT.getD k []); rw [ht] at this; exact this
 have hsi:=zNg hk
 have hsj:=zNf hk
 have hni:=zNh hk
 clear hx2 hrest
 generalize zsT.getD k [] = T at ht hsi hni
 generalize zsW.getD k [] = V at hpr hsj
 have htk:=fun w1 => zHV (cbs T) (by rw [zB]; exact Nat.le_trans hni (by decide)) us 0 0 ht w1
 have HTK:=vH htk
 have HX:=vH (fun (w1:World) (R:Nat) (S:Value) (h:Toks w1 R S (us.map toRT)) => zIu w1 R S (us.map toRT) 0 0 h _ hf _ hx)
 have HSH:=vH hsh
 have HE:=vH he
 have HXQ:=vH (fun (u:World) (cs:List Value) (hi:Is u 0 e1 cs) (hu:EnvS u) => (show Calls Tryd.prog 13 #[.agg ⟨cs⟩] u fun e w' => e = .returned (.string (cbs V)) ∧ Below u.heap.size u w' from by have h:=zHE hs1 hi hu (by omega); rw [hpr] at h; exact h))
 have hg1:decide ((k:Int) < 0) = false:=decide_eq_false (by omega)
 have hg2:decide ((15:Int) ≤ (k:Int)) = false:=decide_eq_false (by omega)
 have hg5:decide (15 ≤ k) = false:=decide_eq_false (by omega)
 have hb1:(0:Int) ≤ (k:Int):=by omega
 have hb3:(k:Int) < 15:=by omega
 have hw1:wrap64 ((us.length:Int) - 1) = (us.length:Int) - 1:=by simp [wrap64]; omega
 have hw3:IntKind.i64.wrap ((us.length:Int) - 1) = (us.length:Int) - 1:=by have h:=hw1; unfold wrap64 at h; rw [IntKind.wrap_i64]; exact h
 obtain ⟨wa,hwa⟩:∃ wa,wa = (w.alloc (.cells #[.string ⟨#[45,40,97,32,43,32,98,41]⟩,.string ⟨#[45,97,32,43,32,98]⟩,.string ⟨#[33,40,97,32,38,38,32,98,41]⟩,.string ⟨#[33,33,97]⟩,.string ⟨#[45,45,97]⟩,.string ⟨#[40,45,97,41,46,102]⟩,.string ⟨#[45,97,46,102]⟩,.string ⟨#[40,97,32,43,32,98,41,91,49,93]⟩,.string ⟨#[110,101,119,32,82,46,102]⟩,.string ⟨#[40,110,101,119,32,91,105,110,116,93,40,51,41,41,91,48,93]⟩,.string ⟨#[40,110,117,108,108,32,82,41,46,102]⟩,.string ⟨#[45,40,45,40,97,41,41]⟩,.string ⟨#[102,40,40,97,41,44,32,40,98,32,43,32,99,41,41]⟩,.string ⟨#[97,32,45,32,40,98,32,45,32,99,41]⟩,.string ⟨#[40,97,32,45,32,98,41,32,45,32,99]⟩] 9)).alloc (.cells #[.string ⟨#[45,40,97,32,43,32,98,41]⟩,.string ⟨#[45,97,32,43,32,98]⟩,.string ⟨#[33,40,97,32,38,38,32,98,41]⟩,.string ⟨#[33,33,97]⟩,.string ⟨#[45,45,97]⟩,.string ⟨#[40,45,97,41,46,102]⟩,.string ⟨#[45,97,46,102]⟩,.string ⟨#[40,97,32,43,32,98,41,91,49,93]⟩,.string ⟨#[110,101,119,32,82,46,102]⟩,.string ⟨#[110,101,119,32,91,105,110,116,93,40,51,41,91,48,93]⟩,.string ⟨#[110,117,108,108,32,82,46,102]⟩,.string ⟨#[45,45,97]⟩,.string ⟨#[102,40,97,44,32,98,32,43,32,99,41]⟩,.string ⟨#[97,32,45,32,40,98,32,45,32,99,41]⟩,.string ⟨#[97,32,45,32,98,32,45,32,99]⟩] 9):=⟨_,rfl⟩
 have HBW:=vH (show Below w.heap.size w wa by rw [hwa]; exact zAd (zAd (Below.refl _ _)))
 have y0:wa.cell? ⟨w.heap.size,k,none⟩ = some (.string (cbs T)):=zIQ (by rw [hwa]; exact zM _ (heap_alloc_new w _)) hsi
 have HWT:=vH (show wa.heap[w.heap.size + 1]? = some (.cells #[.string ⟨#[45,40,97,32,43,32,98,41]⟩,.string ⟨#[45,97,32,43,32,98]⟩,.string ⟨#[33,40,97,32,38,38,32,98,41]⟩,.string ⟨#[33,33,97]⟩,.string ⟨#[45,45,97]⟩,.string ⟨#[40,45,97,41,46,102]⟩,.string ⟨#[45,97,46,102]⟩,.string ⟨#[40,97,32,43,32,98,41,91,49,93]⟩,.string ⟨#[110,101,119,32,82,46,102]⟩,.string ⟨#[110,101,119,32,91,105,110,116,93,40,51,41,91,48,93]⟩,.string ⟨#[110,117,108,108,32,82,46,102]⟩,.string ⟨#[45,45,97]⟩,.string ⟨#[102,40,97,44,32,98,32,43,32,99,41]⟩,.string ⟨#[97,32,45,32,40,98,32,45,32,99,41]⟩,.string ⟨#[97,32,45,32,98,32,45,32,99]⟩] 9 (0,0)) by rw [hwa]; have:=heap_alloc_new (w.alloc (.cells #[.string ⟨#[45,40,97,32,43,32,98,41]⟩,.string ⟨#[45,97,32,43,32,98]⟩,.string ⟨#[33,40,97,32,38,38,32,98,41]⟩,.string ⟨#[33,33,97]⟩,.string ⟨#[45,45,97]⟩,.string ⟨#[40,45,97,41,46,102]⟩,.string ⟨#[45,97,46,102]⟩,.string ⟨#[40,97,32,43,32,98,41,91,49,93]⟩,.string ⟨#[110,101,119,32,82,46,102]⟩,.string ⟨#[40,110,101,119,32,91,105,110,116,93,40,51,41,41,91,48,93]⟩,.string ⟨#[40,110,117,108,108,32,82,41,46,102]⟩,.string ⟨#[45,40,45,40,97,41,41]⟩,.string ⟨#[102,40,40,97,41,44,32,40,98,32,43,32,99,41,41]⟩,.string ⟨#[97,32,45,32,40,98,32,45,32,99,41]⟩,.string ⟨#[40,97,32,45,32,98,41,32,45,32,99]⟩] 9)) (.cells #[.string ⟨#[45,40,97,32,43,32,98,41]⟩,.string ⟨#[45,97,32,43,32,98]⟩,.string ⟨#[33,40,97,32,38,38,32,98,41]⟩,.string ⟨#[33,33,97]⟩,.string ⟨#[45,45,97]⟩,.string ⟨#[40,45,97,41,46,102]⟩,.string ⟨#[45,97,46,102]⟩,.string ⟨#[40,97,32,43,32,98,41,91,49,93]⟩,.string ⟨#[110,101,119,32,82,46,102]⟩,.string ⟨#[110,101,119,32,91,105,110,116,93,40,51,41,91,48,93]⟩,.string ⟨#[110,117,108,108,32,82,46,102]⟩,.string ⟨#[45,45,97]⟩,.string ⟨#[102,40,97,44,32,98,32,43,32,99,41]⟩,.string ⟨#[97,32,45,32,40,98,32,45,32,99,41]⟩,.string ⟨#[97,32,45,32,98,32,45,32,99]⟩] 9); rw [zC] at this; exact this)
 have HSJ:=vH hsj
 clear htk ht hx hf hpr hs1 hl1 hsh hlen he hsi hsj hni hk
 go_in
 go_upto_region 3 with fail
 rw [← hwa]
 clear hwa
 go_wp2_with fail
 refine (HTK.out _).mono ?_
 rintro e w1 ⟨A,c,rfl,hl1,hb⟩
 have HT:=vH (((zI2 (c:=c) hl1 HSH.out).below ((Below.refl w1.heap.size w1).alloc (Nat.le_refl _) (.cells #[.int .i64 ((0:Nat):Int),.int .i64 ((0:Nat):Int)] 29))).re (Nat.le_refl _))
 have hba:=(Below.refl w1.heap.size w1).alloc (Nat.le_refl _) (.cells #[.int .i64 ((0:Nat):Int),.int .i64 ((0:Nat):Int)] 29)
 have HB1:=vH (zH (zH HBW.out hb HBW.out.size) hba (zH HBW.out hb HBW.out.size).size)
 have HW3:=vH (zMu (zMu HWT.out hb) hba)
 clear hl1 hb hba HTK y0
 go_wp2_with fail
 refine (HX.out _ _ _ HT.out).mono ?_
 rintro e w2 ⟨ek,en,es,eo,ed,ep,el,ec,ea,eb,er,ee,ef,rfl,hi,hb2⟩
 dsimp only at hi ⊢
 have HB2:=vH (zH HB1.out hb2 HB1.out.size)
 have HI:=vH hi
 have HW4:=vH (zMu HW3.out hb2)
 clear hb2 HX HT hi HW3
 go_upto_region 7 with fail
 obtain ⟨W,hwz⟩:∃ wz,wz = (w2.alloc (.cells #[.int .i64 ek,.int .i64 en,.string (cbs es),.string (cbs eo),.int .i64 ed,.slice ep el ec,.int .i64 ea,.int .i64 eb,.int .i64 er,.int .i64 ee,.int .i64 ef] 45)).alloc (.cells vF 29):=⟨_,rfl⟩
 rw [← hwz]
 have hbz:Below w2.heap.size w2 W:=by rw [hwz]; exact zAd (zAd (Below.refl _ _))
 have hke:W.heap[w2.heap.size]? = some (.cells #[.int .i64 ek,.int .i64 en,.string (cbs es),.string (cbs eo),.int .i64 ed,.slice ep el ec,.int .i64 ea,.int .i64 eb,.int .i64 er,.int .i64 ee,.int .i64 ef] 45 (0,0)):=by rw [hwz]; exact zM _ (heap_alloc_new w2 _)
 have hfe:W.heap[w2.heap.size + 1]? = some (.cells vF 29 (0,0)):=by rw [hwz]; have:=heap_alloc_new (w2.alloc (.cells #[.int .i64 ek,.int .i64 en,.string (cbs es),.string (cbs eo),.int .i64 ed,.slice ep el ec,.int .i64 ea,.int .i64 eb,.int .i64 er,.int .i64 ee,.int .i64 ef] 45)) (.cells vF 29); rw [zC] at this; exact this
 have HB3:=vH (zH HB2.out hbz HB2.out.size)
 have hiz:=Is.lower (Nat.zero_le _) _ (HI.out.below hbz)
 have hwt:=zIQ (zMu HW4.out hbz) HSJ.out
 have h11:=(hen hke).1
 have hfd:=(duo hfe).1
 have HXP:=vH (fun (u:World) (hb:Below W.heap.size W u) => (show Calls Tryd.prog 13 #[.agg #[.int .i64 ek,.int .i64 en,.string (cbs es),.string (cbs eo),.int .i64 ed,.slice ep el ec,.int .i64 ea,.int .i64 eb,.int .i64 er,.int .i64 ee,.int .i64 ef]] u fun e w' => e = .returned (.string (cbs V)) ∧ Below u.heap.size u w' from HXQ.out u _ (hiz.below hb) (HE.out.below (zH HB3.out hb HB3.out.size))))
 have HKN:=vH (fun (u:World) (hb:Below W.heap.size W u) => zEy u (HE.out.below (zH HB3.out hb HB3.out.size)))
 have HSB:=vH (show ∀ u,Below W.heap.size W u → (u.cell? ⟨w2.heap.size + 1,0,none⟩ = some (.int .i64 0) ∧ u.cell? ⟨w2.heap.size + 1,1,none⟩ = some (.int .i64 0)) ∧ (u.cell? ⟨w2.heap.size,0,none⟩ = some (.int .i64 ek) ∧ u.cell? ⟨w2.heap.size,1,none⟩ = some (.int .i64 en) ∧ u.cell? ⟨w2.heap.size,2,none⟩ = some (.string (cbs es)) ∧ u.cell? ⟨w2.heap.size,3,none⟩ = some (.string (cbs eo)) ∧ u.cell? ⟨w2.heap.size,4,none⟩ = some (.int .i64 ed) ∧ u.cell? ⟨w2.heap.size,5,none⟩ = some (.slice ep el ec) ∧ u.cell? ⟨w2.heap.size,6,none⟩ = some (.int .i64 ea) ∧ u.cell? ⟨w2.heap.size,7,none⟩ = some (.int .i64 eb) ∧ u.cell? ⟨w2.heap.size,8,none⟩ = some (.int .i64 er) ∧ u.cell? ⟨w2.heap.size,9,none⟩ = some (.int .i64 ee) ∧ u.cell? ⟨w2.heap.size,10,none⟩ = some (.int .i64 ef)) ∧ u.cell? ⟨w.heap.size + 1,k,none⟩ = some (.string (cbs V)) from
  fun u hb => ⟨⟨zAX hb hfd.1,zAX hb hfd.2⟩,⟨zAX hb h11.1,zAX hb h11.2.1,zAX hb h11.2.2.1,zAX hb h11.2.2.2.1,zAX hb h11.2.2.2.2.1,zAX hb h11.2.2.2.2.2.1,zAX hb h11.2.2.2.2.2.2.1,zAX hb h11.2.2.2.2.2.2.2.1,zAX hb h11.2.2.2.2.2.2.2.2.1,zAX hb h11.2.2.2.2.2.2.2.2.2.1,zAX hb h11.2.2.2.2.2.2.2.2.2.2⟩,zAX hb hwt⟩)
 have HC:=vH (zDX (Below.refl W.heap.size W))
 clear hwz hbz hke hfe hiz hwt h11 hfd HI HW4
 go_region_held3 (fun u => (u.cell? ⟨w2.heap.size + 1,0,none⟩ = some (.int .i64 0) ∧ u.cell? ⟨w2.heap.size + 1,1,none⟩ = some (.int .i64 0)) ∧ (u.cell? ⟨w2.heap.size,0,none⟩ = some (.int .i64 ek) ∧ u.cell? ⟨w2.heap.size,1,none⟩ = some (.int .i64 en) ∧ u.cell? ⟨w2.heap.size,2,none⟩ = some (.string (cbs es)) ∧ u.cell? ⟨w2.heap.size,3,none⟩ = some (.string (cbs eo)) ∧ u.cell? ⟨w2.heap.size,4,none⟩ = some (.int .i64 ed) ∧ u.cell? ⟨w2.heap.size,5,none⟩ = some (.slice ep el ec) ∧ u.cell? ⟨w2.heap.size,6,none⟩ = some (.int .i64 ea) ∧ u.cell? ⟨w2.heap.size,7,none⟩ = some (.int .i64 eb) ∧ u.cell? ⟨w2.heap.size,8,none⟩ = some (.int .i64 er) ∧ u.cell? ⟨w2.heap.size,9,none⟩ = some (.int .i64 ee) ∧ u.cell? ⟨w2.heap.size,10,none⟩ = some (.int .i64 ef)) ∧ u.cell? ⟨w.heap.size + 1,k,none⟩ = some (.string (cbs V))) (with_reducible exact HSB.out _ HC.out)
  (first
  | (go_at_call 13; (with_reducible refine Calls.mono (HXP.out _ HC.out) ?_); rintro e4 u1 ⟨rfl,hb⟩; have HCN:=vH (zH HC.out hb HC.out.size); have HC:=HCN; clear hb)
  | (go_at_call 10; (with_reducible refine Calls.mono (HKN.out _ HC.out) ?_); rintro e4 u2 ⟨rfl,hb⟩; have HCN:=vH (zH HC.out hb HC.out.size); have HC:=HCN; clear hb))
 all_goals
  go_wp2_with fail
  go_ret
  exact ⟨rfl,zH HB3.out HC.out HB3.out.size⟩
theorem showSigns_walk (a:Int)(_ : -9223372036854775808 ≤ a ∧ a ≤ 9223372036854775807)(w:World)(he:EnvS w) :
 Calls Tryd.prog 4 #[.int .i64 a] w fun e w' => e = .returned (.bool true) ∧ Below w.heap.size w w':=by
 by_cases h : 0 ≤ a ∧ a < 15
 ·obtain ⟨k,rfl⟩:∃ k:Nat,a = (k:Int):=⟨a.toNat,by omega⟩
  exact zFG w he k (by omega)
 ·by_cases h0:a < 0
  ·have hd1:decide (a < 0) = true:=decide_eq_true h0
   go_in
   go_wp2_with fail
   go_ret
   exact ⟨rfl,zAd (zAd (Below.refl _ _))⟩
  ·have hd1:decide (a < 0) = false:=decide_eq_false h0
   have hd2:decide ((15:Int) ≤ a) = true:=decide_eq_true (by omega)
   go_in
   go_wp2_with fail
   go_ret
   exact ⟨rfl,zAd (zAd (Below.refl _ _))⟩
end Go.Proofs.YteadgahhchlgeaaDoor
