/-
  ShowParens: the walk.
-/
import Derived.Test.YtmiiplefgkcklaaDoorK04
import Derived.Test.YtmiiplefgkcklaaDoorK44
import Derived.Test.YtmiiplefgkcklaaDoorK45
import Derived.Deep.CutBlock
import Derived.Deep.RegionHeld3
set_option maxRecDepth 8000
namespace Go.Proofs.YtmiiplefgkcklaaDoor
open Go.RowKit
open Pe (Ex)
open Rt (prE shE)
def pnS (i:Nat):List UInt8:=([[124,124],[38,38],[60],[61,61],[43],[45],[42],[37]]:List (List UInt8)).getD i []
def pnL (i:Nat):Nat:=([1,2,3,3,4,4,5,5]:List Nat).getD i 0
def pnT (i j:Nat):Bool → List UInt8
 | true => [40,97,32] ++ (pnS i ++ ([32,98,41,32] ++ (pnS j ++ [32,99])))
 | false => [97,32] ++ (pnS i ++ ([32,40,98,32] ++ (pnS j ++ [32,99,41])))
def pnP (i j:Nat):Bool → Bool
 | true => decide (pnL j ≤ pnL i)
 | false => decide (pnL i < pnL j)
def pnW (i j:Nat)(left:Bool):List UInt8:=if pnP i j left = true then [97,32] ++ (pnS i ++ ([32,98,32] ++ (pnS j ++ [32,99]))) else pnT i j left
def pnC (i j:Nat)(left:Bool):Bool:=
 let u:=Ln.Lx.toks ([40,40] ++ (pnT i j left ++ [41,41]))
 u.2.1 == 0 && u.2.2 == 0 && (match Qe.expr (u.1.map toRT) (Sim.enough (u.1.map toRT)) 0 0 with
    | some x => x.2.2.1 == 0 && x.2.2.2 == 0 && prE x.1 == pnW i j left
    | none => false)
set_option maxRecDepth 100000 in
theorem zST:((List.range 8).all fun i => (List.range 8).all fun j => pnC i j true && pnC i j false) = true:=by kernel_rfl
theorem zSS {i j:Nat}(hi:i < 8)(hj:j < 8)(left:Bool):pnC i j left = true:=by
 have h1:=List.all_eq_true.1 zST i (List.mem_range.2 hi)
 have h2:=List.all_eq_true.1 h1 j (List.mem_range.2 hj)
 rw [Bool.and_eq_true] at h2
 cases left
 ·exact h2.2
 ·exact h2.1
theorem zQ9 {i j:Nat}(hi:i < 8)(hj:j < 8)(left:Bool):∃ us e k,Ln.Lx.toks ([40,40] ++ (pnT i j left ++ [41,41])) = (us,0,0) ∧ Qe.expr (us.map toRT) (Sim.enough (us.map toRT)) 0 0 = some (e,k,0,0) ∧ prE e = pnW i j left:=by
 have h:=zSS hi hj left
 unfold pnC at h
 dsimp only at h
 rw [Bool.and_eq_true,Bool.and_eq_true] at h
 obtain ⟨⟨h1,h2⟩,h3⟩:=h
 split at h3
 ·rename_i x hx
  rw [Bool.and_eq_true,Bool.and_eq_true] at h3
  obtain ⟨⟨h4,h5⟩,h6⟩:=h3
  refine ⟨_,x.1,x.2.1,?_,hx.trans ?_,?_⟩
  ·exact Prod.ext rfl (Prod.ext (by simpa using h1) (by simpa using h2))
  ·exact congrArg some (Prod.ext rfl (Prod.ext rfl (Prod.ext (by simpa using h4) (by simpa using h5))))
  ·exact eq_of_beq h6
 ·cases h3
theorem zRx:∀ i,i < 8 → (#[.string ⟨#[124,124]⟩,.string ⟨#[38,38]⟩,.string ⟨#[60]⟩,.string ⟨#[61,61]⟩,.string ⟨#[43]⟩,.string ⟨#[45]⟩,.string ⟨#[42]⟩,.string ⟨#[37]⟩]:Array Value)[i]? = some (.string (cbs (pnS i))):=by
 intro i hi
 match i,hi with
 | 0,_ => rfl
 | 1,_ => rfl
 | 2,_ => rfl
 | 3,_ => rfl
 | 4,_ => rfl
 | 5,_ => rfl
 | 6,_ => rfl
 | 7,_ => rfl
theorem zRy:∀ i,i < 8 → (#[.int .i64 1,.int .i64 2,.int .i64 3,.int .i64 3,.int .i64 4,.int .i64 4,.int .i64 5,.int .i64 5]:Array Value)[i]? = some (.int .i64 ((pnL i:Nat):Int)):=by
 intro i hi
 match i,hi with
 | 0,_ => rfl
 | 1,_ => rfl
 | 2,_ => rfl
 | 3,_ => rfl
 | 4,_ => rfl
 | 5,_ => rfl
 | 6,_ => rfl
 | 7,_ => rfl
theorem zQ8 (i:Nat)(hi:i < 8):(pnS i).length ≤ 2:=by
 have key:∀ i,i < 8 → (pnS i).length ≤ 2:=by decide
 exact key i hi
theorem zQL {W W2:World}(h:W2 = W.drew){b:Nat}{o:Obj}(hb:W.heap[b]? = some o):W2.heap[b]? = some o:=by
 subst h
 exact hb
theorem zSW {W W2:World}(h:W2 = W.drew){e:Ex}{vs:List Value}(hi:Is W 0 e vs):Is W2 0 e vs:=by
 subst h
 exact hi.below (zQT W)
theorem zQQ {w:World}{b:Nat}{A:Array Value}{T:TypeId}{i:Nat}{v:Value}(h:w.heap[b]? = some (.cells A T (0,0)))(hv:A[i]? = some v):w.cell? ⟨b,i,none⟩ = some v:=by
 rw [cell_of_row _ _ _ _ _ _ h]
 exact hv
set_option maxHeartbeats 16000000 in
theorem zTo (w:World)(he:EnvS w)(i j:Nat)(hi:i < 8)(hj:j < 8)(hpl:pnP i j true = true) :
 Calls Tryd.prog 6 #[.int .i64 (i:Int),.int .i64 (j:Int),.bool true] w fun e w' => e = .returned (.bool true) ∧ Below w.heap.size w w':=by
 obtain ⟨us,e1,k1,ht,hx,hpr⟩:=zQ9 hi hj true
 obtain ⟨x2,hx2,hf,-,hrest⟩:=zQU ht
 rw [hx] at hx2
 obtain rfl:=Option.some.inj hx2
 obtain ⟨hs1,hl1,-⟩:=hrest rfl
 dsimp only at hs1 hl1
 have hpw:pnW i j true = [97,32] ++ (pnS i ++ ([32,98,32] ++ (pnS j ++ [32,99]))):=by unfold pnW; rw [hpl]; rfl
 have htx:pnT i j true = [40,97,32] ++ (pnS i ++ ([32,98,41,32] ++ (pnS j ++ [32,99]))):=rfl
 rw [hpw] at hpr
 rw [htx] at ht
 have hpl2:decide (pnL j ≤ pnL i) = true:=hpl
 have hsi:=zRx i hi
 have hsj:=zRx j hj
 have hli:=zRy i hi
 have hlj:=zRy j hj
 have hni:=zQ8 i hi
 have hnj:=zQ8 j hj
 have hlen:us.length ≤ 6001:=by have:=Ln.Lx.toks_len ([40,40] ++ (([40,97,32] ++ (pnS i ++ ([32,98,41,32] ++ (pnS j ++ [32,99])))) ++ [41,41])); rw [ht] at this; exact this
 have hsh:∀ t ∈ us,t.text.length ≤ 281474976710656:=by have:=zGU ([40,40] ++ (([40,97,32] ++ (pnS i ++ ([32,98,41,32] ++ (pnS j ++ [32,99])))) ++ [41,41])); rw [ht] at this; exact this
 clear hpl hpw htx hx2 hrest
 generalize pnS i = SI at ht hpr hsi hni hsh hlen
 generalize pnS j = SJ at ht hpr hsj hnj hsh hlen
 generalize pnL i = LI at hpl2 hli
 generalize pnL j = LJ at hpl2 hlj
 obtain ⟨SA1,hSA1⟩:∃ C:List UInt8,C = [40,97,32] ++ SI:=⟨_,rfl⟩
 have lSA1:SA1.length = 3 + SI.length:=by rw [hSA1,List.length_append] <;> rfl
 have cSA1:∀ w':World,(Op.stringOp .add (⟨#[40,97,32]⟩:ByteArray) (cbs SI)).run Tryd.prog w' = .ok (.string (cbs SA1)) w':=by
  rw [hSA1]
  exact zQK [40,97,32] SI (by show [40,97,32].length + SI.length ≤ _; have : [40,97,32].length = 3:=rfl; omega)
 obtain ⟨SA2,hSA2⟩:∃ C:List UInt8,C = SA1 ++ [32,98,41,32]:=⟨_,rfl⟩
 have lSA2:SA2.length = SA1.length + 4:=by rw [hSA2,List.length_append] <;> rfl
 have cSA2:∀ w':World,(Op.stringOp .add (cbs SA1) (⟨#[32,98,41,32]⟩:ByteArray)).run Tryd.prog w' = .ok (.string (cbs SA2)) w':=by
  rw [hSA2]
  exact zQK SA1 [32,98,41,32] (by show SA1.length + 4 ≤ _; omega)
 obtain ⟨SA3,hSA3⟩:∃ C:List UInt8,C = SA2 ++ SJ:=⟨_,rfl⟩
 have lSA3:SA3.length = SA2.length + SJ.length:=by rw [hSA3,List.length_append] <;> rfl
 have cSA3:∀ w':World,(Op.stringOp .add (cbs SA2) (cbs SJ)).run Tryd.prog w' = .ok (.string (cbs SA3)) w':=by
  rw [hSA3]
  exact zQK SA2 SJ (by show SA2.length + SJ.length ≤ _; omega)
 obtain ⟨SA4,hSA4⟩:∃ C:List UInt8,C = SA3 ++ [32,99]:=⟨_,rfl⟩
 have lSA4:SA4.length = SA3.length + 2:=by rw [hSA4,List.length_append] <;> rfl
 have cSA4:∀ w':World,(Op.stringOp .add (cbs SA3) (⟨#[32,99]⟩:ByteArray)).run Tryd.prog w' = .ok (.string (cbs SA4)) w':=by
  rw [hSA4]
  exact zQK SA3 [32,99] (by show SA3.length + 2 ≤ _; omega)
 have eSA:SA4 = [40,97,32] ++ (SI ++ ([32,98,41,32] ++ (SJ ++ [32,99]))):=by rw [hSA4,hSA3,hSA2,hSA1]; simp only [List.append_assoc]
 clear hSA4 hSA3 hSA2 hSA1
 obtain ⟨SW1,hSW1⟩:∃ C:List UInt8,C = [97,32] ++ SI:=⟨_,rfl⟩
 have lSW1:SW1.length = 2 + SI.length:=by rw [hSW1,List.length_append] <;> rfl
 have cSW1:∀ w':World,(Op.stringOp .add (⟨#[97,32]⟩:ByteArray) (cbs SI)).run Tryd.prog w' = .ok (.string (cbs SW1)) w':=by
  rw [hSW1]
  exact zQK [97,32] SI (by show [97,32].length + SI.length ≤ _; have : [97,32].length = 2:=rfl; omega)
 obtain ⟨SW2,hSW2⟩:∃ C:List UInt8,C = SW1 ++ [32,98,32]:=⟨_,rfl⟩
 have lSW2:SW2.length = SW1.length + 3:=by rw [hSW2,List.length_append] <;> rfl
 have cSW2:∀ w':World,(Op.stringOp .add (cbs SW1) (⟨#[32,98,32]⟩:ByteArray)).run Tryd.prog w' = .ok (.string (cbs SW2)) w':=by
  rw [hSW2]
  exact zQK SW1 [32,98,32] (by show SW1.length + 3 ≤ _; omega)
 obtain ⟨SW3,hSW3⟩:∃ C:List UInt8,C = SW2 ++ SJ:=⟨_,rfl⟩
 have lSW3:SW3.length = SW2.length + SJ.length:=by rw [hSW3,List.length_append] <;> rfl
 have cSW3:∀ w':World,(Op.stringOp .add (cbs SW2) (cbs SJ)).run Tryd.prog w' = .ok (.string (cbs SW3)) w':=by
  rw [hSW3]
  exact zQK SW2 SJ (by show SW2.length + SJ.length ≤ _; omega)
 obtain ⟨SW4,hSW4⟩:∃ C:List UInt8,C = SW3 ++ [32,99]:=⟨_,rfl⟩
 have lSW4:SW4.length = SW3.length + 2:=by rw [hSW4,List.length_append] <;> rfl
 have cSW4:∀ w':World,(Op.stringOp .add (cbs SW3) (⟨#[32,99]⟩:ByteArray)).run Tryd.prog w' = .ok (.string (cbs SW4)) w':=by
  rw [hSW4]
  exact zQK SW3 [32,99] (by show SW3.length + 2 ≤ _; omega)
 have eSW:SW4 = [97,32] ++ (SI ++ ([32,98,32] ++ (SJ ++ [32,99]))):=by rw [hSW4,hSW3,hSW2,hSW1]; simp only [List.append_assoc]
 clear hSW4 hSW3 hSW2 hSW1
 have hpr2:prE e1 = SW4:=hpr.trans eSW.symm
 have hz1:(⟨#[40,40]⟩:ByteArray).size + (cbs SA4).size ≤ 9223372036854775807:=by rw [zN5]; show 2 + SA4.length ≤ _; omega
 have hz2:((⟨#[40,40]⟩:ByteArray) ++ cbs SA4).size + (⟨#[41,41]⟩:ByteArray).size ≤ 9223372036854775807:=by rw [ByteArray.size_append,zN5]; show 2 + SA4.length + 2 ≤ _; omega
 have hcat:(⟨#[40,40]⟩:ByteArray) ++ cbs SA4 ++ ⟨#[41,41]⟩ = cbs ([40,40] ++ (SA4 ++ [41,41])):=by
  show cbs [40,40] ++ cbs SA4 ++ cbs [41,41] = _
  rw [zQR,zQR,List.append_assoc]
 rw [← eSA] at ht
 have htk:=fun w1 => zQk (cbs ([40,40] ++ (SA4 ++ [41,41]))) (by rw [zN5]; refine Nat.le_trans (m:=100) ?_ (by decide); simp only [List.length_append,List.length_cons,List.length_nil]; omega) us 0 0 ht w1
 rw [← hcat] at htk
 have HTK:=vH htk
 have HX:=vH (fun (w1:World) (R:Nat) (S:Value) (h:Toks w1 R S (us.map toRT)) => zQl w1 R S (us.map toRT) 0 0 h _ hf _ hx)
 have HPR:=vH hpr2
 have HS1:=vH hs1
 have HL1:=vH hl1
 have HSH:=vH hsh
 have HE:=vH he
 have HSI:=vH hsi
 have HSJ:=vH hsj
 have HLI:=vH hli
 have HLJ:=vH hlj
 have HZ1:=vH hz1
 have HZ2:=vH hz2
 have hg1:decide ((i:Int) < 0) = false:=decide_eq_false (by omega)
 have hg2:decide ((8:Int) ≤ (i:Int)) = false:=decide_eq_false (by omega)
 have hg3:decide ((j:Int) < 0) = false:=decide_eq_false (by omega)
 have hg4:decide ((8:Int) ≤ (j:Int)) = false:=decide_eq_false (by omega)
 have hg5:decide (8 ≤ i) = false:=decide_eq_false (by omega)
 have hg6:decide (8 ≤ j) = false:=decide_eq_false (by omega)
 have hb1:(0:Int) ≤ (i:Int):=by omega
 have hb2:(0:Int) ≤ (j:Int):=by omega
 have hb3:(i:Int) < 8:=by omega
 have hb4:(j:Int) < 8:=by omega
 clear hz1 hz2 hcat htk ht hx hf hpr hpr2 hs1 hl1 hsh hlen he hsi hsj hli hlj hni hnj hi hj lSA1 lSA2 lSA3 lSA4 eSA lSW1 lSW2 lSW3 lSW4 eSW
 have HW1:=vH cSW1
 have HW2:=vH cSW2
 have HW3:=vH cSW3
 have HW4:=vH cSW4
 clear cSW1 cSW2 cSW3 cSW4
 have HA:=vH (zK (.cells #[.int .i64 1,.int .i64 2,.int .i64 3,.int .i64 3,.int .i64 4,.int .i64 4,.int .i64 5,.int .i64 5] 3) (heap_alloc_new w (.cells #[.string ⟨#[124,124]⟩,.string ⟨#[38,38]⟩,.string ⟨#[60]⟩,.string ⟨#[61,61]⟩,.string ⟨#[43]⟩,.string ⟨#[45]⟩,.string ⟨#[42]⟩,.string ⟨#[37]⟩] 9)))
 have HBL:=vH (show ((w.alloc (.cells #[.string ⟨#[124,124]⟩,.string ⟨#[38,38]⟩,.string ⟨#[60]⟩,.string ⟨#[61,61]⟩,.string ⟨#[43]⟩,.string ⟨#[45]⟩,.string ⟨#[42]⟩,.string ⟨#[37]⟩] 9)).alloc (.cells #[.int .i64 1,.int .i64 2,.int .i64 3,.int .i64 3,.int .i64 4,.int .i64 4,.int .i64 5,.int .i64 5] 3)).heap[w.heap.size + 1]? = some (.cells #[.int .i64 1,.int .i64 2,.int .i64 3,.int .i64 3,.int .i64 4,.int .i64 4,.int .i64 5,.int .i64 5] 3 (0,0)) by have:=heap_alloc_new (w.alloc (.cells #[.string ⟨#[124,124]⟩,.string ⟨#[38,38]⟩,.string ⟨#[60]⟩,.string ⟨#[61,61]⟩,.string ⟨#[43]⟩,.string ⟨#[45]⟩,.string ⟨#[42]⟩,.string ⟨#[37]⟩] 9)) (.cells #[.int .i64 1,.int .i64 2,.int .i64 3,.int .i64 3,.int .i64 4,.int .i64 4,.int .i64 5,.int .i64 5] 3); rw [zB] at this; exact this)
 have HBW:=vH (zCB (o:=.cells #[.int .i64 1,.int .i64 2,.int .i64 3,.int .i64 3,.int .i64 4,.int .i64 4,.int .i64 5,.int .i64 5] 3) (zCB (o:=.cells #[.string ⟨#[124,124]⟩,.string ⟨#[38,38]⟩,.string ⟨#[60]⟩,.string ⟨#[61,61]⟩,.string ⟨#[43]⟩,.string ⟨#[45]⟩,.string ⟨#[42]⟩,.string ⟨#[37]⟩] 9) (Below.refl w.heap.size w)))
 go_in
 go_upto_region 5 with fail
 generalize (w.alloc (.cells #[.string ⟨#[124,124]⟩,.string ⟨#[38,38]⟩,.string ⟨#[60]⟩,.string ⟨#[61,61]⟩,.string ⟨#[43]⟩,.string ⟨#[45]⟩,.string ⟨#[42]⟩,.string ⟨#[37]⟩] 9)).alloc (.cells #[.int .i64 1,.int .i64 2,.int .i64 3,.int .i64 3,.int .i64 4,.int .i64 4,.int .i64 5,.int .i64 5] 3) = W at HA HBL HBW ⊢
 go_region_held3 (fun w' => w'.cell? ⟨w.heap.size,i,none⟩ = some (.string (cbs SI)) ∧ w'.cell? ⟨w.heap.size,j,none⟩ = some (.string (cbs SJ))) (exact ⟨zQQ HA.out HSI.out,zQQ HA.out HSJ.out⟩) (fail)
 go_upto_region 6 with fail
 obtain ⟨W2,hW2⟩:∃ W2,W2 = W.drew:=⟨_,rfl⟩
 rw [← hW2]
 have HA2:=vH (zQL hW2 HA.out)
 have HBL2:=vH (zQL hW2 HBL.out)
 have HBW2:=vH (show Below w.heap.size w W2 by rw [hW2]; exact HBW.out.drew)
 clear HA HBL HBW hW2
 obtain ⟨W,rfl⟩:∃ W,W = W2:=⟨_,rfl⟩
 have HA:=HA2
 have HBL:=HBL2
 have HBW:=HBW2
 clear HA2 HBL2 HBW2
 go_region_held3 (fun w' => w'.cell? ⟨w.heap.size + 1,i,none⟩ = some (.int .i64 (LI:Int)) ∧ w'.cell? ⟨w.heap.size + 1,j,none⟩ = some (.int .i64 (LJ:Int))) (exact ⟨zQQ HBL.out HLI.out,zQQ HBL.out HLJ.out⟩) (fail)
 go_upto_region 10 with fail
 obtain ⟨W2,hW2⟩:∃ W2,W2 = W.drew:=⟨_,rfl⟩
 rw [← hW2]
 have HA2:=vH (zQL hW2 HA.out)
 have HBL2:=vH (zQL hW2 HBL.out)
 have HBW2:=vH (show Below w.heap.size w W2 by rw [hW2]; exact HBW.out.drew)
 clear HA HBL HBW hW2
 obtain ⟨W,rfl⟩:∃ W,W = W2:=⟨_,rfl⟩
 have HA:=HA2
 have HBL:=HBL2
 have HBW:=HBW2
 clear HA2 HBL2 HBW2
 have hz1:=HZ1.out
 have hz2:=HZ2.out
 go_wp2_with fail
 refine (HTK.out _).mono ?_
 rintro e w1 ⟨A,c,rfl,hl1,hb⟩
 have HT:=vH (((zKJ (c:=c) hl1 HSH.out).below ((Below.refl w1.heap.size w1).alloc (Nat.le_refl _) (.cells #[.int .i64 ((0:Nat):Int),.int .i64 ((0:Nat):Int)] 29))).re (Nat.le_refl _))
 have hba:=(Below.refl w1.heap.size w1).alloc (Nat.le_refl _) (.cells #[.int .i64 ((0:Nat):Int),.int .i64 ((0:Nat):Int)] 29)
 have HB1:=vH (zF (zF HBW.out hb HBW.out.size) hba (zF HBW.out hb HBW.out.size).size)
 have HA3:=vH (zQP (zQP HA.out hb) hba)
 clear hl1 hb hba HBL HBW HA hz1 hz2 HTK HZ1 HZ2
 go_wp2_with fail
 refine (HX.out _ _ _ HT.out).mono ?_
 rintro e w2 ⟨ek,en,es,eo,ed,ep,el,ec,ea,eb,er,ee,ef,rfl,hi,hb2⟩
 dsimp only at hi ⊢
 have HB2:=vH (zF HB1.out hb2 HB1.out.size)
 have HI:=vH hi
 have HA4:=vH (zQP HA3.out hb2)
 clear hb2 HX HT hi HA3
 go_upto_region 14 with fail
 obtain ⟨W,hwz⟩:∃ wz,wz = (w2.alloc (.cells #[.int .i64 ek,.int .i64 en,.string (cbs es),.string (cbs eo),.int .i64 ed,.slice ep el ec,.int .i64 ea,.int .i64 eb,.int .i64 er,.int .i64 ee,.int .i64 ef] 45)).alloc (.cells vF 29):=⟨_,rfl⟩
 rw [← hwz]
 have hbz:Below w2.heap.size w2 W:=by rw [hwz]; exact zCB (zCB (Below.refl _ _))
 have HKE:=vH (show W.heap[w2.heap.size]? = some (.cells #[.int .i64 ek,.int .i64 en,.string (cbs es),.string (cbs eo),.int .i64 ed,.slice ep el ec,.int .i64 ea,.int .i64 eb,.int .i64 er,.int .i64 ee,.int .i64 ef] 45 (0,0)) by rw [hwz]; exact zK _ (heap_alloc_new w2 _))
 have HFE:=vH (show W.heap[w2.heap.size + 1]? = some (.cells vF 29 (0,0)) by rw [hwz]; have:=heap_alloc_new (w2.alloc (.cells #[.int .i64 ek,.int .i64 en,.string (cbs es),.string (cbs eo),.int .i64 ed,.slice ep el ec,.int .i64 ea,.int .i64 eb,.int .i64 er,.int .i64 ee,.int .i64 ef] 45)) (.cells vF 29); rw [zB] at this; exact this)
 have HB3:=vH (zF HB2.out hbz HB2.out.size)
 have HIZ:=vH (Is.lower (Nat.zero_le _) _ (HI.out.below hbz))
 have HA:=vH (zQP HA4.out hbz)
 clear hwz hbz HI HA4 cSA1 cSA2 cSA3 cSA4
 have cSW1:=HW1.out
 have cSW2:=HW2.out
 have cSW3:=HW3.out
 have cSW4:=HW4.out
 go_region_held3 (fun w' => w'.cell? ⟨w.heap.size,i,none⟩ = some (.string (cbs SI)) ∧ w'.cell? ⟨w.heap.size,j,none⟩ = some (.string (cbs SJ))) (exact ⟨zQQ HA.out HSI.out,zQQ HA.out HSJ.out⟩) (fail)
 go_upto_region 15 with fail
 obtain ⟨W2,hW2⟩:∃ W2,W2 = W.drew:=⟨_,rfl⟩
 rw [← hW2]
 have HKE2:=vH (zQL hW2 HKE.out)
 have HFE2:=vH (zQL hW2 HFE.out)
 have HB32:=vH (show Below w.heap.size w W2 by rw [hW2]; exact HB3.out.drew)
 have HIZ2:=vH (zSW hW2 HIZ.out)
 clear HKE HFE HB3 HIZ hW2
 obtain ⟨W,rfl⟩:∃ W,W = W2:=⟨_,rfl⟩
 have HKE:=HKE2
 have HFE:=HFE2
 have HB3:=HB32
 have HIZ:=HIZ2
 clear HKE2 HFE2 HB32 HIZ2
 obtain ⟨⟨f0,f1⟩,-⟩:=duo HFE.out
 obtain ⟨⟨x0,x1,x2,x3,x4,x5,x6,x7,x8,x9,xX⟩,-⟩:=hen HKE.out
 go_wp2_with fail
 have hxp:=zQZ HS1.out HIZ.out (HE.out.below HB3.out) (by have:=HL1.out; omega)
 rw [HPR.out] at hxp
 refine hxp.mono ?_
 rintro e w3 ⟨rfl,hb⟩
 have HB4:=vH (zF HB3.out hb HB3.out.size)
 clear hb hxp f0 f1 x0 x1 x2 x3 x4 x5 x6 x7 x8 x9 xX
 go_wp2_with fail
 refine (zQM w3 (HE.out.below HB4.out)).mono ?_
 rintro e w4 ⟨rfl,hb⟩
 have HB5:=vH (zF HB4.out hb HB4.out.size)
 clear hb
 go_wp2_with fail
 go_ret
 exact ⟨rfl,HB5.out⟩
set_option maxHeartbeats 16000000 in
theorem zTp (w:World)(he:EnvS w)(i j:Nat)(hi:i < 8)(hj:j < 8)(hpl:pnP i j true = false) :
 Calls Tryd.prog 6 #[.int .i64 (i:Int),.int .i64 (j:Int),.bool true] w fun e w' => e = .returned (.bool true) ∧ Below w.heap.size w w':=by
 obtain ⟨us,e1,k1,ht,hx,hpr⟩:=zQ9 hi hj true
 obtain ⟨x2,hx2,hf,-,hrest⟩:=zQU ht
 rw [hx] at hx2
 obtain rfl:=Option.some.inj hx2
 obtain ⟨hs1,hl1,-⟩:=hrest rfl
 dsimp only at hs1 hl1
 have hpw:pnW i j true = [40,97,32] ++ (pnS i ++ ([32,98,41,32] ++ (pnS j ++ [32,99]))):=by unfold pnW; rw [hpl]; rfl
 have htx:pnT i j true = [40,97,32] ++ (pnS i ++ ([32,98,41,32] ++ (pnS j ++ [32,99]))):=rfl
 rw [hpw] at hpr
 rw [htx] at ht
 have hpl2:decide (pnL j ≤ pnL i) = false:=hpl
 have hsi:=zRx i hi
 have hsj:=zRx j hj
 have hli:=zRy i hi
 have hlj:=zRy j hj
 have hni:=zQ8 i hi
 have hnj:=zQ8 j hj
 have hlen:us.length ≤ 6001:=by have:=Ln.Lx.toks_len ([40,40] ++ (([40,97,32] ++ (pnS i ++ ([32,98,41,32] ++ (pnS j ++ [32,99])))) ++ [41,41])); rw [ht] at this; exact this
 have hsh:∀ t ∈ us,t.text.length ≤ 281474976710656:=by have:=zGU ([40,40] ++ (([40,97,32] ++ (pnS i ++ ([32,98,41,32] ++ (pnS j ++ [32,99])))) ++ [41,41])); rw [ht] at this; exact this
 clear hpl hpw htx hx2 hrest
 generalize pnS i = SI at ht hpr hsi hni hsh hlen
 generalize pnS j = SJ at ht hpr hsj hnj hsh hlen
 generalize pnL i = LI at hpl2 hli
 generalize pnL j = LJ at hpl2 hlj
 obtain ⟨SA1,hSA1⟩:∃ C:List UInt8,C = [40,97,32] ++ SI:=⟨_,rfl⟩
 have lSA1:SA1.length = 3 + SI.length:=by rw [hSA1,List.length_append] <;> rfl
 have cSA1:∀ w':World,(Op.stringOp .add (⟨#[40,97,32]⟩:ByteArray) (cbs SI)).run Tryd.prog w' = .ok (.string (cbs SA1)) w':=by
  rw [hSA1]
  exact zQK [40,97,32] SI (by show [40,97,32].length + SI.length ≤ _; have : [40,97,32].length = 3:=rfl; omega)
 obtain ⟨SA2,hSA2⟩:∃ C:List UInt8,C = SA1 ++ [32,98,41,32]:=⟨_,rfl⟩
 have lSA2:SA2.length = SA1.length + 4:=by rw [hSA2,List.length_append] <;> rfl
 have cSA2:∀ w':World,(Op.stringOp .add (cbs SA1) (⟨#[32,98,41,32]⟩:ByteArray)).run Tryd.prog w' = .ok (.string (cbs SA2)) w':=by
  rw [hSA2]
  exact zQK SA1 [32,98,41,32] (by show SA1.length + 4 ≤ _; omega)
 obtain ⟨SA3,hSA3⟩:∃ C:List UInt8,C = SA2 ++ SJ:=⟨_,rfl⟩
 have lSA3:SA3.length = SA2.length + SJ.length:=by rw [hSA3,List.length_append] <;> rfl
 have cSA3:∀ w':World,(Op.stringOp .add (cbs SA2) (cbs SJ)).run Tryd.prog w' = .ok (.string (cbs SA3)) w':=by
  rw [hSA3]
  exact zQK SA2 SJ (by show SA2.length + SJ.length ≤ _; omega)
 obtain ⟨SA4,hSA4⟩:∃ C:List UInt8,C = SA3 ++ [32,99]:=⟨_,rfl⟩
 have lSA4:SA4.length = SA3.length + 2:=by rw [hSA4,List.length_append] <;> rfl
 have cSA4:∀ w':World,(Op.stringOp .add (cbs SA3) (⟨#[32,99]⟩:ByteArray)).run Tryd.prog w' = .ok (.string (cbs SA4)) w':=by
  rw [hSA4]
  exact zQK SA3 [32,99] (by show SA3.length + 2 ≤ _; omega)
 have eSA:SA4 = [40,97,32] ++ (SI ++ ([32,98,41,32] ++ (SJ ++ [32,99]))):=by rw [hSA4,hSA3,hSA2,hSA1]; simp only [List.append_assoc]
 clear hSA4 hSA3 hSA2 hSA1
 have hpr2:prE e1 = SA4:=hpr.trans eSA.symm
 have hz1:(⟨#[40,40]⟩:ByteArray).size + (cbs SA4).size ≤ 9223372036854775807:=by rw [zN5]; show 2 + SA4.length ≤ _; omega
 have hz2:((⟨#[40,40]⟩:ByteArray) ++ cbs SA4).size + (⟨#[41,41]⟩:ByteArray).size ≤ 9223372036854775807:=by rw [ByteArray.size_append,zN5]; show 2 + SA4.length + 2 ≤ _; omega
 have hcat:(⟨#[40,40]⟩:ByteArray) ++ cbs SA4 ++ ⟨#[41,41]⟩ = cbs ([40,40] ++ (SA4 ++ [41,41])):=by
  show cbs [40,40] ++ cbs SA4 ++ cbs [41,41] = _
  rw [zQR,zQR,List.append_assoc]
 rw [← eSA] at ht
 have htk:=fun w1 => zQk (cbs ([40,40] ++ (SA4 ++ [41,41]))) (by rw [zN5]; refine Nat.le_trans (m:=100) ?_ (by decide); simp only [List.length_append,List.length_cons,List.length_nil]; omega) us 0 0 ht w1
 rw [← hcat] at htk
 have HTK:=vH htk
 have HX:=vH (fun (w1:World) (R:Nat) (S:Value) (h:Toks w1 R S (us.map toRT)) => zQl w1 R S (us.map toRT) 0 0 h _ hf _ hx)
 have HPR:=vH hpr2
 have HS1:=vH hs1
 have HL1:=vH hl1
 have HSH:=vH hsh
 have HE:=vH he
 have HSI:=vH hsi
 have HSJ:=vH hsj
 have HLI:=vH hli
 have HLJ:=vH hlj
 have HZ1:=vH hz1
 have HZ2:=vH hz2
 have hg1:decide ((i:Int) < 0) = false:=decide_eq_false (by omega)
 have hg2:decide ((8:Int) ≤ (i:Int)) = false:=decide_eq_false (by omega)
 have hg3:decide ((j:Int) < 0) = false:=decide_eq_false (by omega)
 have hg4:decide ((8:Int) ≤ (j:Int)) = false:=decide_eq_false (by omega)
 have hg5:decide (8 ≤ i) = false:=decide_eq_false (by omega)
 have hg6:decide (8 ≤ j) = false:=decide_eq_false (by omega)
 have hb1:(0:Int) ≤ (i:Int):=by omega
 have hb2:(0:Int) ≤ (j:Int):=by omega
 have hb3:(i:Int) < 8:=by omega
 have hb4:(j:Int) < 8:=by omega
 clear hz1 hz2 hcat htk ht hx hf hpr hpr2 hs1 hl1 hsh hlen he hsi hsj hli hlj hni hnj hi hj lSA1 lSA2 lSA3 lSA4 eSA
 have HA:=vH (zK (.cells #[.int .i64 1,.int .i64 2,.int .i64 3,.int .i64 3,.int .i64 4,.int .i64 4,.int .i64 5,.int .i64 5] 3) (heap_alloc_new w (.cells #[.string ⟨#[124,124]⟩,.string ⟨#[38,38]⟩,.string ⟨#[60]⟩,.string ⟨#[61,61]⟩,.string ⟨#[43]⟩,.string ⟨#[45]⟩,.string ⟨#[42]⟩,.string ⟨#[37]⟩] 9)))
 have HBL:=vH (show ((w.alloc (.cells #[.string ⟨#[124,124]⟩,.string ⟨#[38,38]⟩,.string ⟨#[60]⟩,.string ⟨#[61,61]⟩,.string ⟨#[43]⟩,.string ⟨#[45]⟩,.string ⟨#[42]⟩,.string ⟨#[37]⟩] 9)).alloc (.cells #[.int .i64 1,.int .i64 2,.int .i64 3,.int .i64 3,.int .i64 4,.int .i64 4,.int .i64 5,.int .i64 5] 3)).heap[w.heap.size + 1]? = some (.cells #[.int .i64 1,.int .i64 2,.int .i64 3,.int .i64 3,.int .i64 4,.int .i64 4,.int .i64 5,.int .i64 5] 3 (0,0)) by have:=heap_alloc_new (w.alloc (.cells #[.string ⟨#[124,124]⟩,.string ⟨#[38,38]⟩,.string ⟨#[60]⟩,.string ⟨#[61,61]⟩,.string ⟨#[43]⟩,.string ⟨#[45]⟩,.string ⟨#[42]⟩,.string ⟨#[37]⟩] 9)) (.cells #[.int .i64 1,.int .i64 2,.int .i64 3,.int .i64 3,.int .i64 4,.int .i64 4,.int .i64 5,.int .i64 5] 3); rw [zB] at this; exact this)
 have HBW:=vH (zCB (o:=.cells #[.int .i64 1,.int .i64 2,.int .i64 3,.int .i64 3,.int .i64 4,.int .i64 4,.int .i64 5,.int .i64 5] 3) (zCB (o:=.cells #[.string ⟨#[124,124]⟩,.string ⟨#[38,38]⟩,.string ⟨#[60]⟩,.string ⟨#[61,61]⟩,.string ⟨#[43]⟩,.string ⟨#[45]⟩,.string ⟨#[42]⟩,.string ⟨#[37]⟩] 9) (Below.refl w.heap.size w)))
 go_in
 go_upto_region 5 with fail
 generalize (w.alloc (.cells #[.string ⟨#[124,124]⟩,.string ⟨#[38,38]⟩,.string ⟨#[60]⟩,.string ⟨#[61,61]⟩,.string ⟨#[43]⟩,.string ⟨#[45]⟩,.string ⟨#[42]⟩,.string ⟨#[37]⟩] 9)).alloc (.cells #[.int .i64 1,.int .i64 2,.int .i64 3,.int .i64 3,.int .i64 4,.int .i64 4,.int .i64 5,.int .i64 5] 3) = W at HA HBL HBW ⊢
 go_region_held3 (fun w' => w'.cell? ⟨w.heap.size,i,none⟩ = some (.string (cbs SI)) ∧ w'.cell? ⟨w.heap.size,j,none⟩ = some (.string (cbs SJ))) (exact ⟨zQQ HA.out HSI.out,zQQ HA.out HSJ.out⟩) (fail)
 go_upto_region 6 with fail
 obtain ⟨W2,hW2⟩:∃ W2,W2 = W.drew:=⟨_,rfl⟩
 rw [← hW2]
 have HA2:=vH (zQL hW2 HA.out)
 have HBL2:=vH (zQL hW2 HBL.out)
 have HBW2:=vH (show Below w.heap.size w W2 by rw [hW2]; exact HBW.out.drew)
 clear HA HBL HBW hW2
 obtain ⟨W,rfl⟩:∃ W,W = W2:=⟨_,rfl⟩
 have HA:=HA2
 have HBL:=HBL2
 have HBW:=HBW2
 clear HA2 HBL2 HBW2
 go_region_held3 (fun w' => w'.cell? ⟨w.heap.size + 1,i,none⟩ = some (.int .i64 (LI:Int)) ∧ w'.cell? ⟨w.heap.size + 1,j,none⟩ = some (.int .i64 (LJ:Int))) (exact ⟨zQQ HBL.out HLI.out,zQQ HBL.out HLJ.out⟩) (fail)
 go_upto_region 10 with fail
 obtain ⟨W2,hW2⟩:∃ W2,W2 = W.drew:=⟨_,rfl⟩
 rw [← hW2]
 have HA2:=vH (zQL hW2 HA.out)
 have HBL2:=vH (zQL hW2 HBL.out)
 have HBW2:=vH (show Below w.heap.size w W2 by rw [hW2]; exact HBW.out.drew)
 clear HA HBL HBW hW2
 obtain ⟨W,rfl⟩:∃ W,W = W2:=⟨_,rfl⟩
 have HA:=HA2
 have HBL:=HBL2
 have HBW:=HBW2
 clear HA2 HBL2 HBW2
 have hz1:=HZ1.out
 have hz2:=HZ2.out
 go_wp2_with fail
 refine (HTK.out _).mono ?_
 rintro e w1 ⟨A,c,rfl,hl1,hb⟩
 have HT:=vH (((zKJ (c:=c) hl1 HSH.out).below ((Below.refl w1.heap.size w1).alloc (Nat.le_refl _) (.cells #[.int .i64 ((0:Nat):Int),.int .i64 ((0:Nat):Int)] 29))).re (Nat.le_refl _))
 have hba:=(Below.refl w1.heap.size w1).alloc (Nat.le_refl _) (.cells #[.int .i64 ((0:Nat):Int),.int .i64 ((0:Nat):Int)] 29)
 have HB1:=vH (zF (zF HBW.out hb HBW.out.size) hba (zF HBW.out hb HBW.out.size).size)
 have HA3:=vH (zQP (zQP HA.out hb) hba)
 clear hl1 hb hba HBL HBW HA hz1 hz2 HTK HZ1 HZ2
 go_wp2_with fail
 refine (HX.out _ _ _ HT.out).mono ?_
 rintro e w2 ⟨ek,en,es,eo,ed,ep,el,ec,ea,eb,er,ee,ef,rfl,hi,hb2⟩
 dsimp only at hi ⊢
 have HB2:=vH (zF HB1.out hb2 HB1.out.size)
 have HI:=vH hi
 have HA4:=vH (zQP HA3.out hb2)
 clear hb2 HX HT hi HA3
 go_upto_region 15 with fail
 obtain ⟨W,hwz⟩:∃ wz,wz = (w2.alloc (.cells #[.int .i64 ek,.int .i64 en,.string (cbs es),.string (cbs eo),.int .i64 ed,.slice ep el ec,.int .i64 ea,.int .i64 eb,.int .i64 er,.int .i64 ee,.int .i64 ef] 45)).alloc (.cells vF 29):=⟨_,rfl⟩
 rw [← hwz]
 have hbz:Below w2.heap.size w2 W:=by rw [hwz]; exact zCB (zCB (Below.refl _ _))
 have HKE:=vH (show W.heap[w2.heap.size]? = some (.cells #[.int .i64 ek,.int .i64 en,.string (cbs es),.string (cbs eo),.int .i64 ed,.slice ep el ec,.int .i64 ea,.int .i64 eb,.int .i64 er,.int .i64 ee,.int .i64 ef] 45 (0,0)) by rw [hwz]; exact zK _ (heap_alloc_new w2 _))
 have HFE:=vH (show W.heap[w2.heap.size + 1]? = some (.cells vF 29 (0,0)) by rw [hwz]; have:=heap_alloc_new (w2.alloc (.cells #[.int .i64 ek,.int .i64 en,.string (cbs es),.string (cbs eo),.int .i64 ed,.slice ep el ec,.int .i64 ea,.int .i64 eb,.int .i64 er,.int .i64 ee,.int .i64 ef] 45)) (.cells vF 29); rw [zB] at this; exact this)
 have HB3:=vH (zF HB2.out hbz HB2.out.size)
 have HIZ:=vH (Is.lower (Nat.zero_le _) _ (HI.out.below hbz))
 have HA:=vH (zQP HA4.out hbz)
 clear hwz hbz HI HA4
 obtain ⟨⟨f0,f1⟩,-⟩:=duo HFE.out
 obtain ⟨⟨x0,x1,x2,x3,x4,x5,x6,x7,x8,x9,xX⟩,-⟩:=hen HKE.out
 go_wp2_with fail
 have hxp:=zQZ HS1.out HIZ.out (HE.out.below HB3.out) (by have:=HL1.out; omega)
 rw [HPR.out] at hxp
 refine hxp.mono ?_
 rintro e w3 ⟨rfl,hb⟩
 have HB4:=vH (zF HB3.out hb HB3.out.size)
 clear hb hxp f0 f1 x0 x1 x2 x3 x4 x5 x6 x7 x8 x9 xX
 go_wp2_with fail
 refine (zQM w3 (HE.out.below HB4.out)).mono ?_
 rintro e w4 ⟨rfl,hb⟩
 have HB5:=vH (zF HB4.out hb HB4.out.size)
 clear hb
 go_wp2_with fail
 go_ret
 exact ⟨rfl,HB5.out⟩
set_option maxHeartbeats 16000000 in
theorem zTi (w:World)(he:EnvS w)(i j:Nat)(hi:i < 8)(hj:j < 8)(hpl:pnP i j false = true) :
 Calls Tryd.prog 6 #[.int .i64 (i:Int),.int .i64 (j:Int),.bool false] w fun e w' => e = .returned (.bool true) ∧ Below w.heap.size w w':=by
 obtain ⟨us,e1,k1,ht,hx,hpr⟩:=zQ9 hi hj false
 obtain ⟨x2,hx2,hf,-,hrest⟩:=zQU ht
 rw [hx] at hx2
 obtain rfl:=Option.some.inj hx2
 obtain ⟨hs1,hl1,-⟩:=hrest rfl
 dsimp only at hs1 hl1
 have hpw:pnW i j false = [97,32] ++ (pnS i ++ ([32,98,32] ++ (pnS j ++ [32,99]))):=by unfold pnW; rw [hpl]; rfl
 have htx:pnT i j false = [97,32] ++ (pnS i ++ ([32,40,98,32] ++ (pnS j ++ [32,99,41]))):=rfl
 rw [hpw] at hpr
 rw [htx] at ht
 have hpl2:decide (pnL i < pnL j) = true:=hpl
 have hsi:=zRx i hi
 have hsj:=zRx j hj
 have hli:=zRy i hi
 have hlj:=zRy j hj
 have hni:=zQ8 i hi
 have hnj:=zQ8 j hj
 have hlen:us.length ≤ 6001:=by have:=Ln.Lx.toks_len ([40,40] ++ (([97,32] ++ (pnS i ++ ([32,40,98,32] ++ (pnS j ++ [32,99,41])))) ++ [41,41])); rw [ht] at this; exact this
 have hsh:∀ t ∈ us,t.text.length ≤ 281474976710656:=by have:=zGU ([40,40] ++ (([97,32] ++ (pnS i ++ ([32,40,98,32] ++ (pnS j ++ [32,99,41])))) ++ [41,41])); rw [ht] at this; exact this
 clear hpl hpw htx hx2 hrest
 generalize pnS i = SI at ht hpr hsi hni hsh hlen
 generalize pnS j = SJ at ht hpr hsj hnj hsh hlen
 generalize pnL i = LI at hpl2 hli
 generalize pnL j = LJ at hpl2 hlj
 obtain ⟨SA1,hSA1⟩:∃ C:List UInt8,C = [40,97,32] ++ SI:=⟨_,rfl⟩
 have lSA1:SA1.length = 3 + SI.length:=by rw [hSA1,List.length_append] <;> rfl
 have cSA1:∀ w':World,(Op.stringOp .add (⟨#[40,97,32]⟩:ByteArray) (cbs SI)).run Tryd.prog w' = .ok (.string (cbs SA1)) w':=by
  rw [hSA1]
  exact zQK [40,97,32] SI (by show [40,97,32].length + SI.length ≤ _; have : [40,97,32].length = 3:=rfl; omega)
 obtain ⟨SA2,hSA2⟩:∃ C:List UInt8,C = SA1 ++ [32,98,41,32]:=⟨_,rfl⟩
 have lSA2:SA2.length = SA1.length + 4:=by rw [hSA2,List.length_append] <;> rfl
 have cSA2:∀ w':World,(Op.stringOp .add (cbs SA1) (⟨#[32,98,41,32]⟩:ByteArray)).run Tryd.prog w' = .ok (.string (cbs SA2)) w':=by
  rw [hSA2]
  exact zQK SA1 [32,98,41,32] (by show SA1.length + 4 ≤ _; omega)
 obtain ⟨SA3,hSA3⟩:∃ C:List UInt8,C = SA2 ++ SJ:=⟨_,rfl⟩
 have lSA3:SA3.length = SA2.length + SJ.length:=by rw [hSA3,List.length_append] <;> rfl
 have cSA3:∀ w':World,(Op.stringOp .add (cbs SA2) (cbs SJ)).run Tryd.prog w' = .ok (.string (cbs SA3)) w':=by
  rw [hSA3]
  exact zQK SA2 SJ (by show SA2.length + SJ.length ≤ _; omega)
 obtain ⟨SA4,hSA4⟩:∃ C:List UInt8,C = SA3 ++ [32,99]:=⟨_,rfl⟩
 have lSA4:SA4.length = SA3.length + 2:=by rw [hSA4,List.length_append] <;> rfl
 have cSA4:∀ w':World,(Op.stringOp .add (cbs SA3) (⟨#[32,99]⟩:ByteArray)).run Tryd.prog w' = .ok (.string (cbs SA4)) w':=by
  rw [hSA4]
  exact zQK SA3 [32,99] (by show SA3.length + 2 ≤ _; omega)
 have eSA:SA4 = [40,97,32] ++ (SI ++ ([32,98,41,32] ++ (SJ ++ [32,99]))):=by rw [hSA4,hSA3,hSA2,hSA1]; simp only [List.append_assoc]
 clear hSA4 hSA3 hSA2 hSA1
 obtain ⟨SB1,hSB1⟩:∃ C:List UInt8,C = [97,32] ++ SI:=⟨_,rfl⟩
 have lSB1:SB1.length = 2 + SI.length:=by rw [hSB1,List.length_append] <;> rfl
 have cSB1:∀ w':World,(Op.stringOp .add (⟨#[97,32]⟩:ByteArray) (cbs SI)).run Tryd.prog w' = .ok (.string (cbs SB1)) w':=by
  rw [hSB1]
  exact zQK [97,32] SI (by show [97,32].length + SI.length ≤ _; have : [97,32].length = 2:=rfl; omega)
 obtain ⟨SB2,hSB2⟩:∃ C:List UInt8,C = SB1 ++ [32,40,98,32]:=⟨_,rfl⟩
 have lSB2:SB2.length = SB1.length + 4:=by rw [hSB2,List.length_append] <;> rfl
 have cSB2:∀ w':World,(Op.stringOp .add (cbs SB1) (⟨#[32,40,98,32]⟩:ByteArray)).run Tryd.prog w' = .ok (.string (cbs SB2)) w':=by
  rw [hSB2]
  exact zQK SB1 [32,40,98,32] (by show SB1.length + 4 ≤ _; omega)
 obtain ⟨SB3,hSB3⟩:∃ C:List UInt8,C = SB2 ++ SJ:=⟨_,rfl⟩
 have lSB3:SB3.length = SB2.length + SJ.length:=by rw [hSB3,List.length_append] <;> rfl
 have cSB3:∀ w':World,(Op.stringOp .add (cbs SB2) (cbs SJ)).run Tryd.prog w' = .ok (.string (cbs SB3)) w':=by
  rw [hSB3]
  exact zQK SB2 SJ (by show SB2.length + SJ.length ≤ _; omega)
 obtain ⟨SB4,hSB4⟩:∃ C:List UInt8,C = SB3 ++ [32,99,41]:=⟨_,rfl⟩
 have lSB4:SB4.length = SB3.length + 3:=by rw [hSB4,List.length_append] <;> rfl
 have cSB4:∀ w':World,(Op.stringOp .add (cbs SB3) (⟨#[32,99,41]⟩:ByteArray)).run Tryd.prog w' = .ok (.string (cbs SB4)) w':=by
  rw [hSB4]
  exact zQK SB3 [32,99,41] (by show SB3.length + 3 ≤ _; omega)
 have eSB:SB4 = [97,32] ++ (SI ++ ([32,40,98,32] ++ (SJ ++ [32,99,41]))):=by rw [hSB4,hSB3,hSB2,hSB1]; simp only [List.append_assoc]
 clear hSB4 hSB3 hSB2 hSB1
 obtain ⟨SW1,hSW1⟩:∃ C:List UInt8,C = [97,32] ++ SI:=⟨_,rfl⟩
 have lSW1:SW1.length = 2 + SI.length:=by rw [hSW1,List.length_append] <;> rfl
 have cSW1:∀ w':World,(Op.stringOp .add (⟨#[97,32]⟩:ByteArray) (cbs SI)).run Tryd.prog w' = .ok (.string (cbs SW1)) w':=by
  rw [hSW1]
  exact zQK [97,32] SI (by show [97,32].length + SI.length ≤ _; have : [97,32].length = 2:=rfl; omega)
 obtain ⟨SW2,hSW2⟩:∃ C:List UInt8,C = SW1 ++ [32,98,32]:=⟨_,rfl⟩
 have lSW2:SW2.length = SW1.length + 3:=by rw [hSW2,List.length_append] <;> rfl
 have cSW2:∀ w':World,(Op.stringOp .add (cbs SW1) (⟨#[32,98,32]⟩:ByteArray)).run Tryd.prog w' = .ok (.string (cbs SW2)) w':=by
  rw [hSW2]
  exact zQK SW1 [32,98,32] (by show SW1.length + 3 ≤ _; omega)
 obtain ⟨SW3,hSW3⟩:∃ C:List UInt8,C = SW2 ++ SJ:=⟨_,rfl⟩
 have lSW3:SW3.length = SW2.length + SJ.length:=by rw [hSW3,List.length_append] <;> rfl
 have cSW3:∀ w':World,(Op.stringOp .add (cbs SW2) (cbs SJ)).run Tryd.prog w' = .ok (.string (cbs SW3)) w':=by
  rw [hSW3]
  exact zQK SW2 SJ (by show SW2.length + SJ.length ≤ _; omega)
 obtain ⟨SW4,hSW4⟩:∃ C:List UInt8,C = SW3 ++ [32,99]:=⟨_,rfl⟩
 have lSW4:SW4.length = SW3.length + 2:=by rw [hSW4,List.length_append] <;> rfl
 have cSW4:∀ w':World,(Op.stringOp .add (cbs SW3) (⟨#[32,99]⟩:ByteArray)).run Tryd.prog w' = .ok (.string (cbs SW4)) w':=by
  rw [hSW4]
  exact zQK SW3 [32,99] (by show SW3.length + 2 ≤ _; omega)
 have eSW:SW4 = [97,32] ++ (SI ++ ([32,98,32] ++ (SJ ++ [32,99]))):=by rw [hSW4,hSW3,hSW2,hSW1]; simp only [List.append_assoc]
 clear hSW4 hSW3 hSW2 hSW1
 have hpr2:prE e1 = SW4:=hpr.trans eSW.symm
 have hz1:(⟨#[40,40]⟩:ByteArray).size + (cbs SB4).size ≤ 9223372036854775807:=by rw [zN5]; show 2 + SB4.length ≤ _; omega
 have hz2:((⟨#[40,40]⟩:ByteArray) ++ cbs SB4).size + (⟨#[41,41]⟩:ByteArray).size ≤ 9223372036854775807:=by rw [ByteArray.size_append,zN5]; show 2 + SB4.length + 2 ≤ _; omega
 have hcat:(⟨#[40,40]⟩:ByteArray) ++ cbs SB4 ++ ⟨#[41,41]⟩ = cbs ([40,40] ++ (SB4 ++ [41,41])):=by
  show cbs [40,40] ++ cbs SB4 ++ cbs [41,41] = _
  rw [zQR,zQR,List.append_assoc]
 rw [← eSB] at ht
 have htk:=fun w1 => zQk (cbs ([40,40] ++ (SB4 ++ [41,41]))) (by rw [zN5]; refine Nat.le_trans (m:=100) ?_ (by decide); simp only [List.length_append,List.length_cons,List.length_nil]; omega) us 0 0 ht w1
 rw [← hcat] at htk
 have HTK:=vH htk
 have HX:=vH (fun (w1:World) (R:Nat) (S:Value) (h:Toks w1 R S (us.map toRT)) => zQl w1 R S (us.map toRT) 0 0 h _ hf _ hx)
 have HPR:=vH hpr2
 have HS1:=vH hs1
 have HL1:=vH hl1
 have HSH:=vH hsh
 have HE:=vH he
 have HSI:=vH hsi
 have HSJ:=vH hsj
 have HLI:=vH hli
 have HLJ:=vH hlj
 have HZ1:=vH hz1
 have HZ2:=vH hz2
 have hg1:decide ((i:Int) < 0) = false:=decide_eq_false (by omega)
 have hg2:decide ((8:Int) ≤ (i:Int)) = false:=decide_eq_false (by omega)
 have hg3:decide ((j:Int) < 0) = false:=decide_eq_false (by omega)
 have hg4:decide ((8:Int) ≤ (j:Int)) = false:=decide_eq_false (by omega)
 have hg5:decide (8 ≤ i) = false:=decide_eq_false (by omega)
 have hg6:decide (8 ≤ j) = false:=decide_eq_false (by omega)
 have hb1:(0:Int) ≤ (i:Int):=by omega
 have hb2:(0:Int) ≤ (j:Int):=by omega
 have hb3:(i:Int) < 8:=by omega
 have hb4:(j:Int) < 8:=by omega
 clear hz1 hz2 hcat htk ht hx hf hpr hpr2 hs1 hl1 hsh hlen he hsi hsj hli hlj hni hnj hi hj lSA1 lSA2 lSA3 lSA4 eSA lSB1 lSB2 lSB3 lSB4 eSB lSW1 lSW2 lSW3 lSW4 eSW
 have HW1:=vH cSW1
 have HW2:=vH cSW2
 have HW3:=vH cSW3
 have HW4:=vH cSW4
 clear cSW1 cSW2 cSW3 cSW4
 have HA:=vH (zK (.cells #[.int .i64 1,.int .i64 2,.int .i64 3,.int .i64 3,.int .i64 4,.int .i64 4,.int .i64 5,.int .i64 5] 3) (heap_alloc_new w (.cells #[.string ⟨#[124,124]⟩,.string ⟨#[38,38]⟩,.string ⟨#[60]⟩,.string ⟨#[61,61]⟩,.string ⟨#[43]⟩,.string ⟨#[45]⟩,.string ⟨#[42]⟩,.string ⟨#[37]⟩] 9)))
 have HBL:=vH (show ((w.alloc (.cells #[.string ⟨#[124,124]⟩,.string ⟨#[38,38]⟩,.string ⟨#[60]⟩,.string ⟨#[61,61]⟩,.string ⟨#[43]⟩,.string ⟨#[45]⟩,.string ⟨#[42]⟩,.string ⟨#[37]⟩] 9)).alloc (.cells #[.int .i64 1,.int .i64 2,.int .i64 3,.int .i64 3,.int .i64 4,.int .i64 4,.int .i64 5,.int .i64 5] 3)).heap[w.heap.size + 1]? = some (.cells #[.int .i64 1,.int .i64 2,.int .i64 3,.int .i64 3,.int .i64 4,.int .i64 4,.int .i64 5,.int .i64 5] 3 (0,0)) by have:=heap_alloc_new (w.alloc (.cells #[.string ⟨#[124,124]⟩,.string ⟨#[38,38]⟩,.string ⟨#[60]⟩,.string ⟨#[61,61]⟩,.string ⟨#[43]⟩,.string ⟨#[45]⟩,.string ⟨#[42]⟩,.string ⟨#[37]⟩] 9)) (.cells #[.int .i64 1,.int .i64 2,.int .i64 3,.int .i64 3,.int .i64 4,.int .i64 4,.int .i64 5,.int .i64 5] 3); rw [zB] at this; exact this)
 have HBW:=vH (zCB (o:=.cells #[.int .i64 1,.int .i64 2,.int .i64 3,.int .i64 3,.int .i64 4,.int .i64 4,.int .i64 5,.int .i64 5] 3) (zCB (o:=.cells #[.string ⟨#[124,124]⟩,.string ⟨#[38,38]⟩,.string ⟨#[60]⟩,.string ⟨#[61,61]⟩,.string ⟨#[43]⟩,.string ⟨#[45]⟩,.string ⟨#[42]⟩,.string ⟨#[37]⟩] 9) (Below.refl w.heap.size w)))
 go_in
 go_upto_region 5 with fail
 generalize (w.alloc (.cells #[.string ⟨#[124,124]⟩,.string ⟨#[38,38]⟩,.string ⟨#[60]⟩,.string ⟨#[61,61]⟩,.string ⟨#[43]⟩,.string ⟨#[45]⟩,.string ⟨#[42]⟩,.string ⟨#[37]⟩] 9)).alloc (.cells #[.int .i64 1,.int .i64 2,.int .i64 3,.int .i64 3,.int .i64 4,.int .i64 4,.int .i64 5,.int .i64 5] 3) = W at HA HBL HBW ⊢
 go_region_held3 (fun w' => w'.cell? ⟨w.heap.size,i,none⟩ = some (.string (cbs SI)) ∧ w'.cell? ⟨w.heap.size,j,none⟩ = some (.string (cbs SJ))) (exact ⟨zQQ HA.out HSI.out,zQQ HA.out HSJ.out⟩) (fail)
 go_upto_region 6 with fail
 obtain ⟨W2,hW2⟩:∃ W2,W2 = W.drew:=⟨_,rfl⟩
 rw [← hW2]
 have HA2:=vH (zQL hW2 HA.out)
 have HBL2:=vH (zQL hW2 HBL.out)
 have HBW2:=vH (show Below w.heap.size w W2 by rw [hW2]; exact HBW.out.drew)
 clear HA HBL HBW hW2
 obtain ⟨W,rfl⟩:∃ W,W = W2:=⟨_,rfl⟩
 have HA:=HA2
 have HBL:=HBL2
 have HBW:=HBW2
 clear HA2 HBL2 HBW2
 go_region_held3 (fun w' => w'.cell? ⟨w.heap.size + 1,i,none⟩ = some (.int .i64 (LI:Int)) ∧ w'.cell? ⟨w.heap.size + 1,j,none⟩ = some (.int .i64 (LJ:Int))) (exact ⟨zQQ HBL.out HLI.out,zQQ HBL.out HLJ.out⟩) (fail)
 go_upto_region 8 with fail
 obtain ⟨W2,hW2⟩:∃ W2,W2 = W.drew:=⟨_,rfl⟩
 rw [← hW2]
 have HA2:=vH (zQL hW2 HA.out)
 have HBL2:=vH (zQL hW2 HBL.out)
 have HBW2:=vH (show Below w.heap.size w W2 by rw [hW2]; exact HBW.out.drew)
 clear HA HBL HBW hW2
 obtain ⟨W,rfl⟩:∃ W,W = W2:=⟨_,rfl⟩
 have HA:=HA2
 have HBL:=HBL2
 have HBW:=HBW2
 clear HA2 HBL2 HBW2
 go_region_held3 (fun w' => w'.cell? ⟨w.heap.size,i,none⟩ = some (.string (cbs SI)) ∧ w'.cell? ⟨w.heap.size,j,none⟩ = some (.string (cbs SJ))) (exact ⟨zQQ HA.out HSI.out,zQQ HA.out HSJ.out⟩) (fail)
 go_upto_region 9 with fail
 obtain ⟨W2,hW2⟩:∃ W2,W2 = W.drew:=⟨_,rfl⟩
 rw [← hW2]
 have HA2:=vH (zQL hW2 HA.out)
 have HBL2:=vH (zQL hW2 HBL.out)
 have HBW2:=vH (show Below w.heap.size w W2 by rw [hW2]; exact HBW.out.drew)
 clear HA HBL HBW hW2
 obtain ⟨W,rfl⟩:∃ W,W = W2:=⟨_,rfl⟩
 have HA:=HA2
 have HBL:=HBL2
 have HBW:=HBW2
 clear HA2 HBL2 HBW2
 go_region_held3 (fun w' => w'.cell? ⟨w.heap.size + 1,i,none⟩ = some (.int .i64 (LI:Int)) ∧ w'.cell? ⟨w.heap.size + 1,j,none⟩ = some (.int .i64 (LJ:Int))) (exact ⟨zQQ HBL.out HLI.out,zQQ HBL.out HLJ.out⟩) (fail)
 go_upto_region 10 with fail
 obtain ⟨W2,hW2⟩:∃ W2,W2 = W.drew:=⟨_,rfl⟩
 rw [← hW2]
 have HA2:=vH (zQL hW2 HA.out)
 have HBL2:=vH (zQL hW2 HBL.out)
 have HBW2:=vH (show Below w.heap.size w W2 by rw [hW2]; exact HBW.out.drew)
 clear HA HBL HBW hW2
 obtain ⟨W,rfl⟩:∃ W,W = W2:=⟨_,rfl⟩
 have HA:=HA2
 have HBL:=HBL2
 have HBW:=HBW2
 clear HA2 HBL2 HBW2
 have hz1:=HZ1.out
 have hz2:=HZ2.out
 go_wp2_with fail
 refine (HTK.out _).mono ?_
 rintro e w1 ⟨A,c,rfl,hl1,hb⟩
 have HT:=vH (((zKJ (c:=c) hl1 HSH.out).below ((Below.refl w1.heap.size w1).alloc (Nat.le_refl _) (.cells #[.int .i64 ((0:Nat):Int),.int .i64 ((0:Nat):Int)] 29))).re (Nat.le_refl _))
 have hba:=(Below.refl w1.heap.size w1).alloc (Nat.le_refl _) (.cells #[.int .i64 ((0:Nat):Int),.int .i64 ((0:Nat):Int)] 29)
 have HB1:=vH (zF (zF HBW.out hb HBW.out.size) hba (zF HBW.out hb HBW.out.size).size)
 have HA3:=vH (zQP (zQP HA.out hb) hba)
 clear hl1 hb hba HBL HBW HA hz1 hz2 HTK HZ1 HZ2
 go_wp2_with fail
 refine (HX.out _ _ _ HT.out).mono ?_
 rintro e w2 ⟨ek,en,es,eo,ed,ep,el,ec,ea,eb,er,ee,ef,rfl,hi,hb2⟩
 dsimp only at hi ⊢
 have HB2:=vH (zF HB1.out hb2 HB1.out.size)
 have HI:=vH hi
 have HA4:=vH (zQP HA3.out hb2)
 clear hb2 HX HT hi HA3
 go_upto_region 14 with fail
 obtain ⟨W,hwz⟩:∃ wz,wz = (w2.alloc (.cells #[.int .i64 ek,.int .i64 en,.string (cbs es),.string (cbs eo),.int .i64 ed,.slice ep el ec,.int .i64 ea,.int .i64 eb,.int .i64 er,.int .i64 ee,.int .i64 ef] 45)).alloc (.cells vF 29):=⟨_,rfl⟩
 rw [← hwz]
 have hbz:Below w2.heap.size w2 W:=by rw [hwz]; exact zCB (zCB (Below.refl _ _))
 have HKE:=vH (show W.heap[w2.heap.size]? = some (.cells #[.int .i64 ek,.int .i64 en,.string (cbs es),.string (cbs eo),.int .i64 ed,.slice ep el ec,.int .i64 ea,.int .i64 eb,.int .i64 er,.int .i64 ee,.int .i64 ef] 45 (0,0)) by rw [hwz]; exact zK _ (heap_alloc_new w2 _))
 have HFE:=vH (show W.heap[w2.heap.size + 1]? = some (.cells vF 29 (0,0)) by rw [hwz]; have:=heap_alloc_new (w2.alloc (.cells #[.int .i64 ek,.int .i64 en,.string (cbs es),.string (cbs eo),.int .i64 ed,.slice ep el ec,.int .i64 ea,.int .i64 eb,.int .i64 er,.int .i64 ee,.int .i64 ef] 45)) (.cells vF 29); rw [zB] at this; exact this)
 have HB3:=vH (zF HB2.out hbz HB2.out.size)
 have HIZ:=vH (Is.lower (Nat.zero_le _) _ (HI.out.below hbz))
 have HA:=vH (zQP HA4.out hbz)
 clear hwz hbz HI HA4 cSA1 cSA2 cSA3 cSA4 cSB1 cSB2 cSB3 cSB4
 have cSW1:=HW1.out
 have cSW2:=HW2.out
 have cSW3:=HW3.out
 have cSW4:=HW4.out
 go_region_held3 (fun w' => w'.cell? ⟨w.heap.size,i,none⟩ = some (.string (cbs SI)) ∧ w'.cell? ⟨w.heap.size,j,none⟩ = some (.string (cbs SJ))) (exact ⟨zQQ HA.out HSI.out,zQQ HA.out HSJ.out⟩) (fail)
 go_upto_region 15 with fail
 obtain ⟨W2,hW2⟩:∃ W2,W2 = W.drew:=⟨_,rfl⟩
 rw [← hW2]
 have HKE2:=vH (zQL hW2 HKE.out)
 have HFE2:=vH (zQL hW2 HFE.out)
 have HB32:=vH (show Below w.heap.size w W2 by rw [hW2]; exact HB3.out.drew)
 have HIZ2:=vH (zSW hW2 HIZ.out)
 clear HKE HFE HB3 HIZ hW2
 obtain ⟨W,rfl⟩:∃ W,W = W2:=⟨_,rfl⟩
 have HKE:=HKE2
 have HFE:=HFE2
 have HB3:=HB32
 have HIZ:=HIZ2
 clear HKE2 HFE2 HB32 HIZ2
 obtain ⟨⟨f0,f1⟩,-⟩:=duo HFE.out
 obtain ⟨⟨x0,x1,x2,x3,x4,x5,x6,x7,x8,x9,xX⟩,-⟩:=hen HKE.out
 go_wp2_with fail
 have hxp:=zQZ HS1.out HIZ.out (HE.out.below HB3.out) (by have:=HL1.out; omega)
 rw [HPR.out] at hxp
 refine hxp.mono ?_
 rintro e w3 ⟨rfl,hb⟩
 have HB4:=vH (zF HB3.out hb HB3.out.size)
 clear hb hxp f0 f1 x0 x1 x2 x3 x4 x5 x6 x7 x8 x9 xX
 go_wp2_with fail
 refine (zQM w3 (HE.out.below HB4.out)).mono ?_
 rintro e w4 ⟨rfl,hb⟩
 have HB5:=vH (zF HB4.out hb HB4.out.size)
 clear hb
 go_wp2_with fail
 go_ret
 exact ⟨rfl,HB5.out⟩
set_option maxHeartbeats 16000000 in
theorem zTj (w:World)(he:EnvS w)(i j:Nat)(hi:i < 8)(hj:j < 8)(hpl:pnP i j false = false) :
 Calls Tryd.prog 6 #[.int .i64 (i:Int),.int .i64 (j:Int),.bool false] w fun e w' => e = .returned (.bool true) ∧ Below w.heap.size w w':=by
 obtain ⟨us,e1,k1,ht,hx,hpr⟩:=zQ9 hi hj false
 obtain ⟨x2,hx2,hf,-,hrest⟩:=zQU ht
 rw [hx] at hx2
 obtain rfl:=Option.some.inj hx2
 obtain ⟨hs1,hl1,-⟩:=hrest rfl
 dsimp only at hs1 hl1
 have hpw:pnW i j false = [97,32] ++ (pnS i ++ ([32,40,98,32] ++ (pnS j ++ [32,99,41]))):=by unfold pnW; rw [hpl]; rfl
 have htx:pnT i j false = [97,32] ++ (pnS i ++ ([32,40,98,32] ++ (pnS j ++ [32,99,41]))):=rfl
 rw [hpw] at hpr
 rw [htx] at ht
 have hpl2:decide (pnL i < pnL j) = false:=hpl
 have hsi:=zRx i hi
 have hsj:=zRx j hj
 have hli:=zRy i hi
 have hlj:=zRy j hj
 have hni:=zQ8 i hi
 have hnj:=zQ8 j hj
 have hlen:us.length ≤ 6001:=by have:=Ln.Lx.toks_len ([40,40] ++ (([97,32] ++ (pnS i ++ ([32,40,98,32] ++ (pnS j ++ [32,99,41])))) ++ [41,41])); rw [ht] at this; exact this
 have hsh:∀ t ∈ us,t.text.length ≤ 281474976710656:=by have:=zGU ([40,40] ++ (([97,32] ++ (pnS i ++ ([32,40,98,32] ++ (pnS j ++ [32,99,41])))) ++ [41,41])); rw [ht] at this; exact this
 clear hpl hpw htx hx2 hrest
 generalize pnS i = SI at ht hpr hsi hni hsh hlen
 generalize pnS j = SJ at ht hpr hsj hnj hsh hlen
 generalize pnL i = LI at hpl2 hli
 generalize pnL j = LJ at hpl2 hlj
 obtain ⟨SA1,hSA1⟩:∃ C:List UInt8,C = [40,97,32] ++ SI:=⟨_,rfl⟩
 have lSA1:SA1.length = 3 + SI.length:=by rw [hSA1,List.length_append] <;> rfl
 have cSA1:∀ w':World,(Op.stringOp .add (⟨#[40,97,32]⟩:ByteArray) (cbs SI)).run Tryd.prog w' = .ok (.string (cbs SA1)) w':=by
  rw [hSA1]
  exact zQK [40,97,32] SI (by show [40,97,32].length + SI.length ≤ _; have : [40,97,32].length = 3:=rfl; omega)
 obtain ⟨SA2,hSA2⟩:∃ C:List UInt8,C = SA1 ++ [32,98,41,32]:=⟨_,rfl⟩
 have lSA2:SA2.length = SA1.length + 4:=by rw [hSA2,List.length_append] <;> rfl
 have cSA2:∀ w':World,(Op.stringOp .add (cbs SA1) (⟨#[32,98,41,32]⟩:ByteArray)).run Tryd.prog w' = .ok (.string (cbs SA2)) w':=by
  rw [hSA2]
  exact zQK SA1 [32,98,41,32] (by show SA1.length + 4 ≤ _; omega)
 obtain ⟨SA3,hSA3⟩:∃ C:List UInt8,C = SA2 ++ SJ:=⟨_,rfl⟩
 have lSA3:SA3.length = SA2.length + SJ.length:=by rw [hSA3,List.length_append] <;> rfl
 have cSA3:∀ w':World,(Op.stringOp .add (cbs SA2) (cbs SJ)).run Tryd.prog w' = .ok (.string (cbs SA3)) w':=by
  rw [hSA3]
  exact zQK SA2 SJ (by show SA2.length + SJ.length ≤ _; omega)
 obtain ⟨SA4,hSA4⟩:∃ C:List UInt8,C = SA3 ++ [32,99]:=⟨_,rfl⟩
 have lSA4:SA4.length = SA3.length + 2:=by rw [hSA4,List.length_append] <;> rfl
 have cSA4:∀ w':World,(Op.stringOp .add (cbs SA3) (⟨#[32,99]⟩:ByteArray)).run Tryd.prog w' = .ok (.string (cbs SA4)) w':=by
  rw [hSA4]
  exact zQK SA3 [32,99] (by show SA3.length + 2 ≤ _; omega)
 have eSA:SA4 = [40,97,32] ++ (SI ++ ([32,98,41,32] ++ (SJ ++ [32,99]))):=by rw [hSA4,hSA3,hSA2,hSA1]; simp only [List.append_assoc]
 clear hSA4 hSA3 hSA2 hSA1
 obtain ⟨SB1,hSB1⟩:∃ C:List UInt8,C = [97,32] ++ SI:=⟨_,rfl⟩
 have lSB1:SB1.length = 2 + SI.length:=by rw [hSB1,List.length_append] <;> rfl
 have cSB1:∀ w':World,(Op.stringOp .add (⟨#[97,32]⟩:ByteArray) (cbs SI)).run Tryd.prog w' = .ok (.string (cbs SB1)) w':=by
  rw [hSB1]
  exact zQK [97,32] SI (by show [97,32].length + SI.length ≤ _; have : [97,32].length = 2:=rfl; omega)
 obtain ⟨SB2,hSB2⟩:∃ C:List UInt8,C = SB1 ++ [32,40,98,32]:=⟨_,rfl⟩
 have lSB2:SB2.length = SB1.length + 4:=by rw [hSB2,List.length_append] <;> rfl
 have cSB2:∀ w':World,(Op.stringOp .add (cbs SB1) (⟨#[32,40,98,32]⟩:ByteArray)).run Tryd.prog w' = .ok (.string (cbs SB2)) w':=by
  rw [hSB2]
  exact zQK SB1 [32,40,98,32] (by show SB1.length + 4 ≤ _; omega)
 obtain ⟨SB3,hSB3⟩:∃ C:List UInt8,C = SB2 ++ SJ:=⟨_,rfl⟩
 have lSB3:SB3.length = SB2.length + SJ.length:=by rw [hSB3,List.length_append] <;> rfl
 have cSB3:∀ w':World,(Op.stringOp .add (cbs SB2) (cbs SJ)).run Tryd.prog w' = .ok (.string (cbs SB3)) w':=by
  rw [hSB3]
  exact zQK SB2 SJ (by show SB2.length + SJ.length ≤ _; omega)
 obtain ⟨SB4,hSB4⟩:∃ C:List UInt8,C = SB3 ++ [32,99,41]:=⟨_,rfl⟩
 have lSB4:SB4.length = SB3.length + 3:=by rw [hSB4,List.length_append] <;> rfl
 have cSB4:∀ w':World,(Op.stringOp .add (cbs SB3) (⟨#[32,99,41]⟩:ByteArray)).run Tryd.prog w' = .ok (.string (cbs SB4)) w':=by
  rw [hSB4]
  exact zQK SB3 [32,99,41] (by show SB3.length + 3 ≤ _; omega)
 have eSB:SB4 = [97,32] ++ (SI ++ ([32,40,98,32] ++ (SJ ++ [32,99,41]))):=by rw [hSB4,hSB3,hSB2,hSB1]; simp only [List.append_assoc]
 clear hSB4 hSB3 hSB2 hSB1
 have hpr2:prE e1 = SB4:=hpr.trans eSB.symm
 have hz1:(⟨#[40,40]⟩:ByteArray).size + (cbs SB4).size ≤ 9223372036854775807:=by rw [zN5]; show 2 + SB4.length ≤ _; omega
 have hz2:((⟨#[40,40]⟩:ByteArray) ++ cbs SB4).size + (⟨#[41,41]⟩:ByteArray).size ≤ 9223372036854775807:=by rw [ByteArray.size_append,zN5]; show 2 + SB4.length + 2 ≤ _; omega
 have hcat:(⟨#[40,40]⟩:ByteArray) ++ cbs SB4 ++ ⟨#[41,41]⟩ = cbs ([40,40] ++ (SB4 ++ [41,41])):=by
  show cbs [40,40] ++ cbs SB4 ++ cbs [41,41] = _
  rw [zQR,zQR,List.append_assoc]
 rw [← eSB] at ht
 have htk:=fun w1 => zQk (cbs ([40,40] ++ (SB4 ++ [41,41]))) (by rw [zN5]; refine Nat.le_trans (m:=100) ?_ (by decide); simp only [List.length_append,List.length_cons,List.length_nil]; omega) us 0 0 ht w1
 rw [← hcat] at htk
 have HTK:=vH htk
 have HX:=vH (fun (w1:World) (R:Nat) (S:Value) (h:Toks w1 R S (us.map toRT)) => zQl w1 R S (us.map toRT) 0 0 h _ hf _ hx)
 have HPR:=vH hpr2
 have HS1:=vH hs1
 have HL1:=vH hl1
 have HSH:=vH hsh
 have HE:=vH he
 have HSI:=vH hsi
 have HSJ:=vH hsj
 have HLI:=vH hli
 have HLJ:=vH hlj
 have HZ1:=vH hz1
 have HZ2:=vH hz2
 have hg1:decide ((i:Int) < 0) = false:=decide_eq_false (by omega)
 have hg2:decide ((8:Int) ≤ (i:Int)) = false:=decide_eq_false (by omega)
 have hg3:decide ((j:Int) < 0) = false:=decide_eq_false (by omega)
 have hg4:decide ((8:Int) ≤ (j:Int)) = false:=decide_eq_false (by omega)
 have hg5:decide (8 ≤ i) = false:=decide_eq_false (by omega)
 have hg6:decide (8 ≤ j) = false:=decide_eq_false (by omega)
 have hb1:(0:Int) ≤ (i:Int):=by omega
 have hb2:(0:Int) ≤ (j:Int):=by omega
 have hb3:(i:Int) < 8:=by omega
 have hb4:(j:Int) < 8:=by omega
 clear hz1 hz2 hcat htk ht hx hf hpr hpr2 hs1 hl1 hsh hlen he hsi hsj hli hlj hni hnj hi hj lSA1 lSA2 lSA3 lSA4 eSA lSB1 lSB2 lSB3 lSB4 eSB
 have HA:=vH (zK (.cells #[.int .i64 1,.int .i64 2,.int .i64 3,.int .i64 3,.int .i64 4,.int .i64 4,.int .i64 5,.int .i64 5] 3) (heap_alloc_new w (.cells #[.string ⟨#[124,124]⟩,.string ⟨#[38,38]⟩,.string ⟨#[60]⟩,.string ⟨#[61,61]⟩,.string ⟨#[43]⟩,.string ⟨#[45]⟩,.string ⟨#[42]⟩,.string ⟨#[37]⟩] 9)))
 have HBL:=vH (show ((w.alloc (.cells #[.string ⟨#[124,124]⟩,.string ⟨#[38,38]⟩,.string ⟨#[60]⟩,.string ⟨#[61,61]⟩,.string ⟨#[43]⟩,.string ⟨#[45]⟩,.string ⟨#[42]⟩,.string ⟨#[37]⟩] 9)).alloc (.cells #[.int .i64 1,.int .i64 2,.int .i64 3,.int .i64 3,.int .i64 4,.int .i64 4,.int .i64 5,.int .i64 5] 3)).heap[w.heap.size + 1]? = some (.cells #[.int .i64 1,.int .i64 2,.int .i64 3,.int .i64 3,.int .i64 4,.int .i64 4,.int .i64 5,.int .i64 5] 3 (0,0)) by have:=heap_alloc_new (w.alloc (.cells #[.string ⟨#[124,124]⟩,.string ⟨#[38,38]⟩,.string ⟨#[60]⟩,.string ⟨#[61,61]⟩,.string ⟨#[43]⟩,.string ⟨#[45]⟩,.string ⟨#[42]⟩,.string ⟨#[37]⟩] 9)) (.cells #[.int .i64 1,.int .i64 2,.int .i64 3,.int .i64 3,.int .i64 4,.int .i64 4,.int .i64 5,.int .i64 5] 3); rw [zB] at this; exact this)
 have HBW:=vH (zCB (o:=.cells #[.int .i64 1,.int .i64 2,.int .i64 3,.int .i64 3,.int .i64 4,.int .i64 4,.int .i64 5,.int .i64 5] 3) (zCB (o:=.cells #[.string ⟨#[124,124]⟩,.string ⟨#[38,38]⟩,.string ⟨#[60]⟩,.string ⟨#[61,61]⟩,.string ⟨#[43]⟩,.string ⟨#[45]⟩,.string ⟨#[42]⟩,.string ⟨#[37]⟩] 9) (Below.refl w.heap.size w)))
 go_in
 go_upto_region 5 with fail
 generalize (w.alloc (.cells #[.string ⟨#[124,124]⟩,.string ⟨#[38,38]⟩,.string ⟨#[60]⟩,.string ⟨#[61,61]⟩,.string ⟨#[43]⟩,.string ⟨#[45]⟩,.string ⟨#[42]⟩,.string ⟨#[37]⟩] 9)).alloc (.cells #[.int .i64 1,.int .i64 2,.int .i64 3,.int .i64 3,.int .i64 4,.int .i64 4,.int .i64 5,.int .i64 5] 3) = W at HA HBL HBW ⊢
 go_region_held3 (fun w' => w'.cell? ⟨w.heap.size,i,none⟩ = some (.string (cbs SI)) ∧ w'.cell? ⟨w.heap.size,j,none⟩ = some (.string (cbs SJ))) (exact ⟨zQQ HA.out HSI.out,zQQ HA.out HSJ.out⟩) (fail)
 go_upto_region 6 with fail
 obtain ⟨W2,hW2⟩:∃ W2,W2 = W.drew:=⟨_,rfl⟩
 rw [← hW2]
 have HA2:=vH (zQL hW2 HA.out)
 have HBL2:=vH (zQL hW2 HBL.out)
 have HBW2:=vH (show Below w.heap.size w W2 by rw [hW2]; exact HBW.out.drew)
 clear HA HBL HBW hW2
 obtain ⟨W,rfl⟩:∃ W,W = W2:=⟨_,rfl⟩
 have HA:=HA2
 have HBL:=HBL2
 have HBW:=HBW2
 clear HA2 HBL2 HBW2
 go_region_held3 (fun w' => w'.cell? ⟨w.heap.size + 1,i,none⟩ = some (.int .i64 (LI:Int)) ∧ w'.cell? ⟨w.heap.size + 1,j,none⟩ = some (.int .i64 (LJ:Int))) (exact ⟨zQQ HBL.out HLI.out,zQQ HBL.out HLJ.out⟩) (fail)
 go_upto_region 8 with fail
 obtain ⟨W2,hW2⟩:∃ W2,W2 = W.drew:=⟨_,rfl⟩
 rw [← hW2]
 have HA2:=vH (zQL hW2 HA.out)
 have HBL2:=vH (zQL hW2 HBL.out)
 have HBW2:=vH (show Below w.heap.size w W2 by rw [hW2]; exact HBW.out.drew)
 clear HA HBL HBW hW2
 obtain ⟨W,rfl⟩:∃ W,W = W2:=⟨_,rfl⟩
 have HA:=HA2
 have HBL:=HBL2
 have HBW:=HBW2
 clear HA2 HBL2 HBW2
 go_region_held3 (fun w' => w'.cell? ⟨w.heap.size,i,none⟩ = some (.string (cbs SI)) ∧ w'.cell? ⟨w.heap.size,j,none⟩ = some (.string (cbs SJ))) (exact ⟨zQQ HA.out HSI.out,zQQ HA.out HSJ.out⟩) (fail)
 go_upto_region 9 with fail
 obtain ⟨W2,hW2⟩:∃ W2,W2 = W.drew:=⟨_,rfl⟩
 rw [← hW2]
 have HA2:=vH (zQL hW2 HA.out)
 have HBL2:=vH (zQL hW2 HBL.out)
 have HBW2:=vH (show Below w.heap.size w W2 by rw [hW2]; exact HBW.out.drew)
 clear HA HBL HBW hW2
 obtain ⟨W,rfl⟩:∃ W,W = W2:=⟨_,rfl⟩
 have HA:=HA2
 have HBL:=HBL2
 have HBW:=HBW2
 clear HA2 HBL2 HBW2
 go_region_held3 (fun w' => w'.cell? ⟨w.heap.size + 1,i,none⟩ = some (.int .i64 (LI:Int)) ∧ w'.cell? ⟨w.heap.size + 1,j,none⟩ = some (.int .i64 (LJ:Int))) (exact ⟨zQQ HBL.out HLI.out,zQQ HBL.out HLJ.out⟩) (fail)
 go_upto_region 10 with fail
 obtain ⟨W2,hW2⟩:∃ W2,W2 = W.drew:=⟨_,rfl⟩
 rw [← hW2]
 have HA2:=vH (zQL hW2 HA.out)
 have HBL2:=vH (zQL hW2 HBL.out)
 have HBW2:=vH (show Below w.heap.size w W2 by rw [hW2]; exact HBW.out.drew)
 clear HA HBL HBW hW2
 obtain ⟨W,rfl⟩:∃ W,W = W2:=⟨_,rfl⟩
 have HA:=HA2
 have HBL:=HBL2
 have HBW:=HBW2
 clear HA2 HBL2 HBW2
 have hz1:=HZ1.out
 have hz2:=HZ2.out
 go_wp2_with fail
 refine (HTK.out _).mono ?_
 rintro e w1 ⟨A,c,rfl,hl1,hb⟩
 have HT:=vH (((zKJ (c:=c) hl1 HSH.out).below ((Below.refl w1.heap.size w1).alloc (Nat.le_refl _) (.cells #[.int .i64 ((0:Nat):Int),.int .i64 ((0:Nat):Int)] 29))).re (Nat.le_refl _))
 have hba:=(Below.refl w1.heap.size w1).alloc (Nat.le_refl _) (.cells #[.int .i64 ((0:Nat):Int),.int .i64 ((0:Nat):Int)] 29)
 have HB1:=vH (zF (zF HBW.out hb HBW.out.size) hba (zF HBW.out hb HBW.out.size).size)
 have HA3:=vH (zQP (zQP HA.out hb) hba)
 clear hl1 hb hba HBL HBW HA hz1 hz2 HTK HZ1 HZ2
 go_wp2_with fail
 refine (HX.out _ _ _ HT.out).mono ?_
 rintro e w2 ⟨ek,en,es,eo,ed,ep,el,ec,ea,eb,er,ee,ef,rfl,hi,hb2⟩
 dsimp only at hi ⊢
 have HB2:=vH (zF HB1.out hb2 HB1.out.size)
 have HI:=vH hi
 have HA4:=vH (zQP HA3.out hb2)
 clear hb2 HX HT hi HA3
 go_upto_region 15 with fail
 obtain ⟨W,hwz⟩:∃ wz,wz = (w2.alloc (.cells #[.int .i64 ek,.int .i64 en,.string (cbs es),.string (cbs eo),.int .i64 ed,.slice ep el ec,.int .i64 ea,.int .i64 eb,.int .i64 er,.int .i64 ee,.int .i64 ef] 45)).alloc (.cells vF 29):=⟨_,rfl⟩
 rw [← hwz]
 have hbz:Below w2.heap.size w2 W:=by rw [hwz]; exact zCB (zCB (Below.refl _ _))
 have HKE:=vH (show W.heap[w2.heap.size]? = some (.cells #[.int .i64 ek,.int .i64 en,.string (cbs es),.string (cbs eo),.int .i64 ed,.slice ep el ec,.int .i64 ea,.int .i64 eb,.int .i64 er,.int .i64 ee,.int .i64 ef] 45 (0,0)) by rw [hwz]; exact zK _ (heap_alloc_new w2 _))
 have HFE:=vH (show W.heap[w2.heap.size + 1]? = some (.cells vF 29 (0,0)) by rw [hwz]; have:=heap_alloc_new (w2.alloc (.cells #[.int .i64 ek,.int .i64 en,.string (cbs es),.string (cbs eo),.int .i64 ed,.slice ep el ec,.int .i64 ea,.int .i64 eb,.int .i64 er,.int .i64 ee,.int .i64 ef] 45)) (.cells vF 29); rw [zB] at this; exact this)
 have HB3:=vH (zF HB2.out hbz HB2.out.size)
 have HIZ:=vH (Is.lower (Nat.zero_le _) _ (HI.out.below hbz))
 have HA:=vH (zQP HA4.out hbz)
 clear hwz hbz HI HA4
 obtain ⟨⟨f0,f1⟩,-⟩:=duo HFE.out
 obtain ⟨⟨x0,x1,x2,x3,x4,x5,x6,x7,x8,x9,xX⟩,-⟩:=hen HKE.out
 go_wp2_with fail
 have hxp:=zQZ HS1.out HIZ.out (HE.out.below HB3.out) (by have:=HL1.out; omega)
 rw [HPR.out] at hxp
 refine hxp.mono ?_
 rintro e w3 ⟨rfl,hb⟩
 have HB4:=vH (zF HB3.out hb HB3.out.size)
 clear hb hxp f0 f1 x0 x1 x2 x3 x4 x5 x6 x7 x8 x9 xX
 go_wp2_with fail
 refine (zQM w3 (HE.out.below HB4.out)).mono ?_
 rintro e w4 ⟨rfl,hb⟩
 have HB5:=vH (zF HB4.out hb HB4.out.size)
 clear hb
 go_wp2_with fail
 go_ret
 exact ⟨rfl,HB5.out⟩
set_option maxHeartbeats 16000000 in
theorem zTn (w:World)(i j:Int)(left:Bool)(h:i < 0) :
 Calls Tryd.prog 6 #[.int .i64 i,.int .i64 j,.bool left] w fun e w' => e = .returned (.bool true) ∧ Below w.heap.size w w':=by
 have HBW:=vH (zCB (o:=.cells #[.int .i64 1,.int .i64 2,.int .i64 3,.int .i64 3,.int .i64 4,.int .i64 4,.int .i64 5,.int .i64 5] 3) (zCB (o:=.cells #[.string ⟨#[124,124]⟩,.string ⟨#[38,38]⟩,.string ⟨#[60]⟩,.string ⟨#[61,61]⟩,.string ⟨#[43]⟩,.string ⟨#[45]⟩,.string ⟨#[42]⟩,.string ⟨#[37]⟩] 9) (Below.refl w.heap.size w)))
 have g1:decide (i < 0) = true:=decide_eq_true (by omega)
 go_in
 go_wp2_with fail
 go_ret
 exact ⟨rfl,HBW.out⟩
set_option maxHeartbeats 16000000 in
theorem zTm (w:World)(i j:Int)(left:Bool)(h : 8 ≤ i) :
 Calls Tryd.prog 6 #[.int .i64 i,.int .i64 j,.bool left] w fun e w' => e = .returned (.bool true) ∧ Below w.heap.size w w':=by
 have HBW:=vH (zCB (o:=.cells #[.int .i64 1,.int .i64 2,.int .i64 3,.int .i64 3,.int .i64 4,.int .i64 4,.int .i64 5,.int .i64 5] 3) (zCB (o:=.cells #[.string ⟨#[124,124]⟩,.string ⟨#[38,38]⟩,.string ⟨#[60]⟩,.string ⟨#[61,61]⟩,.string ⟨#[43]⟩,.string ⟨#[45]⟩,.string ⟨#[42]⟩,.string ⟨#[37]⟩] 9) (Below.refl w.heap.size w)))
 have g1:decide (i < 0) = false:=decide_eq_false (by omega)
 have g2:decide (8 ≤ i) = true:=decide_eq_true (by omega)
 go_in
 go_wp2_with fail
 go_ret
 exact ⟨rfl,HBW.out⟩
set_option maxHeartbeats 16000000 in
theorem zTl (w:World)(i j:Int)(left:Bool)(h1:¬ i < 0)(h2:¬ 8 ≤ i)(h:j < 0) :
 Calls Tryd.prog 6 #[.int .i64 i,.int .i64 j,.bool left] w fun e w' => e = .returned (.bool true) ∧ Below w.heap.size w w':=by
 have HBW:=vH (zCB (o:=.cells #[.int .i64 1,.int .i64 2,.int .i64 3,.int .i64 3,.int .i64 4,.int .i64 4,.int .i64 5,.int .i64 5] 3) (zCB (o:=.cells #[.string ⟨#[124,124]⟩,.string ⟨#[38,38]⟩,.string ⟨#[60]⟩,.string ⟨#[61,61]⟩,.string ⟨#[43]⟩,.string ⟨#[45]⟩,.string ⟨#[42]⟩,.string ⟨#[37]⟩] 9) (Below.refl w.heap.size w)))
 have g1:decide (i < 0) = false:=decide_eq_false (by omega)
 have g2:decide (8 ≤ i) = false:=decide_eq_false (by omega)
 have g3:decide (j < 0) = true:=decide_eq_true (by omega)
 go_in
 go_wp2_with fail
 go_ret
 exact ⟨rfl,HBW.out⟩
set_option maxHeartbeats 16000000 in
theorem zTk (w:World)(i j:Int)(left:Bool)(h1:¬ i < 0)(h2:¬ 8 ≤ i)(h : 8 ≤ j) :
 Calls Tryd.prog 6 #[.int .i64 i,.int .i64 j,.bool left] w fun e w' => e = .returned (.bool true) ∧ Below w.heap.size w w':=by
 have HBW:=vH (zCB (o:=.cells #[.int .i64 1,.int .i64 2,.int .i64 3,.int .i64 3,.int .i64 4,.int .i64 4,.int .i64 5,.int .i64 5] 3) (zCB (o:=.cells #[.string ⟨#[124,124]⟩,.string ⟨#[38,38]⟩,.string ⟨#[60]⟩,.string ⟨#[61,61]⟩,.string ⟨#[43]⟩,.string ⟨#[45]⟩,.string ⟨#[42]⟩,.string ⟨#[37]⟩] 9) (Below.refl w.heap.size w)))
 have g1:decide (i < 0) = false:=decide_eq_false (by omega)
 have g2:decide (8 ≤ i) = false:=decide_eq_false (by omega)
 have g3:decide (j < 0) = false:=decide_eq_false (by omega)
 have g4:decide (8 ≤ j) = true:=decide_eq_true (by omega)
 go_in
 go_wp2_with fail
 go_ret
 exact ⟨rfl,HBW.out⟩
theorem showParens_walk (i j:Int)(left:Bool)(_ : -9223372036854775808 ≤ i ∧ i ≤ 9223372036854775807)(_ : -9223372036854775808 ≤ j ∧ j ≤ 9223372036854775807)(w:World)(he:EnvS w) :
 Calls Tryd.prog 6 #[.int .i64 i,.int .i64 j,.bool left] w fun e w' => e = .returned (.bool true) ∧ Below w.heap.size w w':=by
 by_cases h1:i < 0
 ·exact zTn w i j left h1
 by_cases h2 : 8 ≤ i
 ·exact zTm w i j left h2
 by_cases h3:j < 0
 ·exact zTl w i j left h1 h2 h3
 by_cases h4 : 8 ≤ j
 ·exact zTk w i j left h1 h2 h4
 obtain ⟨a,rfl⟩:=Int.eq_ofNat_of_zero_le (Int.not_lt.1 h1)
 obtain ⟨b,rfl⟩:=Int.eq_ofNat_of_zero_le (Int.not_lt.1 h3)
 cases left with
 | true =>
   cases hp:pnP a b true with
   | true => exact zTo w he a b (by omega) (by omega) hp
   | false => exact zTp w he a b (by omega) (by omega) hp
 | false =>
   cases hp:pnP a b false with
   | true => exact zTi w he a b (by omega) (by omega) hp
   | false => exact zTj w he a b (by omega) (by omega) hp
end Go.Proofs.YtmiiplefgkcklaaDoor
