/- The given printer: statements, the whole; a name with its ty -/
import Derived.Test.YteadgahhchlgeaaDoorK02
import Derived.Test.YteadgahhchlgeaaDoorK46
import Derived.Test.YteadgahhchlgeaaDoorK44
set_option maxRecDepth 8000
set_option maxHeartbeats 8000000
namespace Go.Proofs.YteadgahhchlgeaaDoor
open Go.RowKit
open Pe (Ex)
open Ps (Sm kindOf)
open Pg (Pm Rc Fc Gm)
open Rt (tyB pad prB pmB paB fdB rcB glB fcB blT prG PmOk RcOk shB shS shF shG zBW)
theorem rnil {d:Nat}(h:d ≤ 60):RBs [] d:=zDt [] d 0 h zBW (by intro k nm ot dm es b l a r hm; cases hm)
theorem zLg:∀ (m:Nat)(xs:List Sm),SizeOf.sizeOf xs ≤ m → ∀ (d n:Nat),shB xs n → d + n ≤ 50 → RBs xs d:=by
 intro m
 induction m with
 | zero => intro xs h; cases xs <;> simp at h
 | succ m ih =>
   intro xs hs d n hsh hdn
   refine zDt xs d n (by omega) hsh fun k nm ot dm es b l a r hm => ?_
   have h1:=zCr hsh hm
   rw [shS] at h1
   obtain ⟨-,-,hb1,hl1,hsb,hsl⟩:=h1
   have h2:=List.sizeOf_lt_of_mem hm
   simp only [Sm.mk.sizeOf_spec] at h2
   refine ⟨?_,?_⟩
   ·rcases hb1 with rfl | h
    ·exact rnil (by omega)
    ·exact ih b (by omega) (d + 1) (n - 1) hsb (by omega)
   ·rcases hl1 with rfl | h
    ·exact rnil (by omega)
    ·exact ih l (by omega) (d + 1) (n - 1) hsl (by omega)
theorem zEi {xs:List Sm}{d n:Nat}(hsh:shB xs n)(h:d + n ≤ 50):RBs xs d:=zLg _ xs (Nat.le_refl _) d n hsh h
theorem zGp (w:World)(s o:List UInt8)(D:Nat)(a:Int)(hD:D ≤ 3)(hs:s.length ≤ 70368744177664)(ho:o.length ≤ 70368744177664)
 (hT:∀ w1,Calls Tryd.prog 27 #[.agg #[.string (cbs o),.int .i64 (D:Int)]] w1 fun e w' => e = .returned (.string (cbs (tyB o D))) ∧ Below w1.heap.size w1 w') :
 Calls Tryd.prog 26 #[.agg #[.string (cbs s),.string (cbs o),.int .i64 (D:Int),.int .i64 a]] w fun e w' => e = .returned (.string (cbs (s ++ 58 :: 32 :: tyB o D))) ∧ Below w.heap.size w w':=by
 have X:=vH (Bxp.start w 78 #[.string (cbs s),.string (cbs o),.int .i64 (D:Int),.int .i64 a])
 have HT:=vH hT
 have hty:=zAg o D
 obtain ⟨C1,hC1⟩:∃ C:List UInt8,C = s ++ [58,32]:=⟨_,rfl⟩
 have hl1:C1.length = s.length + 2:=by rw [hC1,List.length_append]; rfl
 have hc1:∀ w':World,(Op.stringOp .add (cbs s) ⟨#[58,32]⟩).run Tryd.prog w' = .ok (.string (cbs C1)) w':=by
  rw [hC1]
  exact zL s [58,32] (by show s.length + 2 ≤ _; omega)
 obtain ⟨C2,hC2⟩:∃ C:List UInt8,C = C1 ++ tyB o D:=⟨_,rfl⟩
 have hc2:∀ w':World,(Op.stringOp .add (cbs C1) (cbs (tyB o D))).run Tryd.prog w' = .ok (.string (cbs C2)) w':=by
  rw [hC2]
  exact zL C1 (tyB o D) (by rw [hty]; omega)
 generalize tyB o D = TY at HT hC2 hc2 ⊢
 have HC1:=vH hC1
 have HC2:=vH hC2
 clear hT hty hD hs ho hl1 hC2 hC1
 go_in
 go_wp2_with fail
 generalize w.alloc (.cells #[.string (cbs s),.string (cbs o),.int .i64 (D:Int),.int .i64 a] 78) = W at X ⊢
 replace X:=vH X.out.drew
 go_region_held3 (fun w' => w'.cell? ⟨w.heap.size,0,none⟩ = some (.string (cbs s)) ∧ w'.cell? ⟨w.heap.size,1,none⟩ = some (.string (cbs o)) ∧ w'.cell? ⟨w.heap.size,2,none⟩ = some (.int .i64 (D:Int))) (first | exact zKv X.out.h)
  (first
  | (go_at_call 27; (with_reducible refine Calls.mono (HT.out _) ?_); rintro e u ⟨rfl,hb⟩; have X2:=vH (X.out.go hb); have X:=X2))
 all_goals
  go_wp2_with fail
  go_ret
  exact ⟨zBV (congrArg cbs (by rw [HC2.out,HC1.out]; simp)),X.out.b⟩
theorem zCd (w:World)(x:Pm)(hx:PmOk x)(hl:(pmB x).length ≤ 1000000000000) :
 Calls Tryd.prog 26 #[.agg #[.string (cbs x.name),.string (cbs x.ofn),.int .i64 x.dims,.int .i64 x.at_]] w fun e w' => e = .returned (.string (cbs (pmB x))) ∧ Below w.heap.size w w':=by
 obtain ⟨nm,o,dm,a⟩:=x
 obtain ⟨h0,h3⟩:=hx
 dsimp only at h0 h3 ⊢
 obtain ⟨D,rfl⟩:=Int.eq_ofNat_of_zero_le h0
 have h1:(pmB ⟨nm,o,(D:Int),a⟩) = nm ++ 58 :: 32 :: tyB o D:=rfl
 rw [h1] at hl ⊢
 simp only [List.length_append,List.length_cons,zAg] at hl
 exact zGp w nm o D a (by omega) (by omega) (by omega) fun w1 => zBv o D w1 (by omega) (by omega)
theorem zBX {w1:World}{B:Nat}{T:TypeId}{c0 c1 c2 c3 c4 c5 c6:Value}(h:w1.heap[B]? = some (.cells #[c0,c1,c2,c3,c4,c5,c6] T (0,0))) :
 w1.cell? ⟨B,0,none⟩ = some c0 ∧ w1.cell? ⟨B,1,none⟩ = some c1 ∧ w1.cell? ⟨B,2,none⟩ = some c2 ∧ w1.cell? ⟨B,3,none⟩ = some c3 ∧ w1.cell? ⟨B,4,none⟩ = some c4 ∧ w1.cell? ⟨B,5,none⟩ = some c5 ∧ w1.cell? ⟨B,6,none⟩ = some c6:=
 ⟨by rw [cell_of_row _ _ _ _ _ _ h]; rfl,by rw [cell_of_row _ _ _ _ _ _ h]; rfl,by rw [cell_of_row _ _ _ _ _ _ h]; rfl,by rw [cell_of_row _ _ _ _ _ _ h]; rfl,by rw [cell_of_row _ _ _ _ _ _ h]; rfl,by rw [cell_of_row _ _ _ _ _ _ h]; rfl,by rw [cell_of_row _ _ _ _ _ _ h]; rfl⟩
theorem rkN {m k n:Nat}(h:m + 1 + k = n):m + (k + 1) = n:=by omega
def pmR:List Pm → List UInt8
 | [] => []
 | x :: l => 44 :: 32 :: (pmB x ++ pmR l)
theorem zJZ:∀ (x:Pm)(l:List Pm),paB (x :: l) = pmB x ++ pmR l
 | x,[] => by rw [paB,pmR,List.append_nil]
 | x,y :: l => by rw [paB,zJZ y l,pmR]
                  all_goals simp
def restP (ps:List Pm)(k:Nat):List UInt8:=if k = 0 then paB ps else pmR (ps.drop k)
theorem zJt (ps:List Pm):restP ps ps.length = []:=by
 unfold restP
 split
 ·rename_i h
  rw [List.eq_nil_of_length_eq_zero h,paB]
 ·rw [List.drop_of_length_le (Nat.le_refl _),pmR]
theorem zIb {x:Pm}{ps:List Pm}(h:ps.drop 0 = x :: ps.drop 1):restP ps 0 = pmB x ++ restP ps 1:=by
 have h1:ps = x :: ps.drop 1:=h
 show paB ps = pmB x ++ pmR (ps.drop 1)
 rw [← zJZ,← h1]
theorem zIc {x:Pm}{ps:List Pm}{k:Nat}(h0:k ≠ 0)(h:ps.drop k = x :: ps.drop (k + 1)):restP ps k = 44 :: 32 :: (pmB x ++ restP ps (k + 1)):=by
 unfold restP
 rw [if_neg h0,if_neg (by omega),h,pmR]
theorem zIi (w:World)(g:Gm)(hg:shG g){vs:List Value}(hi:GIs w 0 g vs)(hl:(prG g).length ≤ 1000000000000) :
 Calls Tryd.prog 9 #[.agg ⟨vs⟩] w fun e w' => e = .returned (.string (cbs (prG g))) ∧ Below w.heap.size w w':=by
 obtain ⟨p1,c1,p2,c2,p3,c3,rfl,h1,h2,h3⟩:=hi
 have X0:=vH (Bxp.start w 26 #[.slice p1 g.recs.length c1,.slice p2 g.globals.length c2,.slice p3 g.funcs.length c3])
 have HL:Hid ((g.recs.flatMap rcB).length + ((g.globals.flatMap glB).length + (g.funcs.flatMap fcB).length) ≤ 1000000000000):=vH (by
  unfold prG at hl
  simp only [List.length_append] at hl
  omega)
 have HG:=vH hg
 have R1:=vH h1
 have R2:=vH h2
 have R3:=vH h3
 obtain ⟨⟨b0,b1,b2⟩,-⟩:=tri X0.out.h
 have hnr:=hg.nr
 have hng:=hg.ng
 have hnf:=hg.nf
 clear hl hg h1 h2 h3
 go_in
 go_wp2_with fail
 clear b0 b1 b2
 go_loopg [3,4] g.recs.length (fun gk0 s v wr => ∃ j:Nat,gk0 + j = g.recs.length ∧ v = .int .i64 (j:Int) ∧ (∃ t:List UInt8,s = .string (cbs t) ∧ t ++ (g.recs.drop j).flatMap rcB = ([]:List UInt8) ++ g.recs.flatMap rcB) ∧ Bxp w wr 26 #[.slice p1 g.recs.length c1,.slice p2 g.globals.length c2,.slice p3 g.funcs.length c3])
 case atStart => exact ⟨0,rfl,rfl,⟨[],rfl,rfl⟩,X0.out⟩
 case round =>
  obtain ⟨j,hj,rfl,⟨t,rfl,ht⟩,hx⟩:=hrel
  have HT:=vH ht
  have HJ:=vH hj
  have X:=vH hx
  cases gk with
  | zero =>
    obtain rfl:j = g.recs.length:=by omega
    have hd1:decide ((g.recs.length:Int) < (g.recs.length:Int)) = false:=decide_eq_false (by omega)
    have h9:=ht
    rw [List.drop_of_length_le (Nat.le_refl _),List.flatMap_nil,List.append_nil] at h9
    have H9:=vH h9
    obtain ⟨⟨b0,b1,b2⟩,-⟩:=tri X.out.h
    clear hj ht hx h9
    go_wp2_with fail
    clear b0 b1 b2 HT HJ
    obtain ⟨tt,rfl⟩:∃ tt:List UInt8,tt = t:=⟨_,rfl⟩
    go_loopg [3,6] g.globals.length (fun gk0 s v wr => ∃ j:Nat,gk0 + j = g.globals.length ∧ v = .int .i64 (j:Int) ∧ (∃ t:List UInt8,s = .string (cbs t) ∧ t ++ (g.globals.drop j).flatMap glB = g.recs.flatMap rcB ++ g.globals.flatMap glB) ∧ Bxp w wr 26 #[.slice p1 g.recs.length c1,.slice p2 g.globals.length c2,.slice p3 g.funcs.length c3])
    case atStart => exact ⟨0,rfl,rfl,⟨_,rfl,by rw [H9.out]; rfl⟩,X.out⟩
    case round =>
        obtain ⟨j,hj,rfl,⟨t,rfl,ht⟩,hx⟩:=hrel
        have HT:=vH ht
        have HJ:=vH hj
        have X:=vH hx
        cases gk with
        | zero =>
          obtain rfl:j = g.globals.length:=by omega
          have hd1:decide ((g.globals.length:Int) < (g.globals.length:Int)) = false:=decide_eq_false (by omega)
          have h9:=ht
          rw [List.drop_of_length_le (Nat.le_refl _),List.flatMap_nil,List.append_nil] at h9
          have H9:=vH h9
          obtain ⟨⟨b0,b1,b2⟩,-⟩:=tri X.out.h
          clear hj ht hx h9
          go_wp2_with fail
          clear b0 b1 b2 HT HJ
          obtain ⟨tt,rfl⟩:∃ tt:List UInt8,tt = t:=⟨_,rfl⟩
          go_loopg [3,7] g.funcs.length (fun gk0 s v wr => ∃ j:Nat,gk0 + j = g.funcs.length ∧ v = .int .i64 (j:Int) ∧ (∃ t:List UInt8,s = .string (cbs t) ∧ t ++ (g.funcs.drop j).flatMap fcB = (g.recs.flatMap rcB ++ g.globals.flatMap glB) ++ g.funcs.flatMap fcB) ∧ Bxp w wr 26 #[.slice p1 g.recs.length c1,.slice p2 g.globals.length c2,.slice p3 g.funcs.length c3])
          case atStart => exact ⟨0,rfl,rfl,⟨_,rfl,by rw [H9.out]; rfl⟩,X.out⟩
          case round =>
           obtain ⟨j,hj,rfl,⟨t,rfl,ht⟩,hx⟩:=hrel
           have HT:=vH ht
           have HJ:=vH hj
           have X:=vH hx
           cases gk with
           | zero =>
             obtain rfl:j = g.funcs.length:=by omega
             have hd1:decide ((g.funcs.length:Int) < (g.funcs.length:Int)) = false:=decide_eq_false (by omega)
             have h9:=ht
             rw [List.drop_of_length_le (Nat.le_refl _),List.flatMap_nil,List.append_nil] at h9
             have H9:=vH h9
             obtain ⟨⟨b0,b1,b2⟩,-⟩:=tri X.out.h
             clear hj ht hx h9
             go_wp2_with fail
             go_ret
             exact ⟨zBV (by rw [H9.out]; unfold prG; simp only [List.append_assoc]),X.out.b⟩
           | succ m =>
             as_aux_lemma =>
             have hjl:j < g.funcs.length:=by omega
             have hd1:decide ((j:Int) < (g.funcs.length:Int)) = true:=decide_eq_true (by omega)
             have hd2:decide (g.funcs.length ≤ j) = false:=decide_eq_false (by omega)
             have hi1:(j:Int) < (g.funcs.length:Int):=by omega
             have hi3:(0:Int) ≤ (j:Int):=by omega
             have hdw:wrap64 ((j:Int) + 1) = ((j + 1:Nat):Int):=by simp [wrap64]; omega
             have he:=List.getElem?_eq_getElem hjl
             have hd4:g.funcs.drop j = g.funcs[j] :: g.funcs.drop (j + 1):=List.drop_eq_getElem_cons hjl
             have hm:=HG.out.funcs _ (List.getElem_mem hjl)
             generalize g.funcs[j] = x at he hd4 hm
             obtain ⟨kb,ko,vs,rfl,hkb,hi,hc⟩:=R3.out.get he
             have hn2:=ht
             rw [zBC fcB hd4] at hn2
             have h3:=congrArg List.length hn2
             have h4:=HL.out
             simp only [List.length_append] at h3 h4
             have hkw:kb ≠ wr.heap.size:=by have:=X.out.b.size; omega
             have h2:t.length + (fcB x).length ≤ 1000000000000:=by omega
             obtain ⟨fp,fcap,fq,fc2,rfl,hp,hq⟩:=hi
             obtain ⟨nm,ps,has,rn,rd,body,fat⟩:=x
             dsimp only at hp hq hc
             obtain ⟨ho1,ho2,⟨ho3,ho4⟩,ho5⟩:=hm
             dsimp only at ho1 ho2 ho3 ho4 ho5
             obtain ⟨D,rfl⟩:=Int.eq_ofNat_of_zero_le ho3
             have y0:=zD X.out.b (hc 0 _ (by decide) rfl)
             have y1:=zD X.out.b (hc 1 _ (by decide) rfl)
             have y2:=zD X.out.b (hc 2 _ (by decide) rfl)
             have y3:=zD X.out.b (hc 3 _ (by decide) rfl)
             have y4:=zD X.out.b (hc 4 _ (by decide) rfl)
             have y5:=zD X.out.b (hc 5 _ (by decide) rfl)
             have y6:=zD X.out.b (hc 6 _ (by decide) rfl)
             simp only [Nat.add_zero] at y0
             have hrx:fcB ⟨nm,ps,has,rn,(D:Int),body,fat⟩ = [102,117,110,99] ++ 32 :: (nm ++ 40 :: (paB ps ++ (41 :: ((if has = true then 58 :: 32 :: tyB rn D else []) ++ 32 :: (blT 0 (prB body 1) ++ [10]))))):=rfl
             rw [hrx] at h2 hn2
             have H2:=vH h2
             simp only [List.length_append,List.length_cons,List.length_nil] at h2
             have HO1:=vH ho1
             have HO2:=vH ho2
             have HDD:Hid (D ≤ 3):=vH (by omega)
             have HSB:=vH ho5
             have HP:=vH hp
             have HQ:=vH hq
             have HN2:=vH hn2
             have hz1:(cbs t).size + (⟨#[102,117,110,99,32]⟩:ByteArray).size ≤ 9223372036854775807:=by simp only [zB]; show t.length + 5 ≤ _; omega
             have hz2:(cbs t ++ (⟨#[102,117,110,99,32]⟩:ByteArray)).size + (cbs nm).size ≤ 9223372036854775807:=by simp only [ByteArray.size_append,zB]; show t.length + 5 + nm.length ≤ _; omega
             have hz3:(cbs t ++ (⟨#[102,117,110,99,32]⟩:ByteArray) ++ cbs nm).size + (⟨#[40]⟩:ByteArray).size ≤ 9223372036854775807:=by simp only [ByteArray.size_append,zB]; show t.length + 5 + nm.length + 1 ≤ _; omega
             obtain ⟨⟨b0,b1,b2⟩,-⟩:=tri X.out.h
             have X0:=vH (X.out.go ((Below.refl wr.heap.size wr).alloc (Nat.le_refl _) (.cells #[.string (cbs nm),.slice fp ps.length fcap,.bool has,.string (cbs rn),.int .i64 (D:Int),.slice fq body.length fc2,.int .i64 fat] 82)))
             have F0:=vH (Bxp.start wr 82 #[.string (cbs nm),.slice fp ps.length fcap,.bool has,.string (cbs rn),.int .i64 (D:Int),.slice fq body.length fc2,.int .i64 fat])
             clear hj ht hx he hd4 ho1 ho2 ho3 ho4 ho5 hn2 h2 h3 h4 hrx hkb hp hq hc
             go_wp2_with fail
             clear b0 b1 b2 y0 y1 y2 y3 y4 y5 y6 hd1 hd2 hi1 hi3
             go_loopg [3,9] ps.length (fun gk1 s v wq => ∃ k:Nat,gk1 + k = ps.length ∧ v = .int .i64 (k:Int) ∧ (∃ t1:List UInt8,s = .string (cbs t1) ∧ t1 ++ (restP ps k ++ (41 :: ((if has = true then 58 :: 32 :: tyB rn D else []) ++ 32 :: (blT 0 (prB body 1) ++ [10])))) = t ++ ([102,117,110,99] ++ 32 :: (nm ++ 40 :: (paB ps ++ (41 :: ((if has = true then 58 :: 32 :: tyB rn D else []) ++ 32 :: (blT 0 (prB body 1) ++ [10]))))))) ∧ Bxp w wq 26 #[.slice p1 g.recs.length c1,.slice p2 g.globals.length c2,.slice (some ⟨kb,ko,none⟩) g.funcs.length c3] ∧ Bxp wr wq 82 #[.string (cbs nm),.slice fp ps.length fcap,.bool has,.string (cbs rn),.int .i64 (D:Int),.slice fq body.length fc2,.int .i64 fat])
             case atStart => exact ⟨0,rfl,rfl,⟨t ++ [102,117,110,99,32] ++ nm ++ [40],congrArg Value.string (by show cbs t ++ cbs [102,117,110,99,32] ++ cbs nm ++ cbs [40] = _; simp only [zAo]),by show _ ++ (paB ps ++ _) = _; simp⟩,X0.out,F0.out⟩
             case round =>
              obtain ⟨k,hk,rfl,⟨t1,rfl,ht1⟩,hx1,hf1⟩:=hrel
              have HT1:=vH ht1
              have HK:=vH hk
              have X1:=vH hx1
              have F1:=vH hf1
              cases gk with
              | zero =>
                obtain rfl:k = ps.length:=by omega
                have kd1:decide ((ps.length:Int) < (ps.length:Int)) = false:=decide_eq_false (by omega)
                have h9:=ht1
                rw [zJt,List.nil_append] at h9
                cases has with
                | true =>
                  as_aux_lemma =>
                  obtain ⟨⟨b0,b1,b2⟩,-⟩:=tri X1.out.h
                  obtain ⟨f0,f1,f2,f3,f4,f5,f6⟩:=zBX F1.out.h
                  have hif:(if true = true then 58 :: 32 :: tyB rn D else ([]:List UInt8)) = 58 :: 32 :: tyB rn D:=if_pos rfl
                  have hq9:=(congrArg (fun l => l ++ (g.funcs.drop (j + 1)).flatMap fcB) h9).trans ((List.append_assoc _ _ _).trans HN2.out)
                  rw [hif] at h9 hq9
                  unfold blT at h9 hq9
                  obtain ⟨TY,hTY⟩:∃ T,T = tyB rn D:=⟨_,rfl⟩
                  obtain ⟨TB,hTB⟩:∃ T,T = prB body 1:=⟨_,rfl⟩
                  have h5:=congrArg List.length h9
                  have h6:=H2.out
                  rw [hif] at h6
                  unfold blT at h6
                  simp only [List.length_append,List.length_cons,List.length_nil,zAg] at h5 h6
                  have hty:TY.length = rn.length + 2 * D:=by rw [hTY]; exact zAg rn D
                  have HTY:Hid (∀ w1,Calls Tryd.prog 27 #[.agg #[.string (cbs rn),.int .i64 (D:Int)]] w1 fun e w' => e = .returned (.string (cbs TY)) ∧ Below w1.heap.size w1 w'):=vH (fun w1 => by rw [hTY]; exact zBv rn D w1 HDD.out (by omega))
                  have HTB:Hid (∀ w1,Below w.heap.size w w1 → Calls Tryd.prog 28 #[.slice fq body.length fc2,.int .i64 1] w1 fun e w' => e = .returned (.string (cbs TB)) ∧ Below w1.heap.size w1 w'):=vH (fun w1 hb => by rw [hTB]; exact zEi (d:=1) (n:=49) HSB.out (by decide) w1 fq fc2 (HQ.out.below hb) (by omega))
                  rw [← hTB,← hTY] at h9 hq9
                  rw [← hTB] at h5 h6
                  have HQ9:=vH hq9
                  have hz1:(cbs t1).size + (⟨#[41]⟩:ByteArray).size ≤ 9223372036854775807:=by simp only [zB]; show t1.length + 1 ≤ _; omega
                  have hz2:(cbs t1 ++ (⟨#[41]⟩:ByteArray)).size + (⟨#[58,32]⟩:ByteArray).size ≤ 9223372036854775807:=by simp only [ByteArray.size_append,zB]; show t1.length + 1 + 2 ≤ _; omega
                  have hz3:(cbs t1 ++ (⟨#[41]⟩:ByteArray) ++ (⟨#[58,32]⟩:ByteArray)).size + (cbs TY).size ≤ 9223372036854775807:=by simp only [ByteArray.size_append,zB]; show t1.length + 1 + 2 + TY.length ≤ _; omega
                  have hz4:(cbs t1 ++ (⟨#[41]⟩:ByteArray) ++ (⟨#[58,32]⟩:ByteArray) ++ cbs TY).size + (⟨#[32,123,10]⟩:ByteArray).size ≤ 9223372036854775807:=by simp only [ByteArray.size_append,zB]; show t1.length + 1 + 2 + TY.length + 3 ≤ _; omega
                  have hz5:(cbs t1 ++ (⟨#[41]⟩:ByteArray) ++ (⟨#[58,32]⟩:ByteArray) ++ cbs TY ++ (⟨#[32,123,10]⟩:ByteArray)).size + (cbs TB).size ≤ 9223372036854775807:=by simp only [ByteArray.size_append,zB]; show t1.length + 1 + 2 + TY.length + 3 + TB.length ≤ _; omega
                  have hz6:(cbs t1 ++ (⟨#[41]⟩:ByteArray) ++ (⟨#[58,32]⟩:ByteArray) ++ cbs TY ++ (⟨#[32,123,10]⟩:ByteArray) ++ cbs TB).size + (⟨#[125,10]⟩:ByteArray).size ≤ 9223372036854775807:=by simp only [ByteArray.size_append,zB]; show t1.length + 1 + 2 + TY.length + 3 + TB.length + 2 ≤ _; omega
                  clear hk ht1 hx1 hf1 h9 hq9 h5 h6 hif hTB hty hTY
                  go_wp2_with fail
                  refine (HTY.out _).mono ?_
                  rintro e u ⟨rfl,hb⟩
                  have X2:=vH (X1.out.go hb)
                  have F2:=vH (F1.out.go hb)
                  clear hb X1 F1 b0 b1 b2 f0 f1 f2 f3 f4 f5 f6
                  have X1:=X2
                  have F1:=F2
                  clear X2 F2
                  obtain ⟨f0,f1,f2,f3,f4,f5,f6⟩:=zBX F1.out.h
                  go_wp2_with fail
                  refine (HTB.out _ X1.out.b).mono ?_
                  rintro e u2 ⟨rfl,hb⟩
                  have X2:=vH (X1.out.go hb)
                  clear hb f0 f1 f2 f3 f4 f5 f6
                  go_wp2_with fail
                  go_roundg m
                  case measure => exact Nat.lt_succ_self _
                  case rel => exact ⟨j + 1,rkN HJ.out,by first | rfl | simp [hdw],⟨t1 ++ [41] ++ [58,32] ++ TY ++ [32,123,10] ++ TB ++ [125,10],congrArg Value.string (by show cbs t1 ++ cbs [41] ++ cbs [58,32] ++ cbs TY ++ cbs [32,123,10] ++ cbs TB ++ cbs [125,10] = _; simp only [zAo]),by rw [← HQ9.out]; simp [pad]⟩,X2.out⟩
                | false =>
                  as_aux_lemma =>
                  obtain ⟨⟨b0,b1,b2⟩,-⟩:=tri X1.out.h
                  obtain ⟨f0,f1,f2,f3,f4,f5,f6⟩:=zBX F1.out.h
                  have hif:(if false = true then 58 :: 32 :: tyB rn D else ([]:List UInt8)) = []:=if_neg (by simp)
                  have hq9:=(congrArg (fun l => l ++ (g.funcs.drop (j + 1)).flatMap fcB) h9).trans ((List.append_assoc _ _ _).trans HN2.out)
                  rw [hif] at h9 hq9
                  unfold blT at h9 hq9
                  obtain ⟨TB,hTB⟩:∃ T,T = prB body 1:=⟨_,rfl⟩
                  have h5:=congrArg List.length h9
                  have h6:=H2.out
                  rw [hif] at h6
                  unfold blT at h6
                  simp only [List.length_append,List.length_cons,List.length_nil] at h5 h6
                  have HTB:Hid (∀ w1,Below w.heap.size w w1 → Calls Tryd.prog 28 #[.slice fq body.length fc2,.int .i64 1] w1 fun e w' => e = .returned (.string (cbs TB)) ∧ Below w1.heap.size w1 w'):=vH (fun w1 hb => by rw [hTB]; exact zEi (d:=1) (n:=49) HSB.out (by decide) w1 fq fc2 (HQ.out.below hb) (by omega))
                  rw [← hTB] at h9 hq9
                  rw [← hTB] at h5 h6
                  have HQ9:=vH hq9
                  have hz1:(cbs t1).size + (⟨#[41]⟩:ByteArray).size ≤ 9223372036854775807:=by simp only [zB]; show t1.length + 1 ≤ _; omega
                  have hz2:(cbs t1 ++ (⟨#[41]⟩:ByteArray)).size + (⟨#[32,123,10]⟩:ByteArray).size ≤ 9223372036854775807:=by simp only [ByteArray.size_append,zB]; show t1.length + 1 + 3 ≤ _; omega
                  have hz3:(cbs t1 ++ (⟨#[41]⟩:ByteArray) ++ (⟨#[32,123,10]⟩:ByteArray)).size + (cbs TB).size ≤ 9223372036854775807:=by simp only [ByteArray.size_append,zB]; show t1.length + 1 + 3 + TB.length ≤ _; omega
                  have hz4:(cbs t1 ++ (⟨#[41]⟩:ByteArray) ++ (⟨#[32,123,10]⟩:ByteArray) ++ cbs TB).size + (⟨#[125,10]⟩:ByteArray).size ≤ 9223372036854775807:=by simp only [ByteArray.size_append,zB]; show t1.length + 1 + 3 + TB.length + 2 ≤ _; omega
                  clear hk ht1 hx1 hf1 h9 hq9 h5 h6 hif hTB
                  go_wp2_with fail
                  refine (HTB.out _ X1.out.b).mono ?_
                  rintro e u2 ⟨rfl,hb⟩
                  have X2:=vH (X1.out.go hb)
                  clear hb f0 f1 f2 f3 f4 f5 f6 b0 b1 b2
                  go_wp2_with fail
                  go_roundg m
                  case measure => exact Nat.lt_succ_self _
                  case rel => exact ⟨j + 1,rkN HJ.out,by first | rfl | simp [hdw],⟨t1 ++ [41] ++ [32,123,10] ++ TB ++ [125,10],congrArg Value.string (by show cbs t1 ++ cbs [41] ++ cbs [32,123,10] ++ cbs TB ++ cbs [125,10] = _; simp only [zAo]),by rw [← HQ9.out]; simp [pad]⟩,X2.out⟩
              | succ m1 =>
                have kjl:k < ps.length:=by omega
                have kd1:decide ((k:Int) < (ps.length:Int)) = true:=decide_eq_true (by omega)
                have kd2:decide (ps.length ≤ k) = false:=decide_eq_false (by omega)
                have ki1:(k:Int) < (ps.length:Int):=by omega
                have ki3:(0:Int) ≤ (k:Int):=by omega
                have kdw:wrap64 ((k:Int) + 1) = ((k + 1:Nat):Int):=by have:=HO2.out; simp [wrap64]; omega
                have he1:=List.getElem?_eq_getElem kjl
                have hd5:ps.drop k = ps[k] :: ps.drop (k + 1):=List.drop_eq_getElem_cons kjl
                have hmf:=HO1.out _ (List.getElem_mem kjl)
                generalize ps[k] = f at he1 hd5 hmf
                obtain ⟨fb,fo,rfl,hfb,z0,z1,z2,z3⟩:=zFk HP.out he1
                have z0:=zD X1.out.b z0
                have z1:=zD X1.out.b z1
                have z2:=zD X1.out.b z2
                have z3:=zD X1.out.b z3
                have h6:=H2.out
                simp only [List.length_append,List.length_cons,List.length_nil] at h6
                by_cases hk0:k = 0
                ·subst hk0
                 as_aux_lemma =>
                 simp only [Nat.zero_mul,Nat.add_zero] at z0 z1 z2 z3
                 have hn3:=ht1
                 rw [zIb hd5] at hn3
                 have h5:=congrArg List.length hn3
                 simp only [List.length_append,List.length_cons,List.length_nil] at h5
                 have hpm:=fun w1 => zCd w1 f hmf (by omega)
                 generalize pmB f = PM at hpm hn3 h5
                 obtain ⟨⟨b0,b1,b2⟩,-⟩:=tri X1.out.h
                 obtain ⟨f0,f1,f2,f3,f4,f5,f6⟩:=zBX F1.out.h
                 have HPM:=vH hpm
                 have HN3:=vH hn3
                 have hz1:(cbs t1).size + (cbs PM).size ≤ 9223372036854775807:=by simp only [zB]; show t1.length + PM.length ≤ _; omega
                 clear hk ht1 hx1 hf1 he1 hd5 hmf hn3 h5 h6 hpm hfb
                 go_wp2_with fail
                 refine (HPM.out _).mono ?_
                 rintro e u ⟨rfl,hb⟩
                 have X2:=vH (X1.out.go hb)
                 have F2:=vH (F1.out.go hb)
                 clear hb z0 z1 z2 z3 b0 b1 b2 f0 f1 f2 f3 f4 f5 f6
                 go_wp2_with fail
                 go_roundg m1
                 case measure => exact Nat.lt_succ_self _
                 case rel => exact ⟨1,rkN HK.out,by first | rfl | simp [kdw],⟨t1 ++ PM,congrArg Value.string (by show cbs t1 ++ cbs PM = _; simp only [zAo]),by rw [← HN3.out]; simp⟩,X2.out,F2.out⟩
                ·as_aux_lemma =>
                 have hn3:=ht1
                 rw [zIc hk0 hd5] at hn3
                 have kd7:decide ((0:Int) < (k:Int)) = true:=decide_eq_true (Int.natCast_pos.2 (Nat.pos_of_ne_zero hk0))
                 have kd8:decide (0 < k) = true:=decide_eq_true (Nat.pos_of_ne_zero hk0)
                 have h5:=congrArg List.length hn3
                 simp only [List.length_append,List.length_cons,List.length_nil] at h5
                 have hpm:=fun w1 => zCd w1 f hmf (by omega)
                 generalize pmB f = PM at hpm hn3 h5
                 obtain ⟨⟨b0,b1,b2⟩,-⟩:=tri X1.out.h
                 obtain ⟨f0,f1,f2,f3,f4,f5,f6⟩:=zBX F1.out.h
                 have HPM:=vH hpm
                 have HN3:=vH hn3
                 have hz1:(cbs t1).size + (⟨#[44,32]⟩:ByteArray).size ≤ 9223372036854775807:=by simp only [zB]; show t1.length + 2 ≤ _; omega
                 have hz2:(cbs t1 ++ (⟨#[44,32]⟩:ByteArray)).size + (cbs PM).size ≤ 9223372036854775807:=by simp only [ByteArray.size_append,zB]; show t1.length + 2 + PM.length ≤ _; omega
                 clear hk ht1 hx1 hf1 he1 hd5 hmf hn3 h5 h6 hpm hfb hk0
                 go_wp2_with fail
                 refine (HPM.out _).mono ?_
                 rintro e u ⟨rfl,hb⟩
                 have X2:=vH (X1.out.go hb)
                 have F2:=vH (F1.out.go hb)
                 clear hb z0 z1 z2 z3 b0 b1 b2 f0 f1 f2 f3 f4 f5 f6
                 go_wp2_with fail
                 go_roundg m1
                 case measure => exact Nat.lt_succ_self _
                 case rel => exact ⟨k + 1,rkN HK.out,by first | rfl | simp [kdw],⟨t1 ++ [44,32] ++ PM,congrArg Value.string (by show cbs t1 ++ cbs [44,32] ++ cbs PM = _; simp only [zAo]),by rw [← HN3.out]; simp⟩,X2.out,F2.out⟩
        | succ m =>
          as_aux_lemma =>
          have hjl:j < g.globals.length:=by omega
          have hd1:decide ((j:Int) < (g.globals.length:Int)) = true:=decide_eq_true (by omega)
          have hd2:decide (g.globals.length ≤ j) = false:=decide_eq_false (by omega)
          have hi1:(j:Int) < (g.globals.length:Int):=by omega
          have hi3:(0:Int) ≤ (j:Int):=by omega
          have hdw:wrap64 ((j:Int) + 1) = ((j + 1:Nat):Int):=by simp [wrap64]; omega
          have he:=List.getElem?_eq_getElem hjl
          have hd4:g.globals.drop j = g.globals[j] :: g.globals.drop (j + 1):=List.drop_eq_getElem_cons hjl
          have hm:=HG.out.globs _ (List.getElem_mem hjl)
          generalize g.globals[j] = x at he hd4 hm
          obtain ⟨kb,ko,vs,rfl,hkb,hi,hc⟩:=R2.out.get he
          have hn2:=ht
          rw [zBC glB hd4] at hn2
          have h3:=congrArg List.length hn2
          have h4:=HL.out
          simp only [List.length_append] at h3 h4
          have hkw:kb ≠ wr.heap.size:=by have:=X.out.b.size; omega
          have h2:t.length + (glB x).length ≤ 1000000000000:=by omega
          rw [PIs] at hi
          subst hi
          have y0:=zD X.out.b (hc 0 _ (by decide) rfl)
          have y1:=zD X.out.b (hc 1 _ (by decide) rfl)
          have y2:=zD X.out.b (hc 2 _ (by decide) rfl)
          have y3:=zD X.out.b (hc 3 _ (by decide) rfl)
          simp only [Nat.add_zero] at y0
          have hrx:glB x = [103,108,111,98,97,108] ++ 32 :: (pmB x ++ [59,10]):=rfl
          rw [hrx] at h2 hn2
          simp only [List.length_append,List.length_cons,List.length_nil] at h2
          have hpm:=fun w1 => zCd w1 x hm (by omega)
          generalize pmB x = PM at hpm h2 hn2
          have HPM:=vH hpm
          have HN2:=vH hn2
          have hz1:(cbs t).size + (⟨#[103,108,111,98,97,108,32]⟩:ByteArray).size ≤ 9223372036854775807:=by simp only [zB]; show t.length + 7 ≤ _; omega
          have hz2:(cbs t ++ (⟨#[103,108,111,98,97,108,32]⟩:ByteArray)).size + (cbs PM).size ≤ 9223372036854775807:=by simp only [ByteArray.size_append,zB]; show t.length + 7 + PM.length ≤ _; omega
          have hz3:(cbs t ++ (⟨#[103,108,111,98,97,108,32]⟩:ByteArray) ++ cbs PM).size + (⟨#[59,10]⟩:ByteArray).size ≤ 9223372036854775807:=by simp only [ByteArray.size_append,zB]; show t.length + 7 + PM.length + 2 ≤ _; omega
          obtain ⟨⟨b0,b1,b2⟩,-⟩:=tri X.out.h
          clear hj ht hx he hd4 hm hn2 h2 h3 h4 hrx hkb hpm
          go_wp2_with fail
          refine (HPM.out _).mono ?_
          rintro e u ⟨rfl,hb⟩
          have X2:=vH (X.out.go hb)
          clear hb y0 y1 y2 y3 b0 b1 b2
          obtain ⟨⟨b0,b1,b2⟩,-⟩:=tri X2.out.h
          go_wp2_with fail
          go_roundg m
          case measure => exact Nat.lt_succ_self _
          case rel => exact ⟨j + 1,rkN HJ.out,by first | rfl | simp [hdw],⟨t ++ [103,108,111,98,97,108,32] ++ PM ++ [59,10],congrArg Value.string (by show cbs t ++ cbs [103,108,111,98,97,108,32] ++ cbs PM ++ cbs [59,10] = _; simp only [zAo]),by rw [← HN2.out]; simp⟩,X2.out⟩
  | succ m =>
    as_aux_lemma =>
    have hjl:j < g.recs.length:=by omega
    have hd1:decide ((j:Int) < (g.recs.length:Int)) = true:=decide_eq_true (by omega)
    have hd2:decide (g.recs.length ≤ j) = false:=decide_eq_false (by omega)
    have hi1:(j:Int) < (g.recs.length:Int):=by omega
    have hi3:(0:Int) ≤ (j:Int):=by omega
    have hdw:wrap64 ((j:Int) + 1) = ((j + 1:Nat):Int):=by simp [wrap64]; omega
    have he:=List.getElem?_eq_getElem hjl
    have hd4:g.recs.drop j = g.recs[j] :: g.recs.drop (j + 1):=List.drop_eq_getElem_cons hjl
    have hm:=HG.out.recs _ (List.getElem_mem hjl)
    generalize g.recs[j] = x at he hd4 hm
    obtain ⟨kb,ko,vs,rfl,hkb,hi,hc⟩:=R1.out.get he
    have hn2:=ht
    rw [zBC rcB hd4] at hn2
    have h3:=congrArg List.length hn2
    have h4:=HL.out
    simp only [List.length_append,List.length_nil] at h3 h4
    have hkw:kb ≠ wr.heap.size:=by have:=X.out.b.size; omega
    have h2:t.length + (rcB x).length ≤ 1000000000000:=by omega
    obtain ⟨fp,fcap,rfl,hp⟩:=hi
    have y0:=zD X.out.b (hc 0 _ (by decide) rfl)
    have y1:=zD X.out.b (hc 1 _ (by decide) rfl)
    have y2:=zD X.out.b (hc 2 _ (by decide) rfl)
    simp only [Nat.add_zero] at y0
    obtain ⟨NM,hNM⟩:∃ l,l = x.name:=⟨_,rfl⟩
    obtain ⟨FS,hFS⟩:∃ l,l = x.fields:=⟨_,rfl⟩
    rw [← hNM] at y0
    rw [← hFS] at y1 hp
    have w1:=hc 1 _ (by decide) rfl
    rw [← hFS] at w1
    have HY1:=vH w1
    obtain ⟨hm1,hm2⟩:=hm
    rw [← hFS] at hm1 hm2
    have hrx:rcB x = [114,101,99,111,114,100] ++ 32 :: (NM ++ 32 :: 123 :: 10 :: (fdB FS ++ [125,10])):=by rw [hNM,hFS]; rfl
    rw [hrx] at h2 hn2
    simp only [List.length_append,List.length_cons,List.length_nil] at h2
    have HM1:=vH hm1
    have HM2:=vH hm2
    have HP:=vH hp
    have H2:=vH h2
    have HN2:=vH hn2
    have hz1:(cbs t).size + (⟨#[114,101,99,111,114,100,32]⟩:ByteArray).size ≤ 9223372036854775807:=by simp only [zB]; show t.length + 7 ≤ _; omega
    have hz2:(cbs t ++ (⟨#[114,101,99,111,114,100,32]⟩:ByteArray)).size + (cbs NM).size ≤ 9223372036854775807:=by simp only [ByteArray.size_append,zB]; show t.length + 7 + NM.length ≤ _; omega
    have hz3:(cbs t ++ (⟨#[114,101,99,111,114,100,32]⟩:ByteArray) ++ cbs NM).size + (⟨#[32,123,10]⟩:ByteArray).size ≤ 9223372036854775807:=by simp only [ByteArray.size_append,zB]; show t.length + 7 + NM.length + 3 ≤ _; omega
    obtain ⟨⟨b0,b1,b2⟩,-⟩:=tri X.out.h
    have HKB:=vH hkb
    clear hj ht hx he hd4 hm1 hm2 hn2 h2 h3 h4 hrx hNM hFS hkb hp w1 hc
    go_wp2_with fail
    clear b0 b1 b2 y0 y1 y2 hd1
    go_loopg [3,5] FS.length (fun gk1 s v wq => ∃ k:Nat,gk1 + k = FS.length ∧ v = .int .i64 (k:Int) ∧ (∃ t1:List UInt8,s = .string (cbs t1) ∧ t1 ++ (fdB (FS.drop k) ++ [125,10]) = t ++ ([114,101,99,111,114,100] ++ 32 :: (NM ++ 32 :: 123 :: 10 :: (fdB FS ++ [125,10])))) ∧ Bxp w wq 26 #[.slice (some ⟨kb,ko,none⟩) g.recs.length c1,.slice p2 g.globals.length c2,.slice p3 g.funcs.length c3])
    case atStart => exact ⟨0,rfl,rfl,⟨t ++ [114,101,99,111,114,100,32] ++ NM ++ [32,123,10],congrArg Value.string (by show cbs t ++ cbs [114,101,99,111,114,100,32] ++ cbs NM ++ cbs [32,123,10] = _; simp only [zAo]),by simp⟩,X.out⟩
    case round =>
        obtain ⟨k,hk,rfl,⟨t1,rfl,ht1⟩,hx1⟩:=hrel
        have HT1:=vH ht1
        have HK:=vH hk
        have X1:=vH hx1
        cases gk with
        | zero =>
          as_aux_lemma =>
          obtain rfl:k = FS.length:=by omega
          have kd1:decide ((FS.length:Int) < (FS.length:Int)) = false:=decide_eq_false (by omega)
          have h9:=ht1
          rw [List.drop_of_length_le (Nat.le_refl _),fdB] at h9
          have H9:=vH h9
          have h5:=congrArg List.length h9
          simp only [List.length_append,List.length_cons,List.length_nil] at h5
          have h6:=H2.out
          have hz9:(cbs t1).size + (⟨#[125,10]⟩:ByteArray).size ≤ 9223372036854775807:=by rw [zB]; show t1.length + 2 ≤ _; omega
          obtain ⟨⟨b0,b1,b2⟩,-⟩:=tri X1.out.h
          have y1:=zD X1.out.b HY1.out
          clear hk ht1 hx1 h9 h5 h6
          go_wp2_with fail
          go_roundg m
          case measure => exact Nat.lt_succ_self _
          case rel => exact ⟨j + 1,rkN HJ.out,by first | rfl | simp [hdw],⟨t1 ++ [125,10],congrArg Value.string (zAo _ _),by rw [← HN2.out,← List.append_assoc t,← H9.out]; simp⟩,X1.out⟩
        | succ m1 =>
          as_aux_lemma =>
          have kjl:k < FS.length:=by omega
          have kd1:decide ((k:Int) < (FS.length:Int)) = true:=decide_eq_true (by omega)
          have kd2:decide (FS.length ≤ k) = false:=decide_eq_false (by omega)
          have ki1:(k:Int) < (FS.length:Int):=by omega
          have ki3:(0:Int) ≤ (k:Int):=by omega
          have kdw:wrap64 ((k:Int) + 1) = ((k + 1:Nat):Int):=by have:=HM1.out; simp [wrap64]; omega
          have he1:=List.getElem?_eq_getElem kjl
          have hd5:FS.drop k = FS[k] :: FS.drop (k + 1):=List.drop_eq_getElem_cons kjl
          have hmf:=HM2.out _ (List.getElem_mem kjl)
          generalize FS[k] = f at he1 hd5 hmf
          obtain ⟨fb,fo,rfl,hfb,z0,z1,z2,z3⟩:=zFk HP.out he1
          have z0:=zD X1.out.b z0
          have z1:=zD X1.out.b z1
          have z2:=zD X1.out.b z2
          have z3:=zD X1.out.b z3
          have hn3:=ht1
          rw [hd5,fdB] at hn3
          have h5:=congrArg List.length hn3
          simp only [List.length_append,List.length_cons,List.length_nil] at h5
          have h6:=H2.out
          have hpm:=fun w1 => zCd w1 f hmf (by omega)
          generalize pmB f = PM at hpm hn3 h5
          have HPM:=vH hpm
          have HN3:=vH hn3
          have hz1:(cbs t1).size + (⟨#[32,32]⟩:ByteArray).size ≤ 9223372036854775807:=by simp only [zB]; show t1.length + 2 ≤ _; omega
          have hz2:(cbs t1 ++ (⟨#[32,32]⟩:ByteArray)).size + (cbs PM).size ≤ 9223372036854775807:=by simp only [ByteArray.size_append,zB]; show t1.length + 2 + PM.length ≤ _; omega
          have hz3:(cbs t1 ++ (⟨#[32,32]⟩:ByteArray) ++ cbs PM).size + (⟨#[59,10]⟩:ByteArray).size ≤ 9223372036854775807:=by simp only [ByteArray.size_append,zB]; show t1.length + 2 + PM.length + 2 ≤ _; omega
          obtain ⟨⟨b0,b1,b2⟩,-⟩:=tri X1.out.h
          have y1:=zD X1.out.b HY1.out
          clear hk ht1 hx1 he1 hd5 hmf hn3 h5 h6 hpm hfb
          go_wp2_with fail
          refine (HPM.out _).mono ?_
          rintro e u ⟨rfl,hb⟩
          have X2:=vH (X1.out.go hb)
          clear hb z0 z1 z2 z3 y1 b0 b1 b2
          go_wp2_with fail
          go_roundg m1
          case measure => exact Nat.lt_succ_self _
          case rel => exact ⟨k + 1,rkN HK.out,by first | rfl | simp [kdw],⟨t1 ++ [32,32] ++ PM ++ [59,10],congrArg Value.string (by show cbs t1 ++ cbs [32,32] ++ cbs PM ++ cbs [59,10] = _; simp only [zAo]),by rw [← HN3.out]; simp⟩,X2.out⟩
end Go.Proofs.YteadgahhchlgeaaDoor
