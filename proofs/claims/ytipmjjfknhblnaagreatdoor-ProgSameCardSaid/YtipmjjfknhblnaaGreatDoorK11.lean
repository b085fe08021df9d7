/-
  The contracts of the project's reader: which binary sign com
-/
import Derived.Test.YtipmjjfknhblnaaGreatDoorK06
import Derived.Test.YtipmjjfknhblnaaGreatDoorK09
import Derived.Test.YtipmjjfknhblnaaGreatDoorK10
import Derived.Test.YtipmjjfknhblnaaGreatDoorK02
import Derived.Lib.LaidTab
import Derived.LaidMore
import Derived.OpenShut
import Derived.Deep.RegionHeld3
import Derived.Deep.LoopGhost
import Derived.Deep.MidRow
set_option maxRecDepth 8000
set_option maxHeartbeats 8000000
namespace Go.Proofs.YtipmjjfknhblnaaGreatDoor
open Go.RowKit
open Px (RT tokAt)
open Pe
def opV:Option Int → Value
 | some k => .tuple #[.int .i64 k,.bool true]
 | none => .tuple #[.int .i64 0,.bool false]
theorem zMb:(Tryz.prog.info? 214).map (·.size) = some opsV.size:=by kernel_rfl
set_option maxRecDepth 100000 in
theorem zI6:∀ (j:Nat)(o:List UInt8 × Int × Int),opList[j]? = some o → ∀ w,(Instr.index 214 (.agg opsV) (.int .i64 (j:Int))).run Tryz.prog w = .ok (.agg #[.string (cbs o.1),.int .i64 o.2.1,.int .i64 o.2.2]) w
 | 0,o,h => by
   simp only [opList,List.getElem?_cons_zero,Option.some.injEq] at h
   subst h
   exact fun _ => by kernel_rfl
 | 1,o,h => by
   simp only [opList,List.getElem?_cons_zero,List.getElem?_cons_succ,Option.some.injEq] at h
   subst h
   exact fun _ => by kernel_rfl
 | 2,o,h => by
   simp only [opList,List.getElem?_cons_zero,List.getElem?_cons_succ,Option.some.injEq] at h
   subst h
   exact fun _ => by kernel_rfl
 | 3,o,h => by
   simp only [opList,List.getElem?_cons_zero,List.getElem?_cons_succ,Option.some.injEq] at h
   subst h
   exact fun _ => by kernel_rfl
 | 4,o,h => by
   simp only [opList,List.getElem?_cons_zero,List.getElem?_cons_succ,Option.some.injEq] at h
   subst h
   exact fun _ => by kernel_rfl
 | 5,o,h => by
   simp only [opList,List.getElem?_cons_zero,List.getElem?_cons_succ,Option.some.injEq] at h
   subst h
   exact fun _ => by kernel_rfl
 | 6,o,h => by
   simp only [opList,List.getElem?_cons_zero,List.getElem?_cons_succ,Option.some.injEq] at h
   subst h
   exact fun _ => by kernel_rfl
 | 7,o,h => by
   simp only [opList,List.getElem?_cons_zero,List.getElem?_cons_succ,Option.some.injEq] at h
   subst h
   exact fun _ => by kernel_rfl
 | 8,o,h => by
   simp only [opList,List.getElem?_cons_zero,List.getElem?_cons_succ,Option.some.injEq] at h
   subst h
   exact fun _ => by kernel_rfl
 | 9,o,h => by
   simp only [opList,List.getElem?_cons_zero,List.getElem?_cons_succ,Option.some.injEq] at h
   subst h
   exact fun _ => by kernel_rfl
 | 10,o,h => by
   simp only [opList,List.getElem?_cons_zero,List.getElem?_cons_succ,Option.some.injEq] at h
   subst h
   exact fun _ => by kernel_rfl
 | j + 11,o,h => by simp [opList] at h
theorem zJn {j:Nat}{o:List UInt8 × Int × Int}(h:opList[j]? = some o):opList.drop j = o :: opList.drop (j + 1):=by
 obtain ⟨hl,he⟩:=List.getElem?_eq_some_iff.1 h
 rw [List.drop_eq_getElem_cons hl,he]
theorem trio {w1:World}{B:Nat}{T:TypeId}{a b c:Value}(h:w1.heap[B]? = some (.cells #[a,b,c] T (0,0))) :
 w1.cell? ⟨B,0,none⟩ = some a ∧ w1.cell? ⟨B,1,none⟩ = some b ∧ w1.cell? ⟨B,2,none⟩ = some c:=
 ⟨by rw [cell_of_row _ _ _ _ _ _ h]; rfl,by rw [cell_of_row _ _ _ _ _ _ h]; rfl,by rw [cell_of_row _ _ _ _ _ _ h]; rfl⟩
theorem zGJ (w:World)(R M1 M2 M3:Nat)(S:Value)(ts:List RT)(s:St)(h:Rs w R M1 M2 M3 S ts s)(n:Nat) :
 Calls Tryz.prog 176 #[.pointer (some ⟨R,0,none⟩),.int .i64 (n:Int)] w (fun e w' => e = .returned (opV (seesOp ts s.c n)) ∧ Below w.heap.size w w'):=by
 obtain ⟨gt,gfr,hg⟩:=h.ops
 have HH:=vH h
 clear h
 go_in
 go_wp2_with (with_reducible refine wpList_load_row rfl 214 (.global 6) rfl 6 rfl gt opsV gfr _ ?c1 Tryz.underlying214 rfl zMb ?_)
 case c1 => exact hg
 clear hg
 go_loopg [9] 11 (fun k v wr => ∃ j:Nat,k + j = 11 ∧ v = .int .i64 (j:Int) ∧ Below w.heap.size w wr ∧ (((opList.drop j).find? fun o => decide (o.2.1 = (n:Int)) && sees ts s.c 4 o.1).map (·.2.2)) = seesOp ts s.c n)
 case atStart => exact ⟨0,rfl,rfl,Below.refl _ _,rfl⟩
 case round =>
  obtain ⟨j,hj,rfl,hb,hf⟩:=hrel
  have HB:=vH hb
  have HF:=vH hf
  clear hb hf
  cases gk with
  | zero =>
    have hj2:j = 11:=by omega
    subst hj2
    go_wp2_with fail
    refine bodyPost_ret (v:=.tuple #[.int .i64 0,.bool false]) (by simp [results,Tryz.results176,go_sem]) rfl ⟨?_,HB.out⟩
    rw [← HF.out]
    rfl
  | succ m =>
    have hj2:j < 11:=by omega
    obtain ⟨o,ho⟩:∃ o,opList[j]? = some o:=⟨_,List.getElem?_eq_getElem (by simpa [opList] using hj2)⟩
    have hix:=zI6 j o ho
    have HD:=vH (zJn ho)
    clear ho
    obtain ⟨tx,lv,kd⟩:=o
    dsimp only at hix
    have hd0:decide ((j:Int) < 11) = true:=decide_eq_true (by omega)
    have hdw:wrap64 ((j:Int) + 1) = ((j + 1:Nat):Int):=by simp [wrap64]; omega
    have HRD:=vH (HH.out.go (zC HB.out (((Below.refl wr.heap.size wr).alloc (Nat.le_refl _) (.cells #[.string (cbs tx),.int .i64 lv,.int .i64 kd] 213)).drew) HB.out.size))
    cases hd:(lv == (n:Int))
    ·have HL:=vH hd
     go_wp2_with fail
     go_quiet (fail)
     go_wp2_with fail
     go_roundg m
     case measure => omega
     case rel =>
      refine ⟨j + 1,by omega,by first | rfl | simp,zF (HB.out.alloc HB.out.size _) _,?_⟩
      rw [← HF.out,HD.out,List.find?_cons_of_neg]
      rw [show decide (lv = (n:Int)) = false from HL.out]
      simp
    ·have HL:=vH hd
     have HKX:Hid (((wr.alloc (.cells #[.string (cbs tx),.int .i64 lv,.int .i64 kd] 213)).drew).heap[wr.heap.size]? = some (.cells #[.string (cbs tx),.int .i64 lv,.int .i64 kd] 213 (0,0))):=heap_alloc_new wr _
     have HBX:=vH (zC HB.out (((Below.refl wr.heap.size wr).alloc (Nat.le_refl _) (.cells #[.string (cbs tx),.int .i64 lv,.int .i64 kd] 213)).drew) HB.out.size)
     have HTX:=vH (show (cbs tx).data.toList = tx from rfl)
     cases hv:sees ts s.c 4 tx
     ·have HV:=vH hv
      clear hv
      go_wp2_with fail
      go_region_held3 (fun w' => w'.cell? ⟨wr.heap.size,0,none⟩ = some (.string (cbs tx)) ∧ w'.cell? ⟨wr.heap.size,1,none⟩ = some (.int .i64 lv)) (with_reducible first | exact ⟨(trio HKX.out).1,(trio HKX.out).2.1⟩ | exact ⟨(trio HK2.out).1,(trio HK2.out).2.1⟩) (first
       | (go_at_call 66; (with_reducible refine Calls.mono (zG _ R _ S _ ts s.c HRD.out.cu (cbs tx)) ?_); rintro e w2 ⟨rfl,hb2⟩; have HB2:=vH (zC HBX.out hb2 HBX.out.size); have HK2:=vH ((Gr.of (R:=R) hb2).block _ (zA HKX.out) (Nat.ne_of_gt (Nat.lt_of_lt_of_le HH.out.lt HB.out.size)) |>.trans HKX.out); clear hb2; rw [HTX.out,HV.out]))
      go_wp2_with fail
      go_roundg m
      case measure => omega
      case rel =>
       refine ⟨j + 1,by omega,by first | rfl | simp,HB2.out,?_⟩
       rw [← HF.out,HD.out,List.find?_cons_of_neg]
       rw [show decide (lv = (n:Int)) = true from HL.out,HV.out]
       simp
     ·have HV:=vH hv
      clear hv
      go_wp2_with fail
      go_region_held3 (fun w' => w'.cell? ⟨wr.heap.size,0,none⟩ = some (.string (cbs tx)) ∧ w'.cell? ⟨wr.heap.size,1,none⟩ = some (.int .i64 lv)) (with_reducible first | exact ⟨(trio HKX.out).1,(trio HKX.out).2.1⟩ | exact ⟨(trio HK2.out).1,(trio HK2.out).2.1⟩) (first
       | (go_at_call 66; (with_reducible refine Calls.mono (zG _ R _ S _ ts s.c HRD.out.cu (cbs tx)) ?_); rintro e w2 ⟨rfl,hb2⟩; have HB2:=vH (zC HBX.out hb2 HBX.out.size); have HK2:=vH ((Gr.of (R:=R) hb2).block _ (zA HKX.out) (Nat.ne_of_gt (Nat.lt_of_lt_of_le HH.out.lt HB.out.size)) |>.trans HKX.out); clear hb2; rw [HTX.out,HV.out]))
      obtain ⟨u0,u1,u2⟩:=trio HK2.out
      go_wp2_with fail
      refine bodyPost_ret (v:=.tuple #[.int .i64 kd,.bool true]) (by simp [results,Tryz.results176,go_sem]) rfl ⟨?_,HB2.out⟩
      rw [← HF.out,HD.out,List.find?_cons_of_pos]
      ·rfl
      ·rw [show decide (lv = (n:Int)) = true from HL.out,HV.out]; rfl
structure Hold (w wr:World) (R M1 M2 M3:Nat) (S:Value) (ts:List RT) (eb:Nat) (kind num:Int) (name ofn:List UInt8) (dims:Int) (p:Option Addr) (ln c:Nat) (at_ b r d ref:Int) (e:Ex) (s:St):Prop where
 rs:Rs wr R M1 M2 M3 S ts s
 gr:Gr R (w.alloc (.cells vE 111)) wr
 box:wr.heap[eb]? = some (.cells #[.int .i64 kind,.int .i64 num,.string (cbs name),.string (cbs ofn),.int .i64 dims,.slice p ln c,.int .i64 at_,.int .i64 b,.int .i64 r,.int .i64 d,.int .i64 ref] 111 (0,0))
 is:IsBut (some eb) wr (w.heap.size + 1) e (exCells kind num name ofn dims (.slice p ln c) at_ b r d ref)
 lt:w.heap.size < eb
theorem zJM {w:World}{N:Nat}{T:TypeId}{o0 o1 o2 o3 o4 o5 o6 o7 o8 o9 o10:Value}(h:w.heap[N]? = some (.cells #[o0,o1,o2,o3,o4,o5,o6,o7,o8,o9,o10] T (0,0))){c0 c1 c2 c3 c4 c5 c6 c7 c8 c9 c10:Value}:(((((((((((w.setCell ⟨N,0,none⟩ c0).setCell ⟨N,1,none⟩ c1).setCell ⟨N,2,none⟩ c2).setCell ⟨N,3,none⟩ c3).setCell ⟨N,4,none⟩ c4).setCell ⟨N,5,none⟩ c5).setCell ⟨N,6,none⟩ c6).setCell ⟨N,7,none⟩ c7).setCell ⟨N,8,none⟩ c8).setCell ⟨N,9,none⟩ c9).setCell ⟨N,10,none⟩ c10).heap[N]? = some (.cells #[c0,c1,c2,c3,c4,c5,c6,c7,c8,c9,c10] T (0,0)):=by
 have h0:=zAl h 0 c0 (A2:=#[c0,o1,o2,o3,o4,o5,o6,o7,o8,o9,o10]) rfl
 have h1:=zAl h0 1 c1 (A2:=#[c0,c1,o2,o3,o4,o5,o6,o7,o8,o9,o10]) rfl
 have h2:=zAl h1 2 c2 (A2:=#[c0,c1,c2,o3,o4,o5,o6,o7,o8,o9,o10]) rfl
 have h3:=zAl h2 3 c3 (A2:=#[c0,c1,c2,c3,o4,o5,o6,o7,o8,o9,o10]) rfl
 have h4:=zAl h3 4 c4 (A2:=#[c0,c1,c2,c3,c4,o5,o6,o7,o8,o9,o10]) rfl
 have h5:=zAl h4 5 c5 (A2:=#[c0,c1,c2,c3,c4,c5,o6,o7,o8,o9,o10]) rfl
 have h6:=zAl h5 6 c6 (A2:=#[c0,c1,c2,c3,c4,c5,c6,o7,o8,o9,o10]) rfl
 have h7:=zAl h6 7 c7 (A2:=#[c0,c1,c2,c3,c4,c5,c6,c7,o8,o9,o10]) rfl
 have h8:=zAl h7 8 c8 (A2:=#[c0,c1,c2,c3,c4,c5,c6,c7,c8,o9,o10]) rfl
 have h9:=zAl h8 9 c9 (A2:=#[c0,c1,c2,c3,c4,c5,c6,c7,c8,c9,o10]) rfl
 have h10:=zAl h9 10 c10 (A2:=#[c0,c1,c2,c3,c4,c5,c6,c7,c8,c9,c10]) rfl
 exact h10
theorem IsBut.put11 {w:World}{N B:Nat}{e:Ex}{vs:List Value}(h:IsBut (some N) w B e vs){c0 c1 c2 c3 c4 c5 c6 c7 c8 c9 c10:Value}:IsBut (some N) (((((((((((w.setCell ⟨N,0,none⟩ c0).setCell ⟨N,1,none⟩ c1).setCell ⟨N,2,none⟩ c2).setCell ⟨N,3,none⟩ c3).setCell ⟨N,4,none⟩ c4).setCell ⟨N,5,none⟩ c5).setCell ⟨N,6,none⟩ c6).setCell ⟨N,7,none⟩ c7).setCell ⟨N,8,none⟩ c8).setCell ⟨N,9,none⟩ c9).setCell ⟨N,10,none⟩ c10) B e vs:=
 h.go (by simp only [zI]; exact Nat.le_refl _) fun bl _ hb hne => by
  obtain ⟨o,ho⟩:∃ o,w.heap[bl]? = some o:=⟨_,Array.getElem?_eq_getElem hb⟩
  rw [ho]
  exact zM ho (fun he => hne (by rw [he]))
theorem IsBut.top {w:World}{B B2:Nat}{e:Ex}{vs:List Value}(h:Is w B2 e vs)(hB:B ≤ B2):IsBut (some w.heap.size) w B e vs:=
 fun w' hs hk => Is.lower hB _ (Is.keep hs (fun bl h1 h2 => hk bl (Nat.le_trans hB h1) h2 (fun e => by injection e with e; omega)) _ h)
theorem IsBut.alloc {g:Option Nat}{w:World}{B:Nat}{e:Ex}{vs:List Value}(h:IsBut g w B e vs)(o:Obj):IsBut g (w.alloc o) B e vs:=
 h.go (by rw [zB]; omega) fun bl _ hb _ => heap_alloc_old _ _ hb
theorem Hold.go {w wr w':World}{R M1 M2 M3:Nat}{S:Value}{ts:List RT}{eb:Nat}{kind num:Int}{name ofn:List UInt8}{dims:Int}{p:Option Addr}{ln c:Nat}{at_ b r d ref:Int}{e:Ex}{s s2:St}(h:Hold w wr R M1 M2 M3 S ts eb kind num name ofn dims p ln c at_ b r d ref e s)(hlt:R < w.heap.size)(hr:Rs w' R M1 M2 M3 S ts s2)(hg:Gr R wr w'):Hold w w' R M1 M2 M3 S ts eb kind num name ofn dims p ln c at_ b r d ref e s2:=
 ⟨hr,h.gr.trans hg,hg.box h.box (by have:=h.lt; omega),h.is.gr (by omega) hg,h.lt⟩
theorem zKP {ts:List RT}{rec:Nat → St → Out}{n:Nat}{e:Ex}{s:St}{x:Ex × St}(h:binLoop ts rec n 0 e s = some x):False:=by
 rw [binLoop] at h; cases h
theorem zNj {ts:List RT}{rec:Nat → St → Out}{n g:Nat}{e:Ex}{s:St}{x:Ex × St}(h:binLoop ts rec n (g + 1) e s = some x)(hv:seesOp ts s.c n = none):x = (e,s):=by
 rw [binLoop,hv] at h
 simpa using h.symm
theorem zMq {ts:List RT}{rec:Nat → St → Out}{n g:Nat}{e:Ex}{s:St}{x:Ex × St}{k:Int}(h:binLoop ts rec n (g + 1) e s = some x)(hv:seesOp ts s.c n = some k):∃ r s2,rec (n + 1) ⟨next s.c,s.o⟩ = some (r,s2) ∧ binLoop ts rec n g (Ex.of k 0 [] [] 0 [e,r] (peek ts s.c).at_) s2 = some x:=by
 rw [binLoop,hv] at h
 dsimp only at h
 split at h
 ·cases h
 ·rename_i r s2 he
  exact ⟨r,s2,he,h⟩
theorem zHI (w:World)(R M1 M2 M3:Nat)(S:Value)(ts:List RT)(s:St)(h:Rs w R M1 M2 M3 S ts s)(recU:St → Out)(hU:UnOk ts recU)(n:Nat)(hn : 5 < n)(x:Ex × St)(hx:recU s = some x) :
 Calls Tryz.prog 161 #[.pointer (some ⟨R,0,none⟩),.int .i64 (n:Int)] w (ExPost w.heap.size w R M1 M2 M3 S ts x):=by
 have HE:=vH (fun w1 hh => hU s x hx w1 R M1 M2 M3 S hh)
 have hd5:decide ((5:Int) < (n:Int)) = true:=decide_eq_true (by omega)
 clear hU hx
 have hb0:Below w.heap.size w (w.alloc (.cells vE 111)):=(Below.refl w.heap.size w).alloc (Nat.le_refl _) _
 have hlt:=h.lt
 have HH:=vH h
 have HR:=vH (h.go hb0)
 have HG:=vH (Gr.refl R (w.alloc (.cells vE 111)))
 clear h hb0
 go_in
 go_wp2_with fail
 have hRBq:=HR.out.lt
 have hNBq:=Nat.lt_of_lt_of_le (by rw [zB]; exact Nat.lt_succ_self _:w.heap.size < (w.alloc (.cells vE 111)).heap.size) HG.out.size
 refine (HE.out _ HR.out).mono ?_
 rintro e w1 ⟨qk,qn,qs,qo,qd,qp,ql,qc,qa,qb,qr,qe,qf,rfl,hi,hr,hg⟩
 have Hiq:=vH hi
 have HGx:=vH (HG.out.trans hg)
 have HRx:=vH (hr)
 clear HG HR
 have HG:=HGx
 have HR:=HRx
 clear HGx HRx hr hg hi
 have hk:=mine HG.out hlt
 obtain ⟨⟨d0,d1,d2,d3,d4,d5,d6,d7,d8,d9,dX⟩,g0,g1,g2,g3,g4,g5,g6,g7,g8,g9,gX⟩:=hen hk
 have hl:=zA hk
 clear hk
 go_wp2_with fail
 have hn:=(Nw.start ((Gr.alloc (Gr.refl R w) _).trans HG.out)).pv (.int .i64 qk) (.int .i64 qn) (.string (cbs qs)) (.string (cbs qo)) (.int .i64 qd) (.slice qp ql qc) (.int .i64 qa) (.int .i64 qb) (.int .i64 qr) (.int .i64 qe) (.int .i64 qf)
 exact bodyPost_ret (v:=.agg #[.int .i64 qk,.int .i64 qn,.string (cbs qs),.string (cbs qo),.int .i64 qd,.slice qp ql qc,.int .i64 qa,.int .i64 qb,.int .i64 qr,.int .i64 qe,.int .i64 qf]) (by simp [results,Tryz.results161,go_sem,d0,d1,d2,d3,d4,d5,d6,d7,d8,d9,dX]) rfl ⟨_,_,_,_,_,_,_,_,_,_,_,_,_,rfl,Is.lower (Nat.le_of_lt hNBq) _ (Hiq.out.put11 hNBq),HH.out.fin HR.out hn,hn.gr⟩
theorem zHJ (w:World)(R M1 M2 M3:Nat)(S:Value)(ts:List RT)(s:St)(h:Rs w R M1 M2 M3 S ts s)(rec:Nat → St → Out)(hrec:RecOk ts rec)(n:Nat)(hn1 : 1 ≤ n)(hn:n ≤ 5)(gg:Nat)(e0:Ex)(s1:St)(he:rec (n + 1) s = some (e0,s1))(x:Ex × St)(hx:binLoop ts rec n gg e0 s1 = some x) :
 Calls Tryz.prog 161 #[.pointer (some ⟨R,0,none⟩),.int .i64 (n:Int)] w (ExPost w.heap.size w R M1 M2 M3 S ts x):=by
 have HX:=vH hx
 have HREC:=vH (fun (s2:St) (y:Ex × St) (hy:rec (n + 1) s2 = some y) w1 hh => hrec (n + 1) s2 y (by omega) (by omega) hy w1 R M1 M2 M3 S hh)
 have HE:=vH he
 have hd5:decide ((5:Int) < (n:Int)) = false:=decide_eq_false (by omega)
 have hdw:wrap64 ((n:Int) + 1) = ((n + 1:Nat):Int):=by simp [wrap64]; omega
 clear hrec hx he
 have hb0:Below w.heap.size w (w.alloc (.cells vE 111)):=(Below.refl w.heap.size w).alloc (Nat.le_refl _) _
 have hlt:=h.lt
 have HH:=vH h
 have HR:=vH (h.go hb0)
 have HG:=vH (Gr.refl R (w.alloc (.cells vE 111)))
 clear h hb0
 go_in
 go_wp2_with fail
 refine (HREC.out s _ HE.out _ HR.out).mono ?_
 rintro e w1 ⟨qk,qn,qs,qo,qd,qp,ql,qc,qa,qb,qr,qe,qf,rfl,hi,hr,hg⟩
 have HN1:Hid (w.heap.size < w1.heap.size):=(Nat.lt_of_lt_of_le (by rw [zB]; exact Nat.lt_succ_self _:w.heap.size < (w.alloc (.cells vE 111)).heap.size) (HG.out.trans hg).size)
 have HO:=vH (show Hold w (w1.alloc (.cells #[.int .i64 qk,.int .i64 qn,.string (cbs qs),.string (cbs qo),.int .i64 qd,.slice qp ql qc,.int .i64 qa,.int .i64 qb,.int .i64 qr,.int .i64 qe,.int .i64 qf] 111)) R M1 M2 M3 S ts w1.heap.size qk qn qs qo qd qp ql qc qa qb qr qe qf e0 s1 from
  ⟨hr.go ((Below.refl _ _).alloc (Nat.le_refl _) _),(HG.out.trans hg).alloc _,heap_alloc_new w1 _,(IsBut.top hi (by rw [zB]; exact Nat.le_refl _)).alloc _,HN1.out⟩)
 have HR0:=HR
 clear hi hr hg HR HG HE
 go_wp2_with fail
 go_loopg [] gg (fun m wr => ∃ e s4 kind num name ofn dims p ln c at_ b r d ref,Hold w wr R M1 M2 M3 S ts w1.heap.size kind num name ofn dims p ln c at_ b r d ref e s4 ∧ binLoop ts rec n m e s4 = some x)
 case atStart => exact ⟨_,_,_,_,_,_,_,_,_,_,_,_,_,_,_,HO.out,HX.out⟩
 case round =>
  obtain ⟨e,s4,kind,num,name,ofn,dims,p,ln,c,at_,b,r,d,ref,ho,hx⟩:=hrel
  have HO1:=vH ho
  have HX1:=vH hx
  clear ho hx HO HX
  cases gk with
  | zero => exact (zKP HX1.out).elim
  | succ m =>
    go_wp2_with fail
    refine (zGJ _ R M1 M2 M3 S ts s4 HO1.out.rs n).mono ?_
    rintro e' w2 ⟨rfl,hb⟩
    have HO2:=vH (HO1.out.go hlt (HO1.out.rs.go hb) (Gr.of hb))
    clear hb HO1
    cases hv:seesOp ts s4.c n with
    | none =>
      have hx:=zNj HX1.out hv
      subst hx
      try rw [hv]
      clear hv
      dsimp only [opV]
      obtain ⟨⟨x0,x1,x2,x3,x4,x5,x6,x7,x8,x9,xX⟩,y0,y1,y2,y3,y4,y5,y6,y7,y8,y9,yX⟩:=hen HO2.out.box
      have hlb:=zA HO2.out.box
      have hk:=mine HO2.out.gr hlt
      obtain ⟨⟨d0,d1,d2,d3,d4,d5,d6,d7,d8,d9,dX⟩,g0,g1,g2,g3,g4,g5,g6,g7,g8,g9,gX⟩:=hen hk
      have hl:=zA hk
      have hnb:=Nat.ne_of_lt HO2.out.lt
      have hnb2:=Ne.symm hnb
      clear hk
      go_wp2_with fail
      have hn:=(Nw.start ((Gr.alloc (Gr.refl R w) _).trans HO2.out.gr)).pv (.int .i64 kind) (.int .i64 num) (.string (cbs name)) (.string (cbs ofn)) (.int .i64 dims) (.slice p ln c) (.int .i64 at_) (.int .i64 b) (.int .i64 r) (.int .i64 d) (.int .i64 ref)
      exact bodyPost_ret (v:=.agg #[.int .i64 kind,.int .i64 num,.string (cbs name),.string (cbs ofn),.int .i64 dims,.slice p ln c,.int .i64 at_,.int .i64 b,.int .i64 r,.int .i64 d,.int .i64 ref]) (by simp [results,Tryz.results161,go_sem,d0,d1,d2,d3,d4,d5,d6,d7,d8,d9,dX]) rfl ⟨_,_,_,_,_,_,_,_,_,_,_,_,_,rfl,Is.lower (Nat.le_succ _) _ (HO2.out.is.now.put11 (N:=w.heap.size) (Nat.lt_succ_self _)),HH.out.fin HO2.out.rs hn,hn.gr⟩
    | some k =>
      obtain ⟨e5,s5,he,h5⟩:=zMq HX1.out hv
      try rw [hv]
      have HE:=vH he
      have hnx:=zL _ R _ S _ ts s4.c HO2.out.rs.cu
      generalize peek ts s4.c = t at hnx h5
      unfold tokW at hnx
      have hfd:∀ w1:World,(Instr.field 52 (.agg #[.int .i64 t.kind,.string (cbs t.text),.int .i64 t.num,.int .i64 t.at_]) 3).run Tryz.prog w1 = .ok (.int .i64 t.at_) w1:=fun _ => by kernel_rfl
      have H5:=vH h5
      have HNX:=vH hnx
      clear hv he h5 hnx HX1
      dsimp only [opV]
      go_wp2_with fail
      refine (HNX.out).mono ?_
      rintro e' w3 ⟨rfl,hc,hg⟩
      have HO3:=vH (HO2.out.go hlt (HO2.out.rs.cur hg hc) hg)
      clear hc hg HO2 HNX
      go_wp2_with fail
      have HEB:Hid (w1.heap.size < w3.heap.size):=zA HO3.out.box
      refine (HREC.out _ _ HE.out _ HO3.out.rs).mono ?_
      rintro e' w4 ⟨zk,zn,zs,zo,zd,zp,zl,zc,za,zb,zr,ze,zf,rfl,hi,hr,hg⟩
      have HO4:=vH (HO3.out.go hlt hr hg)
      have HIZ:=vH hi
      clear hi hr hg HO3
      obtain ⟨⟨x0,x1,x2,x3,x4,x5,x6,x7,x8,x9,xX⟩,y0,y1,y2,y3,y4,y5,y6,y7,y8,y9,yX⟩:=hen HO4.out.box
      have hlb:=zA HO4.out.box
      have hk:=mine HO4.out.gr hlt
      obtain ⟨⟨d0,d1,d2,d3,d4,d5,d6,d7,d8,d9,dX⟩,g0,g1,g2,g3,g4,g5,g6,g7,g8,g9,gX⟩:=hen hk
      have hl:=zA hk
      have hnb:=Nat.ne_of_lt HO4.out.lt
      have hnb2:=Ne.symm hnb
      clear hk
      go_wp2_with fail
      go_roundg m
      case measure => omega
      case rel =>
       have hEL:w.heap.size < w1.heap.size:=HN1.out
       have hn:=(((Nw.start HO4.out.gr).put11 (B:=w1.heap.size) (by rw [zB]; exact hEL) (c0:=.int .i64 k) (c1:=.int .i64 0) (c2:=.string ⟨#[]⟩) (c3:=.string ⟨#[]⟩) (c4:=.int .i64 0) (c5:=.slice (some ⟨w4.heap.size + 1,0,none⟩) 2 2) (c6:=.int .i64 t.at_) (c7:=.int .i64 0) (c8:=.int .i64 0) (c9:=.int .i64 0) (c10:=.int .i64 0)).alloc (.cells #[.int .i64 zk,.int .i64 zn,.string (cbs zs),.string (cbs zo),.int .i64 zd,.slice zp zl zc,.int .i64 za,.int .i64 zb,.int .i64 zr,.int .i64 ze,.int .i64 zf] 111)).alloc (.cells #[.int .i64 kind,.int .i64 num,.string (cbs name),.string (cbs ofn),.int .i64 dims,.slice p ln c,.int .i64 at_,.int .i64 b,.int .i64 r,.int .i64 d,.int .i64 ref,.int .i64 zk,.int .i64 zn,.string (cbs zs),.string (cbs zo),.int .i64 zd,.slice zp zl zc,.int .i64 za,.int .i64 zb,.int .i64 zr,.int .i64 ze,.int .i64 zf] 111)
       have hbx:=zCo (w:=w4) (N:=w1.heap.size) (o:=.cells #[.int .i64 zk,.int .i64 zn,.string (cbs zs),.string (cbs zo),.int .i64 zd,.slice zp zl zc,.int .i64 za,.int .i64 zb,.int .i64 zr,.int .i64 ze,.int .i64 zf] 111) (o2:=.cells #[.int .i64 kind,.int .i64 num,.string (cbs name),.string (cbs ofn),.int .i64 dims,.slice p ln c,.int .i64 at_,.int .i64 b,.int .i64 r,.int .i64 d,.int .i64 ref,.int .i64 zk,.int .i64 zn,.string (cbs zs),.string (cbs zo),.int .i64 zd,.slice zp zl zc,.int .i64 za,.int .i64 zb,.int .i64 zr,.int .i64 ze,.int .i64 zf] 111) (c0:=.int .i64 k) (c1:=.int .i64 0) (c2:=.string ⟨#[]⟩) (c3:=.string ⟨#[]⟩) (c4:=.int .i64 0) (c5:=.slice (some ⟨w4.heap.size + 1,0,none⟩) 2 2) (c6:=.int .i64 t.at_) (c7:=.int .i64 0) (c8:=.int .i64 0) (c9:=.int .i64 0) (c10:=.int .i64 0)
       have hw4:w1.heap.size < w4.heap.size:=zA HO4.out.box
       refine ⟨_,s5,_,_,_,_,_,_,_,_,_,_,_,_,_,⟨HR0.out.fin HO4.out.rs hn,hn.gr,zE _ (zE _ (zJM HO4.out.box)),IsBut.node2 hbx (by omega) (fun q hq => by injection hq with hq; omega) ((HO4.out.is.put11.alloc _).alloc _) (IsBut.of (((HIZ.out.put11 (N:=w1.heap.size) HEB.out).alloc _).alloc _) (by have:=HEB.out; omega) (fun q hq => by injection hq with hq; rw [← hq]; exact HEB.out)) rfl k 0 [] [] 0 t.at_ 2,hEL⟩,H5.out⟩
theorem zHK (w:World)(R M1 M2 M3:Nat)(S:Value)(ts:List RT)(s:St)(h:Rs w R M1 M2 M3 S ts s)(rec:Nat → St → Out)(hrec:RecOk ts rec)(recU:St → Out)(hU:UnOk ts recU)(n:Nat)(hn1 : 1 ≤ n)(gg:Nat)(x:Ex × St)(hx:(if 5 < n then recU s else match rec (n + 1) s with | none => none | some (l,s1) => binLoop ts rec n gg l s1) = some x) :
 Calls Tryz.prog 161 #[.pointer (some ⟨R,0,none⟩),.int .i64 (n:Int)] w (ExPost w.heap.size w R M1 M2 M3 S ts x):=by
 by_cases hn : 5 < n
 ·rw [if_pos hn] at hx
  exact zHI w R M1 M2 M3 S ts s h recU hU n hn x hx
 ·rw [if_neg hn] at hx
  split at hx
  ·cases hx
  ·rename_i e0 s1 he
   exact zHJ w R M1 M2 M3 S ts s h rec hrec n hn1 (by omega) gg e0 s1 he x hx
end Go.Proofs.YtipmjjfknhblnaaGreatDoor
