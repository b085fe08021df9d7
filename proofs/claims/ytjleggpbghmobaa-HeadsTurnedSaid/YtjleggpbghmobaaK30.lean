/-
  The answer's list of declarations: fields.
-/
import Derived.Test.YtjleggpbghmobaaK01
import Derived.Test.YtjleggpbghmobaaK28
set_option maxRecDepth 8000
set_option maxHeartbeats 8000000
namespace Go.Proofs.Ytjleggpbghmobaa
open Go.RowKit
open Pg (Pm Rc Fc Gm)
open Hs (Nm TypH FldH find tyOf fdOf fltPs qf zU zS)
def QfPost (w:World)(x:List FldH × Int × Int)(e:Ending)(w':World):Prop:=
 ∃ (p:Option Addr) (k:Nat),e = .returned (.tuple #[.slice p x.1.length k,.agg #[.int .i64 x.2.1,.int .i64 x.2.2]]) ∧ LAt FdIs 4 w' w.heap.size p x.1 ∧ Below w.heap.size w w'
structure QfSt (w:World) (v:Value) (out:List FldH) (wr:World):Prop where
 be:Below w.heap.size w wr
 ft:wr.heap[w.heap.size]? = some (.cells #[.int .i64 (0),.int .i64 0] 29 (0,0))
 own:wr.ownsRow (w.heap.size + 1) 57 4 v out.length (out.flatMap fdCells)
theorem QfSt.go {w wr w1:World}{v:Value}{out:List FldH}(h:QfSt w v out wr)(hb:Below wr.heap.size wr w1):QfSt w v out w1:=
 ⟨zE h.be hb h.be.size,(hb.block _ (zA h.ft)).trans h.ft,zA8 h.own (fun k hk => hb.block k (h.own.lt k hk).2)⟩
theorem QfSt.push {w wr w3:World}{v v':Value}{out:List FldH}{x:FldH}{o:Obj}(h:QfSt w v out wr)(hown:w3.ownsRow (w.heap.size + 1) 57 4 v' (out.length + 1) (out.flatMap fdCells ++ fdCells x))(hgrow:(wr.alloc o).grownBy w3 v.ownBlock):QfSt w v' (out ++ [x]) w3:=by
 have hv:∀ k,v.ownBlock = some k → w.heap.size + 1 ≤ k:=fun k hk => (h.own.lt k hk).1
 have hb:∀ i,i < wr.heap.size → i < w.heap.size + 1 → w3.heap[i]? = wr.heap[i]?:=fun i h1 h2 =>
  (hgrow.block i (by rw [zB]; omega) (fun e => by have:=hv i e.symm; omega)).trans (heap_alloc_old _ _ h1)
 have hs:wr.heap.size ≤ w3.heap.size:=by have:=hgrow.size; rw [zB] at this; omega
 exact ⟨⟨hgrow.os.trans h.be.os,hgrow.tape.trans h.be.tape,hgrow.output.trans h.be.output,Nat.le_trans h.be.size hs,fun i hi => (hb i (Nat.lt_of_lt_of_le hi h.be.size) (Nat.lt_succ_of_lt hi)).trans (h.be.block i hi)⟩,
  (hb _ (zA h.ft) (Nat.lt_succ_self _)).trans h.ft,by rw [zGr,List.length_append]; exact hown⟩
theorem QfSt.sz {w wr:World}{v:Value}{out:List FldH}(h:QfSt w v out wr):w.heap.size + 1 ≤ wr.heap.size:=zA h.ft
theorem zD7 {w:World}{B n sz:Nat}{T:TypeId}{v:Value}{xs:List Value}(h:w.ownsRow B T sz v n xs):w.drew.ownsRow B T sz v n xs:=h
theorem zBF {w w':World}{r:Option Nat}(h:w.drew.grownBy w' r):w.grownBy w' r:=⟨h.os,h.tape,h.output,h.size,h.block⟩
theorem zG6 {w:World}{B:Nat}{q:Option Addr}{l:List Pm}{j:Nat}{x:Pm}(h:LAt PIs 4 w B q l)(hx:l[j]? = some x) :
 ∃ bl off,q = some ⟨bl,off,none⟩ ∧ bl < w.heap.size ∧ ∀ w1,Below w.heap.size w w1 → ∀ i (y:Pm),l[i]? = some y → w1.cell? ⟨bl,off + i * 4,none⟩ = some (.string (cbs y.name)) ∧ w1.cell? ⟨bl,off + i * 4 + 1,none⟩ = some (.string (cbs y.ofn)) ∧ w1.cell? ⟨bl,off + i * 4 + 2,none⟩ = some (.int .i64 y.dims) ∧ w1.cell? ⟨bl,off + i * 4 + 3,none⟩ = some (.int .i64 y.at_):=by
 rcases h with rfl | ⟨bl,off,hq,hbl,-,ha⟩
 ·simp at hx
 ·refine ⟨bl,off,hq,hbl,fun w1 hb i y hy => ?_⟩
  obtain ⟨vs,hi,hc⟩:=ha i y hy
  rw [PIs] at hi
  subst hi
  exact ⟨zK hb (hc 0 _ (by decide) rfl),zK hb (hc 1 _ (by decide) rfl),zK hb (hc 2 _ (by decide) rfl),zK hb (hc 3 _ (by decide) rfl)⟩
theorem zBm (w:World)(rs:List Nm)(qr:Option Addr)(kr:Nat)(l:List Pm)(q:Option Addr)(k:Nat)(hr:LAt NIs 1 w 0 qr rs)(hrl:rs.length ≤ 9000000000)(hp:LAt PIs 4 w 0 q l)(hl:l.length ≤ 9000000000) :
 Calls Try.prog 32 #[.slice qr rs.length kr,.slice q l.length k] w (QfPost w (qf rs l)):=by
 have HR:=vH hr
 have HRL:=vH hrl
 have HP:=vH hp
 have HL:=vH hl
 have G0:=vH (show QfSt w (.slice none 0 0) [] (w.alloc (.cells #[.int .i64 (0),.int .i64 0] 29)) from ⟨zC (Below.refl _ _),heap_alloc_new w _,World.ownsRow_nil _ _ _ _⟩)
 obtain ⟨y,hy⟩:∃ y,qf rs l = y:=⟨_,rfl⟩
 rw [hy]
 have HY:=vH hy
 clear hr hrl hp hl hy
 go_in
 go_wp2_with fail
 obtain ⟨wm,hwm⟩:∃ wm,wm = w.alloc (.cells #[.int .i64 (0),.int .i64 0] 29):=⟨_,rfl⟩
 rw [← hwm] at G0 ⊢
 clear hwm
 go_loopg [6,7] l.length (fun n v i wr => ∃ j:Nat,n + j = l.length ∧ i = .int .i64 (j:Int) ∧ QfSt w v ((l.take j).map (fdOf rs)) wr ∧ fltPs rs [] l = fltPs rs ((l.take j).map (fun p:Pm => p.name)) (l.drop j))
 case atStart => exact ⟨0,rfl,rfl,G0.out,rfl⟩
 case round =>
  obtain ⟨j,hj,rfl,hg,hf⟩:=hrel
  have G:=vH hg
  have HF:=vH hf
  have HJ:=vH hj
  clear hg hf hj G0
  cases gk with
  | zero =>
    obtain rfl:j = l.length:=by have:=HJ.out; omega
    have hd1:decide ((l.length:Int) < (l.length:Int)) = false:=decide_eq_false (by omega)
    have hF:fltPs rs [] l = none:=by have h:=HF.out; rw [List.drop_length,fltPs] at h; exact h
    obtain rfl:(l.map (fdOf rs),(0:Int),(0:Int)) = y:=by rw [← HY.out]; unfold qf; rw [hF]
    have hG:=G.out
    rw [List.take_length] at hG
    obtain ⟨p,k2,hv⟩:=zT hG.own
    rw [List.length_map] at hv
    subst hv
    have HLA:=vH (zGq hG.own).2
    have HBE:=vH hG.be
    obtain ⟨⟨f0,f1⟩,t0,t1⟩:=duo hG.ft
    have hlf:=zA hG.ft
    clear hF hG
    go_wp2_with fail
    exact bodyPost_ret (v:=.tuple #[.slice p l.length k2,.agg #[.int .i64 (0),.int .i64 0]]) (by simp [results,Try.results32,go_sem,f0,f1]) rfl
        ⟨p,k2,by rw [List.length_map],zAB (zAK HLA.out (((Ag.refl _ _).set (p:=⟨w.heap.size,0,none⟩) (.inl (Nat.lt_succ_self _)) _).set (p:=⟨w.heap.size,1,none⟩) (.inl (Nat.lt_succ_self _)) _)) (Nat.le_succ _),zJ (zJ HBE.out (p:=⟨w.heap.size,0,none⟩) (Nat.le_refl _) _) (p:=⟨w.heap.size,1,none⟩) (Nat.le_refl _) _⟩
  | succ m =>
    have hjl:j < l.length:=by have:=HJ.out; omega
    have hd1:decide ((j:Int) < (l.length:Int)) = true:=decide_eq_true (by omega)
    have hi1:(j:Int) < (l.length:Int):=by omega
    have hd2:decide (l.length ≤ j) = false:=decide_eq_false (by omega)
    have hdw:wrap64 ((j:Int) + 1) = ((j + 1:Nat):Int):=by have:=HL.out; simp [wrap64]; omega
    have he:=List.getElem?_eq_getElem hjl
    generalize l[j] = x at he
    have HTN:=vH (zU (fun p:Pm => p.name) he)
    have HTF:=vH (zU (fdOf rs) he)
    have HDR:=vH (zS he)
    obtain ⟨bl,off,hbl0,hbl,hcc⟩:=zG6 HP.out he
    obtain rfl:some ⟨bl,off,none⟩ = q:=hbl0.symm
    have HCC:=vH hcc
    have HTQ:=vH (zFc wr rs qr kr (zCU HR.out (Ag.below G.out.be)) x.ofn x.dims HRL.out)
    obtain ⟨t,ht⟩:∃ t,tyOf rs x.ofn x.dims = t:=⟨_,rfl⟩
    rw [ht] at HTQ
    have hfd:fdOf rs x = ⟨x.name,t.1⟩:=by unfold fdOf; rw [ht]
    rw [hfd] at HTF
    have hflt:∀ prev tl,fltPs rs prev (x :: tl) = if x.name ∈ prev ∨ t.2 = false then some x.at_ else fltPs rs (prev ++ [x.name]) tl:=fun prev tl => by rw [fltPs,ht]
    obtain ⟨⟨tb,tr,td⟩,ok⟩:=t
    have htq:=HTQ.out
    unfold tyV at htq
    dsimp only at htq hflt HTF
    have HTT:=vH htq
    have HFL:=vH hflt
    obtain ⟨x0,x1,x2,x3⟩:=HCC.out wr G.out.be j x he
    have HE:=vH he
    clear htq hflt HTQ hfd ht hcc he hbl0
    go_wp2_with fail
    refine HTT.out.mono ?_
    rintro e w2 ⟨rfl,hb⟩
    obtain ⟨w3,hw3⟩:∃ w3,w3 = w2.alloc (.cells #[.int .i64 tb,.int .i64 tr,.int .i64 td] 47):=⟨_,rfl⟩
    have hb3:Below wr.heap.size wr w3:=by rw [hw3]; exact zC hb
    replace G:=vH (G.out.go hb3)
    have HT8:=vH (show w3.heap[w2.heap.size]? = some (.cells #[.int .i64 tb,.int .i64 tr,.int .i64 td] 47 (0,0)) by rw [hw3]; exact heap_alloc_new w2 _)
    clear hb hb3 x0 x1 x2 x3
    go_wp2_with fail
    rw [← hw3]
    clear hw3
    go_loopg [9,10] j (fun n okv kv wq => ∃ (i:Nat) (b:Bool),n + i = j ∧ kv = .int .i64 (i:Int) ∧ okv = .bool b ∧ Below w3.heap.size w3 wq ∧ b = (ok && decide (x.name ∉ (l.take i).map (fun p:Pm => p.name))))
    case atStart => exact ⟨0,ok,rfl,rfl,rfl,Below.refl _ _,by simp⟩
    case round =>
        obtain ⟨i,b,hi,rfl,rfl,hbq,hbb⟩:=hrel
        have HI:=vH hi
        have HBQ:=vH hbq
        have HBB:=vH hbb
        clear hi hbq hbb
        cases gk with
        | zero =>
          obtain rfl:i = j:=by have:=HI.out; omega
          have hd4:decide ((i:Int) < (i:Int)) = false:=decide_eq_false (by omega)
          have hbe:=zE G.out.be HBQ.out G.out.be.size
          obtain ⟨x0,-,-,x3⟩:=HCC.out _ hbe i x HE.out
          have GQ:=vH (G.out.go HBQ.out)
          have HB8:=vH ((HBQ.out.block _ (zA HT8.out)).trans HT8.out)
          have hdr:=HF.out
          rw [HDR.out,HFL.out] at hdr
          have hd6:decide (i < i) = false:=decide_eq_false (Nat.lt_irrefl _)
          cases b with
          | false =>
            have hbad:x.name ∈ (l.take i).map (fun p:Pm => p.name) ∨ ok = false:=by
             have h:=HBB.out
             cases ok with
             | false => exact .inr rfl
             | true => exact .inl (by simpa using h)
            rw [if_pos hbad] at hdr
            obtain rfl:([],(3:Int),x.at_) = y:=by rw [← HY.out]; unfold qf; rw [hdr]
            clear hdr hbad hbe
            go_wp2_with fail
            refine (zB1 wr x.at_).mono ?_
            rintro e w5 ⟨rfl,hb⟩
            have G5:=vH (GQ.out.go hb)
            clear hb x0 x3
            obtain ⟨⟨f0,f1⟩,t0,t1⟩:=duo G5.out.ft
            have hlf:=zA G5.out.ft
            go_wp2_with fail
            exact bodyPost_ret (v:=.tuple #[.slice none 0 0,.agg #[.int .i64 3,.int .i64 x.at_]]) (by simp [results,Try.results32,go_sem,f0,f1]) rfl
             ⟨none,0,rfl,.inl rfl,zJ (zJ G5.out.be (p:=⟨w.heap.size,0,none⟩) (Nat.le_refl _) _) (p:=⟨w.heap.size,1,none⟩) (Nat.le_refl _) _⟩
          | true =>
            have hgood:¬ (x.name ∈ (l.take i).map (fun p:Pm => p.name) ∨ ok = false):=by
             have h:=HBB.out
             cases ok with
             | false => exact absurd h (by simp)
             | true => rintro (h1 | h1)
                       ·exact absurd h1 (show x.name ∉ _ by simpa using h)
                       ·exact absurd h1 (by simp)
            rw [if_neg hgood,← HTN.out] at hdr
            have HD2:=vH hdr
            have hol:((l.take i).map (fdOf rs)).length = i:=by rw [List.length_map,List.length_take]; omega
            generalize (l.take i).map (fdOf rs) = out at G GQ HTF hol
            have HOL:=vH hol
            obtain ⟨lp,lc,hls⟩:=zT GQ.out.own
            subst hls
            obtain ⟨⟨z0,z1,z2⟩,-⟩:=tri HB8.out
            obtain ⟨i0,hi0,hz0,hz1,hz2⟩:=info_parts zHL
            clear hdr hgood hbe hol
            go_wp2_with fail
            go_region_law (first
             | (refine zP rfl (.tmp 54) (.tmp 62) 33 rfl (w.heap.size + 1) 57 i0 _ 4 40 Try.underlying33 hi0 hz0 hz1 hz2 rfl (by decide) (.slice lp out.length lc) out.length (out.flatMap fdCells) (by simp [Act.eval]) (zD7 (GQ.out.own.alloc _)) ⟨wr.heap.size,0,none⟩ 1 1 (fdCells ⟨x.name,⟨tb,tr,td⟩⟩) (by simp [Act.eval]) rfl (zAE rfl rfl) (zHO _) (by have:=HOL.out; have:=HL.out; unfold maxLen; omega) (by have:=HOL.out; have:=HL.out; omega) (by show w.heap.size + 1 ≤ (wr.alloc _).heap.size; rw [zB]; have:=GQ.out.sz; omega) ?_; intro v' w8 hown hgrow hat; have G8:=vH (GQ.out.push hown (zBF hgrow)); obtain ⟨np,nc,hnv⟩:=zT hown; subst hnv; clear hown hgrow hat))
            all_goals
             go_wp2_with fail
             go_roundg m
             case measure => omega
             case rel => exact ⟨i + 1,by have:=HJ.out; omega,by first | rfl | simp [hdw],by rw [HTF.out]; exact G8.out,HD2.out⟩
        | succ m2 =>
          have hil:i < j:=by have:=HI.out; omega
          have hd4:decide ((i:Int) < (j:Int)) = true:=decide_eq_true (by omega)
          have hd6:decide (i < j) = true:=decide_eq_true hil
          have hi2:(i:Int) < (l.length:Int):=by omega
          have hd5:decide (l.length ≤ i) = false:=decide_eq_false (by omega)
          have hdw2:wrap64 ((i:Int) + 1) = ((i + 1:Nat):Int):=by have:=HL.out; simp [wrap64]; omega
          have hey:=List.getElem?_eq_getElem (show i < l.length by omega)
          generalize l[i] = y at hey
          have HT2:=vH (zU (fun p:Pm => p.name) hey)
          have hbe:=zE G.out.be HBQ.out G.out.be.size
          obtain ⟨y0,-,-,-⟩:=HCC.out _ hbe i y hey
          obtain ⟨x0,-,-,-⟩:=HCC.out _ hbe j x HE.out
          have hyl:(cbs y.name).toList = y.name:=zI _
          have hxl:(cbs x.name).toList = x.name:=zI _
          have hmem:(ok && decide (x.name ∉ (l.take (i + 1)).map (fun p:Pm => p.name))) = (b && !(y.name == x.name)):=by
           rw [HBB.out,HT2.out]
           by_cases h1:y.name = x.name
           ·have h2:(y.name == x.name) = true:=by simpa using h1
            rw [h2]
            simp [h1]
           ·have h2:(y.name == x.name) = false:=by rw [beq_eq_false_iff_ne]; exact h1
            rw [h2]
            simp [Ne.symm h1]
          have HMM:=vH hmem
          clear hmem hbe hey hil
          cases b with
          | false =>
            go_wp2_with fail
            go_quiet (fail)
            go_wp2_with fail
            go_roundg m2
            case measure => omega
            case rel => exact ⟨i + 1,_,by have:=HI.out; omega,by first | rfl | simp [hdw2],rfl,zF HBQ.out _,by rw [HMM.out]; rfl⟩
          | true =>
            obtain ⟨bb,hbb⟩:∃ bb,(y.name == x.name) = bb:=⟨_,rfl⟩
            rw [hbb] at HMM
            cases bb with
            | false =>
              go_wp2_with fail
              go_quiet (fail)
              go_wp2_with fail
              go_roundg m2
              case measure => omega
              case rel => exact ⟨i + 1,_,by have:=HI.out; omega,by first | rfl | simp [hdw2],rfl,zF HBQ.out _,by rw [HMM.out]; rfl⟩
            | true =>
              go_wp2_with fail
              go_quiet (fail)
              go_wp2_with fail
              go_roundg m2
              case measure => omega
              case rel => exact ⟨i + 1,_,by have:=HI.out; omega,by first | rfl | simp [hdw2],rfl,zF HBQ.out _,by rw [HMM.out]; rfl⟩
end Go.Proofs.Ytjleggpbghmobaa
namespace Go.Proofs.Ytjleggpbghmobaa
open Go.RowKit
open Hs (Nm TypH FldH ShpH SigH HdsH)
theorem zH2:Try.prog.stoodInHeld 57 = false:=by kernel_rfl
theorem zJA (s:List UInt8)(a b c:Int)(w:World):(binOp .neq 57 (.agg #[.string (cbs s),.int .i64 a,.int .i64 b,.int .i64 c]) (.agg #[.string (cbs s),.int .i64 a,.int .i64 b,.int .i64 c])).run Try.prog w = .ok (.bool false) w:=by
 rw [run_neq_struct,run_equalIn_agg w 9999 _ _ _ (by kernel_rfl) zH2]
 simp [go_sem]
theorem zB5 (w:World)(l:List FldH)(p q:Option Addr)(c d:Nat)(hp:LAt FdIs 4 w 0 p l)(hq:LAt FdIs 4 w 0 q l)(hl:l.length ≤ 9000000000) :
 Calls Try.prog 33 #[.slice p l.length c,.slice q l.length d] w fun e w' => e = .returned (.bool true) ∧ ∃ n,w' = w.drewN n:=by
 have HP:=vH hp
 have HQ:=vH hq
 have HL:=vH hl
 have hne:((l.length:Int) != (l.length:Int)) = false:=bne_self_eq_false _
 clear hp hq hl
 go_in
 go_wp2_with fail
 go_loopg [5] l.length (fun n i wr => ∃ (j k:Nat),n + j = l.length ∧ i = .int .i64 (j:Int) ∧ wr = w.drewN k)
 case atStart => exact ⟨0,0,rfl,rfl,rfl⟩
 case round =>
  obtain ⟨j,kk,hj,rfl,rfl⟩:=hrel
  have HJ:=vH hj
  clear hj
  cases gk with
  | zero =>
    obtain rfl:j = l.length:=by have:=HJ.out; omega
    have hd1:decide ((l.length:Int) < (l.length:Int)) = false:=decide_eq_false (by omega)
    go_wp2_with fail
    go_ret
    exact ⟨rfl,kk,rfl⟩
  | succ m =>
    have hjl:j < l.length:=by have:=HJ.out; omega
    have hd1:decide ((j:Int) < (l.length:Int)) = true:=decide_eq_true (by omega)
    have hi1:(j:Int) < (l.length:Int):=by omega
    have hd2:decide (l.length ≤ j) = false:=decide_eq_false (by omega)
    have hdw:wrap64 ((j:Int) + 1) = ((j + 1:Nat):Int):=by have:=HL.out; simp [wrap64]; omega
    have he:=List.getElem?_eq_getElem hjl
    generalize l[j] = x at he
    obtain ⟨bl,off,vs,rfl,hbl,hi,hcc⟩:=HP.out.get he
    obtain ⟨bl2,off2,vs2,rfl,hbl2,hi2,hcc2⟩:=HQ.out.get he
    rw [FdIs] at hi hi2
    subst hi hi2
    have x0:=hcc 0 _ (by decide) rfl
    have x1:=hcc 1 _ (by decide) rfl
    have x2:=hcc 2 _ (by decide) rfl
    have x3:=hcc 3 _ (by decide) rfl
    have y0:=hcc2 0 _ (by decide) rfl
    have y1:=hcc2 1 _ (by decide) rfl
    have y2:=hcc2 2 _ (by decide) rfl
    have y3:=hcc2 3 _ (by decide) rfl
    simp only [Nat.add_zero] at x0 y0
    have heq:=fun w1 => zJA x.name x.ty.b x.ty.r x.ty.d w1
    clear hcc hcc2 he
    go_wp2_with fail
    go_quiet (fail)
    go_wp2_with fail
    go_roundg m
    case measure => omega
    case rel => exact ⟨j + 1,_,by have:=HJ.out; omega,by first | rfl | simp [hdw],rfl⟩
theorem zFu {f:FuncId}{args:Array Value}{wa:World}{kk n:Nat}{v:Value}(h:Calls Try.prog f args (wa.drewN (kk + n)) fun e w' => e = .returned v ∧ ∃ m,w' = (wa.drewN (kk + n)).drewN m):Calls Try.prog f args (wa.drewN (kk + n)) fun e w' => e = .returned v ∧ ∃ m,w' = wa.drewN (kk + m):=
 h.mono fun _ _ ⟨h1,m,h2⟩ => ⟨h1,n + m,by rw [h2,World.drewN_drewN,Nat.add_assoc]⟩
structure HdSm (h:HdsH):Prop where
 recs:h.recs.length ≤ 9000000000
 globals:h.globals.length ≤ 9000000000
 sigs:h.sigs.length ≤ 9000000000
 rec1:∀ r ∈ h.recs,r.fields.length ≤ 9000000000
 sig1:∀ f ∈ h.sigs,f.params.length ≤ 9000000000
theorem zIo (a b c:Int)(w:World):(binOp .neq 47 (.agg #[.int .i64 a,.int .i64 b,.int .i64 c]) (.agg #[.int .i64 a,.int .i64 b,.int .i64 c])).run Try.prog w = .ok (.bool false) w:=by
 rw [run_neq_struct,run_equalIn_agg w 9999 _ _ _ (by kernel_rfl) zFg]
 simp [go_sem]
theorem zDA (w:World)(h:HdsH)(p q r p2 q2 r2:Option Addr)(c d f c2 d2 f2:Nat)(h1:LAt ShIs 2 w 0 p h.recs)(h2:LAt FdIs 4 w 0 q h.globals)(h3:LAt SgIs 6 w 0 r h.sigs)(g1:LAt ShIs 2 w 0 p2 h.recs)(g2:LAt FdIs 4 w 0 q2 h.globals)(g3:LAt SgIs 6 w 0 r2 h.sigs)(hs:HdSm h) :
 Calls Try.prog 12 #[.agg #[.slice p h.recs.length c,.slice q h.globals.length d,.slice r h.sigs.length f,.int .i64 h.main],.agg #[.slice p2 h.recs.length c2,.slice q2 h.globals.length d2,.slice r2 h.sigs.length f2,.int .i64 h.main]] w fun e w' => e = .returned (.bool true) ∧ Below w.heap.size w w':=by
 obtain ⟨wa,hwa⟩:∃ wa,wa = (w.alloc (.cells #[.slice p h.recs.length c,.slice q h.globals.length d,.slice r h.sigs.length f,.int .i64 h.main] 36)).alloc (.cells #[.slice p2 h.recs.length c2,.slice q2 h.globals.length d2,.slice r2 h.sigs.length f2,.int .i64 h.main] 36):=⟨_,rfl⟩
 have hba:Below w.heap.size w wa:=by rw [hwa]; exact zC (zC (Below.refl _ _))
 have hk1:wa.heap[w.heap.size]? = some (.cells #[.slice p h.recs.length c,.slice q h.globals.length d,.slice r h.sigs.length f,.int .i64 h.main] 36 (0,0)):=by rw [hwa]; exact zD _ (heap_alloc_new w _)
 have hk2:wa.heap[w.heap.size + 1]? = some (.cells #[.slice p2 h.recs.length c2,.slice q2 h.globals.length d2,.slice r2 h.sigs.length f2,.int .i64 h.main] 36 (0,0)):=by rw [hwa]; have:=heap_alloc_new (w.alloc (.cells #[.slice p h.recs.length c,.slice q h.globals.length d,.slice r h.sigs.length f,.int .i64 h.main] 36)) (.cells #[.slice p2 h.recs.length c2,.slice q2 h.globals.length d2,.slice r2 h.sigs.length f2,.int .i64 h.main] 36); rw [zB] at this; exact this
 obtain ⟨⟨a0,a1,a2,a3⟩,-⟩:=quad hk1
 obtain ⟨⟨b0,b1,b2,b3⟩,-⟩:=quad hk2
 have HB:=vH hba
 have HS:=vH hs
 have H1:=vH (h1.ag (fun _ _ h => h.ag (Ag.below hba)) (Ag.below hba))
 have H3:=vH (h3.ag (fun _ _ h => h.ag (Ag.below hba)) (Ag.below hba))
 have G1:=vH (g1.ag (fun _ _ h => h.ag (Ag.below hba)) (Ag.below hba))
 have G3:=vH (g3.ag (fun _ _ h => h.ag (Ag.below hba)) (Ag.below hba))
 have HF:=vH (fun (l:List FldH) (x y:Option Addr) (k m:Nat) (hx:LAt FdIs 4 wa 0 x l) (hy:LAt FdIs 4 wa 0 y l) (hl:l.length ≤ 9000000000) (u:World) (hb:Below wa.heap.size wa u) => zB5 u l x y k m (zAK hx (Ag.below hb)) (zAK hy (Ag.below hb)) hl)
 have HG:=vH (zB5 wa h.globals q q2 d d2 (zAK h2 (Ag.below hba)) (zAK g2 (Ag.below hba)) hs.globals)
 have hn0:(h.main != h.main) = false:=bne_self_eq_false _
 have hn1:((h.recs.length:Int) != (h.recs.length:Int)) = false:=bne_self_eq_false _
 have hn2:((h.sigs.length:Int) != (h.sigs.length:Int)) = false:=bne_self_eq_false _
 clear hba hk1 hk2 h1 h2 h3 g1 g2 g3 hs
 go_in
 go_wp2_with fail
 rw [← hwa]
 clear hwa
 refine HG.out.mono ?_
 rintro e w1 ⟨rfl,n1,rfl⟩
 go_wp2_with fail
 go_loopg [5] h.recs.length (fun n i wr => ∃ (j k:Nat),n + j = h.recs.length ∧ i = .int .i64 (j:Int) ∧ wr = wa.drewN k)
 case atStart => exact ⟨0,n1,rfl,rfl,rfl⟩
 case round =>
  obtain ⟨j,kk,hj,rfl,rfl⟩:=hrel
  have HJ:=vH hj
  clear hj
  cases gk with
  | zero =>
    obtain rfl:j = h.recs.length:=by have:=HJ.out; omega
    have hd1:decide ((h.recs.length:Int) < (h.recs.length:Int)) = false:=decide_eq_false (by omega)
    go_wp2_with fail
    go_loopg [6] h.sigs.length (fun n i wr => ∃ (j k:Nat),n + j = h.sigs.length ∧ i = .int .i64 (j:Int) ∧ wr = wa.drewN k)
    case atStart => exact ⟨0,kk,rfl,rfl,rfl⟩
    case round =>
        obtain ⟨j,kk,hj,rfl,rfl⟩:=hrel
        have HJ2:=vH hj
        clear hj
        cases gk with
        | zero =>
          obtain rfl:j = h.sigs.length:=by have:=HJ2.out; omega
          have hd3:decide ((h.sigs.length:Int) < (h.sigs.length:Int)) = false:=decide_eq_false (by omega)
          go_wp2_with fail
          go_ret
          exact ⟨rfl,zF HB.out _⟩
        | succ m =>
          have hjl:j < h.sigs.length:=by have:=HJ2.out; omega
          have hd1:decide ((j:Int) < (h.sigs.length:Int)) = true:=decide_eq_true (by omega)
          have hi1:(j:Int) < (h.sigs.length:Int):=by omega
          have hd2:decide (h.sigs.length ≤ j) = false:=decide_eq_false (by omega)
          have hdw:wrap64 ((j:Int) + 1) = ((j + 1:Nat):Int):=by have:=HS.out.sigs; simp [wrap64]; omega
          have he:=List.getElem?_eq_getElem hjl
          have hsm:=HS.out.sig1 _ (List.getElem_mem hjl)
          generalize h.sigs[j] = x at he hsm
          obtain ⟨bl,off,vs,hr1,hbl,⟨fp,fc,rfl,hF1⟩,hcc⟩:=H3.out.get he
          obtain ⟨bl2,off2,vs2,hr2,hbl2,⟨fp2,fc2,rfl,hF2⟩,hcc2⟩:=G3.out.get he
          have x0:=hcc 0 _ (by decide) rfl
          have x1:=hcc 1 _ (by decide) rfl
          have x2:=hcc 2 _ (by decide) rfl
          have x3:=hcc 3 _ (by decide) rfl
          have x4:=hcc 4 _ (by decide) rfl
          have x5:=hcc 5 _ (by decide) rfl
          have y0:=hcc2 0 _ (by decide) rfl
          have y1:=hcc2 1 _ (by decide) rfl
          have y2:=hcc2 2 _ (by decide) rfl
          have y3:=hcc2 3 _ (by decide) rfl
          have y4:=hcc2 4 _ (by decide) rfl
          have y5:=hcc2 5 _ (by decide) rfl
          simp only [Nat.add_zero] at x0 y0
          have HFX:=vH (fun n => zFu (HF.out x.params fp fp2 fc fc2 hF1 hF2 hsm (wa.drewN (kk + n)) (zF (Below.refl _ _) _)))
          have heq:=fun w1 => zIo x.result.b x.result.r x.result.d w1
          have hb1:(x.has != x.has) = false:=bne_self_eq_false _
          obtain rfl:some ⟨bl,off,none⟩ = r:=hr1.symm
          obtain rfl:some ⟨bl2,off2,none⟩ = r2:=hr2.symm
          clear hcc hcc2 he hF1 hF2 hr1 hr2 hsm
          go_wp2_with fail
          go_quiet ((go_at_call 33; exact HFX.out _))
          go_wp2_with fail
          go_roundg m
          case measure => omega
          case rel => exact ⟨j + 1,_,by have:=HJ2.out; omega,by first | rfl | simp [hdw],rfl⟩
  | succ m =>
    have hjl:j < h.recs.length:=by have:=HJ.out; omega
    have hd1:decide ((j:Int) < (h.recs.length:Int)) = true:=decide_eq_true (by omega)
    have hi1:(j:Int) < (h.recs.length:Int):=by omega
    have hd2:decide (h.recs.length ≤ j) = false:=decide_eq_false (by omega)
    have hdw:wrap64 ((j:Int) + 1) = ((j + 1:Nat):Int):=by have:=HS.out.recs; simp [wrap64]; omega
    have he:=List.getElem?_eq_getElem hjl
    have hsm:=HS.out.rec1 _ (List.getElem_mem hjl)
    generalize h.recs[j] = x at he hsm
    obtain ⟨bl,off,vs,hr1,hbl,⟨fp,fc,rfl,hF1⟩,hcc⟩:=H1.out.get he
    obtain ⟨bl2,off2,vs2,hr2,hbl2,⟨fp2,fc2,rfl,hF2⟩,hcc2⟩:=G1.out.get he
    have x0:=hcc 0 _ (by decide) rfl
    have x1:=hcc 1 _ (by decide) rfl
    have y0:=hcc2 0 _ (by decide) rfl
    have y1:=hcc2 1 _ (by decide) rfl
    simp only [Nat.add_zero] at x0 y0
    have HFX:=vH (fun n => zFu (HF.out x.fields fp fp2 fc fc2 hF1 hF2 hsm (wa.drewN (kk + n)) (zF (Below.refl _ _) _)))
    obtain rfl:some ⟨bl,off,none⟩ = p:=hr1.symm
    obtain rfl:some ⟨bl2,off2,none⟩ = p2:=hr2.symm
    clear hcc hcc2 he hF1 hF2 hr1 hr2 hsm
    go_wp2_with fail
    go_quiet ((go_at_call 33; exact HFX.out _))
    go_wp2_with fail
    go_roundg m
    case measure => omega
    case rel => exact ⟨j + 1,_,by have:=HJ.out; omega,by first | rfl | simp [hdw],rfl⟩
end Go.Proofs.Ytjleggpbghmobaa
