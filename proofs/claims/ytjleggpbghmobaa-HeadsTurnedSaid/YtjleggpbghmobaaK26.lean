/-
  The project's list of declarations: fields.
-/
import Derived.Test.YtjleggpbghmobaaK01
import Derived.Test.YtjleggpbghmobaaK20
import Derived.Test.YtjleggpbghmobaaK25
import Derived.Deep.RegionLawGrows
import Derived.Deep.CutBlock
set_option maxRecDepth 8000
set_option maxHeartbeats 8000000
namespace Go.Proofs.Ytjleggpbghmobaa
open Go.RowKit
open Pg (Pm Rc Fc Gm)
open Hs (Nm TypH FldH find find_none refuse tyOf zAg fdOf fltPs zCE zU zS)
def PmSm (p:Pm):Prop:=p.name.length ≤ 281474976710656 ∧ p.ofn.length ≤ 281474976710656
def fdCells (x:FldH):List Value:=[.string (cbs x.name),.int .i64 x.ty.b,.int .i64 x.ty.r,.int .i64 x.ty.d]
def FdIs (_:World)(_:Nat)(x:FldH)(vs:List Value):Prop:=vs = fdCells x
theorem FdIs.len (w:World)(B:Nat)(x:FldH)(vs:List Value)(h:FdIs w B x vs):vs.length = 4:=by rw [FdIs] at h; rw [h]; rfl
theorem zHO (x:FldH):∀ u ∈ fdCells x,u.oneCell' = true:=by
 intro u hu
 simp [fdCells] at hu
 rcases hu with rfl | rfl | rfl | rfl <;> rfl
theorem zGr (l:List FldH)(x:FldH):(l ++ [x]).flatMap fdCells = l.flatMap fdCells ++ fdCells x:=by simp
theorem zHL:(Try.prog.info? 57).map (fun i => (i.zero,i.size,i.bytes)) = some (some (.agg #[.string ⟨#[]⟩,.int .i64 0,.int .i64 0,.int .i64 0]),4,40):=by kernel_rfl
theorem zHN:∀ (l:List FldH)(i j:Nat)(x:FldH)(v:Value),l[i]? = some x → j < 4 → (fdCells x)[j]? = some v → (l.flatMap fdCells)[i * 4 + j]? = some v
 | [],_,_,_,_,h,_,_ => by simp at h
 | y :: l,0,j,x,v,h,hj,hv => by
   simp at h
   subst h
   rw [List.flatMap_cons,List.getElem?_append_left (by show _ < 4; omega),Nat.zero_mul,Nat.zero_add,hv]
 | y :: l,i + 1,j,x,v,h,hj,hv => by
   have:=zHN l i j x v (by simpa using h) hj hv
   rw [List.flatMap_cons,List.getElem?_append_right (by show 4 ≤ _; omega),show (i + 1) * 4 + j - (fdCells y).length = i * 4 + j by show (i + 1) * 4 + j - 4 = _; omega]
   exact this
theorem zGq {w:World}{B:Nat}{p:Option Addr}{n c:Nat}{l:List FldH}{T:TypeId}(h:w.ownsRow B T 4 (.slice p n c) l.length (l.flatMap fdCells)):n = l.length ∧ LAt FdIs 4 w B p l:=by
 rcases h.2 with ⟨hv,h0⟩ | ⟨g,cap,cur,hv,hb,hc,hn,hcap,hsize,htake⟩
 ·obtain rfl:=List.eq_nil_of_length_eq_zero h0
  injection hv with _ hn
  exact ⟨hn,.inl rfl⟩
 ·injection hv with hp hn' _
  refine ⟨hn',.inr ⟨g,0,hp,zA hc,hb,fun i x hx => ⟨fdCells x,rfl,fun j v hj hv => ?_⟩⟩⟩
  have:=World.ownsRow.cells ⟨h.1,.inr ⟨g,cap,cur,rfl,hb,hc,hn,hcap,hsize,htake⟩⟩ (g:=g) rfl (i * 4 + j) v (zHN l i j x v hx hj hv)
  have hadd:∀ k,(⟨g,0,none⟩:Addr).add k = ⟨g,k,none⟩:=fun k => by unfold Addr.add; split <;> simp_all
  rw [hadd] at this
  rw [Nat.zero_add]
  exact this
theorem FdIs.any {w w1:World}{B B2:Nat}{x:FldH}{vs:List Value}(h:FdIs w B x vs):FdIs w1 B2 x vs:=h
theorem zAK {w w1:World}{B:Nat}{q:Option Addr}{l:List FldH}(h:LAt FdIs 4 w B q l)(g:Ag B w w1):LAt FdIs 4 w1 B q l:=LAt.ag (fun _ _ h => FdIs.any h) h g
theorem zAB {w:World}{B B2:Nat}{q:Option Addr}{l:List FldH}(h:LAt FdIs 4 w B q l)(hB:B2 ≤ B):LAt FdIs 4 w B2 q l:=LAt.lower (fun _ _ h => FdIs.any h) h hB
structure FdSt (w:World) (R M:Nat) (rs:List Nm) (c:Option Int) (nms:List Nm) (v:Value) (out:List FldH) (wr:World):Prop where
 ck:ChkM wr R M c
 rcn:NamM wr M rs
 nm:NamM wr w.heap.size nms
 own:wr.ownsRow (w.heap.size + 1) 57 4 v out.length (out.flatMap fdCells)
 gr:Gr R w wr
 le:w.heap.size + 1 ≤ wr.heap.size
section
variable {w wr w1 w3:World} {R M:Nat} {rs nms nms':List Nm} {c c':Option Int} {v v':Value} {out:List FldH}
theorem FdSt.go (h:FdSt w R M rs c nms v out wr)(hb:Below wr.heap.size wr w1):FdSt w R M rs c nms v out w1:=
 ⟨h.ck.below hb,h.rcn.below hb,h.nm.below hb,zA8 h.own (fun k hk => hb.block k (h.own.lt k hk).2),h.gr.below hb,Nat.le_trans h.le hb.size⟩
theorem FdSt.drew (h:FdSt w R M rs c nms v out wr):FdSt w R M rs c nms v out wr.drew:=h.go (zAc (Below.refl _ _))
theorem FdSt.step (h:FdSt w R M rs c nms v out wr)(hR:R < w.heap.size)(hne:M ≠ R)(hc:ChkM w1 R M c')(hg:Gr R wr w1):FdSt w R M rs c' nms v out w1:=
 ⟨hc,h.rcn.gr hg hne,h.nm.gr hg (Nat.ne_of_gt hR),zA8 h.own (fun k hk => hg.block k (h.own.lt k hk).2 (by have:=(h.own.lt k hk).1; omega)),h.gr.trans hg,Nat.le_trans h.le hg.size⟩
theorem FdSt.named (h:FdSt w R M rs c nms v out wr)(hR:R < w.heap.size)(hM:M < w.heap.size)(hne:M ≠ R)(hc:ChkM w1 R M c')(hn:NamM w1 w.heap.size nms')(hg:GrTw R w.heap.size wr w1):FdSt w R M rs c' nms' v out w1:=
 ⟨hc,h.rcn.kept (hg.block M h.rcn.lt hne (Nat.ne_of_lt hM)),hn,zA8 h.own (fun k hk => hg.block k (h.own.lt k hk).2 (by have:=(h.own.lt k hk).1; omega) (by have:=(h.own.lt k hk).1; omega)),
  ⟨hg.os.trans h.gr.os,hg.tape.trans h.gr.tape,hg.output.trans h.gr.output,Nat.le_trans h.gr.size hg.size,fun i hi hn => (hg.block i (Nat.lt_of_lt_of_le hi h.gr.size) hn (Nat.ne_of_lt hi)).trans (h.gr.block i hi hn)⟩,Nat.le_trans h.le hg.size⟩
theorem FdSt.push {x:FldH}{T:TypeId}{A:Array Value}(h:FdSt w R M rs c nms v out wr)(hR:R < w.heap.size)(hM:M < w.heap.size)(hown:w3.ownsRow (w.heap.size + 1) 57 4 v' (out.length + 1) (out.flatMap fdCells ++ fdCells x))(hgrow:(wr.alloc (.cells A T)).grownBy w3 v.ownBlock) :
 FdSt w R M rs c nms v' (out ++ [x]) w3:=by
 have hv:∀ k,v.ownBlock = some k → w.heap.size + 1 ≤ k:=fun k hk => (h.own.lt k hk).1
 have hb:∀ i,i < wr.heap.size → i < w.heap.size + 1 → w3.heap[i]? = wr.heap[i]?:=fun i h1 h2 =>
  (hgrow.block i (by rw [zB]; omega) (fun e => by have:=hv i e.symm; omega)).trans (heap_alloc_old _ _ h1)
 have hs:wr.heap.size ≤ w3.heap.size:=by have:=hgrow.size; rw [zB] at this; omega
 have hRl:=h.ck.lt
 have hMl:=h.rcn.lt
 exact ⟨(hb R hRl (by omega)).trans h.ck,h.rcn.kept (hb M hMl (by omega)),h.nm.kept (hb _ h.nm.lt (Nat.lt_succ_self _)),by rw [zGr,List.length_append]; exact hown,
  ⟨hgrow.os.trans h.gr.os,hgrow.tape.trans h.gr.tape,hgrow.output.trans h.gr.output,Nat.le_trans h.gr.size hs,fun i hi hn => (hb i (Nat.lt_of_lt_of_le hi h.gr.size) (Nat.lt_succ_of_lt hi)).trans (h.gr.block i hi hn)⟩,Nat.le_trans h.le hs⟩
end
theorem zC3 (w:World)(o:Obj):(w.alloc o).heap[w.heap.size]? = some o:=heap_alloc_new w o
theorem Ag.mid {B R:Nat}{w0 w w':World}(h:Below w0.heap.size w0 w)(hg:Gr R w w')(hR:w0.heap.size ≤ R):Ag B w0 w':=
 ⟨Nat.le_trans h.size hg.size,fun bl _ hl => (hg.block bl (Nat.lt_of_lt_of_le hl h.size) (by omega)).trans (h.block bl hl)⟩
def FdPost (w:World)(R M:Nat)(rs:List Nm)(c:Option Int)(l:List Pm)(e:Ending)(w':World):Prop:=
 ∃ (p:Option Addr) (k:Nat),e = .returned (.slice p l.length k) ∧ LAt FdIs 4 w' w.heap.size p (l.map (fdOf rs)) ∧ ChkM w' R M (c.or (fltPs rs [] l)) ∧ Gr R w w'
theorem zBn (w0 w:World)(R M:Nat)(c:Option Int)(rs:List Nm)(l:List Pm)(q:Option Addr)(k:Nat)(h0:Below w0.heap.size w0 w)(hR0:w0.heap.size ≤ R)(hp:LAt PIs 4 w0 0 q l)(hc:ChkM w R M c)(hm:NamM w M rs)(hne:M ≠ R)(hs:∀ p ∈ l,PmSm p)(hl:l.length ≤ 9000000000) :
 Calls Try.prog 44 #[.pointer (some ⟨R,0,none⟩),.slice q l.length k] w (FdPost w R M rs c l):=by
 have hmm:∀ (t:TypeId) (w:World),(Instr.makeMap t none).run Try.prog w = .ok (.map (some w.heap.size)) (w.alloc (.map #[] 0)):=fun _ _ => rfl
 have H0:=vH h0
 have HR0:=vH hR0
 have HP:=vH hp
 have HS:=vH hs
 have HL:=vH hl
 have HR:=vH hc.lt
 have HM:=vH hm.lt
 have HNE:=vH hne
 have G0:=vH (show FdSt w R M rs c [] (.slice none 0 0) [] (w.alloc (.map #[] 0)) from
  ⟨hc.below (zC (Below.refl _ _)),hm.below (zC (Below.refl _ _)),NamM.made w,World.ownsRow_nil _ _ _ _,Gr.of (zC (Below.refl _ _)),by rw [zB]; exact Nat.le_refl _⟩)
 clear h0 hR0 hp hc hm hne hs hl
 go_in
 go_wp2_with fail
 obtain ⟨wm,hwm⟩:∃ wm,wm = w.alloc (.map #[] 0):=⟨_,rfl⟩
 rw [← hwm] at G0 ⊢
 clear hwm
 go_loopg [5,12] l.length (fun n v i wr => ∃ (j:Nat) (c':Option Int),n + j = l.length ∧ i = .int .i64 (j:Int) ∧ FdSt w R M rs c' ((l.take j).map (·.name)) v ((l.take j).map (fdOf rs)) wr ∧ c.or (fltPs rs [] l) = c'.or (fltPs rs ((l.take j).map (·.name)) (l.drop j)))
 case atStart => exact ⟨0,c,rfl,rfl,G0.out,rfl⟩
 case round =>
  obtain ⟨j,c',hj,rfl,hg,hf⟩:=hrel
  have G:=vH hg
  have HF:=vH hf
  have HJ:=vH hj
  clear hg hf hj G0
  cases gk with
  | zero =>
    obtain rfl:j = l.length:=by have:=HJ.out; omega
    have hd1:decide ((l.length:Int) < (l.length:Int)) = false:=decide_eq_false (by omega)
    have hF:=HF.out
    rw [List.take_length,List.drop_length] at hF
    have hG:=G.out
    rw [List.take_length] at hG
    obtain ⟨p,k2,hv⟩:=zT hG.own
    rw [List.length_map] at hv
    subst hv
    obtain ⟨-,hla⟩:=zGq hG.own
    have HLA:=vH hla
    have HCK:=vH (show ChkM wr R M (c.or (fltPs rs [] l)) by rw [hF]; unfold fltPs; rw [zAg]; exact hG.ck)
    clear hF hG hla
    go_wp2_with fail
    go_ret
    exact ⟨p,k2,rfl,zAB HLA.out (Nat.le_succ _),HCK.out,G.out.gr⟩
  | succ m =>
    have hjl:j < l.length:=by have:=HJ.out; omega
    have hd1:decide ((j:Int) < (l.length:Int)) = true:=decide_eq_true (by omega)
    have hi1:(j:Int) < (l.length:Int):=by omega
    have hd2:decide (l.length ≤ j) = false:=decide_eq_false (by omega)
    have hdw:wrap64 ((j:Int) + 1) = ((j + 1:Nat):Int):=by have:=HL.out; simp [wrap64]; omega
    have he:=List.getElem?_eq_getElem hjl
    have hsm:=HS.out _ (List.getElem_mem hjl)
    generalize l[j] = x at he hsm
    have HSM:=vH hsm
    have HTN:=vH (zU (fun p:Pm => p.name) he)
    have HTF:=vH (zU (fdOf rs) he)
    have HDR:=vH (zS he)
    obtain ⟨bl,off,vs,rfl,hbl,hi,hcc⟩:=(LAt.ag (w:=w0) (w1:=wr) (fun _ _ h => h) HP.out (Ag.mid H0.out G.out.gr HR0.out)).get he
    rw [PIs] at hi
    subst hi
    have x0:=hcc 0 _ (by decide) rfl
    have x1:=hcc 1 _ (by decide) rfl
    have x2:=hcc 2 _ (by decide) rfl
    have x3:=hcc 3 _ (by decide) rfl
    simp only [Nat.add_zero] at x0
    have hne1:bl ≠ wr.heap.size:=Nat.ne_of_lt hbl
    clear hcc he hsm
    go_wp2_with fail
    have hnl:((l.take j).map (fun p:Pm => p.name)).length = j:=by rw [List.length_map,List.length_take]; omega
    have hol:((l.take j).map (fdOf rs)).length = j:=by rw [List.length_map,List.length_take]; omega
    generalize (l.take j).map (fun p:Pm => p.name) = nms at G HF HTN hnl
    generalize (l.take j).map (fdOf rs) = out at G HTF hol
    have HB0:=vH (zC3 wr (.cells #[.string (cbs x.name),.string (cbs x.ofn),.int .i64 x.dims,.int .i64 x.at_] 76))
    have hwle:=G.out.le
    replace G:=vH (G.out.go (zC (o:=.cells #[.string (cbs x.name),.string (cbs x.ofn),.int .i64 x.dims,.int .i64 x.at_] 76) (Below.refl _ _)))
    have hdec:=zBo _ R M w.heap.size c' nms x.name x.at_ G.out.ck G.out.nm (Nat.ne_of_gt HR.out) (Nat.le_trans HSM.out.1 (by decide)) (by have:=HJ.out; have:=HL.out; omega)
    rw [hnl] at hdec
    have HDC:=vH hdec
    have HOL:=vH hol
    have HWL:=vH hwle
    clear hdec hnl hol hwle x0 x1 x2 x3 hne1 hbl
    refine HDC.out.mono ?_
    rintro e w2 ⟨rfl,hck,hnm,hgt⟩
    have hrl:=HR.out
    have HBX:=vH ((hgt.block wr.heap.size (zA HB0.out) (by have:=HWL.out; omega) (by have:=HWL.out; omega)).trans HB0.out)
    replace G:=vH (G.out.named HR.out HM.out HNE.out hck hnm hgt)
    clear hck hnm hgt HB0 HDC hrl
    obtain ⟨lp,lc,hls⟩:=zT G.out.own
    subst hls
    have hto:=fun (w1:World) (c1:Option Int) (h1:ChkM w1 R M c1) (h2:NamM w1 M rs) => zCu w1 R M c1 rs x.ofn x.dims x.at_ h1 h2 HNE.out (Nat.le_trans HSM.out.2 (by decide))
    obtain ⟨t,ht⟩:∃ t,tyOf rs x.ofn x.dims = t:=⟨_,rfl⟩
    have hfd:fdOf rs x = ⟨x.name,t.1⟩:=by unfold fdOf; rw [ht]
    have hstep:=zCE rs c' nms x (l.drop (j + 1))
    rw [ht] at hto hstep
    rw [hfd] at HTF
    obtain ⟨⟨tb,tr,td⟩,ok⟩:=t
    unfold tyV at hto
    dsimp only at hto hstep HTF
    have HTO:=vH hto
    have HST:=vH hstep
    clear hto hstep hfd ht
    go_wp2_with fail
    have HWL2:=vH (show wr.heap.size < w2.heap.size from zA HBX.out)
    obtain ⟨i0,hi0,hz0,hz1,hz2⟩:=info_parts zHL
    replace G:=vH G.out.drew
    have HCN:=vH (show (cbs x.name).size ≤ 281474976710656 by rw [zBZ]; exact HSM.out.1)
    have HBY:=vH (show w2.drew.heap[wr.heap.size]? = _ from HBX.out)
    obtain ⟨⟨a0,a1,a2,a3⟩,-⟩:=quad HBY.out
    clear HBX
    go_region_law (first
        | (refine zP rfl (.tmp 25) (.tmp 36) 33 rfl (w.heap.size + 1) 57 i0 _ 4 40 Try.underlying33 hi0 hz0 hz1 hz2 rfl (by decide) (.slice lp out.length lc) out.length (out.flatMap fdCells) (by simp [Act.eval]) (G.out.own.alloc _) ⟨wq.heap.size,0,none⟩ 1 1 (fdCells ⟨x.name,⟨tb,tr,td⟩⟩) (by simp [Act.eval]) rfl (zAE rfl rfl) (zHO _) (by have:=HOL.out; have:=HJ.out; have:=HL.out; unfold maxLen; omega) (by have:=HOL.out; have:=HJ.out; have:=HL.out; omega) (by rw [zB]; have:=G.out.le; omega) ?_; intro v' w8 hown hgrow hat; have G8:=vH (G.out.push HR.out HM.out hown hgrow); obtain ⟨np,nc,hnv⟩:=zT hown; subst hnv; clear hown hgrow hat)
        | (go_simp; go_wp2_with (first
          | (go_at_call 43; (with_reducible refine Calls.mono (clone_any _ (cbs x.name) HCN.out) ?_); rintro e wq ⟨rfl,hb⟩; have GN:=vH (G.out.go hb); have G:=GN; have HBN:=vH ((hb.block _ (zA HBY.out)).trans HBY.out); have HBY:=HBN; clear hb a0 a1 a2 a3; obtain ⟨⟨a0,a1,a2,a3⟩,-⟩:=quad HBY.out)
          | (go_at_call 60; (with_reducible refine Calls.mono (HTO.out _ _ G.out.ck G.out.rcn) ?_); rintro e wq ⟨rfl,hck,hg⟩; have GN:=vH (G.out.step HR.out HNE.out hck hg); have G:=GN; have HBN:=vH (hg.box HBY.out (by have:=HR.out; have:=HWL.out; omega)); have HBY:=HBN; clear hck hg a0 a1 a2 a3; obtain ⟨⟨a0,a1,a2,a3⟩,-⟩:=quad HBY.out))))
    all_goals
        go_wp2_with fail
        go_roundg m
        case measure => omega
        case rel => exact ⟨j + 1,_,by have:=HJ.out; omega,by first | rfl | simp [hdw],by rw [HTN.out,HTF.out]; exact G8.out,by rw [HF.out,HDR.out,HST.out,HTN.out]⟩
end Go.Proofs.Ytjleggpbghmobaa
namespace Go.Proofs.Ytjleggpbghmobaa
open Go.RowKit
open Hs (Nm TypH find find_none tyOf intN boolN zS)
def NIs (_:World)(_:Nat)(n:Nm)(vs:List Value):Prop:=vs = [.string (cbs n)]
theorem NIs.any {w w1:World}{B B2:Nat}{n:Nm}{vs:List Value}(h:NIs w B n vs):NIs w1 B2 n vs:=h
theorem zCU {w w1:World}{B:Nat}{q:Option Addr}{l:List Nm}(h:LAt NIs 1 w B q l)(g:Ag B w w1):LAt NIs 1 w1 B q l:=LAt.ag (fun _ _ h => NIs.any h) h g
theorem zHJ {w:World}{B B2:Nat}{q:Option Addr}{l:List Nm}(h:LAt NIs 1 w B q l)(hB:B2 ≤ B):LAt NIs 1 w B2 q l:=LAt.lower (fun _ _ h => NIs.any h) h hB
def ixOf (rs:List Nm)(n:Nm):Int:=match find rs n with
 | some i => (i:Int)
 | none => -1
theorem zGe (w:World)(rs:List Nm)(q:Option Addr)(c:Nat)(h:LAt NIs 1 w 0 q rs)(n:Nm)(hl:rs.length ≤ 9000000000) :
 Calls Try.prog 36 #[.slice q rs.length c,.string (cbs n)] w fun e w' => e = .returned (.int .i64 (ixOf rs n)) ∧ w = w':=by
 have H:=vH h
 have HL:=vH hl
 have hcl:(cbs n).toList = n:=zI n
 clear h hl
 go_in
 go_wp2_with fail
 go_loopg [8] rs.length (fun k i wr => ∃ j:Nat,k + j = rs.length ∧ i = .int .i64 (j:Int) ∧ wr = w ∧ find rs n = (find (rs.drop j) n).map (· + j))
 case atStart => exact ⟨0,rfl,rfl,rfl,by rw [List.drop_zero]; cases find rs n <;> rfl⟩
 case round =>
  obtain ⟨j,hj,rfl,rfl,hf⟩:=hrel
  have HJ:=vH hj
  have HF:=vH hf
  clear hj hf
  cases gk with
  | zero =>
    obtain rfl:j = rs.length:=by have:=HJ.out; omega
    have hd1:decide ((rs.length:Int) < (rs.length:Int)) = false:=decide_eq_false (by omega)
    have hF:ixOf rs n = -1:=by have h:=HF.out; rw [List.drop_length,find] at h; unfold ixOf; rw [h]; rfl
    have HX:=vH hF
    clear hF
    go_wp2_with fail
    go_ret
    exact ⟨by rw [HX.out]; rfl,rfl⟩
  | succ m =>
    have hjl:j < rs.length:=by have:=HJ.out; omega
    have hd1:decide ((j:Int) < (rs.length:Int)) = true:=decide_eq_true (by omega)
    have hi1:(j:Int) < (rs.length:Int):=by omega
    have hd2:decide (rs.length ≤ j) = false:=decide_eq_false (by omega)
    have hdw:wrap64 ((j:Int) + 1) = ((j + 1:Nat):Int):=by have:=HL.out; simp [wrap64]; omega
    have he:=List.getElem?_eq_getElem hjl
    generalize rs[j] = x at he
    have hdr:=zS he
    have hF:=HF.out
    rw [hdr,find] at hF
    obtain ⟨bl,off,vs,rfl,hbl,hi,hcc⟩:=H.out.get he
    rw [NIs] at hi
    subst hi
    have x0:=hcc 0 _ (by decide) rfl
    simp only [Nat.mul_one,Nat.add_zero] at x0
    have hxl:(cbs x).toList = x:=zI x
    clear hcc he hdr
    by_cases hx:x = n
    ·have hb1:(n == x) = true:=by simpa using hx.symm
     rw [if_pos hx] at hF
     have hX:ixOf rs n = (j:Int):=by unfold ixOf; rw [hF]; simp
     have HX:=vH hX
     clear hF hX hx
     go_wp2_with fail
     go_ret
     exact ⟨by rw [HX.out]; rfl,rfl⟩
    ·have hb1:(n == x) = false:=by rw [beq_eq_false_iff_ne]; exact fun e => hx e.symm
     rw [if_neg hx] at hF
     have HF2:=vH hF
     clear hF hx
     go_wp2_with fail
     go_roundg m
     case measure => omega
     case rel => exact ⟨j + 1,by have:=HJ.out; omega,by first | rfl | simp [hdw],rfl,by rw [HF2.out]; cases find (rs.drop (j + 1)) n with | none => rfl | some i => (simp; omega)⟩
theorem zDv (w:World)(b:Nat)(rs:List Nm)(q:Option Addr)(c:Nat)(hb:w.heap[b]? = some (.cells #[.slice q rs.length c] 43 (0,0)))(h:LAt NIs 1 w 0 q rs)(n:Nm)(hl:rs.length ≤ 9000000000) :
 Calls Try.prog 35 #[.string (cbs n),.pointer (some ⟨b,0,none⟩)] w fun e w' => e = .returned (.tuple #[.int .i64 (ixOf rs n),.bool (decide ((0:Int) ≤ ixOf rs n))]) ∧ w = w':=by
 have HX:=vH (zGe w rs q c h n hl)
 have x0:w.cell? ⟨b,0,none⟩ = some (.slice q rs.length c):=by rw [cell_of_row _ _ _ _ _ _ hb]; rfl
 clear hb h
 go_in
 go_wp2_with fail
 refine HX.out.mono ?_
 rintro e w1 ⟨rfl,rfl⟩
 go_wp2_with fail
 go_ret2
 exact ⟨rfl,rfl⟩
theorem zDe (w:World)(b:Nat)(rs:List Nm)(q:Option Addr)(c:Nat)(hb:w.heap[b]? = some (.cells #[.slice q rs.length c] 43 (0,0)))(h:LAt NIs 1 w 0 q rs)(n:Nm)(d:Int)(hl:rs.length ≤ 9000000000) :
 Calls Try.prog 34 #[.agg #[.string (cbs n),.int .i64 d],.func (.func 35) #[] #[.pointer (some ⟨b,0,none⟩)]] w fun e w' => e = .returned (.tuple #[tyV (tyOf rs n d).1,.bool (tyOf rs n d).2]) ∧ Below w.heap.size w w':=by
 have HM:=vH (fun w1 (g:Below w.heap.size w w1) => zDv w1 b rs q c ((g.block b (zA hb)).trans hb) (zCU h (Ag.below g)) n hl)
 clear h hl hb
 have hcl:(cbs n).toList = n:=zI n
 by_cases h1:d < 0 ∨ 3 < d
 ·have hd1:(decide (d < 0) || decide (3 < d)) = true:=by simpa using h1
  rw [show tyOf rs n d = (TypH.z,false) from if_pos h1]
  have HB:=vH (Below.refl w.heap.size w)
  by_cases h2:d < 0
  ·have hd2:decide (d < 0) = true:=decide_eq_true h2
   go_in
   go_wp2_with fail
   exact bodyPost_ret (v:=.tuple #[tyV TypH.z,.bool false]) (by simp [results,Try.results34,go_sem,tyV,TypH.z]) rfl ⟨rfl,by with_reducible repeat (first | exact Below.refl _ _ | exact HB.out | refine zC ?_ | refine zJ ?_ (by show w.heap.size ≤ _; omega) _)⟩
  ·have hd2:decide (d < 0) = false:=decide_eq_false h2
   have hd3:decide ((3:Int) < d) = true:=decide_eq_true (by omega)
   go_in
   go_wp2_with fail
   exact bodyPost_ret (v:=.tuple #[tyV TypH.z,.bool false]) (by simp [results,Try.results34,go_sem,tyV,TypH.z]) rfl ⟨rfl,by with_reducible repeat (first | exact Below.refl _ _ | exact HB.out | refine zC ?_ | refine zJ ?_ (by show w.heap.size ≤ _; omega) _)⟩
 ·have hd2:decide (d < 0) = false:=decide_eq_false (by omega)
  have hd3:decide ((3:Int) < d) = false:=decide_eq_false (by omega)
  by_cases hi:n = intN
  ·rw [show tyOf rs n d = (⟨1,0,d⟩,true) by rw [tyOf,if_neg h1,if_pos hi]]
   have hn1:(n == ([105,110,116]:List UInt8)) = true:=by rw [hi]; rfl
   have HB:=vH (Below.refl w.heap.size w)
   clear hi h1
   go_in
   go_wp2_with fail
   exact bodyPost_ret (v:=.tuple #[tyV ⟨1,0,d⟩,.bool true]) (by simp [results,Try.results34,go_sem,tyV]) rfl ⟨rfl,by with_reducible repeat (first | exact Below.refl _ _ | exact HB.out | refine zC ?_ | refine zJ ?_ (by show w.heap.size ≤ _; omega) _)⟩
  ·have hn1:(n == ([105,110,116]:List UInt8)) = false:=by simpa [intN] using hi
   by_cases hb:n = boolN
   ·rw [show tyOf rs n d = (⟨2,0,d⟩,true) by rw [tyOf,if_neg h1,if_neg hi,if_pos hb]]
    have hn2:(n == ([98,111,111,108]:List UInt8)) = true:=by rw [hb]; rfl
    have HB:=vH (Below.refl w.heap.size w)
    clear hi hb h1
    go_in
    go_wp2_with fail
    exact bodyPost_ret (v:=.tuple #[tyV ⟨2,0,d⟩,.bool true]) (by simp [results,Try.results34,go_sem,tyV]) rfl ⟨rfl,by with_reducible repeat (first | exact Below.refl _ _ | exact HB.out | refine zC ?_ | refine zJ ?_ (by show w.heap.size ≤ _; omega) _)⟩
   ·have hn2:(n == ([98,111,111,108]:List UInt8)) = false:=by simpa [boolN] using hb
    have hty:tyOf rs n d = match find rs n with | some i => (⟨3,(i:Int),d⟩,true) | none => (TypH.z,false):=by rw [tyOf,if_neg h1,if_neg hi,if_neg hb]; cases find rs n <;> rfl
    cases hf:find rs n with
    | none =>
      rw [hf] at hty
      rw [hty]
      clear hi hb h1 hty
      go_in
      go_wp2_with fail
      refine (HM.out _ (zC (zC (Below.refl _ _)))).mono ?_
      rintro e w1 ⟨rfl,rfl⟩
      rw [ixOf,hf]
      dsimp only
      have HB:=vH (Below.refl w.heap.size w)
      clear hf
      go_wp2_with fail
      exact bodyPost_ret (v:=.tuple #[tyV TypH.z,.bool false]) (by simp [results,Try.results34,go_sem,tyV,TypH.z]) rfl ⟨rfl,by with_reducible repeat (first | exact Below.refl _ _ | exact HB.out | refine zC ?_ | refine zJ ?_ (by show w.heap.size ≤ _; omega) _)⟩
    | some i =>
      have hge:decide ((0:Int) ≤ (i:Int)) = true:=decide_eq_true (by omega)
      rw [hf] at hty
      rw [hty]
      clear hi hb h1 hty
      go_in
      go_wp2_with fail
      refine (HM.out _ (zC (zC (Below.refl _ _)))).mono ?_
      rintro e w1 ⟨rfl,rfl⟩
      rw [ixOf,hf]
      dsimp only
      have HB:=vH (Below.refl w.heap.size w)
      clear hf
      go_wp2_with fail
      exact bodyPost_ret (v:=.tuple #[tyV ⟨3,(i:Int),d⟩,.bool true]) (by simp [results,Try.results34,go_sem,tyV]) rfl ⟨rfl,by with_reducible repeat (first | exact Below.refl _ _ | exact HB.out | refine zC ?_ | refine zJ ?_ (by show w.heap.size ≤ _; omega) _)⟩
theorem zBp (w:World)(rs:List Nm)(q:Option Addr)(c:Nat)(h:LAt NIs 1 w 0 q rs)(n:Nm)(d:Int)(hl:rs.length ≤ 9000000000) :
 Calls Try.prog 15 #[.slice q rs.length c,.agg #[.string (cbs n),.int .i64 d]] w fun e w' => e = .returned (.tuple #[tyV (tyOf rs n d).1,.bool (tyOf rs n d).2]) ∧ Below w.heap.size w w':=by
 obtain ⟨wa,hwa⟩:∃ wa,wa = ((w.alloc (.cells #[.slice q rs.length c] 43)).alloc (.cells #[.string (cbs n),.int .i64 d] 45)).alloc (.cells #[.int .i64 0,.int .i64 0,.int .i64 0] 47):=⟨_,rfl⟩
 have hba:Below w.heap.size w wa:=by rw [hwa]; exact zC (zC (zC (Below.refl _ _)))
 have hk1:wa.heap[w.heap.size]? = some (.cells #[.slice q rs.length c] 43 (0,0)):=by rw [hwa]; exact zD _ (zD _ (heap_alloc_new w _))
 have hk2:wa.heap[w.heap.size + 1]? = some (.cells #[.string (cbs n),.int .i64 d] 45 (0,0)):=by rw [hwa]; refine zD _ ?_; have:=heap_alloc_new (w.alloc (.cells #[.slice q rs.length c] 43)) (.cells #[.string (cbs n),.int .i64 d] 45); rw [zB] at this; exact this
 have hk3:wa.heap[w.heap.size + 1 + 1]? = some (.cells #[.int .i64 0,.int .i64 0,.int .i64 0] 47 (0,0)):=by rw [hwa]; have:=heap_alloc_new ((w.alloc (.cells #[.slice q rs.length c] 43)).alloc (.cells #[.string (cbs n),.int .i64 d] 45)) (.cells #[.int .i64 0,.int .i64 0,.int .i64 0] 47); rw [zB,zB] at this; exact this
 have hr:=zDe wa w.heap.size rs q c hk1 (zCU h (Ag.below hba)) n d hl
 obtain ⟨t,ht⟩:∃ t,tyOf rs n d = t:=⟨_,rfl⟩
 rw [ht] at hr ⊢
 obtain ⟨⟨tb,tr,td⟩,ok⟩:=t
 unfold tyV at hr ⊢
 dsimp only at hr ⊢
 have HR:=vH hr
 have HB:=vH hba
 have HK3:=vH hk3
 obtain ⟨⟨k0,k1⟩,-⟩:=duo hk2
 clear hr hba hk1 hk2 hk3 h ht
 go_in
 go_upto_region 1 with fail
 rw [← hwa]
 clear hwa
 go_wp2_with fail
 refine HR.out.mono ?_
 rintro e w5 ⟨rfl,hb⟩
 have HB5:=vH (zE HB.out hb HB.out.size)
 have HZ:=vH ((hb.block _ (zA HK3.out)).trans HK3.out)
 clear hb k0 k1
 obtain ⟨⟨r0,r1,r2⟩,s0,s1,s2⟩:=tri HZ.out
 have hlr:=zA HZ.out
 go_wp2_with fail
 exact bodyPost_ret (v:=.tuple #[.agg #[.int .i64 tb,.int .i64 tr,.int .i64 td],.bool ok]) (by simp [results,Try.results15,go_sem,r0,r1,r2]) rfl
  ⟨rfl,zJ (zJ (zJ HB5.out (p:=⟨w.heap.size + 1 + 1,0,none⟩) (by show w.heap.size ≤ w.heap.size + 1 + 1; omega) _) (p:=⟨w.heap.size + 1 + 1,1,none⟩) (by show w.heap.size ≤ w.heap.size + 1 + 1; omega) _) (p:=⟨w.heap.size + 1 + 1,2,none⟩) (by show w.heap.size ≤ w.heap.size + 1 + 1; omega) _⟩
end Go.Proofs.Ytjleggpbghmobaa
