/-
  The project's sig: what is known of a function.
-/
import Derived.Test.YtjleggpbghmobaaK01
import Derived.Test.YtjleggpbghmobaaK26
set_option maxRecDepth 8000
set_option maxHeartbeats 8000000
namespace Go.Proofs.Ytjleggpbghmobaa
open Go.RowKit
open Pg (Pm Rc Fc Gm)
open Hs (Nm TypH FldH find find_none refuse tyOf zAg fdOf fltPs resOf)
theorem Below.mid {R:Nat}{w0 w u:World}(h:Below w0.heap.size w0 w)(hg:Gr R w u)(hR:w0.heap.size ≤ R):Below w0.heap.size w0 u:=
 ⟨hg.os.trans h.os,hg.tape.trans h.tape,hg.output.trans h.output,Nat.le_trans h.size hg.size,fun i hi => (hg.block i (Nat.lt_of_lt_of_le hi h.size) (by omega)).trans (h.block i hi)⟩
structure SgSt (w:World) (R M:Nat) (rs:List Nm) (o1 o2:Obj) (c:Option Int) (wr:World):Prop where
 ck:ChkM wr R M c
 rcn:NamM wr M rs
 gr:Gr R w wr
 bx:wr.heap[w.heap.size]? = some o1
 rs:wr.heap[w.heap.size + 1]? = some o2
section
variable {w wr w1:World} {R M:Nat} {rs:List Nm} {c c':Option Int} {o1 o2:Obj}
theorem SgSt.go (h:SgSt w R M rs o1 o2 c wr)(hb:Below wr.heap.size wr w1):SgSt w R M rs o1 o2 c w1:=
 ⟨h.ck.below hb,h.rcn.below hb,h.gr.below hb,(hb.block _ (zA h.bx)).trans h.bx,(hb.block _ (zA h.rs)).trans h.rs⟩
theorem SgSt.drew (h:SgSt w R M rs o1 o2 c wr):SgSt w R M rs o1 o2 c wr.drew:=h.go (zAc (Below.refl _ _))
theorem SgSt.alloc (h:SgSt w R M rs o1 o2 c wr)(o:Obj):SgSt w R M rs o1 o2 c (wr.alloc o):=h.go (zC (Below.refl _ _))
theorem SgSt.step (h:SgSt w R M rs o1 o2 c wr)(hR:R < w.heap.size)(hne:M ≠ R)(hc:ChkM w1 R M c')(hg:Gr R wr w1):SgSt w R M rs o1 o2 c' w1:=
 ⟨hc,h.rcn.gr hg hne,h.gr.trans hg,hg.box h.bx (Nat.ne_of_gt hR),hg.box h.rs (by omega)⟩
theorem SgSt.set (h:SgSt w R M rs o1 o2 c wr)(hR:R < w.heap.size)(hM:M < w.heap.size){p:Addr}(hp:w.heap.size + 1 < p.block)(u:Value):SgSt w R M rs o1 o2 c (wr.setCell p u):=
 ⟨h.ck.set (by omega) u,h.rcn.kept (Below.heap_setCell wr p u M (by omega)),h.gr.setNew (by omega) u,zN h.bx (by omega) u,zN h.rs (by omega) u⟩
end
theorem zKX {u w3:World}{o:Obj}(h:Below (u.alloc o).heap.size (u.alloc o) w3):w3.heap[u.heap.size]? = some o:=(h.block _ (zA (heap_alloc_new u o))).trans (heap_alloc_new u o)
theorem zJg (w:World)(o:Obj):w.heap.size < (w.alloc o).drew.heap.size:=by
 show w.heap.size < (w.alloc o).heap.size
 rw [zB]
 exact Nat.lt_succ_self _
theorem zIU {w:World}{B:Nat}{p:Option Addr}{l:List FldH}(_h:LAt FdIs 4 w B p l):Ag B w w:=Ag.refl _ _
theorem zOrH {B:Nat}{wf wc:World}(h:Ag B wf wc):wc.heap.size < B ∨ wf.heap.size ≤ wc.heap.size:=Or.inr h.size
section
variable {w' u:World} {p:Option Addr} {l:List FldH} {o:Obj} {z R:Nat}
theorem zKB (_h:LAt FdIs 4 w' (u.alloc o).drew.heap.size p l):u.heap.size < (u.alloc o).drew.heap.size ∨ w'.heap.size ≤ u.heap.size:=Or.inl (zJg u o)
theorem zKC (_h:LAt FdIs 4 w' (u.alloc o).heap.size p l):u.heap.size < (u.alloc o).heap.size ∨ w'.heap.size ≤ u.heap.size:=Or.inl (by rw [zB]; exact Nat.lt_succ_self _)
theorem zKA (_h:LAt FdIs 4 w' u.heap.size p l)(hz:u.heap[z]? = some o):z < u.heap.size ∨ w'.heap.size ≤ z:=Or.inl (zA hz)
theorem zK4 (h:Gr R (u.alloc o).drew w')(hne:u.heap.size ≠ R):w'.heap[u.heap.size]? = some o:=h.box (show (u.alloc o).drew.heap[u.heap.size]? = _ from heap_alloc_new u o) hne
theorem zK5 (h:Gr R (u.alloc o) w')(hne:u.heap.size ≠ R):w'.heap[u.heap.size]? = some o:=h.box (heap_alloc_new u o) hne
end
theorem exZH {w:World}{z:Nat}{o:Obj}(_h:w.heap[z]? = some o):∃ z',z = z':=⟨_,rfl⟩
theorem zEqH {B z:Nat}{wf wc:World}(_h:Ag B wf wc)(hz:wf.heap.size ≤ z):z < B ∨ wf.heap.size ≤ z:=Or.inr hz
theorem zGI {w1:World}{B:Nat}{T:TypeId}{c0 c1 c2 c3 c4 c5 c6:Value}(h:w1.heap[B]? = some (.cells #[c0,c1,c2,c3,c4,c5,c6] T (0,0))) :
 w1.cell? ⟨B,0,none⟩ = some c0 ∧ w1.cell? ⟨B,1,none⟩ = some c1 ∧ w1.cell? ⟨B,2,none⟩ = some c2 ∧ w1.cell? ⟨B,3,none⟩ = some c3 ∧ w1.cell? ⟨B,4,none⟩ = some c4 ∧ w1.cell? ⟨B,5,none⟩ = some c5 ∧ w1.cell? ⟨B,6,none⟩ = some c6:=
 ⟨by rw [cell_of_row _ _ _ _ _ _ h]; rfl,by rw [cell_of_row _ _ _ _ _ _ h]; rfl,by rw [cell_of_row _ _ _ _ _ _ h]; rfl,by rw [cell_of_row _ _ _ _ _ _ h]; rfl,by rw [cell_of_row _ _ _ _ _ _ h]; rfl,by rw [cell_of_row _ _ _ _ _ _ h]; rfl,by rw [cell_of_row _ _ _ _ _ _ h]; rfl⟩
theorem hexa {w1:World}{B:Nat}{T:TypeId}{c0 c1 c2 c3 c4 c5:Value}(h:w1.heap[B]? = some (.cells #[c0,c1,c2,c3,c4,c5] T (0,0))) :
 (w1.cell? ⟨B,0,none⟩ = some c0 ∧ w1.cell? ⟨B,1,none⟩ = some c1 ∧ w1.cell? ⟨B,2,none⟩ = some c2 ∧ w1.cell? ⟨B,3,none⟩ = some c3 ∧ w1.cell? ⟨B,4,none⟩ = some c4 ∧ w1.cell? ⟨B,5,none⟩ = some c5) ∧
 (w1.frozen? ⟨B,0,none⟩ = false ∧ w1.frozen? ⟨B,1,none⟩ = false ∧ w1.frozen? ⟨B,2,none⟩ = false ∧ w1.frozen? ⟨B,3,none⟩ = false ∧ w1.frozen? ⟨B,4,none⟩ = false ∧ w1.frozen? ⟨B,5,none⟩ = false) ∧ B < w1.heap.size:=
 ⟨⟨by rw [cell_of_row _ _ _ _ _ _ h]; rfl,by rw [cell_of_row _ _ _ _ _ _ h]; rfl,by rw [cell_of_row _ _ _ _ _ _ h]; rfl,by rw [cell_of_row _ _ _ _ _ _ h]; rfl,by rw [cell_of_row _ _ _ _ _ _ h]; rfl,by rw [cell_of_row _ _ _ _ _ _ h]; rfl⟩,
   ⟨frozen_of_row _ _ _ _ _ h,frozen_of_row _ _ _ _ _ h,frozen_of_row _ _ _ _ _ h,frozen_of_row _ _ _ _ _ h,frozen_of_row _ _ _ _ _ h,frozen_of_row _ _ _ _ _ h⟩,zA h⟩
structure SgKp (b:Nat) (v0 v1 v2:Value) (w:World):Prop where
 all:w.cell? ⟨b,0,none⟩ = some v0 ∧ w.cell? ⟨b,1,none⟩ = some v1 ∧ w.cell? ⟨b,2,none⟩ = some v2
theorem SgKp.alloc {b:Nat}{v0 v1 v2:Value}{w:World}{o:Obj}(h:SgKp b v0 v1 v2 w):SgKp b v0 v1 v2 (w.alloc o):=
 ⟨zK (zC (Below.refl _ _)) h.all.1,zK (zC (Below.refl _ _)) h.all.2.1,zK (zC (Below.refl _ _)) h.all.2.2⟩
theorem SgKp.drew {b:Nat}{v0 v1 v2:Value}{w:World}(h:SgKp b v0 v1 v2 w):SgKp b v0 v1 v2 w.drew:=⟨h.all⟩
theorem SgKp.set {b:Nat}{v0 v1 v2:Value}{w:World}{z i:Nat}{u:Value}(h:SgKp b v0 v1 v2 w)(hne:b ≠ z):SgKp b v0 v1 v2 (w.setCell ⟨z,i,none⟩ u):=by
 have hc:∀ j,(w.setCell ⟨z,i,none⟩ u).cell? ⟨b,j,none⟩ = w.cell? ⟨b,j,none⟩:=fun j => zAP (Below.heap_setCell w ⟨z,i,none⟩ u b hne) j
 exact ⟨by rw [hc,hc,hc]; exact h.all⟩
theorem SgSt.kp {w wr:World}{R M:Nat}{rs:List Nm}{c:Option Int}{T:TypeId}{o2:Obj}{c0 c1 c2 c3 c4 c5 c6:Value}(h:SgSt w R M rs (.cells #[c0,c1,c2,c3,c4,c5,c6] T (0,0)) o2 c wr):SgKp w.heap.size c0 c1 c2 wr:=
 ⟨(zGI h.bx).1,(zGI h.bx).2.1,(zGI h.bx).2.2.1⟩
def SgPost (w:World)(R M:Nat)(rs:List Nm)(c2:Option Int)(nm:Nm)(ps:List Pm)(has:Bool)(t:TypH)(e:Ending)(w':World):Prop:=
 ∃ (p:Option Addr) (k:Nat),e = .returned (.agg #[.string (cbs nm),.slice p ps.length k,.bool has,.int .i64 t.b,.int .i64 t.r,.int .i64 t.d]) ∧ LAt FdIs 4 w' w.heap.size p (ps.map (fdOf rs)) ∧ ChkM w' R M c2 ∧ Gr R w w'
theorem zGH (w0 w:World)(R M:Nat)(c:Option Int)(rs:List Nm)(f:Fc)(q:Option Addr)(k:Nat)(sv:Value)(h0:Below w0.heap.size w0 w)(hR0:w0.heap.size ≤ R)(hp:LAt PIs 4 w0 0 q f.params)(hc:ChkM w R M c)(hm:NamM w M rs)(hne:M ≠ R)(hs:∀ p ∈ f.params,PmSm p)(hl:f.params.length ≤ 9000000000)(hn:f.name.length ≤ 281474976710656)(hr:f.rn.length ≤ 281474976710656) :
 Calls Try.prog 45 #[.pointer (some ⟨R,0,none⟩),.agg #[.string (cbs f.name),.slice q f.params.length k,.bool f.has,.string (cbs f.rn),.int .i64 f.rd,sv,.int .i64 f.at_]] w (SgPost w R M rs (refuse (c.or (fltPs rs [] f.params)) (f.has && !(tyOf rs f.rn f.rd).2) f.at_) f.name f.params f.has (resOf rs f)):=by
 obtain ⟨nm,ps,has,rn,rd,bd,fat⟩:=f
 dsimp only at hp hs hl hn hr ⊢
 have HFD:=vH (fun (u:World) (c1:Option Int) (h1:Below w0.heap.size w0 u) (h2:ChkM u R M c1) (h3:NamM u M rs) => zBn w0 u R M c1 rs ps q k h1 hR0 hp h2 h3 hne hs hl)
 have HCN:=vH (show (cbs nm).size ≤ 281474976710656 by rw [zBZ]; exact hn)
 have hto:=(fun (w1:World) (c1:Option Int) (h1:ChkM w1 R M c1) (h2:NamM w1 M rs) => zCu w1 R M c1 rs rn rd fat h1 h2 hne (Nat.le_trans hr (by decide)))
 have hrs:resOf rs ⟨nm,ps,has,rn,rd,bd,fat⟩ = if has then (tyOf rs rn rd).1 else ⟨0,0,0⟩:=rfl
 rw [hrs]
 obtain ⟨t,ht⟩:∃ t,tyOf rs rn rd = t:=⟨_,rfl⟩
 rw [ht] at hto ⊢
 obtain ⟨⟨tb,tr,td⟩,ok⟩:=t
 unfold tyV at hto
 dsimp only at hto ⊢
 have HTO:=vH hto
 obtain ⟨c2,hc2⟩:∃ c2,refuse (c.or (fltPs rs [] ps)) (has && !ok) fat = c2:=⟨_,rfl⟩
 obtain ⟨t2,ht2⟩:∃ t2:TypH,(if has then ⟨tb,tr,td⟩ else ⟨0,0,0⟩) = t2:=⟨_,rfl⟩
 rw [hc2,ht2]
 have HC2:=vH hc2
 have HT2:=vH ht2
 clear hto ht hrs hc2 ht2
 have HR:=vH hc.lt
 have HM:=vH hm.lt
 have HNE:=vH hne
 have H0:=vH (fun u (hg:Gr R w u) => Below.mid h0 hg hR0)
 obtain ⟨wa,hwa⟩:∃ wa,wa = (w.alloc (.cells #[.string (cbs nm),.slice q ps.length k,.bool has,.string (cbs rn),.int .i64 rd,sv,.int .i64 fat] 81)).alloc (.cells #[.string ⟨#[]⟩,.slice none 0 0,.bool false,.int .i64 0,.int .i64 0,.int .i64 0] 60):=⟨_,rfl⟩
 have hba:Below w.heap.size w wa:=by rw [hwa]; exact zC (zC (Below.refl _ _))
 have G0:=vH (show SgSt w R M rs (.cells #[.string (cbs nm),.slice q ps.length k,.bool has,.string (cbs rn),.int .i64 rd,sv,.int .i64 fat] 81 (0,0)) (.cells #[.string ⟨#[]⟩,.slice none 0 0,.bool false,.int .i64 0,.int .i64 0,.int .i64 0] 60 (0,0)) c wa from
  ⟨hc.below hba,hm.below hba,Gr.of hba,by rw [hwa]; exact zD _ (heap_alloc_new w _),by rw [hwa]; have:=heap_alloc_new (w.alloc (.cells #[.string (cbs nm),.slice q ps.length k,.bool has,.string (cbs rn),.int .i64 rd,sv,.int .i64 fat] 81)) (.cells #[.string ⟨#[]⟩,.slice none 0 0,.bool false,.int .i64 0,.int .i64 0,.int .i64 0] 60); rw [zB] at this; exact this⟩)
 have G:=vH G0.out.drew
 have GZ:=vH (G0.out.alloc (.cells #[.string ⟨#[]⟩,.slice none 0 0,.bool false,.int .i64 0,.int .i64 0,.int .i64 0] 60)).drew
 have HSK:=vH (SgSt.kp G0.out)
 have HSZ:=vH (SgSt.kp GZ.out)
 have HWA:=vH (show w.heap.size + 1 < wa.heap.size by rw [hwa,zB,zB]; omega)
 have hzA:w.heap.size ≠ wa.heap.size:=by have:=HWA.out; omega
 have hzn:=hzA
 clear hp hs hl hn hr h0 hR0 hc hm hne hba
 go_in
 go_wp2_with fail
 rw [← hwa]
 clear hwa
 go_region_held3 (fun w' => w'.cell? ⟨w.heap.size,0,none⟩ = some (.string (cbs nm)) ∧ w'.cell? ⟨w.heap.size,1,none⟩ = some (.slice q ps.length k) ∧ w'.cell? ⟨w.heap.size,2,none⟩ = some (.bool has))
  (((with_reducible refine SgKp.all ?_); (with_reducible repeat (first | exact HSK.out | exact HSZ.out | refine SgKp.drew ?_ | refine SgKp.alloc ?_ | refine SgKp.set ?_ hzA | refine SgKp.set ?_ hzn))))
  (first
  | (go_at_call 43; (with_reducible refine Calls.mono (clone_any (wa.alloc (.cells #[.string ⟨#[]⟩,.slice none 0 0,.bool false,.int .i64 0,.int .i64 0,.int .i64 0] 60)).drew (cbs nm) HCN.out) ?_); rintro e wq ⟨rfl,hb⟩; have GN:=vH (GZ.out.go hb); have G:=GN; have HSK:=vH (SgSt.kp G.out); have HWQ:=vH (show w.heap.size + 1 < wq.heap.size by have:=zA G.out.rs; have:=G.out.gr.size; first | omega | (have:=HWA.out; omega)); have HZ:=vH (zJC hb); have HZL:=HWA; obtain ⟨⟨z0,z1,z2,z3,z4,z5⟩,⟨y0,y1,y2,y3,y4,y5⟩,hlz⟩:=hexa HZ.out; clear hb)
  | (go_at_call 43; (with_reducible refine Calls.mono (clone_any (wq.alloc (.cells #[.string ⟨#[]⟩,.slice none 0 0,.bool false,.int .i64 0,.int .i64 0,.int .i64 0] 60)) (cbs nm) HCN.out) ?_); have HZL:=HWQ; have hzn:w.heap.size ≠ wq.heap.size:=(by have:=HWQ.out; omega); rintro e wq ⟨rfl,hb⟩; have HZB:=vH (zOrH HAG.out); have HAN:=vH ((HAG.out.trans (Ag.below (zC (Below.refl _ _)))).trans (Ag.below hb)); have HAG:=HAN; have GN:=vH ((G.out.alloc (.cells #[.string ⟨#[]⟩,.slice none 0 0,.bool false,.int .i64 0,.int .i64 0,.int .i64 0] 60)).go hb); have G:=GN; have HSK:=vH (SgSt.kp G.out); have HWQ:=vH (show w.heap.size + 1 < wq.heap.size by have:=zA G.out.rs; have:=G.out.gr.size; first | omega | (have:=HWA.out; omega)); have HZ:=vH (zKX hb); obtain ⟨⟨z0,z1,z2,z3,z4,z5⟩,⟨y0,y1,y2,y3,y4,y5⟩,hlz⟩:=hexa HZ.out; clear hb)
  | (go_at_call 43; (with_reducible refine Calls.mono (clone_any _ (cbs nm) HCN.out) ?_); rintro e wq ⟨rfl,hb⟩; (try (have HAN:=vH (HAG.out.trans (Ag.below hb)); have HAG:=HAN)); have GN:=vH (G.out.go hb); have G:=GN; have HSK:=vH (SgSt.kp G.out); have HWQ:=vH (show w.heap.size + 1 < wq.heap.size by have:=zA G.out.rs; have:=G.out.gr.size; first | omega | (have:=HWA.out; omega)); (try (have HZN:=vH ((hb.block _ (zA HZ.out)).trans HZ.out); have HZ:=HZN; (try clear z0 z1 z2 z3 z4 z5 y0 y1 y2 y3 y4 y5 hlz); obtain ⟨⟨z0,z1,z2,z3,z4,z5⟩,⟨y0,y1,y2,y3,y4,y5⟩,hlz⟩:=hexa HZ.out)); clear hb)
  | (go_at_call 44; (with_reducible refine Calls.mono (HFD.out (wa.alloc (.cells #[.string ⟨#[]⟩,.slice none 0 0,.bool false,.int .i64 0,.int .i64 0,.int .i64 0] 60)).drew _ (H0.out _ GZ.out.gr) GZ.out.ck GZ.out.rcn) ?_); rintro e wq ⟨fp,fk,rfl,hla,hck,hg⟩; have HBB:=vH (zA GZ.out.rs); have HLA:=vH hla; have HAG:=vH (zIU hla); have HZB:=vH (zKB hla); have GN:=vH (GZ.out.step HR.out HNE.out hck hg); have G:=GN; have HSK:=vH (SgSt.kp G.out); have HWQ:=vH (show w.heap.size + 1 < wq.heap.size by have:=zA G.out.rs; have:=G.out.gr.size; first | omega | (have:=HWA.out; omega)); have HZL:=HWA; have HZ:=vH (zK4 hg (by have:=HR.out; have:=HWA.out; omega)); obtain ⟨⟨z0,z1,z2,z3,z4,z5⟩,⟨y0,y1,y2,y3,y4,y5⟩,hlz⟩:=hexa HZ.out; clear hla hck hg)
  | (go_at_call 44; (with_reducible refine Calls.mono (HFD.out (wq.alloc (.cells #[.string ⟨#[]⟩,.slice none 0 0,.bool false,.int .i64 0,.int .i64 0,.int .i64 0] 60)) _ (H0.out _ (G.out.alloc (.cells #[.string ⟨#[]⟩,.slice none 0 0,.bool false,.int .i64 0,.int .i64 0,.int .i64 0] 60)).gr) (G.out.alloc (.cells #[.string ⟨#[]⟩,.slice none 0 0,.bool false,.int .i64 0,.int .i64 0,.int .i64 0] 60)).ck (G.out.alloc (.cells #[.string ⟨#[]⟩,.slice none 0 0,.bool false,.int .i64 0,.int .i64 0,.int .i64 0] 60)).rcn) ?_); have HZL:=HWQ; have hzn:w.heap.size ≠ wq.heap.size:=(by have:=HWQ.out; omega); rintro e wq ⟨fp,fk,rfl,hla,hck,hg⟩; have HBB:=vH (zA (G.out.alloc (.cells #[.string ⟨#[]⟩,.slice none 0 0,.bool false,.int .i64 0,.int .i64 0,.int .i64 0] 60)).rs); have HLA:=vH hla; have HAG:=vH (zIU hla); have HZB:=vH (zKC hla); have HZ:=vH (zK5 hg (by have:=HR.out; have:=HWQ.out; omega)); have GN:=vH ((G.out.alloc (.cells #[.string ⟨#[]⟩,.slice none 0 0,.bool false,.int .i64 0,.int .i64 0,.int .i64 0] 60)).step HR.out HNE.out hck hg); have G:=GN; have HSK:=vH (SgSt.kp G.out); have HWQ:=vH (show w.heap.size + 1 < wq.heap.size by have:=zA G.out.rs; have:=G.out.gr.size; first | omega | (have:=HWA.out; omega)); obtain ⟨⟨z0,z1,z2,z3,z4,z5⟩,⟨y0,y1,y2,y3,y4,y5⟩,hlz⟩:=hexa HZ.out; clear hla hck hg)
  | (go_at_call 44; (with_reducible refine Calls.mono (HFD.out _ _ (H0.out _ G.out.gr) G.out.ck G.out.rcn) ?_); rintro e wq ⟨fp,fk,rfl,hla,hck,hg⟩; have HBB:=vH (zA G.out.rs); have HLA:=vH hla; have HAG:=vH (zIU hla); (try (have HZB:=vH (zKA hla HZ.out))); have GN:=vH (G.out.step HR.out HNE.out hck hg); have G:=GN; have HSK:=vH (SgSt.kp G.out); have HWQ:=vH (show w.heap.size + 1 < wq.heap.size by have:=zA G.out.rs; have:=G.out.gr.size; first | omega | (have:=HWA.out; omega)); (try (have HZN:=vH (hg.box HZ.out (by have:=HR.out; have:=HWA.out; omega)); have HZ:=HZN; (try clear z0 z1 z2 z3 z4 z5 y0 y1 y2 y3 y4 y5 hlz); obtain ⟨⟨z0,z1,z2,z3,z4,z5⟩,⟨y0,y1,y2,y3,y4,y5⟩,hlz⟩:=hexa HZ.out)); clear hla hck hg))
 all_goals
  first
  | (obtain ⟨z,hz⟩:=exZH HZ.out
     rw [hz] at HZ HZB HZL ⊢
     obtain ⟨wf,hwf⟩:∃ wf,wf = ((((((wq.setCell ⟨z,0,none⟩ (.string (cbs nm))).setCell ⟨z,1,none⟩ (.slice fp ps.length fk)).setCell ⟨z,2,none⟩ (.bool has)).setCell ⟨z,3,none⟩ (.int .i64 0)).setCell ⟨z,4,none⟩ (.int .i64 0)).setCell ⟨z,5,none⟩ (.int .i64 0)):=⟨_,rfl⟩
     rw [← hwf]
     have HZF:=vH (show wf.heap[z]? = some (.cells #[.string (cbs nm),.slice fp ps.length fk,.bool has,.int .i64 0,.int .i64 0,.int .i64 0] 60 (0,0)) by rw [hwf]; exact (Lib.heap_setCell_same (Lib.heap_setCell_same (Lib.heap_setCell_same (Lib.heap_setCell_same (Lib.heap_setCell_same (Lib.heap_setCell_same HZ.out (i:=0) (v:=.string (cbs nm))) (i:=1) (v:=.slice fp ps.length fk)) (i:=2) (v:=.bool has)) (i:=3) (v:=.int .i64 0)) (i:=4) (v:=.int .i64 0)) (i:=5) (v:=.int .i64 0)))
     have GF:=G.out
     have GF:=vH (show SgSt w R M rs (.cells #[.string (cbs nm),.slice q ps.length k,.bool has,.string (cbs rn),.int .i64 rd,sv,.int .i64 fat] 81 (0,0)) (.cells #[.string ⟨#[]⟩,.slice none 0 0,.bool false,.int .i64 0,.int .i64 0,.int .i64 0] 60 (0,0)) (c.or (fltPs rs [] ps)) wf by rw [hwf]; exact ((((((GF.set HR.out HM.out HZL.out _).set HR.out HM.out HZL.out _).set HR.out HM.out HZL.out _).set HR.out HM.out HZL.out _).set HR.out HM.out HZL.out _).set HR.out HM.out HZL.out _))
     have HAF:=HAG.out
     have HAF:=vH ((((((HAF.set (p:=⟨z,0,none⟩) HZB.out (.string (cbs nm))).set (p:=⟨z,1,none⟩) HZB.out (.slice fp ps.length fk)).set (p:=⟨z,2,none⟩) HZB.out (.bool has)).set (p:=⟨z,3,none⟩) HZB.out (.int .i64 0)).set (p:=⟨z,4,none⟩) HZB.out (.int .i64 0)).set (p:=⟨z,5,none⟩) HZB.out (.int .i64 0))
     rw [← hwf] at HAF
     clear HZ HAG G z0 z1 z2 z3 z4 z5 y0 y1 y2 y3 y4 y5 hlz hwf)
  | (obtain ⟨z,hz⟩:∃ z,wq.heap.size = z:=⟨_,rfl⟩
     obtain ⟨wf,hwf⟩:∃ wf,wf = wq.alloc (.cells #[.string (cbs nm),.slice fp ps.length fk,.bool has,.int .i64 0,.int .i64 0,.int .i64 0] 60):=⟨_,rfl⟩
     rw [hz,← hwf]
     have HZF:=vH (show wf.heap[z]? = some (.cells #[.string (cbs nm),.slice fp ps.length fk,.bool has,.int .i64 0,.int .i64 0,.int .i64 0] 60 (0,0)) by rw [hwf,← hz]; exact heap_alloc_new wq _)
     have HZL:=vH (show w.heap.size + 1 < z by rw [← hz]; exact HWQ.out)
     have HZB:=vH (zEqH HAG.out (show _ ≤ z by rw [← hz]; exact HAG.out.size))
     have GF:=vH (show SgSt w R M rs (.cells #[.string (cbs nm),.slice q ps.length k,.bool has,.string (cbs rn),.int .i64 rd,sv,.int .i64 fat] 81 (0,0)) (.cells #[.string ⟨#[]⟩,.slice none 0 0,.bool false,.int .i64 0,.int .i64 0,.int .i64 0] 60 (0,0)) (c.or (fltPs rs [] ps)) wf by rw [hwf]; exact G.out.alloc _)
     have HAF:=HAG.out
     have HAF:=vH (HAF.trans (Ag.below (zC (o:=(.cells #[.string (cbs nm),.slice fp ps.length fk,.bool has,.int .i64 0,.int .i64 0,.int .i64 0] 60)) (Below.refl _ _))))
     rw [← hwf] at HAF
     clear HAG G hwf)
  have HRS:=vH GF.out.rs
  obtain ⟨b0,b1,b2,b3,b4,b5,b6⟩:=zGI GF.out.bx
  obtain ⟨⟨z0,z1,z2,z3,z4,z5⟩,⟨y0,y1,y2,y3,y4,y5⟩,hlz⟩:=hexa HZF.out
  obtain ⟨⟨r0,r1,r2,r3,r4,r5⟩,⟨s0,s1,s2,s3,s4,s5⟩,hlr⟩:=hexa HRS.out
  have hzr:w.heap.size + 1 ≠ z:=Nat.ne_of_lt HZL.out
  have hzr2:=Ne.symm hzr
  have hRr:=Nat.ne_of_lt (Nat.lt_succ_of_lt HR.out)
  cases has with
  | false =>
    obtain rfl:(⟨0,0,0⟩:TypH) = t2:=HT2.out
    obtain rfl:c.or (fltPs rs [] ps) = c2:=by rw [← HC2.out]; exact (zAg _).symm
    go_wp2_with fail
    exact bodyPost_ret (v:=.agg #[.string (cbs nm),.slice fp ps.length fk,.bool false,.int .i64 0,.int .i64 0,.int .i64 0]) (by simp [results,Try.results45,go_sem,r0,r1,r2,r3,r4,r5]) rfl ⟨fp,fk,rfl,zAB (zAK HLA.out ((((((HAF.out.set (p:=⟨w.heap.size + 1,0,none⟩) (Or.inl HBB.out) (.string (cbs nm))).set (p:=⟨w.heap.size + 1,1,none⟩) (Or.inl HBB.out) (.slice fp ps.length fk)).set (p:=⟨w.heap.size + 1,2,none⟩) (Or.inl HBB.out) (.bool false)).set (p:=⟨w.heap.size + 1,3,none⟩) (Or.inl HBB.out) (.int .i64 0)).set (p:=⟨w.heap.size + 1,4,none⟩) (Or.inl HBB.out) (.int .i64 0)).set (p:=⟨w.heap.size + 1,5,none⟩) (Or.inl HBB.out) (.int .i64 0))) (Nat.le_of_lt (Nat.lt_trans (Nat.lt_succ_self _) HBB.out)),
        ((((((GF.out.ck.set (p:=⟨w.heap.size + 1,0,none⟩) hRr (.string (cbs nm))).set (p:=⟨w.heap.size + 1,1,none⟩) hRr (.slice fp ps.length fk)).set (p:=⟨w.heap.size + 1,2,none⟩) hRr (.bool false)).set (p:=⟨w.heap.size + 1,3,none⟩) hRr (.int .i64 0)).set (p:=⟨w.heap.size + 1,4,none⟩) hRr (.int .i64 0)).set (p:=⟨w.heap.size + 1,5,none⟩) hRr (.int .i64 0)),((((((GF.out.gr.setNew (p:=⟨w.heap.size + 1,0,none⟩) (Nat.le_succ _) (.string (cbs nm))).setNew (p:=⟨w.heap.size + 1,1,none⟩) (Nat.le_succ _) (.slice fp ps.length fk)).setNew (p:=⟨w.heap.size + 1,2,none⟩) (Nat.le_succ _) (.bool false)).setNew (p:=⟨w.heap.size + 1,3,none⟩) (Nat.le_succ _) (.int .i64 0)).setNew (p:=⟨w.heap.size + 1,4,none⟩) (Nat.le_succ _) (.int .i64 0)).setNew (p:=⟨w.heap.size + 1,5,none⟩) (Nat.le_succ _) (.int .i64 0))⟩
  | true =>
    obtain rfl:(⟨tb,tr,td⟩:TypH) = t2:=HT2.out
    obtain rfl:refuse (c.or (fltPs rs [] ps)) (!ok) fat = c2:=HC2.out
    go_wp2_with fail
    refine (HTO.out _ _ GF.out.ck GF.out.rcn).mono ?_
    rintro e w5 ⟨rfl,hck,hg⟩
    have GE:=vH (GF.out.step HR.out HNE.out hck hg)
    have HZE:=vH (hg.box HZF.out (by have:=HR.out; have:=HZL.out; omega))
    have HAE:=vH (HAF.out.trans (Ag.gr hg (Nat.lt_trans (Nat.lt_succ_of_lt HR.out) HBB.out)))
    clear b0 b1 b2 b3 b4 b5 b6 z0 z1 z2 z3 z4 z5 y0 y1 y2 y3 y4 y5 hlz r0 r1 r2 r3 r4 r5 s0 s1 s2 s3 s4 s5 hlr hck hg
    obtain ⟨⟨z0,z1,z2,z3,z4,z5⟩,⟨y0,y1,y2,y3,y4,y5⟩,hlz⟩:=hexa HZE.out
    obtain ⟨⟨r0,r1,r2,r3,r4,r5⟩,⟨s0,s1,s2,s3,s4,s5⟩,hlr⟩:=hexa GE.out.rs
    go_wp2_with fail
    have GX:=vH (((GE.out.set (p:=⟨z,3,none⟩) HR.out HM.out HZL.out (.int .i64 tb)).set (p:=⟨z,4,none⟩) HR.out HM.out HZL.out (.int .i64 tr)).set (p:=⟨z,5,none⟩) HR.out HM.out HZL.out (.int .i64 td))
    have HAX:=vH (((HAE.out.set (p:=⟨z,3,none⟩) HZB.out (.int .i64 tb)).set (p:=⟨z,4,none⟩) HZB.out (.int .i64 tr)).set (p:=⟨z,5,none⟩) HZB.out (.int .i64 td))
    exact bodyPost_ret (v:=.agg #[.string (cbs nm),.slice fp ps.length fk,.bool true,.int .i64 tb,.int .i64 tr,.int .i64 td]) (by simp [results,Try.results45,go_sem,r0,r1,r2,r3,r4,r5]) rfl ⟨fp,fk,rfl,zAB (zAK HLA.out ((((((HAX.out.set (p:=⟨w.heap.size + 1,0,none⟩) (Or.inl HBB.out) (.string (cbs nm))).set (p:=⟨w.heap.size + 1,1,none⟩) (Or.inl HBB.out) (.slice fp ps.length fk)).set (p:=⟨w.heap.size + 1,2,none⟩) (Or.inl HBB.out) (.bool true)).set (p:=⟨w.heap.size + 1,3,none⟩) (Or.inl HBB.out) (.int .i64 tb)).set (p:=⟨w.heap.size + 1,4,none⟩) (Or.inl HBB.out) (.int .i64 tr)).set (p:=⟨w.heap.size + 1,5,none⟩) (Or.inl HBB.out) (.int .i64 td))) (Nat.le_of_lt (Nat.lt_trans (Nat.lt_succ_self _) HBB.out)),
        ((((((GX.out.ck.set (p:=⟨w.heap.size + 1,0,none⟩) hRr (.string (cbs nm))).set (p:=⟨w.heap.size + 1,1,none⟩) hRr (.slice fp ps.length fk)).set (p:=⟨w.heap.size + 1,2,none⟩) hRr (.bool true)).set (p:=⟨w.heap.size + 1,3,none⟩) hRr (.int .i64 tb)).set (p:=⟨w.heap.size + 1,4,none⟩) hRr (.int .i64 tr)).set (p:=⟨w.heap.size + 1,5,none⟩) hRr (.int .i64 td)),((((((GX.out.gr.setNew (p:=⟨w.heap.size + 1,0,none⟩) (Nat.le_succ _) (.string (cbs nm))).setNew (p:=⟨w.heap.size + 1,1,none⟩) (Nat.le_succ _) (.slice fp ps.length fk)).setNew (p:=⟨w.heap.size + 1,2,none⟩) (Nat.le_succ _) (.bool true)).setNew (p:=⟨w.heap.size + 1,3,none⟩) (Nat.le_succ _) (.int .i64 tb)).setNew (p:=⟨w.heap.size + 1,4,none⟩) (Nat.le_succ _) (.int .i64 tr)).setNew (p:=⟨w.heap.size + 1,5,none⟩) (Nat.le_succ _) (.int .i64 td))⟩
end Go.Proofs.Ytjleggpbghmobaa
