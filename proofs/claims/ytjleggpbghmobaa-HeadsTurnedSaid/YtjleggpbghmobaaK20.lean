/-
  A map of names in memory; the checker in memory; the project
-/
import Derived.Test.YtjleggpbghmobaaK02
import Derived.Test.YtjleggpbghmobaaK01
import Derived.Test.YtjleggpbghmobaaK08
import Derived.Test.YtjleggpbghmobaaK19
import Derived.Test.YtjleggpbghmobaaK07
import Derived.Maps.OwnSet
import Derived.Carry
import Derived.Deep.RegionHeld3
set_option maxHeartbeats 8000000
set_option maxRecDepth 8000
namespace Go.Proofs.Ytjleggpbghmobaa
open Go.RowKit
open Go.Maps (Keyed)
open Hs (Nm TypH find zAx find_none zBV zBc zBW zBI refuse)
theorem zJy:Keyed Try.prog 9:=Go.Maps.string_keyed Try.underlying9
theorem zJd (w:World):(zeroValue 3).run Try.prog w = .ok (.int .i64 0) w:=by kernel_rfl
def NamM (w:World)(b:Nat)(l:List Nm):Prop:=
 ∃ (n:Nat) (D:DataW Unit),n ≤ l.length ∧ w.ownsMap Try.prog 9 (plainElem Try.prog 3) b n D ∧
   ∀ nm:Nm,Go.Maps.has D (.string nm) = (find l nm).isSome ∧ D.atKey (.string nm) (.lit (.int .i64 0)) = .lit (.int .i64 (((find l nm).getD 0:Nat):Int))
theorem NamM.made (w:World):NamM (w.alloc (.map #[] 0)) w.heap.size []:=
 ⟨0,.map [],Nat.le_refl _,World.ownsMap_made _ _ _ _,fun _ => ⟨rfl,rfl⟩⟩
theorem NamM.lt {w:World}{b:Nat}{l:List Nm}(h:NamM w b l):b < w.heap.size:=by obtain ⟨_,_,_,h2,_⟩:=h; exact h2.lt
theorem NamM.kept {w w':World}{b:Nat}{l:List Nm}(h:NamM w b l)(hk:w'.heap[b]? = w.heap[b]?):NamM w' b l:=by
 obtain ⟨n,D,h1,⟨es,clock,hb,r⟩,h3⟩:=h
 exact ⟨n,D,h1,⟨es,clock,hk.trans hb,r⟩,h3⟩
theorem NamM.below {w w':World}{b:Nat}{l:List Nm}(h:NamM w b l)(hb:Below w.heap.size w w'):NamM w' b l:=h.kept (hb.block b h.lt)
theorem NamM.gr {w w':World}{b R:Nat}{l:List Nm}(h:NamM w b l)(hg:Gr R w w')(hne:b ≠ R):NamM w' b l:=h.kept (hg.block b h.lt hne)
theorem NamM.dup {w:World}{b:Nat}{l:List Nm}(h:NamM w b l){x:Nm}(hx:x ∈ l):NamM w b (l ++ [x]):=by
 obtain ⟨n,D,h1,h2,h3⟩:=h
 exact ⟨n,D,by rw [List.length_append]; omega,h2,fun nm => by rw [zBW hx]; exact h3 nm⟩
theorem zJJ (nm:Nm)(hl:nm.length ≤ maxLen):keyOf Try.prog 9 (.string (cbs nm)) = some (.string nm):=
 Go.WideMaps.keyOf_string_mk Try.underlying9 (by rw [zBZ]; exact hl)
theorem NamM.look {w:World}{b:Nat}{l:List Nm}(h:NamM w b l)(nm:Nm)(hl:nm.length ≤ maxLen) :
 (Instr.lookup 84 (.map (some b)) (.string (cbs nm)) true).run Try.prog w = .ok (.tuple #[.int .i64 (((find l nm).getD 0:Nat):Int),.bool (find l nm).isSome]) w:=by
 obtain ⟨n,D,h1,h2,h3⟩:=h
 obtain ⟨v,ps,hrun,hv⟩:=h2.look_ok zJy Try.underlying84 (zJd w) (plainElem_int Try.underlying3 (by decide)) (zJJ nm hl)
 obtain ⟨c,rfl,hc,-⟩:=plainElem_int_inv Try.underlying3 hv
 have e1:D.atKey (.string nm) (.lit (.int .i64 0)) = .lit (.int .i64 c):=congrArg Prod.fst hc
 rw [(h3 nm).2] at e1
 have e2:(Lit.int .i64 (((find l nm).getD 0:Nat):Int)) = Lit.int .i64 c:=DataW.lit.inj e1
 have e3:(((find l nm).getD 0:Nat):Int) = c:=(Lit.int.inj e2).2
 rw [hrun,(h3 nm).1,e3]
theorem zKD {k:Nat}(h:k < 9000000000):(Lit.int .i64 ((k:Nat):Int)).wf = true:=by
 simp only [Lit.wf,Bool.and_eq_true,decide_eq_true_eq]
 exact ⟨by show (-9223372036854775808:Int) ≤ _; omega,by show _ ≤ (9223372036854775807:Int); omega⟩
theorem NamM.put {w:World}{b:Nat}{l:List Nm}(h:NamM w b l){x:Nm}(hl:x.length ≤ maxLen)(hn:l.length < 9000000000)(hx:x ∉ l) :
 ∃ w',(Instr.mapUpdate 84 (.map (some b)) (.string (cbs x)) (.int .i64 ((l.length:Nat):Int))).run Try.prog w = .ok () w' ∧ NamM w' b (l ++ [x]) ∧ w.grownBy w' (some b):=by
 obtain ⟨n,D,h1,h2,h3⟩:=h
 have hk:=zJJ x hl
 have hD:=h2.isMap
 have hlit:WideAt.IsKeyLit (Lit.string x):=by first | trivial | decide | simp [WideAt.IsKeyLit]
 obtain ⟨w',hrun,ho,hg⟩:=h2.update zJy Try.underlying84 (by unfold maxLen; omega) hk (plainElem_int (H:=Unit) Try.underlying3 (q:=.i64) (a:=((l.length:Nat):Int)) (zKD (by omega)))
 refine ⟨w',hrun,⟨n + 1,_,by rw [List.length_append,List.length_singleton]; omega,ho,fun nm => ?_⟩,hg⟩
 by_cases he:x = nm
 ·subst he
  rw [zBV hx]
  exact ⟨Go.Maps.has_put_same hD hlit _,Go.Maps.atKey_put_same hD hlit _ _⟩
 ·have hne:(Lit.string nm) ≠ Lit.string x:=fun h => he (Lit.string.inj h).symm
  rw [zBc he,Go.Maps.has_put_other hne,Go.Maps.atKey_put_other hne]
  exact h3 nm
def fE (c:Option Int):Int:=if c.isSome then 3 else 0
def fA (c:Option Int):Int:=c.getD 0
def ChkM (w:World)(R M:Nat)(c:Option Int):Prop:=w.heap[R]? = some (.cells #[.map (some M),.int .i64 (fE c),.int .i64 (fA c)] 86 (0,0))
theorem ChkM.lt {w:World}{R M:Nat}{c:Option Int}(h:ChkM w R M c):R < w.heap.size:=zA h
theorem ChkM.below {w w':World}{R M:Nat}{c:Option Int}(h:ChkM w R M c)(hb:Below w.heap.size w w'):ChkM w' R M c:=(hb.block R h.lt).trans h
structure GrTw (R b:Nat) (w w':World):Prop where
 os:w'.os = w.os
 tape:w'.tape = w.tape
 output:w'.output = w.output
 size:w.heap.size ≤ w'.heap.size
 block:∀ i,i < w.heap.size → i ≠ R → i ≠ b → w'.heap[i]? = w.heap[i]?
theorem GrTw.of {R b:Nat}{w w':World}(h:Gr R w w'):GrTw R b w w':=⟨h.os,h.tape,h.output,h.size,fun i h1 h2 _ => h.block i h1 h2⟩
theorem GrTw.grown {R b:Nat}{w w':World}(h:w.grownBy w' (some b)):GrTw R b w w':=⟨h.os,h.tape,h.output,h.size,fun i h1 _ h3 => h.block i h1 (fun e => h3 (by injection e))⟩
theorem GrTw.fresh {R b:Nat}{w w':World}(h:GrTw R b w w')(hb:w.heap.size ≤ b):Gr R w w':=⟨h.os,h.tape,h.output,h.size,fun i h1 h2 => h.block i h1 h2 (by omega)⟩
theorem zBX (w:World)(b:Nat)(l:List Nm)(h:NamM w b l)(nm:Nm)(hl:nm.length ≤ maxLen) :
 Calls Try.prog 57 #[.map (some b),.string (cbs nm)] w fun e w' => e = .returned (.tuple #[.int .i64 (((find l nm).getD 0:Nat):Int),.bool (find l nm).isSome]) ∧ w = w':=by
 have hk:=h.look nm hl
 clear h
 go_in
 go_wp2_with fail
 go_ret2
 exact ⟨rfl,rfl⟩
theorem zAM (w:World)(R M:Nat)(c:Option Int)(h:ChkM w R M c)(a:Int) :
 Calls Try.prog 58 #[.pointer (some ⟨R,0,none⟩),.int .i64 a] w fun e w' => e = .returned (.tuple #[]) ∧ ChkM w' R M (refuse c true a) ∧ Gr R w w':=by
 have hr:=h
 unfold ChkM at hr
 obtain ⟨⟨c0,c1,c2⟩,f0,f1,f2⟩:=tri hr
 have hlt:=zA hr
 cases c with
 | none =>
   simp only [fE,fA,Option.isSome_none,Option.getD_none,Bool.false_eq_true,if_false] at hr c1 c2
   have HR:=vH hr
   clear h hr
   go_in
   go_wp2_with fail
   go_end0
   refine ⟨rfl,?_,((Gr.refl R w).set 1 _).set 2 _⟩
   have:=Lib.heap_setCell_same (Lib.heap_setCell_same HR.out (i:=1) (v:=.int .i64 3)) (i:=2) (v:=.int .i64 a)
   unfold ChkM
   simpa [refuse,fE,fA] using this
 | some k =>
   simp only [fE,fA,Option.isSome_some,Option.getD_some,if_true] at hr c1 c2
   have H:=vH h
   clear h hr
   go_in
   go_wp2_with fail
   go_end0
   exact ⟨rfl,H.out,Gr.refl R w⟩
end Go.Proofs.Ytjleggpbghmobaa
namespace Go.Proofs.Ytjleggpbghmobaa
open Go.RowKit
open Hs (Nm TypH find zAx find_none zBV zBc zBW zBI refuse tyOf intN boolN zAg)
theorem zBo (w:World)(R M b:Nat)(c:Option Int)(l:List Nm)(nm:Nm)(a:Int)(hc:ChkM w R M c)(hm:NamM w b l)(hne:b ≠ R)(hl:nm.length ≤ maxLen)(hn:l.length < 9000000000) :
 Calls Try.prog 42 #[.pointer (some ⟨R,0,none⟩),.map (some b),.string (cbs nm),.int .i64 ((l.length:Nat):Int),.int .i64 a] w fun e w' => e = .returned (.tuple #[]) ∧ ChkM w' R M (refuse c (decide (nm ∈ l)) a) ∧ NamM w' b (l ++ [nm]) ∧ GrTw R b w w':=by
 have HF:=vH (zBX w b l hm nm hl)
 by_cases hx:nm ∈ l
 ·have hs:(find l nm).isSome = true:=by
   cases hf:find l nm with
   | none => exact absurd hx (find_none.1 hf)
   | some i => rfl
  rw [decide_eq_true hx]
  rw [hs] at HF
  have HC:=vH hc
  have HM:=vH (hm.dup hx)
  clear hc hm hx hs
  go_in
  go_wp2_with fail
  refine HF.out.mono ?_
  rintro e w1 ⟨rfl,rfl⟩
  go_wp2_with fail
  refine (zAM w R M c HC.out a).mono ?_
  rintro e w1 ⟨rfl,hck,hg⟩
  go_wp2_with fail
  exact bodyPost_ret (v:=.tuple #[]) (by simp [results,Try.results42]) rfl ⟨rfl,hck,HM.out.gr hg hne,GrTw.of hg⟩
 ·have hs:(find l nm).isSome = false:=by rw [find_none.2 hx]; rfl
  obtain ⟨w2,hrun,hm2,hg2⟩:=hm.put hl hn hx
  rw [decide_eq_false hx]
  rw [hs] at HF
  have HC:=vH (show ChkM w2 R M c from (hg2.block R hc.lt (fun e => hne (by injection e with e; exact e.symm))).trans hc)
  have HM:=vH hm2
  have HG:=vH (GrTw.grown (R:=R) hg2)
  clear hc hm hx hs hm2 hg2
  go_in
  go_wp2_with fail
  refine HF.out.mono ?_
  rintro e w1 ⟨rfl,rfl⟩
  go_wp2_with fail
  go_end0
  exact ⟨rfl,by rw [show refuse c false a = c from zAg c]; exact HC.out,HM.out,HG.out⟩
def tyV (t:TypH):Value:=.agg #[.int .i64 t.b,.int .i64 t.r,.int .i64 t.d]
theorem zJ {w w1:World}(h:Below w.heap.size w w1){p:Addr}(hp:w.heap.size ≤ p.block)(u:Value):Below w.heap.size w (w1.setCell p u):=h.setCell hp u
theorem zDd (w:World)(b:Nat)(rs:List Nm)(h:NamM w b rs)(n:Nm)(d:Int)(hl:n.length ≤ maxLen) :
 Calls Try.prog 34 #[.agg #[.string (cbs n),.int .i64 d],.func (.func 57) #[.map (some b)] #[]] w fun e w' => e = .returned (.tuple #[tyV (tyOf rs n d).1,.bool (tyOf rs n d).2]) ∧ Below w.heap.size w w':=by
 have HM:=vH h
 have HL:=vH hl
 clear h hl
 have hcl:(cbs n).toList = n:=zI n
 by_cases h1:d < 0 ∨ 3 < d
 ·have hd1:(decide (d < 0) || decide (3 < d)) = true:=by simpa using h1
  rw [show tyOf rs n d = (TypH.z,false) from if_pos h1]
  have HB:=vH (Below.refl w.heap.size w)
  by_cases h2:d < 0
  ·have hd2:decide (d < 0) = true:=decide_eq_true h2
   go_in
   go_wp2_with fail
   exact bodyPost_ret (v:=.tuple #[tyV TypH.z,.bool false]) (by simp [results,Try.results34,go_sem,tyV,TypH.z]) rfl ⟨rfl,by with_reducible repeat (first | exact Below.refl _ _ | exact HB.out | refine zC ?_ | refine zJ ?_ (by show w.heap.size ≤ _; omega) _)⟩
  ·have hd2:decide (d < 0) = false:=decide_eq_false h2
   have hd3:decide ((3:Int) < d) = true:=decide_eq_true (by omega)
   go_in
   go_wp2_with fail
   exact bodyPost_ret (v:=.tuple #[tyV TypH.z,.bool false]) (by simp [results,Try.results34,go_sem,tyV,TypH.z]) rfl ⟨rfl,by with_reducible repeat (first | exact Below.refl _ _ | exact HB.out | refine zC ?_ | refine zJ ?_ (by show w.heap.size ≤ _; omega) _)⟩
 ·have hd2:decide (d < 0) = false:=decide_eq_false (by omega)
  have hd3:decide ((3:Int) < d) = false:=decide_eq_false (by omega)
  by_cases hi:n = intN
  ·rw [show tyOf rs n d = (⟨1,0,d⟩,true) by rw [tyOf,if_neg h1,if_pos hi]]
   have hn1:(n == ([105,110,116]:List UInt8)) = true:=by rw [hi]; rfl
   have HB:=vH (Below.refl w.heap.size w)
   clear hi h1
   go_in
   go_wp2_with fail
   exact bodyPost_ret (v:=.tuple #[tyV ⟨1,0,d⟩,.bool true]) (by simp [results,Try.results34,go_sem,tyV]) rfl ⟨rfl,by with_reducible repeat (first | exact Below.refl _ _ | exact HB.out | refine zC ?_ | refine zJ ?_ (by show w.heap.size ≤ _; omega) _)⟩
  ·have hn1:(n == ([105,110,116]:List UInt8)) = false:=by simpa [intN] using hi
   by_cases hb:n = boolN
   ·rw [show tyOf rs n d = (⟨2,0,d⟩,true) by rw [tyOf,if_neg h1,if_neg hi,if_pos hb]]
    have hn2:(n == ([98,111,111,108]:List UInt8)) = true:=by rw [hb]; rfl
    have HB:=vH (Below.refl w.heap.size w)
    clear hi hb h1
    go_in
    go_wp2_with fail
    exact bodyPost_ret (v:=.tuple #[tyV ⟨2,0,d⟩,.bool true]) (by simp [results,Try.results34,go_sem,tyV]) rfl ⟨rfl,by with_reducible repeat (first | exact Below.refl _ _ | exact HB.out | refine zC ?_ | refine zJ ?_ (by show w.heap.size ≤ _; omega) _)⟩
   ·have hn2:(n == ([98,111,111,108]:List UInt8)) = false:=by simpa [boolN] using hb
    have hty:tyOf rs n d = match find rs n with | some i => (⟨3,(i:Int),d⟩,true) | none => (TypH.z,false):=by rw [tyOf,if_neg h1,if_neg hi,if_neg hb]; cases find rs n <;> rfl
    cases hf:find rs n with
    | none =>
      rw [hf] at hty
      rw [hty]
      clear hi hb h1 hty
      go_in
      go_wp2_with fail
      refine (zBX _ b rs (HM.out.below (zC (zC (Below.refl _ _)))) n HL.out).mono ?_
      rintro e w1 ⟨rfl,rfl⟩
      rw [hf]
      have HB:=vH (Below.refl w.heap.size w)
      clear hf
      go_wp2_with fail
      exact bodyPost_ret (v:=.tuple #[tyV TypH.z,.bool false]) (by simp [results,Try.results34,go_sem,tyV,TypH.z]) rfl ⟨rfl,by with_reducible repeat (first | exact Below.refl _ _ | exact HB.out | refine zC ?_ | refine zJ ?_ (by show w.heap.size ≤ _; omega) _)⟩
    | some i =>
      rw [hf] at hty
      rw [hty]
      clear hi hb h1 hty
      go_in
      go_wp2_with fail
      refine (zBX _ b rs (HM.out.below (zC (zC (Below.refl _ _)))) n HL.out).mono ?_
      rintro e w1 ⟨rfl,rfl⟩
      rw [hf]
      have HB:=vH (Below.refl w.heap.size w)
      clear hf
      go_wp2_with fail
      exact bodyPost_ret (v:=.tuple #[tyV ⟨3,(i:Int),d⟩,.bool true]) (by simp [results,Try.results34,go_sem,tyV]) rfl ⟨rfl,by with_reducible repeat (first | exact Below.refl _ _ | exact HB.out | refine zC ?_ | refine zJ ?_ (by show w.heap.size ≤ _; omega) _)⟩
theorem zK {w w1:World}(h:Below w.heap.size w w1){b i:Nat}{v:Value}(hc:w.cell? ⟨b,i,none⟩ = some v):w1.cell? ⟨b,i,none⟩ = some v:=by
 unfold World.cell? at hc ⊢
 cases hb:w.heap[b]? with
 | none => rw [show (⟨b,i,none⟩:Addr).block = b from rfl,hb] at hc; simp at hc
 | some o =>
   rw [show (⟨b,i,none⟩:Addr).block = b from rfl,hb] at hc
   rw [show (⟨b,i,none⟩:Addr).block = b from rfl,h.block b (zA hb),hb]
   exact hc
theorem ChkM.set {w:World}{R M:Nat}{c:Option Int}(h:ChkM w R M c){p:Addr}(hp:R ≠ p.block)(u:Value):ChkM (w.setCell p u) R M c:=zN h hp u
theorem zJh (w:World)(o:Obj):w.heap.size ≤ (w.alloc o).drew.heap.size:=by
 show w.heap.size ≤ (w.alloc o).heap.size
 rw [zB]
 exact Nat.le_succ _
theorem zCu (w:World)(R M:Nat)(c:Option Int)(rs:List Nm)(n:Nm)(d a:Int)(hc:ChkM w R M c)(hm:NamM w M rs)(_hne:M ≠ R)(hl:n.length ≤ maxLen) :
 Calls Try.prog 60 #[.pointer (some ⟨R,0,none⟩),.agg #[.string (cbs n),.int .i64 d],.int .i64 a] w fun e w' => e = .returned (tyV (tyOf rs n d).1) ∧ ChkM w' R M (refuse c (!(tyOf rs n d).2) a) ∧ Gr R w w':=by
 have HM:=vH (fun w1 (h:Below w.heap.size w w1) => hm.below h)
 have HC:=vH (fun w1 (h:Below w.heap.size w w1) => hc.below h)
 have HR:=vH hc.lt
 obtain ⟨wa,hwa⟩:∃ wa,wa = (w.alloc (.cells #[.string (cbs n),.int .i64 d] 45)).alloc (.cells #[.int .i64 0,.int .i64 0,.int .i64 0] 47):=⟨_,rfl⟩
 have HBA:=vH (show Below w.heap.size w wa by rw [hwa]; exact zC (zC (Below.refl _ _)))
 have HK1:=vH (show wa.heap[w.heap.size]? = some (.cells #[.string (cbs n),.int .i64 d] 45 (0,0)) by rw [hwa]; exact zD _ (heap_alloc_new w _))
 have HK2:=vH (show wa.heap[w.heap.size + 1]? = some (.cells #[.int .i64 0,.int .i64 0,.int .i64 0] 47 (0,0)) by rw [hwa]; have:=heap_alloc_new (w.alloc (.cells #[.string (cbs n),.int .i64 d] 45)) (.cells #[.int .i64 0,.int .i64 0,.int .i64 0] 47); rw [zB] at this; exact this)
 have hck:=HC.out wa HBA.out
 unfold ChkM at hck
 obtain ⟨⟨c0,c1,c2⟩,f0,f1,f2⟩:=tri hck
 have hlt:=zA hck
 obtain ⟨⟨k0,k1⟩,-⟩:=duo HK1.out
 have HS:=vH (show ∀ w1,Below wa.heap.size wa w1 → w1.cell? ⟨w.heap.size,0,none⟩ = some (.string (cbs n)) ∧ w1.cell? ⟨w.heap.size,1,none⟩ = some (.int .i64 d) ∧ w1.cell? ⟨R,0,none⟩ = some (.map (some M)) from fun w1 hb => ⟨zK hb k0,zK hb k1,zK hb c0⟩)
 have HLN:=vH hl
 obtain ⟨t,ht⟩:∃ t,tyOf rs n d = t:=⟨_,rfl⟩
 rw [ht]
 have hrv:=fun w1 (h:Below w.heap.size w w1) => zDd w1 M rs (hm.below h) n d hl
 rw [ht] at hrv
 obtain ⟨⟨tb,tr,td⟩,ok⟩:=t
 unfold tyV at hrv ⊢
 dsimp only at hrv ⊢
 have HRV:=vH hrv
 clear hc hm hl hck ht hrv
 go_in
 go_wp2_with fail
 rw [← hwa]
 clear hwa
 go_region_held3 (fun w' => w'.cell? ⟨w.heap.size,0,none⟩ = some (.string (cbs n)) ∧ w'.cell? ⟨w.heap.size,1,none⟩ = some (.int .i64 d) ∧ w'.cell? ⟨R,0,none⟩ = some (.map (some M))) (exact HS.out _ (by with_reducible repeat (first | exact Below.refl _ _ | exact HB2.out | refine zC ?_ | refine zAc ?_ | refine zJ ?_ (Nat.le_refl _) _)))
  (first
  | (go_at_call 34; (with_reducible refine Calls.mono (HRV.out wa.drew (zAc HBA.out)) ?_); rintro e w2 ⟨rfl,hb⟩; have HB2:=vH (zE (zAc (Below.refl wa.heap.size wa)) hb (Nat.le_refl _)))
  | (go_at_call 34; (with_reducible refine Calls.mono (HRV.out (wa.alloc (.cells #[.int .i64 0,.int .i64 0,.int .i64 0] 47)).drew (zAc (zC HBA.out))) ?_); rintro e w2 ⟨rfl,hb⟩; have HB2:=vH (zE (zAc (zC (Below.refl wa.heap.size wa))) hb (zJh wa _)); have HZ2:=vH (zJC hb); obtain ⟨⟨z0,z1,z2⟩,g0,g1,g2⟩:=tri HZ2.out; have hlz:=zA HZ2.out))
 all_goals
  first
  | (obtain ⟨wq,hwq⟩:∃ wq,wq = w2.alloc (.cells #[.int .i64 tb,.int .i64 tr,.int .i64 td] 47):=⟨_,rfl⟩
     rw [← hwq]
     have HB3:=vH (show Below wa.heap.size wa wq by rw [hwq]; exact zC HB2.out)
     have HQ:=vH (show wq.heap[w2.heap.size]? = some (.cells #[.int .i64 tb,.int .i64 tr,.int .i64 td] 47 (0,0)) by rw [hwq]; exact heap_alloc_new w2 _)
     have hne2:w.heap.size + 1 ≠ w2.heap.size:=by have:=HB2.out.size; have:=zA HK2.out; omega)
  | (obtain ⟨wq,hwq⟩:∃ wq,wq = ((w2.setCell ⟨wa.heap.size,0,none⟩ (.int .i64 tb)).setCell ⟨wa.heap.size,1,none⟩ (.int .i64 tr)).setCell ⟨wa.heap.size,2,none⟩ (.int .i64 td):=⟨_,rfl⟩
     rw [← hwq]
     have HB3:=vH (show Below wa.heap.size wa wq by rw [hwq]; exact zJ (zJ (zJ HB2.out (Nat.le_refl _) _) (Nat.le_refl _) _) (Nat.le_refl _) _)
     have HQ:=vH (show wq.heap[wa.heap.size]? = some (.cells #[.int .i64 tb,.int .i64 tr,.int .i64 td] 47 (0,0)) by rw [hwq]; exact Lib.heap_setCell_same (Lib.heap_setCell_same (Lib.heap_setCell_same HZ2.out (i:=0) (v:=.int .i64 tb)) (i:=1) (v:=.int .i64 tr)) (i:=2) (v:=.int .i64 td))
     have hne2:w.heap.size + 1 ≠ wa.heap.size:=by have:=zA HK2.out; omega
     clear z0 z1 z2 g0 g1 g2 hlz HZ2)
  have HCQ:=vH (HC.out wq (zE HBA.out HB3.out HBA.out.size))
  have HBQ:=vH (zE HBA.out HB3.out HBA.out.size)
  have HK2Q:=vH ((HB3.out.block _ (zA HK2.out)).trans HK2.out)
  clear c0 c1 c2 f0 f1 f2 hlt k0 k1 hwq
  obtain ⟨⟨q0,q1,q2⟩,-⟩:=tri HQ.out
  obtain ⟨⟨r0,r1,r2⟩,s0,s1,s2⟩:=tri HK2Q.out
  have hlr:=zA HK2Q.out
  cases ok with
  | true =>
    go_wp2_with fail
    exact bodyPost_ret (v:=.agg #[.int .i64 tb,.int .i64 tr,.int .i64 td]) (by simp [results,Try.results60,go_sem,r0,r1,r2]) rfl ⟨rfl,by rw [show refuse c (!true) a = c from zAg c]; exact ((HCQ.out.set (Nat.ne_of_lt (Nat.lt_succ_of_lt HR.out)) _).set (Nat.ne_of_lt (Nat.lt_succ_of_lt HR.out)) _).set (Nat.ne_of_lt (Nat.lt_succ_of_lt HR.out)) _,(((Gr.of HBQ.out).setNew (Nat.le_succ _) _).setNew (Nat.le_succ _) _).setNew (Nat.le_succ _) _⟩
  | false =>
    go_wp2_with fail
    refine (zAM wq R M c HCQ.out a).mono ?_
    rintro e w4 ⟨rfl,hck,hg⟩
    have HCK:=vH hck
    have HG:=vH ((Gr.of HBQ.out).trans hg)
    have hrb:=HR.out
    have HK4:=vH (hg.box HK2Q.out (by omega))
    have HQ4:=vH (hg.box HQ.out (by have:=HB2.out.size; have:=HBA.out.size; omega))
    clear q0 q1 q2 r0 r1 r2 s0 s1 s2 hlr hck hg hrb
    obtain ⟨⟨q0,q1,q2⟩,-⟩:=tri HQ4.out
    obtain ⟨⟨r0,r1,r2⟩,s0,s1,s2⟩:=tri HK4.out
    have hlr:=zA HK4.out
    go_wp2_with fail
    exact bodyPost_ret (v:=.agg #[.int .i64 tb,.int .i64 tr,.int .i64 td]) (by simp [results,Try.results60,go_sem,r0,r1,r2]) rfl ⟨rfl,((HCK.out.set (Nat.ne_of_lt (Nat.lt_succ_of_lt HR.out)) _).set (Nat.ne_of_lt (Nat.lt_succ_of_lt HR.out)) _).set (Nat.ne_of_lt (Nat.lt_succ_of_lt HR.out)) _,((HG.out.setNew (Nat.le_succ _) _).setNew (Nat.le_succ _) _).setNew (Nat.le_succ _) _⟩
end Go.Proofs.Ytjleggpbghmobaa
