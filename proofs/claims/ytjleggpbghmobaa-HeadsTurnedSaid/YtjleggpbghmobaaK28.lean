/-
  The answer's Type.
-/
import Derived.Test.YtjleggpbghmobaaK01
import Derived.Test.YtjleggpbghmobaaK26
import Derived.Test.YtjleggpbghmobaaK27
import Derived.BigQuiet
set_option maxRecDepth 8000
set_option maxHeartbeats 8000000
namespace Go.Proofs.Ytjleggpbghmobaa
open Go.RowKit
open Hs (Nm TypH find find_none tyOf intN boolN zS)
theorem zFc (w:World)(rs:List Nm)(q:Option Addr)(c:Nat)(h:LAt NIs 1 w 0 q rs)(n:Nm)(d:Int)(hl:rs.length ≤ 9000000000) :
 Calls Try.prog 16 #[.slice q rs.length c,.agg #[.string (cbs n),.int .i64 d]] w fun e w' => e = .returned (.tuple #[tyV (tyOf rs n d).1,.bool (tyOf rs n d).2]) ∧ Below w.heap.size w w':=by
 have H:=vH h
 have HL:=vH hl
 clear h hl
 have hcl:(cbs n).toList = n:=zI n
 by_cases h1:d < 0 ∨ 3 < d
 ·have hd1:(decide (d < 0) || decide (3 < d)) = true:=by simpa using h1
  rw [show tyOf rs n d = (TypH.z,false) from if_pos h1]
  have HB:=vH (Below.refl w.heap.size w)
  by_cases h2:d < 0
  ·have hd2:decide (d < 0) = true:=decide_eq_true h2
   go_in
   go_wp2_with fail
   exact bodyPost_ret (v:=.tuple #[tyV TypH.z,.bool false]) (by simp [results,Try.results16,go_sem,tyV,TypH.z]) rfl ⟨rfl,by with_reducible repeat (first | exact Below.refl _ _ | exact HB.out | refine zC ?_ | refine zJ ?_ (by show w.heap.size ≤ _; omega) _)⟩
  ·have hd2:decide (d < 0) = false:=decide_eq_false h2
   have hd3:decide ((3:Int) < d) = true:=decide_eq_true (by omega)
   go_in
   go_wp2_with fail
   exact bodyPost_ret (v:=.tuple #[tyV TypH.z,.bool false]) (by simp [results,Try.results16,go_sem,tyV,TypH.z]) rfl ⟨rfl,by with_reducible repeat (first | exact Below.refl _ _ | exact HB.out | refine zC ?_ | refine zJ ?_ (by show w.heap.size ≤ _; omega) _)⟩
 ·have hd2:decide (d < 0) = false:=decide_eq_false (by omega)
  have hd3:decide ((3:Int) < d) = false:=decide_eq_false (by omega)
  by_cases hi:n = intN
  ·rw [show tyOf rs n d = (⟨1,0,d⟩,true) by rw [tyOf,if_neg h1,if_pos hi]]
   have hn1:(n == ([105,110,116]:List UInt8)) = true:=by rw [hi]; rfl
   have HB:=vH (Below.refl w.heap.size w)
   clear hi h1
   go_in
   go_wp2_with fail
   exact bodyPost_ret (v:=.tuple #[tyV ⟨1,0,d⟩,.bool true]) (by simp [results,Try.results16,go_sem,tyV]) rfl ⟨rfl,by with_reducible repeat (first | exact Below.refl _ _ | exact HB.out | refine zC ?_ | refine zJ ?_ (by show w.heap.size ≤ _; omega) _)⟩
  ·have hn1:(n == ([105,110,116]:List UInt8)) = false:=by simpa [intN] using hi
   by_cases hb:n = boolN
   ·rw [show tyOf rs n d = (⟨2,0,d⟩,true) by rw [tyOf,if_neg h1,if_neg hi,if_pos hb]]
    have hn2:(n == ([98,111,111,108]:List UInt8)) = true:=by rw [hb]; rfl
    have HB:=vH (Below.refl w.heap.size w)
    clear hi hb h1
    go_in
    go_wp2_with fail
    exact bodyPost_ret (v:=.tuple #[tyV ⟨2,0,d⟩,.bool true]) (by simp [results,Try.results16,go_sem,tyV]) rfl ⟨rfl,by with_reducible repeat (first | exact Below.refl _ _ | exact HB.out | refine zC ?_ | refine zJ ?_ (by show w.heap.size ≤ _; omega) _)⟩
   ·have hn2:(n == ([98,111,111,108]:List UInt8)) = false:=by simpa [boolN] using hb
    obtain ⟨x,hx⟩:∃ x,tyOf rs n d = x:=⟨_,rfl⟩
    have hty:x = match find rs n with | some i => (⟨3,(i:Int),d⟩,true) | none => (TypH.z,false):=by rw [← hx,tyOf,if_neg h1,if_neg hi,if_neg hb]; cases find rs n <;> rfl
    rw [hx]
    have HTY:=vH hty
    obtain ⟨wa,hwa⟩:∃ wa,wa = (w.alloc (.cells #[.string (cbs n),.int .i64 d] 45)).alloc (.cells #[.int .i64 0,.int .i64 0,.int .i64 0] 47):=⟨_,rfl⟩
    have hba:Below w.heap.size w wa:=by rw [hwa]; exact zC (zC (Below.refl _ _))
    have hk1:wa.heap[w.heap.size]? = some (.cells #[.string (cbs n),.int .i64 d] 45 (0,0)):=by rw [hwa]; exact zD _ (heap_alloc_new w _)
    have hk2:wa.heap[w.heap.size + 1]? = some (.cells #[.int .i64 0,.int .i64 0,.int .i64 0] 47 (0,0)):=by rw [hwa]; have:=heap_alloc_new (w.alloc (.cells #[.string (cbs n),.int .i64 d] 45)) (.cells #[.int .i64 0,.int .i64 0,.int .i64 0] 47); rw [zB] at this; exact this
    have HK1:=vH hk1
    have HK2:=vH hk2
    have HB:=vH hba
    replace H:=vH (zCU H.out (Ag.below hba))
    clear hi hb h1 hx hty hba hk1 hk2
    obtain ⟨⟨k0,k1⟩,-⟩:=duo HK1.out
    go_in
    go_wp2_with fail
    rw [← hwa]
    clear hwa k0 k1
    go_loopg [6] rs.length (fun k i wr => ∃ j:Nat,k + j = rs.length ∧ i = .int .i64 (j:Int) ∧ Below wa.heap.size wa wr ∧ find rs n = (find (rs.drop j) n).map (· + j))
    case atStart => exact ⟨0,rfl,rfl,Below.refl _ _,by rw [List.drop_zero]; cases find rs n <;> rfl⟩
    case round =>
     obtain ⟨j,hj,rfl,hbr,hf⟩:=hrel
     have HJ:=vH hj
     have HF:=vH hf
     have HBR:=vH hbr
     have HB2:=vH (zE HB.out hbr HB.out.size)
     have HK4:=vH ((hbr.block _ (zA HK2.out)).trans HK2.out)
     obtain ⟨⟨k0,k1⟩,-⟩:=duo ((hbr.block _ (zA HK1.out)).trans HK1.out)
     replace H:=vH (zCU H.out (Ag.below hbr))
     clear hj hf hbr
     obtain ⟨⟨r0,r1,r2⟩,s0,s1,s2⟩:=tri HK4.out
     have hlr:=zA HK4.out
     cases gk with
     | zero =>
       obtain rfl:j = rs.length:=by have:=HJ.out; omega
       have hd4:decide ((rs.length:Int) < (rs.length:Int)) = false:=decide_eq_false (by omega)
       have hF:find rs n = none:=by have h:=HF.out; rw [List.drop_length,find] at h; exact h
       obtain rfl:x = (TypH.z,false):=by rw [HTY.out,hF]
       clear hF
       go_wp2_with fail
       exact bodyPost_ret (v:=.tuple #[tyV TypH.z,.bool false]) (by simp [results,Try.results16,go_sem,tyV,TypH.z,r0,r1,r2]) rfl ⟨rfl,zJ (zJ (zJ (HB2.out) (p:=⟨w.heap.size + 1,0,none⟩) (Nat.le_succ _) _) (p:=⟨w.heap.size + 1,1,none⟩) (Nat.le_succ _) _) (p:=⟨w.heap.size + 1,2,none⟩) (Nat.le_succ _) _⟩
     | succ m =>
       have hjl:j < rs.length:=by have:=HJ.out; omega
       have hd4:decide ((j:Int) < (rs.length:Int)) = true:=decide_eq_true (by omega)
       have hi1:(j:Int) < (rs.length:Int):=by omega
       have hd5:decide (rs.length ≤ j) = false:=decide_eq_false (by omega)
       have hdw:wrap64 ((j:Int) + 1) = ((j + 1:Nat):Int):=by have:=HL.out; simp [wrap64]; omega
       have he:=List.getElem?_eq_getElem hjl
       generalize rs[j] = y at he
       have hdr:=zS he
       have hF:=HF.out
       rw [hdr,find] at hF
       obtain ⟨bl,off,vs,rfl,hbl,hi,hcc⟩:=H.out.get he
       rw [NIs] at hi
       subst hi
       have x0:=hcc 0 _ (by decide) rfl
       simp only [Nat.mul_one,Nat.add_zero] at x0
       have hxl:(cbs y).toList = y:=zI y
       clear hcc he hdr
       by_cases hx:y = n
       ·have hb1:(y == n) = true:=by simpa using hx
        rw [if_pos hx] at hF
        obtain rfl:x = (⟨3,(j:Int),d⟩,true):=by rw [HTY.out,hF]; simp
        clear hF hx
        go_wp2_with fail
        go_quiet (fail)
        go_wp2_with fail
        exact bodyPost_ret (v:=.tuple #[tyV ⟨3,(j:Int),d⟩,.bool true]) (by simp [results,Try.results16,go_sem,tyV,r0,r1,r2]) rfl ⟨rfl,zJ (zJ (zJ (zF HB2.out _) (p:=⟨w.heap.size + 1,0,none⟩) (Nat.le_succ _) _) (p:=⟨w.heap.size + 1,1,none⟩) (Nat.le_succ _) _) (p:=⟨w.heap.size + 1,2,none⟩) (Nat.le_succ _) _⟩
       ·have hb1:(y == n) = false:=by rw [beq_eq_false_iff_ne]; exact hx
        rw [if_neg hx] at hF
        have HF2:=vH hF
        clear hF hx
        go_wp2_with fail
        go_quiet (fail)
        go_wp2_with fail
        go_roundg m
        case measure => omega
        case rel => exact ⟨j + 1,by have:=HJ.out; omega,by first | rfl | simp [hdw],zF HBR.out _,by rw [HF2.out]; cases find (rs.drop (j + 1)) n with | none => rfl | some i => (simp; omega)⟩
end Go.Proofs.Ytjleggpbghmobaa
namespace Go.Proofs.Ytjleggpbghmobaa
open Go.RowKit
open Pg (Pm Rc Fc Gm)
open Ps (Sm)
open Hs (Nm TypH FldH find find_none zBI zBt refuse tyOf zAg fdOf fltPs mainN mainOf fltMain plainF)
def RcIs (w:World)(B:Nat)(x:Rc)(vs:List Value):Prop:=∃ p c,vs = [.string (cbs x.name),.slice p x.fields.length c,.int .i64 x.at_] ∧ LAt PIs 4 w B p x.fields
def FcIs (w:World)(B:Nat)(x:Fc)(vs:List Value):Prop:=
 ∃ p c bq bn bd,vs = [.string (cbs x.name),.slice p x.params.length c,.bool x.has,.string (cbs x.rn),.int .i64 x.rd,.slice bq bn bd,.int .i64 x.at_] ∧ LAt PIs 4 w B p x.params
theorem zEX {w w1:World}{B:Nat}{q:Option Addr}{l:List Pm}(h:LAt PIs 4 w B q l)(g:Ag B w w1):LAt PIs 4 w1 B q l:=LAt.ag (w:=w) (w1:=w1) (fun _ _ h => h) h g
theorem RcIs.ag {w w1:World}{B:Nat}{x:Rc}{vs:List Value}(h:RcIs w B x vs)(g:Ag B w w1):RcIs w1 B x vs:=by obtain ⟨p,c,hv,hp⟩:=h; exact ⟨p,c,hv,zEX hp g⟩
theorem FcIs.ag {w w1:World}{B:Nat}{x:Fc}{vs:List Value}(h:FcIs w B x vs)(g:Ag B w w1):FcIs w1 B x vs:=by obtain ⟨p,c,bq,bn,bd,hv,hp⟩:=h; exact ⟨p,c,bq,bn,bd,hv,zEX hp g⟩
theorem RIs.rc {w:World}{B:Nat}{x:Rc}{vs:List Value}(h:RIs w B x vs):RcIs w B x vs:=by obtain ⟨p,c,hv,hp⟩:=h; exact ⟨p,c,hv,hp.lat⟩
theorem FIs.fc {w:World}{B:Nat}{x:Fc}{vs:List Value}(h:FIs w B x vs):FcIs w B x vs:=by obtain ⟨p,c,q,d,hv,hp,-⟩:=h; exact ⟨p,c,_,_,_,hv,hp.lat⟩
theorem LAt.imp {α:Type}{I J:World → Nat → α → List Value → Prop}{n:Nat}{w:World}{B:Nat}{q:Option Addr}{l:List α}(hI:∀ x vs,I w B x vs → J w B x vs)(h:LAt I n w B q l):LAt J n w B q l:=by
 rcases h with h0 | ⟨bl,off,hp,hb,hne,ha⟩
 ·exact .inl h0
 ·refine .inr ⟨bl,off,hp,hb,hne,fun i x hx => ?_⟩
  obtain ⟨vs,h1,h2⟩:=ha i x hx
  exact ⟨vs,hI x vs h1,h2⟩
def GmIs (w:World)(B:Nat)(x:Gm)(vs:List Value):Prop:=
 ∃ p c q d r f,vs = [.slice p x.recs.length c,.slice q x.globals.length d,.slice r x.funcs.length f] ∧ LAt RcIs 3 w B p x.recs ∧ LAt PIs 4 w B q x.globals ∧ LAt FcIs 7 w B r x.funcs
theorem GIs.gm {w:World}{B:Nat}{x:Gm}{vs:List Value}(h:GIs w B x vs):GmIs w B x vs:=by
 obtain ⟨p,c,q,d,r,f,hv,h1,h2,h3⟩:=h
 exact ⟨p,c,q,d,r,f,hv,h1.imp fun _ _ h => h.rc,h2,h3.imp fun _ _ h => h.fc⟩
theorem GmIs.ag {w w1:World}{B:Nat}{x:Gm}{vs:List Value}(h:GmIs w B x vs)(g:Ag B w w1):GmIs w1 B x vs:=by
 obtain ⟨p,c,q,d,r,f,hv,h1,h2,h3⟩:=h
 exact ⟨p,c,q,d,r,f,hv,h1.ag (fun _ _ h => h.ag g) g,zEX h2 g,h3.ag (fun _ _ h => h.ag g) g⟩
def mainIx (fs:List Fc):Nat:=(find (fs.map (·.name)) mainN).getD 0
theorem zF5 {fs:List Fc}(h:fltMain fs = none):mainIx fs = (mainOf fs).getD 0:=by
 unfold fltMain at h
 unfold mainIx
 unfold mainOf at *
 cases hf:find (fs.map (·.name)) mainN with
 | none => rfl
 | some i =>
   rw [hf,Option.bind_some] at h
   rw [Option.bind_some]
   cases hx:fs[i]? with
   | none => rw [hx] at h; simp at h
   | some f =>
     rw [hx,Option.bind_some] at h
     rw [Option.bind_some]
     cases hp:plainF f with
     | false => rw [hp] at h; simp at h
     | true => simp
theorem zF4 {fs:List Fc}(h:find (fs.map (·.name)) mainN = none):fltMain fs = some 0:=by unfold fltMain mainOf; rw [h]; rfl
theorem zF3 {fs:List Fc}{i:Nat}{f:Fc}(h:find (fs.map (·.name)) mainN = some i)(hx:fs[i]? = some f):fltMain fs = if plainF f then none else some 0:=by
 unfold fltMain mainOf
 rw [h,Option.bind_some,hx,Option.bind_some]
 cases plainF f <;> rfl
theorem zCY (w0 w:World)(R M b:Nat)(c:Option Int)(fs:List Fc)(q:Option Addr)(k:Nat)(h0:Below w0.heap.size w0 w)(_hR0:w0.heap.size ≤ R)(hp:LAt FcIs 7 w0 0 q fs)(hc:ChkM w R M c)(hm:NamM w b (fs.map (·.name)))(_hl:fs.length ≤ 9000000000)(hpl:∀ f ∈ fs,f.params.length ≤ 9000000000) :
 Calls Try.prog 46 #[.pointer (some ⟨R,0,none⟩),.slice q fs.length k,.map (some b)] w fun e w' => e = .returned (.int .i64 (mainIx fs:Int)) ∧ ChkM w' R M (c.or (fltMain fs)) ∧ Gr R w w':=by
 have HF:=vH (zBX w b _ hm mainN (by decide))
 unfold mainIx
 have HC:=vH hc
 obtain ⟨c2,hc2⟩:∃ c2,c.or (fltMain fs) = c2:=⟨_,rfl⟩
 rw [hc2]
 cases hf:find (fs.map (·.name)) mainN with
 | none =>
   rw [hf] at HF
   rw [zF4 hf] at hc2
   have HC2:=vH hc2
   clear hc2 hp hm hc hf h0 _hR0 _hl hpl
   go_in
   go_wp2_with fail
   refine HF.out.mono ?_
   rintro e w1 ⟨rfl,rfl⟩
   go_wp2_with fail
   refine (zAM w R M c HC.out 0).mono ?_
   rintro e w1 ⟨rfl,hck,hg⟩
   go_wp2_with fail
   go_ret
   exact ⟨rfl,by rw [← HC2.out]; exact hck,hg⟩
 | some i =>
   rw [hf] at HF
   have hil:i < fs.length:=by have:=zBI hf; rw [List.length_map] at this; exact this
   have hx:=List.getElem?_eq_getElem hil
   have hpm:=hpl _ (List.getElem_mem hil)
   generalize fs[i] = f at hx hpm
   rw [zF3 hf hx] at hc2
   have HH0:=vH h0
   obtain ⟨bl,off,vs,rfl,hbl,⟨p,pc,bq,bn,bd,rfl,-⟩,hcc⟩:=(hp.ag (w1:=w) (fun _ _ h => h.ag (Ag.below h0)) (Ag.below h0)).get hx
   have x1:=hcc 1 _ (by decide) rfl
   have x2:=hcc 2 _ (by decide) rfl
   have hi1:(i:Int) < (fs.length:Int):=by omega
   have hi2:decide (fs.length ≤ i) = false:=decide_eq_false (by omega)
   clear hp hm hc hf h0 _hR0 _hl hpl hcc hx HH0
   obtain ⟨nm,ps,has,rn,rd,bd,fat⟩:=f
   dsimp only at x1 x2 hpm
   have hpf:plainF ⟨nm,ps,has,rn,rd,bd,fat⟩ = (ps.isEmpty && !has):=rfl
   rw [hpf] at hc2
   by_cases hps:ps.length = 0
   ·have hd1:decide ((0:Int) < (ps.length:Int)) = false:=decide_eq_false (by omega)
    have hd2:decide (0 < ps.length) = false:=decide_eq_false (by omega)
    have hpe:ps.isEmpty = true:=by simpa using hps
    rw [hpe] at hc2
    have HC2:=vH hc2
    clear hps hpe hpf hc2
    cases has with
    | false =>
      go_in
      go_wp2_with fail
      refine HF.out.mono ?_
      rintro e w1 ⟨rfl,rfl⟩
      go_wp2_with fail
      go_ret
      exact ⟨rfl,by rw [← HC2.out]; exact (zAg c).symm ▸ HC.out,Gr.refl _ _⟩
    | true =>
      go_in
      go_wp2_with fail
      refine HF.out.mono ?_
      rintro e w1 ⟨rfl,rfl⟩
      go_wp2_with fail
      refine (zAM w R M c HC.out 0).mono ?_
      rintro e w1 ⟨rfl,hck,hg⟩
      go_wp2_with fail
      go_ret
      exact ⟨rfl,by rw [← HC2.out]; exact hck,hg⟩
   ·have hd1:decide ((0:Int) < (ps.length:Int)) = true:=decide_eq_true (by omega)
    have hd2:decide (0 < ps.length) = true:=decide_eq_true (by omega)
    have hpe:ps.isEmpty = false:=by
        cases ps with
        | nil => exact absurd rfl hps
        | cons a t => rfl
    rw [hpe] at hc2
    have HC2:=vH hc2
    clear hps hpe hpf hc2
    go_in
    go_wp2_with fail
    refine HF.out.mono ?_
    rintro e w1 ⟨rfl,rfl⟩
    go_wp2_with fail
    refine (zAM w R M c HC.out 0).mono ?_
    rintro e w1 ⟨rfl,hck,hg⟩
    go_wp2_with fail
    go_ret
    exact ⟨rfl,by rw [← HC2.out]; exact hck,hg⟩
end Go.Proofs.Ytjleggpbghmobaa
namespace Go.Proofs.Ytjleggpbghmobaa
open Go.RowKit
open Pg (Pm Rc Fc Gm)
open Hs (Nm TypH FldH ShpH SigH HdsH find refuse tyOf zAg fdOf shOf sgOf resOf recNames flt)
def ShIs (w:World)(B:Nat)(x:ShpH)(vs:List Value):Prop:=∃ p c,vs = [.string (cbs x.name),.slice p x.fields.length c] ∧ LAt FdIs 4 w B p x.fields
def SgIs (w:World)(B:Nat)(x:SigH)(vs:List Value):Prop:=
 ∃ p c,vs = [.string (cbs x.name),.slice p x.params.length c,.bool x.has,.int .i64 x.result.b,.int .i64 x.result.r,.int .i64 x.result.d] ∧ LAt FdIs 4 w B p x.params
theorem ShIs.len (w:World)(B:Nat)(x:ShpH)(vs:List Value)(h:ShIs w B x vs):vs.length = 2:=by obtain ⟨p,c,rfl,-⟩:=h; rfl
theorem SgIs.len (w:World)(B:Nat)(x:SigH)(vs:List Value)(h:SgIs w B x vs):vs.length = 6:=by obtain ⟨p,c,rfl,-⟩:=h; rfl
theorem ShIs.ag {w w1:World}{B:Nat}{x:ShpH}{vs:List Value}(h:ShIs w B x vs)(g:Ag B w w1):ShIs w1 B x vs:=by obtain ⟨p,c,hv,hp⟩:=h; exact ⟨p,c,hv,zAK hp g⟩
theorem SgIs.ag {w w1:World}{B:Nat}{x:SigH}{vs:List Value}(h:SgIs w B x vs)(g:Ag B w w1):SgIs w1 B x vs:=by obtain ⟨p,c,hv,hp⟩:=h; exact ⟨p,c,hv,zAK hp g⟩
theorem ShIs.lower {w:World}{B B2:Nat}{x:ShpH}{vs:List Value}(h:ShIs w B x vs)(hB:B2 ≤ B):ShIs w B2 x vs:=by obtain ⟨p,c,hv,hp⟩:=h; exact ⟨p,c,hv,zAB hp hB⟩
theorem SgIs.lower {w:World}{B B2:Nat}{x:SigH}{vs:List Value}(h:SgIs w B x vs)(hB:B2 ≤ B):SgIs w B2 x vs:=by obtain ⟨p,c,hv,hp⟩:=h; exact ⟨p,c,hv,zAB hp hB⟩
def HdIs (w:World)(B:Nat)(h:HdsH)(vs:List Value):Prop:=
 ∃ p c q d r f,vs = [.slice p h.recs.length c,.slice q h.globals.length d,.slice r h.sigs.length f,.int .i64 h.main] ∧ LAt ShIs 2 w B p h.recs ∧ LAt FdIs 4 w B q h.globals ∧ LAt SgIs 6 w B r h.sigs
theorem HdIs.ag {w w1:World}{B:Nat}{h:HdsH}{vs:List Value}(hh:HdIs w B h vs)(g:Ag B w w1):HdIs w1 B h vs:=by
 obtain ⟨p,c,q,d,r,f,hv,h1,h2,h3⟩:=hh
 exact ⟨p,c,q,d,r,f,hv,h1.ag (fun _ _ h => h.ag g) g,zAK h2 g,h3.ag (fun _ _ h => h.ag g) g⟩
theorem HdIs.lower {w:World}{B B2:Nat}{h:HdsH}{vs:List Value}(hh:HdIs w B h vs)(hB:B2 ≤ B):HdIs w B2 h vs:=by
 obtain ⟨p,c,q,d,r,f,hv,h1,h2,h3⟩:=hh
 exact ⟨p,c,q,d,r,f,hv,h1.lower (fun _ _ h => h.lower hB) hB,zAB h2 hB,h3.lower (fun _ _ h => h.lower hB) hB⟩
theorem HdIs.zero {w:World}{B:Nat}:HdIs w B HdsH.zero [.slice none 0 0,.slice none 0 0,.slice none 0 0,.int .i64 0]:=⟨none,0,none,0,none,0,rfl,.inl rfl,.inl rfl,.inl rfl⟩
theorem zGc:(Try.prog.info? 55).map (fun i => (i.zero,i.size,i.bytes)) = some (some (.agg #[.string ⟨#[]⟩,.slice none 0 0]),2,40):=by kernel_rfl
theorem zIA:(Try.prog.info? 60).map (fun i => (i.zero,i.size,i.bytes)) = some (some (.agg #[.string ⟨#[]⟩,.slice none 0 0,.bool false,.int .i64 0,.int .i64 0,.int .i64 0]),6,72):=by kernel_rfl
theorem zFm (s:ByteArray)(p:Option Addr)(n c:Nat):∀ u ∈ ([.string s,.slice p n c]:List Value),u.oneCell' = true:=by
 intro u hu
 simp at hu
 rcases hu with rfl | rfl <;> rfl
theorem zH6 (s:ByteArray)(p:Option Addr)(n c:Nat)(h:Bool)(x y z:Int):∀ u ∈ ([.string s,.slice p n c,.bool h,.int .i64 x,.int .i64 y,.int .i64 z]:List Value),u.oneCell' = true:=by
 intro u hu
 simp at hu
 rcases hu with rfl | rfl | rfl | rfl | rfl | rfl <;> rfl
structure PrSt (w:World) (R M:Nat) (o1:Obj) (nms:List Nm) (v1 v2 v3 v4:Value) (c:Option Int) (wr:World):Prop where
 ck:ChkM wr R M c
 rcn:NamM wr M nms
 gt:GrTw R M w wr
 bx:wr.heap[w.heap.size]? = some o1
 rsl:wr.heap[w.heap.size + 1]? = some (.cells #[.slice none 0 0,.slice none 0 0,.slice none 0 0,.int .i64 0] 36 (0,0))
 hb:wr.heap[w.heap.size + 2]? = some (.cells #[v1,v2,v3,v4] 36 (0,0))
section
variable {w wr w1:World} {R M:Nat} {nms nms':List Nm} {c c':Option Int} {o1:Obj} {v1 v2 v3 v4:Value}
theorem PrSt.lt (h:PrSt w R M o1 nms v1 v2 v3 v4 c wr):w.heap.size + 3 ≤ wr.heap.size:=zA h.hb
theorem PrSt.go (h:PrSt w R M o1 nms v1 v2 v3 v4 c wr)(hb:Below wr.heap.size wr w1):PrSt w R M o1 nms v1 v2 v3 v4 c w1:=
 ⟨h.ck.below hb,h.rcn.below hb,⟨hb.os.trans h.gt.os,hb.tape.trans h.gt.tape,hb.output.trans h.gt.output,Nat.le_trans h.gt.size hb.size,fun i h1 h2 h3 => (hb.block i (Nat.lt_of_lt_of_le h1 h.gt.size)).trans (h.gt.block i h1 h2 h3)⟩,
  (hb.block _ (zA h.bx)).trans h.bx,(hb.block _ (zA h.rsl)).trans h.rsl,(hb.block _ (zA h.hb)).trans h.hb⟩
theorem PrSt.drew (h:PrSt w R M o1 nms v1 v2 v3 v4 c wr):PrSt w R M o1 nms v1 v2 v3 v4 c wr.drew:=h.go (zAc (Below.refl _ _))
theorem PrSt.two {b:Nat}(h:PrSt w R M o1 nms v1 v2 v3 v4 c wr)(hR:R < w.heap.size)(hM:M < w.heap.size)(hne:M ≠ R)(hbb:w.heap.size + 2 < b)(hc:ChkM w1 R M c')(hg:GrTw R b wr w1):PrSt w R M o1 nms v1 v2 v3 v4 c' w1:=
 ⟨hc,h.rcn.kept (hg.block M h.rcn.lt hne (by omega)),⟨hg.os.trans h.gt.os,hg.tape.trans h.gt.tape,hg.output.trans h.gt.output,Nat.le_trans h.gt.size hg.size,fun i h1 h2 h3 => (hg.block i (Nat.lt_of_lt_of_le h1 h.gt.size) h2 (by omega)).trans (h.gt.block i h1 h2 h3)⟩,
  (hg.block _ (zA h.bx) (by omega) (by omega)).trans h.bx,(hg.block _ (zA h.rsl) (by omega) (by omega)).trans h.rsl,(hg.block _ (zA h.hb) (by omega) (by omega)).trans h.hb⟩
theorem PrSt.step (h:PrSt w R M o1 nms v1 v2 v3 v4 c wr)(hR:R < w.heap.size)(hM:M < w.heap.size)(hne:M ≠ R)(hc:ChkM w1 R M c')(hg:Gr R wr w1):PrSt w R M o1 nms v1 v2 v3 v4 c' w1:=
 h.two (b:=w.heap.size + 3) hR hM hne (by omega) hc (GrTw.of hg)
theorem PrSt.named (h:PrSt w R M o1 nms v1 v2 v3 v4 c wr)(hR:R < w.heap.size)(hM:M < w.heap.size)(hc:ChkM w1 R M c')(hn:NamM w1 M nms')(hg:GrTw R M wr w1):PrSt w R M o1 nms' v1 v2 v3 v4 c' w1:=
 ⟨hc,hn,⟨hg.os.trans h.gt.os,hg.tape.trans h.gt.tape,hg.output.trans h.gt.output,Nat.le_trans h.gt.size hg.size,fun i h1 h2 h3 => (hg.block i (Nat.lt_of_lt_of_le h1 h.gt.size) h2 h3).trans (h.gt.block i h1 h2 h3)⟩,
  (hg.block _ (zA h.bx) (by omega) (by omega)).trans h.bx,(hg.block _ (zA h.rsl) (by omega) (by omega)).trans h.rsl,(hg.block _ (zA h.hb) (by omega) (by omega)).trans h.hb⟩
theorem PrSt.grown {v:Value}{o:Obj}(h:PrSt w R M o1 nms v1 v2 v3 v4 c wr)(hR:R < w.heap.size)(hM:M < w.heap.size)(hv:∀ k,v.ownBlock = some k → w.heap.size + 3 ≤ k)(hgrow:(wr.alloc o).grownBy w1 v.ownBlock):PrSt w R M o1 nms v1 v2 v3 v4 c w1:=by
 have hk:∀ i,i < wr.heap.size → i < w.heap.size + 3 → w1.heap[i]? = wr.heap[i]?:=fun i h1 h2 =>
  (hgrow.block i (by rw [zB]; omega) (fun e => by have:=hv i e.symm; omega)).trans (heap_alloc_old _ _ h1)
 have hs:wr.heap.size ≤ w1.heap.size:=by have:=hgrow.size; rw [zB] at this; omega
 exact ⟨(hk R h.ck.lt (by omega)).trans h.ck,h.rcn.kept (hk M h.rcn.lt (by omega)),⟨hgrow.os.trans h.gt.os,hgrow.tape.trans h.gt.tape,hgrow.output.trans h.gt.output,Nat.le_trans h.gt.size hs,fun i h1 h2 h3 => (hk i (Nat.lt_of_lt_of_le h1 h.gt.size) (by omega)).trans (h.gt.block i h1 h2 h3)⟩,
  (hk _ (zA h.bx) (by omega)).trans h.bx,(hk _ (zA h.rsl) (by omega)).trans h.rsl,(hk _ (zA h.hb) (by omega)).trans h.hb⟩
theorem PrSt.put {i:Nat}{u:Value}(h:PrSt w R M o1 nms v1 v2 v3 v4 c wr)(hR:R < w.heap.size)(hM:M < w.heap.size){u1 u2 u3 u4:Value}(hu : #[v1,v2,v3,v4].setIfInBounds i u = #[u1,u2,u3,u4]):PrSt w R M o1 nms u1 u2 u3 u4 c (wr.setCell ⟨w.heap.size + 2,i,none⟩ u):=
 ⟨h.ck.set (by show R ≠ w.heap.size + 2; omega) u,h.rcn.kept (Below.heap_setCell wr _ u M (by show M ≠ w.heap.size + 2; omega)),
  ⟨h.gt.os,h.gt.tape,h.gt.output,by rw [zR]; exact h.gt.size,fun k h1 h2 h3 => (Below.heap_setCell wr _ u k (by show k ≠ w.heap.size + 2; omega)).trans (h.gt.block k h1 h2 h3)⟩,
  zN h.bx (by show w.heap.size ≠ w.heap.size + 2; omega) u,zN h.rsl (by show w.heap.size + 1 ≠ w.heap.size + 2; omega) u,by have:=Lib.heap_setCell_same h.hb (i:=i) (v:=u); rw [hu] at this; exact this⟩
end
def exs (v:Value)(k:Nat):Prop:=v.ownBlock = some k
section
variable {α:Type} {I:World → Nat → α → List Value → Prop} {T:TypeId} {n B:Nat} {v v':Value} {l:List α} {w w1 w3:World}
theorem OwnL.agg (h:OwnL I T n (exs v) B v l w)(g:Ag B w w1):OwnL I T n (exs v) B v l w1:=h.go g.size g.block
theorem OwnL.more {x : α}{vs:List Value}{vss:List (List Value)}{o:Obj}(_h0:w.ownsRow B T n v l.length vss.flatten)(h1:vss.length = l.length)(h3:∀ (i:Nat) x vs,l[i]? = some x → vss[i]? = some vs → But (fun w => I w B x vs) (exs v) B w)(hi:But (fun w => I w B x vs) (exs v) B w)
 (hown:w3.ownsRow B T n v' (l.length + 1) (vss.flatten ++ vs)) (hgrow:(w.alloc o).grownBy w3 v.ownBlock) (hat:v'.ownBlock = v.ownBlock ∨ v'.ownBlock = some (w.heap.size + 1)):OwnL I T n (exs v') B v' (l ++ [x]) w3:=by
 have hs:w.heap.size ≤ w3.heap.size:=by have:=hgrow.size; rw [zB] at this; omega
 refine OwnL.push h1 h3 hi hown hs (fun bl _ h2 hx => (hgrow.block bl (by rw [zB]; omega) (fun e => hx e.symm)).trans (heap_alloc_old _ _ h2)) fun k hk => ?_
 rcases hat with e | e
 ·exact .inl (by unfold exs at *; rw [← e]; exact hk)
 ·right
  unfold exs at hk
  rw [e] at hk
  injection hk with hk
  omega
end
end Go.Proofs.Ytjleggpbghmobaa
namespace Go.Proofs.Ytjleggpbghmobaa
open Go.RowKit
open Pg (Pm Rc Fc Gm)
open Hs (Nm TypH recNames zU)
theorem zB1 (w:World)(a:Int) :
 Calls Try.prog 31 #[.int .i64 a] w fun e w' => e = .returned (.agg #[.int .i64 3,.int .i64 a]) ∧ Below w.heap.size w w':=by
 go_in
 go_wp2_with fail
 exact bodyPost_ret (v:=.agg #[.int .i64 3,.int .i64 a]) (by simp [results,Try.results31,go_sem]) rfl ⟨rfl,by with_reducible repeat (first | exact Below.refl _ _ | refine zC ?_ | refine zJ ?_ (Nat.le_refl _) _)⟩
theorem zIz:(Try.prog.info? 9).map (fun i => (i.zero,i.size,i.bytes)) = some (some (.string ⟨#[]⟩),1,16):=by kernel_rfl
def nmV (r:Rc):Value:=.string (cbs r.name)
theorem zIn {w:World}{B:Nat}{p:Option Addr}{n c:Nat}{l:List Rc}{T:TypeId}(h:w.ownsRow B T 1 (.slice p n c) l.length (l.map nmV)):n = l.length ∧ LAt NIs 1 w B p (l.map (·.name)):=by
 rcases h.2 with ⟨hv,h0⟩ | ⟨g,cap,cur,hv,hb,hc,hn,hcap,hsize,htake⟩
 ·obtain rfl:=List.eq_nil_of_length_eq_zero h0
  injection hv with _ hn
  exact ⟨hn,.inl rfl⟩
 ·injection hv with hp hn' _
  refine ⟨hn',.inr ⟨g,0,hp,zA hc,hb,fun i x hx => ⟨[.string (cbs x)],rfl,fun j v hj hv => ?_⟩⟩⟩
  obtain rfl:j = 0:=by omega
  obtain rfl : .string (cbs x) = v:=by simpa using hv
  have hx2:(l.map nmV)[i]? = some (.string (cbs x)):=by
   rw [List.getElem?_map] at hx ⊢
   cases hl:l[i]? with
   | none => rw [hl] at hx; simp at hx
   | some r =>
     rw [hl] at hx
     obtain rfl:r.name = x:=by simpa using hx
     rfl
  have:=World.ownsRow.cells ⟨h.1,.inr ⟨g,cap,cur,rfl,hb,hc,hn,hcap,hsize,htake⟩⟩ (g:=g) rfl i _ hx2
  have hadd:∀ k,(⟨g,0,none⟩:Addr).add k = ⟨g,k,none⟩:=fun k => by unfold Addr.add; split <;> simp_all
  rw [hadd] at this
  rw [Nat.zero_add,Nat.mul_one,Nat.add_zero]
  exact this
theorem zF1 (w:World)(g:Gm)(q1 q2 q3:Option Addr)(k1 k2 k3:Nat)(h:LAt RcIs 3 w 0 q1 g.recs)(hl:g.recs.length ≤ 9000000000) :
 Calls Try.prog 30 #[.agg #[.slice q1 g.recs.length k1,.slice q2 g.globals.length k2,.slice q3 g.funcs.length k3]] w fun e w' => ∃ p k,e = .returned (.slice p g.recs.length k) ∧ LAt NIs 1 w' w.heap.size p (recNames g) ∧ Below w.heap.size w w':=by
 have H:=vH h
 have HL:=vH hl
 clear h hl
 obtain ⟨wa,hwa⟩:∃ wa,wa = w.alloc (.cells #[.slice q1 g.recs.length k1,.slice q2 g.globals.length k2,.slice q3 g.funcs.length k3] 26):=⟨_,rfl⟩
 have HB:=vH (show Below w.heap.size w wa by rw [hwa]; exact zC (Below.refl _ _))
 have HK:=vH (show wa.heap[w.heap.size]? = some (.cells #[.slice q1 g.recs.length k1,.slice q2 g.globals.length k2,.slice q3 g.funcs.length k3] 26 (0,0)) by rw [hwa]; exact heap_alloc_new w _)
 obtain ⟨i0,hi0,hz0,hz1,hz2⟩:=info_parts zIz
 go_in
 go_wp2_with fail
 rw [← hwa]
 clear hwa
 go_loopg [3,4] g.recs.length (fun n v i wr => ∃ j:Nat,n + j = g.recs.length ∧ i = .int .i64 (j:Int) ∧ Below w.heap.size w wr ∧ wr.heap[w.heap.size]? = some (.cells #[.slice q1 g.recs.length k1,.slice q2 g.globals.length k2,.slice q3 g.funcs.length k3] 26 (0,0)) ∧ wr.ownsRow (w.heap.size + 1) 9 1 v j ((g.recs.take j).map nmV))
 case atStart => exact ⟨0,rfl,rfl,HB.out,HK.out,World.ownsRow_nil _ _ _ _⟩
 case round =>
  obtain ⟨j,hj,rfl,hb,hk,ho⟩:=hrel
  have HJ:=vH hj
  replace HB:=vH hb
  replace HK:=vH hk
  have HO:=vH ho
  clear hj hb hk ho
  obtain ⟨⟨x0,x1,x2⟩,-⟩:=tri HK.out
  cases gk with
  | zero =>
    obtain rfl:j = g.recs.length:=by have:=HJ.out; omega
    have hd1:decide ((g.recs.length:Int) < (g.recs.length:Int)) = false:=decide_eq_false (by omega)
    have hO:=HO.out
    rw [List.take_length] at hO
    obtain ⟨p,k,hv⟩:=zT hO
    subst hv
    have HLA:=vH (zIn hO).2
    clear hO
    go_wp2_with fail
    go_ret
    exact ⟨p,k,rfl,zHJ HLA.out (Nat.le_succ _),HB.out⟩
  | succ m =>
    have hjl:j < g.recs.length:=by have:=HJ.out; omega
    have hd1:decide ((j:Int) < (g.recs.length:Int)) = true:=decide_eq_true (by omega)
    have hi1:(j:Int) < (g.recs.length:Int):=by omega
    have hd2:decide (g.recs.length ≤ j) = false:=decide_eq_false (by omega)
    have hdw:wrap64 ((j:Int) + 1) = ((j + 1:Nat):Int):=by have:=HL.out; simp [wrap64]; omega
    have he:=List.getElem?_eq_getElem hjl
    generalize g.recs[j] = x at he
    have HTN:=vH (zU nmV he)
    obtain ⟨bl,off,vs,hbl0,hbl,⟨fp,fc,rfl,-⟩,hcc⟩:=(H.out.ag (w1:=wr) (fun _ _ h => h.ag (Ag.below HB.out)) (Ag.below HB.out)).get he
    have y0:=hcc 0 _ (by decide) rfl
    simp only [Nat.add_zero] at y0
    have hsz:=zA HK.out
    have HSZ:=vH hsz
    obtain ⟨lp,lc,hls⟩:=zT HO.out
    subst hls
    generalize (g.recs.take j).map nmV = out at HO HTN
    obtain rfl:some ⟨bl,off,none⟩ = q1:=hbl0.symm
    clear hcc he hbl0 hsz
    go_wp2_with (at_builtin; refine wpList_append_own_at _ rfl _ _ 43 rfl (w.heap.size + 1) 9 i0 _ 1 16 Try.underlying43 hi0 hz0 hz1 hz2 rfl (by decide) _ j _ rfl (HO.out.alloc _) ⟨wr.heap.size,0,none⟩ 1 1 [nmV x] rfl rfl ?c1 ?c2 ?c3 ?c4 ?c5 ?_)
    case c1 => exact zAE rfl rfl
    case c2 => intro u hu; obtain rfl:=List.mem_singleton.1 hu; rfl
    case c3 => have:=HJ.out; have:=HL.out; unfold maxLen; omega
    case c4 => have:=HJ.out; have:=HL.out; omega
    case c5 => rw [zB]; have:=HSZ.out; omega
    intro v' w8 hown hgrow _ hat
    have hv:∀ k,(Value.slice lp j lc).ownBlock = some k → w.heap.size + 1 ≤ k:=fun k hk => (HO.out.lt k hk).1
    have hkk:∀ i,i < wr.heap.size → i < w.heap.size + 1 → w8.heap[i]? = wr.heap[i]?:=fun i h1 h2 =>
        (hgrow.block i (by rw [zB]; omega) (fun e => by have:=hv i e.symm; omega)).trans (heap_alloc_old _ _ h1)
    have HB8:=vH (show Below w.heap.size w w8 from ⟨hgrow.os.trans HB.out.os,hgrow.tape.trans HB.out.tape,hgrow.output.trans HB.out.output,by have:=hgrow.size; rw [zB] at this; have:=HB.out.size; omega,fun i hi => (hkk i (Nat.lt_of_lt_of_le hi HB.out.size) (Nat.lt_succ_of_lt hi)).trans (HB.out.block i hi)⟩)
    have HK8:=vH ((hkk _ HSZ.out (Nat.lt_succ_self _)).trans HK.out)
    have HO8:=vH hown
    obtain ⟨np,nc,hnv⟩:=zT hown
    subst hnv
    clear hown hgrow hat hv hkk x0 x1 x2 y0
    go_wp2_with fail
    go_roundg m
    case measure => omega
    case rel => exact ⟨j + 1,by have:=HJ.out; omega,by first | rfl | simp [hdw],HB8.out,HK8.out,by rw [HTN.out]; exact HO8.out⟩
end Go.Proofs.Ytjleggpbghmobaa
