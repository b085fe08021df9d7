/-
  What the project's own reader of programs does, step by step
-/
import Derived.Test.YtipmjjfknhblnaaGreatDoorK14
import Derived.Test.YtipmjjfknhblnaaGreatDoorK17
import Derived.Test.YtipmjjfknhblnaaGreatDoorK01
import Derived.Test.YtipmjjfknhblnaaGreatDoorK24
import Derived.Test.YtipmjjfknhblnaaGreatDoorK22
import Derived.Test.YtipmjjfknhblnaaGreatDoorK25
import Derived.Test.YtipmjjfknhblnaaGreatDoorK02
import Derived.Laws.Rows
set_option maxRecDepth 8000
set_option maxHeartbeats 8000000
namespace Go.Proofs.YtipmjjfknhblnaaGreatDoor
namespace Pg
open Go.RowKit
open Px (RT tokAt)
open Pe
open Ps (Sm)
structure Pm where
 name:List UInt8
 ofn:List UInt8
 dims:Int
 at_:Int
structure Rc where
 name:List UInt8
 fields:List Pm
 at_:Int
structure Fc where
 name:List UInt8
 params:List Pm
 has:Bool
 rn:List UInt8
 rd:Int
 body:List Sm
 at_:Int
structure Gm where
 recs:List Rc
 globals:List Pm
 funcs:List Fc
def Gm.zero:Gm:=⟨[],[],[]⟩
def Gm.addR (p:Gm)(x:Rc):Gm:=⟨p.recs ++ [x],p.globals,p.funcs⟩
def Gm.addG (p:Gm)(x:Pm):Gm:=⟨p.recs,p.globals ++ [x],p.funcs⟩
def Gm.addF (p:Gm)(x:Fc):Gm:=⟨p.recs,p.globals,p.funcs ++ [x]⟩
abbrev BX:=Int → List Sm × Int × Int × Int
def rdOf (ts:List RT)(s:Cs):List UInt8 × Nat × Cs:=
 if s.E = 0 then
    if (ofAns ts s.k).2.2.2.1 = 0 then ((ofAns ts s.k).1,(ofAns ts s.k).2.1,⟨(ofAns ts s.k).2.2.1,s.E,s.F⟩)
    else ([],0,⟨s.k,(ofAns ts s.k).2.2.2.1,(ofAns ts s.k).2.2.2.2⟩)
 else ([],0,s)
def rdB (B:BX)(s:Cs):List Sm × Cs:=
 if s.E = 0 then
    if (B s.k).2.2.1 = 0 then ((B s.k).1,⟨(B s.k).2.1,s.E,s.F⟩)
    else ([],⟨s.k,(B s.k).2.2.1,(B s.k).2.2.2⟩)
 else ([],s)
def limit (ts:List RT)(s:Cs)(n most:Int):Cs:=if n = most then fail ts s 4 else s
def sg (ts:List RT)(s:Cs)(t:List UInt8):Cs:=(sign ts s t).2
def declared (ts:List RT)(s:Cs):Pm × Cs:=
 let n:=name ts s
 let t:=rdOf ts (sg ts n.2 [58])
 (⟨n.1,t.1,t.2.1,(peek ts s).at_⟩,t.2.2)
def oneMore (ts:List RT)(l:List Pm)(most:Int)(s:Cs):List Pm × Cs:=
 let d:=declared ts (if (peek ts s).kind = 1 then limit ts s l.length most else s)
 (l ++ [d.1],d.2)
def parLoop (ts:List RT):Nat → List Pm → Cs → Option (List Pm × Cs)
 | 0,_,_ => none
 | g + 1,l,s =>
   if sees ts s 4 [44] then parLoop ts g (oneMore ts l 6 (next s)).1 (oneMore ts l 6 (next s)).2
   else some (l,s)
def parFirst (ts:List RT)(s:Cs):List Pm × Cs:=if sees ts s 4 [41] then ([],s) else oneMore ts [] 6 s
def params (ts:List RT)(g:Nat)(s:Cs):Option (List Pm × Cs):=
 match parLoop ts g (parFirst ts (sg ts s [40])).1 (parFirst ts (sg ts s [40])).2 with
 | none => none
 | some (l,s2) => some (l,sg ts s2 [41])
def resultOf (ts:List RT)(s:Cs):Bool × List UInt8 × Nat × Cs:=
 if sees ts s 4 [58] then (true,rdOf ts (next s)) else (false,[],0,s)
def function (ts:List RT)(B:BX)(g:Nat)(s:Cs):Option (Fc × Cs):=
 match params ts g (name ts (next s)).2 with
 | none => none
 | some (ps,s1) =>
   let t:=resultOf ts s1
   some (⟨(name ts (next s)).1,ps,t.1,t.2.1,t.2.2.1,(rdB B t.2.2.2).1,(peek ts (next s)).at_⟩,(rdB B t.2.2.2).2)
def fieldLoop (ts:List RT):Nat → List Pm → Cs → Option (List Pm × Cs)
 | 0,_,_ => none
 | g + 1,l,s =>
   if (peek ts s).kind = 1 then fieldLoop ts g (oneMore ts l 8 s).1 (sg ts (oneMore ts l 8 s).2 [59])
   else some (l,s)
def record (ts:List RT)(g:Nat)(s:Cs):Option (Rc × Cs):=
 match fieldLoop ts g [] (sg ts (name ts (next s)).2 [123]) with
 | none => none
 | some (l,s2) => some (⟨(name ts (next s)).1,l,(peek ts (next s)).at_⟩,sg ts s2 [125])
def global (ts:List RT)(s:Cs):Pm × Cs:=((declared ts (next s)).1,sg ts (declared ts (next s)).2 [59])
def loop (ts:List RT)(B:BX):Nat → Gm → Cs → Option (Gm × Cs)
 | 0,_,_ => none
 | g + 1,p,s =>
   if (peek ts s).kind = 0 then some (p,s)
   else if sees ts s 3 [114,101,99,111,114,100] then
     match record ts g (limit ts s p.recs.length 12) with
     | none => none
     | some (x,s2) => loop ts B g (p.addR x) s2
   else if sees ts s 3 [103,108,111,98,97,108] then
     loop ts B g (p.addG (global ts (limit ts s p.globals.length 8)).1) (global ts (limit ts s p.globals.length 8)).2
   else if sees ts s 3 [102,117,110,99] then
     match function ts B g (limit ts s p.funcs.length 16) with
     | none => none
     | some (x,s2) => loop ts B g (p.addF x) s2
   else loop ts B g p (fail ts s 2)
def pgEnd (p:Gm)(s:Cs):Gm × Int × Int:=if s.E = 0 then (p,0,0) else (Gm.zero,s.E,s.F)
def run (ts:List RT)(B:BX)(g:Nat):Option (Gm × Int × Int):=
 match loop ts B g Gm.zero ⟨0,0,0⟩ with
 | none => none
 | some (p,s) => some (pgEnd p s)
end Pg
namespace Qs
open Go.RowKit
open Px (RT tokAt isT levelT)
open Pe (Ex inc dec)
open Qe (Q)
open Ps (Sm kindOf nameOf)
abbrev Out:=Option (Sm × Q)
abbrev OutB:=Option (List Sm × Q)
abbrev RX:=Q → Option (Ex × Q)
def decl (ts:List RT)(s:Q):List UInt8 × List UInt8 × Nat × Q:=
 ((Qe.name ts (Qe.next s)).1,Qe.of ts (Qe.take ts (Qe.name ts (Qe.next s)).2 false [58]))
def declared (ts:List RT)(rx:RX)(s:Q):Out:=
 let d:=decl ts s
 if (tokAt ts s.k).text = [108,101,116] then
    match rx (Qe.take ts d.2.2.2 false [61]) with
    | none => none
    | some (e,s2) => some (.mk 2 d.1 d.2.1 d.2.2.1 [e] [] [] (tokAt ts s.k).at_ 0,Qe.take ts s2 false [59])
 else some (.mk 1 d.1 d.2.1 d.2.2.1 [] [] [] (tokAt ts s.k).at_ 0,Qe.take ts d.2.2.2 false [59])
def choice (ts:List RT)(rx:RX)(recB:Q → OutB)(s:Q):Out:=
 match rx (Qe.next s) with
 | none => none
 | some (e,s1) =>
   match recB s1 with
   | none => none
   | some (b,s2) =>
     if Qe.is ts s2 true [101,108,115,101] then
      match recB (Qe.next s2) with
      | none => none
      | some (b2,s3) => some (.mk 5 [] [] 0 [e] b b2 (tokAt ts s.k).at_ 0,s3)
     else some (.mk 5 [] [] 0 [e] b [] (tokAt ts s.k).at_ 0,s2)
def loop (ts:List RT)(rx:RX)(recB:Q → OutB)(s:Q):Out:=
 match rx (Qe.next s) with
 | none => none
 | some (e,s1) =>
   match recB s1 with
   | none => none
   | some (b,s2) => some (.mk 6 [] [] 0 [e] b [] (tokAt ts s.k).at_ 0,s2)
def result (ts:List RT)(rx:RX)(s:Q):Out:=
 if Qe.is ts (Qe.next s) false [59] then some (.mk 7 [] [] 0 [] [] [] (tokAt ts s.k).at_ 0,Qe.take ts (Qe.next s) false [59])
 else match rx (Qe.next s) with
    | none => none
    | some (e,s2) => some (.mk 7 [] [] 0 [e] [] [] (tokAt ts s.k).at_ 0,Qe.take ts s2 false [59])
def output (ts:List RT)(rx:RX)(s:Q):Out:=
 match rx (Qe.next s) with
 | none => none
 | some (e,s2) => some (.mk 8 [] [] 0 [e] [] [] (tokAt ts s.k).at_ 0,Qe.take ts s2 false [59])
def plainDo (ts:List RT)(at_:Int)(e:Ex)(s:Q):Sm × Q:=
 (.mk 9 [] [] 0 [e] [] [] at_ 0,Qe.take ts (if Qe.is ts s false [59] = true ∧ kindOf e ≠ 7 then Qe.fail ts s 2 else s) false [59])
def plainPut (ts:List RT)(rx:RX)(at_:Int)(e:Ex)(s:Q):Out:=
 match rx (Qe.take ts (if kindOf e ≠ 4 ∧ kindOf e ≠ 5 ∧ kindOf e ≠ 6 then Qe.fail ts s 2 else s) false [61]) with
 | none => none
 | some (b,s2) => some (if kindOf e = 4 then .mk 3 (nameOf e) [] 0 [b] [] [] at_ 0 else .mk 4 [] [] 0 [e,b] [] [] at_ 0,Qe.take ts s2 false [59])
def plain (ts:List RT)(rx:RX)(at_:Int)(s:Q):Out:=
 match rx s with
 | none => none
 | some (e,s1) => if Qe.is ts s1 false [61] then plainPut ts rx at_ e s1 else some (plainDo ts at_ e s1)
def stmt (ts:List RT)(rx:RX)(recB:Q → OutB)(s:Q):Out:=
 if Qe.is ts s true [118,97,114] || Qe.is ts s true [108,101,116] then declared ts rx s
 else if Qe.is ts s true [105,102] then choice ts rx recB s
 else if Qe.is ts s true [119,104,105,108,101] then loop ts rx recB s
 else if Qe.is ts s true [114,101,116,117,114,110] then result ts rx s
 else if Qe.is ts s true [112,114,105,110,116] then output ts rx s
 else plain ts rx (tokAt ts s.k).at_ s
def stLoop (ts:List RT)(recS:Q → Out):Nat → List Sm → Q → OutB
 | 0,_,_ => none
 | g + 1,l,s =>
   if s.E = 0 ∧ Qe.is ts s false [125] = false then
     match recS s with
     | none => none
     | some (x,s2) => stLoop ts recS g (l ++ [x]) s2
   else some (l,s)
def block (ts:List RT)(recS:Q → Out)(g:Nat)(s:Q):OutB:=
 match stLoop ts recS g [] (Qe.opens ts s [123]) with
 | none => none
 | some (l,s2) => some (l,Qe.closes ts s2 [125])
def run (ts:List RT)(rx:RX):Nat → (Q → Out) × (Q → OutB)
 | 0 => (fun _ => none,fun _ => none)
 | f + 1 => (stmt ts rx (run ts rx f).2,block ts (run ts rx f).1 f)
def stEnd (x:Sm)(s:Q):Sm × Int × Int × Int:=if s.E = 0 then (x,s.k,0,0) else (Sm.zero,0,s.E,s.F)
def blEnd (l:List Sm)(s:Q):List Sm × Int × Int × Int:=if s.E = 0 then (l,s.k,0,0) else ([],0,s.E,s.F)
def parse (ts:List RT)(rx:RX)(f:Nat)(k o:Int):Option (Sm × Int × Int × Int):=
 match (run ts rx f).1 ⟨k,max o 0,0,0⟩ with
 | none => none
 | some (x,s) => some (stEnd x s)
def parseB (ts:List RT)(rx:RX)(f:Nat)(k o:Int):Option (List Sm × Int × Int × Int):=
 match (run ts rx f).2 ⟨k,max o 0,0,0⟩ with
 | none => none
 | some (l,s) => some (blEnd l s)
end Qs
namespace Qg
open Go.RowKit
open Px (RT tokAt)
open Qe (Q)
open Ps (Sm)
open Pg (Pm Rc Fc Gm)
def param (ts:List RT)(q:Q):Pm × Q:=
 let n:=Qe.name ts q
 let t:=Qe.of ts (Qe.take ts n.2 false [58])
 (⟨n.1,t.1,t.2.1,(tokAt ts q.k).at_⟩,t.2.2)
def fieldLoop (ts:List RT):Nat → List Pm → Q → Option (List Pm × Q)
 | 0,_,_ => none
 | g + 1,l,q =>
   if q.E = 0 ∧ Qe.is ts q false [125] = false then
     if (tokAt ts q.k).kind = 1 ∧ l.length = 8 then some (l,Qe.fail ts q 4)
     else fieldLoop ts g (l ++ [(param ts q).1]) (Qe.take ts (param ts q).2 false [59])
   else some (l,q)
def record (ts:List RT)(g:Nat)(q:Q):Option (Rc × Q):=
 match fieldLoop ts g [] (Qe.take ts (Qe.name ts q).2 false [123]) with
 | none => none
 | some (l,q2) => some (⟨(Qe.name ts q).1,l,(tokAt ts q.k).at_⟩,Qe.take ts q2 false [125])
def comma (ts:List RT)(q:Q):Q:=
 if Qe.is ts q false [41] then q
 else if Qe.is ts (Qe.take ts q false [44]) false [41] then Qe.fail ts (Qe.take ts q false [44]) 2
 else Qe.take ts q false [44]
def parLoop (ts:List RT):Nat → List Pm → Q → Option (List Pm × Q)
 | 0,_,_ => none
 | g + 1,l,q =>
   if q.E = 0 ∧ Qe.is ts q false [41] = false then
     if (tokAt ts q.k).kind = 1 ∧ l.length = 6 then some (l,Qe.fail ts q 4)
     else parLoop ts g (l ++ [(param ts q).1]) (comma ts (param ts q).2)
   else some (l,q)
def resultOf (ts:List RT)(q:Q):Bool × List UInt8 × Nat × Q:=
 if Qe.is ts q false [58] then (true,Qe.of ts (Qe.next q)) else (false,[],0,q)
def function (ts:List RT)(recB:Q → Qs.OutB)(g:Nat)(q:Q):Option (Fc × Q):=
 match parLoop ts g [] (Qe.take ts (Qe.name ts q).2 false [40]) with
 | none => none
 | some (ps,q1) =>
   let t:=resultOf ts (Qe.take ts q1 false [41])
   match recB t.2.2.2 with
   | none => none
   | some (b,q3) => some (⟨(Qe.name ts q).1,ps,t.1,t.2.1,t.2.2.1,b,(tokAt ts q.k).at_⟩,q3)
def over (ts:List RT)(p:Gm)(q:Q):Prop:=
 (Qe.is ts q true [114,101,99,111,114,100] = true ∧ p.recs.length = 12) ∨ (Qe.is ts q true [103,108,111,98,97,108] = true ∧ p.globals.length = 8) ∨ (Qe.is ts q true [102,117,110,99] = true ∧ p.funcs.length = 16)
instance (ts:List RT) (p:Gm) (q:Q):Decidable (over ts p q):=by unfold over; infer_instance
def loop (ts:List RT)(recB:Q → Qs.OutB):Nat → Gm → Q → Option (Gm × Q)
 | 0,_,_ => none
 | g + 1,p,q =>
   if q.E = 0 ∧ (tokAt ts q.k).kind ≠ 0 then
     if over ts p q then loop ts recB g p (Qe.fail ts q 4)
     else if Qe.is ts q true [114,101,99,111,114,100] then
       match record ts g (Qe.next q) with
       | none => none
       | some (x,q2) => loop ts recB g (p.addR x) q2
     else if Qe.is ts q true [103,108,111,98,97,108] then
       loop ts recB g (p.addG (param ts (Qe.next q)).1) (Qe.take ts (param ts (Qe.next q)).2 false [59])
     else if Qe.is ts q true [102,117,110,99] then
       match function ts recB g (Qe.next q) with
       | none => none
       | some (x,q2) => loop ts recB g (p.addF x) q2
     else loop ts recB g p (Qe.fail ts q 2)
   else some (p,q)
def pgEnd (p:Gm)(q:Q):Gm × Int × Int:=if q.E = 0 then (p,0,0) else (Gm.zero,q.E,q.F)
def run (ts:List RT)(recB:Q → Qs.OutB)(g:Nat):Option (Gm × Int × Int):=
 match loop ts recB g Gm.zero ⟨0,0,0,0⟩ with
 | none => none
 | some (p,q) => some (pgEnd p q)
end Qg
open Go.RowKit
open Px (RT tokAt isT)
open Pe (inc dec Ex)
open Qe (Q)
theorem zJR {ts:List RT}{rec:Nat → Q → Qe.Out}{g:Nat}{s:Q}{x:Ex × Q}(h:Qe.unary ts rec g s = some x)(hv:Qe.is ts s false [45] = false)(hv2:Qe.is ts s false [33] = false):∃ e s2,Qe.first ts rec g s = some (e,s2) ∧ Qe.behind ts rec g e s2 = some x:=by
 rw [Qe.unary,if_neg (by rw [hv]; decide),if_neg (by rw [hv2]; decide)] at h
 split at h
 ·cases h
 ·rename_i e s2 he
  exact ⟨e,s2,he,h⟩
theorem zFw (w:World)(R:Nat)(S:Value)(ts:List RT)(s:Q)(h:Qr w R S ts s)(rec:Nat → Q → Qe.Out)(hrec:QRecOk ts rec)(hv0:Qe.is ts s false [45] = false)(hv1:Qe.is ts s false [33] = false)(gg:Nat)(hgg:gg ≤ 1000000000)(e0:Ex)(s1:Q)(he:Qe.first ts rec gg s = some (e0,s1))(x:Ex × Q)(hx:Qe.behind ts rec gg e0 s1 = some x) :
 Calls Tryz.prog 104 #[.pointer (some ⟨R,0,none⟩)] w (QPost w.heap.size w R S ts x):=by
 have HE:=vH (fun w1 hh => zHn w1 R S ts s hh rec hrec gg hgg (e0,s1) he)
 have HX:=vH hx
 have HREC:=vH hrec
 have HV0:=vH hv0
 have HV1:=vH hv1
 have htk:=fun w1 hh => zK w1 R S ts s hh
 generalize tokAt ts s.k = t at htk
 unfold tokW at htk
 have HTK:=vH htk
 clear htk hrec he hx hv0 hv1 hgg
 have hlt:=h.lt
 have HH:=vH h
 have F:=vH ((Fq.start h).alloc (.cells vE 111))
 clear h
 go_in
 go_wp2_with fail
 refine (HTK.out _ F.out.qr).mono ?_
 rintro e u1 ⟨rfl,hb⟩
 replace F:=vH (F.out.go hb)
 clear hb
 go_wp2_with fail
 replace F:=vH (F.out.alloc (.cells (vT t) 52))
 refine (zD _ R S ts _ F.out.qr ⟨#[45]⟩ (by decide) false (by decide)).mono ?_
 rintro e u2 ⟨rfl,hb⟩
 replace F:=vH (F.out.go hb)
 clear hb
 try rw [HV0.out]
 go_wp2_with fail
 refine (zD _ R S ts _ F.out.qr ⟨#[33]⟩ (by decide) false (by decide)).mono ?_
 rintro e u3 ⟨rfl,hb⟩
 replace F:=vH (F.out.go hb)
 clear hb
 try rw [HV1.out]
 go_wp2_with fail
 have hRB:=F.out.qr.lt
 have hNB:=zA (F.out.keep _ vB).1
 refine (HE.out _ F.out.qr).mono ?_
 rintro e u4 ⟨qk,qn,qs,qo,qd,qp,ql,qc,qa,qb,qr,qe,qf,rfl,hi,hr,hg⟩
 replace F:=vH ((F.out.step hr hg).tree hi hNB hRB)
 clear hi hr hg hRB hNB
 go_wp2_with fail
 have HTR:=vH (F.out.trees _ vA)
 refine (zFC _ R S ts s1 F.out.qr rec HREC.out (w.heap.size + 1) (by omega) (Nat.succ_le_of_lt (zA (F.out.keep _ vB).1)) gg e0 qk qn qs qo qd qp ql qc qa qb qr qe qf (Is.lower HTR.out.2.1 _ HTR.out.1) x HX.out).mono ?_
 rintro e u9 ⟨zk,zn,zs,zo,zd,zp,zl,zc,za,zb,zr,ze,zf,rfl,hi,hr,hg⟩
 replace F:=vH ((F.out.step hr hg).tree hi (Nat.lt_succ_self _) (by omega))
 clear hi hr hg HTR
 have hk:=(F.out.keep _ vB)
 obtain ⟨⟨d0,d1,d2,d3,d4,d5,d6,d7,d8,d9,dX⟩,g0,g1,g2,g3,g4,g5,g6,g7,g8,g9,gX⟩:=hen hk.1
 have hld:=zA hk.1
 have hnd:=hk.2
 clear hk
 go_wp2_with fail
 have hn:=(Nw.start F.out.gr).pv (.int .i64 zk) (.int .i64 zn) (.string (cbs zs)) (.string (cbs zo)) (.int .i64 zd) (.slice zp zl zc) (.int .i64 za) (.int .i64 zb) (.int .i64 zr) (.int .i64 ze) (.int .i64 zf)
 exact bodyPost_ret (v:=.agg #[.int .i64 zk,.int .i64 zn,.string (cbs zs),.string (cbs zo),.int .i64 zd,.slice zp zl zc,.int .i64 za,.int .i64 zb,.int .i64 zr,.int .i64 ze,.int .i64 zf]) (by simp [results,Tryz.results104,go_sem,d0,d1,d2,d3,d4,d5,d6,d7,d8,d9,dX]) rfl ⟨_,_,_,_,_,_,_,_,_,_,_,_,_,rfl,Is.lower (Nat.le_of_lt (F.out.trees _ vA).2.1) _ ((F.out.trees _ vA).1.put11 (F.out.trees _ vA).2.1),HH.out.fin F.out.qr hn,hn.gr⟩
theorem zHf (w:World)(R:Nat)(S:Value)(ts:List RT)(s:Q)(h:Qr w R S ts s)(rec:Nat → Q → Qe.Out)(hrec:QRecOk ts rec)(gg:Nat)(hgg:gg ≤ 1000000000)(x:Ex × Q)(hx:Qe.unary ts rec gg s = some x) :
 Calls Tryz.prog 104 #[.pointer (some ⟨R,0,none⟩)] w (QPost w.heap.size w R S ts x):=by
 cases hv:Qe.is ts s false [45] with
 | true =>
   rw [Qe.unary,if_pos hv] at hx
   obtain ⟨e0,s2,he,rfl⟩:=zED hx
   exact zIB w R S ts s h rec hrec hv e0 s2 he
 | false =>
   cases hv2:Qe.is ts s false [33] with
   | true =>
     rw [Qe.unary,if_neg (by rw [hv]; decide),if_pos hv2] at hx
     obtain ⟨e0,s2,he,rfl⟩:=zED hx
     exact zIC w R S ts s h rec hrec hv hv2 e0 s2 he
   | false =>
     obtain ⟨e0,s1,he,hb⟩:=zJR hx hv hv2
     exact zFw w R S ts s h rec hrec hv hv2 gg hgg e0 s1 he x hb
theorem zIE (w:World)(R:Nat)(S:Value)(ts:List RT)(s:Q)(h:Qr w R S ts s)(rec:Nat → Q → Qe.Out)(hrec:QRecOk ts rec)(gg:Nat)(hgg:gg ≤ 1000000000)(x:Ex × Q)(hx:Qe.unary ts rec gg s = some x) :
 Calls Tryz.prog 95 #[.pointer (some ⟨R,0,none⟩),.int .i64 5] w (QPost w.heap.size w R S ts x):=by
 have HE:=vH (fun w1 hh => zHf w1 R S ts s hh rec hrec gg hgg x hx)
 clear hrec hx hgg
 have hlt:=h.lt
 have HH:=vH h
 have F:=vH ((Fq.start h).alloc (.cells vE 111))
 clear h
 go_in
 go_wp2_with fail
 have hRB:=F.out.qr.lt
 have hNB:=zA (F.out.keep _ vA).1
 refine (HE.out _ F.out.qr).mono ?_
 rintro e u1 ⟨qk,qn,qs,qo,qd,qp,ql,qc,qa,qb,qr,qe,qf,rfl,hi,hr,hg⟩
 replace F:=vH ((F.out.step hr hg).tree hi hNB hRB)
 clear hi hr hg hRB hNB
 have hk:=(F.out.keep _ vA)
 obtain ⟨⟨d0,d1,d2,d3,d4,d5,d6,d7,d8,d9,dX⟩,g0,g1,g2,g3,g4,g5,g6,g7,g8,g9,gX⟩:=hen hk.1
 have hld:=zA hk.1
 have hnd:=hk.2
 clear hk
 go_wp2_with fail
 have hn:=(Nw.start F.out.gr).pv (.int .i64 qk) (.int .i64 qn) (.string (cbs qs)) (.string (cbs qo)) (.int .i64 qd) (.slice qp ql qc) (.int .i64 qa) (.int .i64 qb) (.int .i64 qr) (.int .i64 qe) (.int .i64 qf)
 exact bodyPost_ret (v:=.agg #[.int .i64 qk,.int .i64 qn,.string (cbs qs),.string (cbs qo),.int .i64 qd,.slice qp ql qc,.int .i64 qa,.int .i64 qb,.int .i64 qr,.int .i64 qe,.int .i64 qf]) (by simp [results,Tryz.results95,go_sem,d0,d1,d2,d3,d4,d5,d6,d7,d8,d9,dX]) rfl ⟨_,_,_,_,_,_,_,_,_,_,_,_,_,rfl,Is.lower (Nat.le_of_lt (F.out.trees _ vA).2.1) _ ((F.out.trees _ vA).1.put11 (F.out.trees _ vA).2.1),HH.out.fin F.out.qr hn,hn.gr⟩
theorem zLI (ts:List RT):∀ f,f ≤ 1000000000 → QRecOk ts (Qe.run ts f):=by
 intro f
 induction f with
 | zero => intro _ n s x _ hx; cases hx
 | succ f ih =>
   intro hf n s x hn hx w R S h
   have hrec:=ih (by omega)
   rw [Qe.run] at hx
   dsimp only at hx
   by_cases h5:n = 5
   ·subst h5
    rw [if_pos rfl] at hx
    exact zIE w R S ts s h _ hrec f (by omega) x hx
   ·rw [if_neg h5] at hx
    split at hx
    ·cases hx
    ·rename_i e0 s1 he
     exact zIF w R S ts s h _ hrec n (by omega) f e0 s1 he x hx
open Ps (Sm kindOf nameOf)
def QrK (R:Nat)(S:Value)(ts:List RT)(s:Q)(w:World):Prop:=Qr w R S ts s
section
variable {w wr:World} {R:Nat} {S:Value} {ts:List RT} {s:Q} {L:List (Nat × Obj)} {T:List (Nat × World)}
theorem Fr.ofq (h:Qr w R S ts s):Fr w R (QrK R S ts) s [] [] w:=Fr.start (QrK R S ts) h h.lt fun _ _ _ n hA => Qr.fin h hA n
theorem Fr.qr (h:Fr w R (QrK R S ts) s L T wr):Qr wr R S ts s:=h.rd
theorem Fr.setk (h:Fr w R (QrK R S ts) s L T wr):Fr w R (QrK R S ts) (Qe.next s) L T (wr.setCell ⟨R,1,none⟩ (.int .i64 (inc s.k))):=
 h.step (h.qr.set_k (inc s.k)) ((Gr.refl R wr).set 1 _)
end
def QStPost (w:World)(R:Nat)(S:Value)(ts:List RT)(x:Sm × Q)(e:Ending)(w':World):Prop:=
 ∃ (kind:Int) (name ofn:List UInt8) (dims:Int) (ep:Option Addr) (el ec:Nat) (bp:Option Addr) (bl bc:Nat) (lp:Option Addr) (ll lc:Nat) (at_ ref:Int),
   e = .returned (.agg #[.int .i64 kind,.string (cbs name),.string (cbs ofn),.int .i64 dims,.slice ep el ec,.slice bp bl bc,.slice lp ll lc,.int .i64 at_,.int .i64 ref]) ∧
   SIs w' w.heap.size x.1 (smCells kind name ofn dims (.slice ep el ec) (.slice bp bl bc) (.slice lp ll lc) at_ ref) ∧ Qr w' R S ts x.2 ∧ Gr R w w'
def QBlPost (w:World)(R:Nat)(S:Value)(ts:List RT)(x:List Sm × Q)(e:Ending)(w':World):Prop:=
 ∃ (p:Option Addr) (c:Nat),e = .returned (.slice p x.1.length (x.1.length + c)) ∧ SsAt w' w.heap.size p x.1 ∧ Qr w' R S ts x.2 ∧ Gr R w w'
def QXOk (ts:List RT)(rx:Qs.RX):Prop:=∀ (s:Q)(x:Ex × Q),rx s = some x → ∀ (w:World)(R:Nat)(S:Value),Qr w R S ts s →
 Calls Tryz.prog 95 #[.pointer (some ⟨R,0,none⟩),.int .i64 0] w (QPost w.heap.size w R S ts x)
def QBlOk (ts:List RT)(recB:Q → Qs.OutB):Prop:=∀ (s:Q)(x:List Sm × Q),recB s = some x → ∀ (w:World)(R:Nat)(S:Value),Qr w R S ts s →
 Calls Tryz.prog 47 #[.pointer (some ⟨R,0,none⟩)] w (QBlPost w R S ts x)
def QStOk (ts:List RT)(recS:Q → Qs.Out):Prop:=∀ (s:Q)(x:Sm × Q),recS s = some x → ∀ (w:World)(R:Nat)(S:Value),Qr w R S ts s →
 Calls Tryz.prog 79 #[.pointer (some ⟨R,0,none⟩)] w (QStPost w R S ts x)
theorem zNp (ts:List RT)(f:Nat)(hf:f ≤ 1000000000):QXOk ts (Qe.run ts f 0):=fun s x hx w R S h => zLI ts f hf 0 s x (by decide) hx w R S h
theorem KidsAt.two {w:World}{B bl:Nat}{T:TypeId}{e e2:Ex}{vs vs2:List Value}{A:Array Value}(hb:w.heap[bl]? = some (.cells A T (0,0)))(hne:B ≤ bl)(hi:Is w B e vs)(hi2:Is w B e2 vs2)(hA:A = ⟨vs ++ vs2⟩):KidsAt w B (some ⟨bl,0,none⟩) [e,e2]:=by
 subst hA
 refine .inr ⟨bl,0,rfl,zA hb,hne,At.of_row hb [e,e2] 0 [vs,vs2] rfl (zFb hi hi2) fun i _ => ?_⟩
 simp
theorem zD3:(Tryz.prog.info? 90).map (·.size) = some 9:=by kernel_rfl
theorem QStPost.eq {w:World}{R:Nat}{S:Value}{ts:List RT}{x y:Sm × Q}{e:Ending}{w':World}(h:y = x)(hh:QStPost w R S ts y e w'):QStPost w R S ts x e w':=h ▸ hh
theorem zNH {ts:List RT}{rx:Qs.RX}{at0:Int}{e0:Ex}{s1:Q}{x:Sm × Q}(h:Qs.plainPut ts rx at0 e0 s1 = some x)(st:Q)(hst:(if kindOf e0 ≠ 4 ∧ kindOf e0 ≠ 5 ∧ kindOf e0 ≠ 6 then Qe.fail ts s1 2 else s1) = st) :
 ∃ b0 s2,rx (Qe.take ts st false [61]) = some (b0,s2) ∧ ((if kindOf e0 = 4 then Sm.mk 3 (nameOf e0) [] 0 [b0] [] [] at0 0 else .mk 4 [] [] 0 [e0,b0] [] [] at0 0),Qe.take ts s2 false [59]) = x:=by
 unfold Qs.plainPut at h
 rw [hst] at h
 split at h
 ·cases h
 ·rename_i b0 s2 hb
  exact ⟨b0,s2,hb,Option.some.inj h⟩
theorem zG5 (w:World)(R:Nat)(S:Value)(ts:List RT)(s:Q)(h:Qr w R S ts s)(at0:Int)(rx:Qs.RX)(hX:QXOk ts rx)(x:Sm × Q)(hx:Qs.plain ts rx at0 s = some x) :
 Calls Tryz.prog 96 #[.pointer (some ⟨R,0,none⟩),.agg #[.int .i64 0,.string ⟨#[]⟩,.string ⟨#[]⟩,.int .i64 0,.slice none 0 0,.slice none 0 0,.slice none 0 0,.int .i64 at0,.int .i64 0]] w (QStPost w R S ts x):=by
 unfold Qs.plain at hx
 split at hx
 ·cases hx
 rename_i e0 s1 he
 have HY:=vH hx
 have HX:=vH hX
 have HE:=vH he
 clear hx hX he
 have hlt:=h.lt
 have HH:=vH h
 have F:=vH (((Fr.ofq h).alloc (.cells #[.int .i64 0,.string ⟨#[]⟩,.string ⟨#[]⟩,.int .i64 0,.slice none 0 0,.slice none 0 0,.slice none 0 0,.int .i64 at0,.int .i64 0] 90)).alloc2 (.cells vS 90) (b:=w.heap.size + 1) (zB _ _))
 clear h
 go_in
 go_wp2_with fail
 have hnsZ:w.heap.size ≠ w.heap.size + 1:=by omega
 have hnZs:=Ne.symm hnsZ
 refine (HX.out _ _ HE.out _ R S F.out.qr).mono ?_
 rintro e u1 ⟨qk,qn,qs,qo,qd,qp,ql,qc,qa,qb,qr,qe,qf,rfl,hi,hr,hg⟩
 have Hq:=vH hi
 replace F:=vH (F.out.call hr hg)
 clear hi hr hg
 have HKD:=vH (Is.kind Hq.out).1
 have hnm:=vH (Is.kind Hq.out).2
 go_wp2_with fail
 replace F:=vH (F.out.alloc (.cells #[.int .i64 qk,.int .i64 qn,.string (cbs qs),.string (cbs qo),.int .i64 qd,.slice qp ql qc,.int .i64 qa,.int .i64 qb,.int .i64 qr,.int .i64 qe,.int .i64 qf] 111))
 have hneZ:=Nat.ne_of_gt ((List.pairwise_cons.1 F.out.nd).1 _ vA)
 have hnZe:=Ne.symm hneZ
 dsimp only at hneZ hnZe
 have hnes:=Nat.ne_of_gt ((List.pairwise_cons.1 F.out.nd).1 _ vB)
 have hnse:=Ne.symm hnes
 dsimp only at hnes hnse
 refine (zD _ R S ts _ F.out.qr ⟨#[61]⟩ (by decide) false (by decide)).mono ?_
 rintro e u2 ⟨rfl,hb⟩
 replace F:=vH (F.out.go hb)
 clear hb
 obtain ⟨b,hb⟩:∃ b,Qe.is ts s1 false [61] = b:=⟨_,rfl⟩
 try rw [hb]
 have HI:=vH hb
 clear hb
 cases b with
 | false =>
   replace HY:=vH (Option.some.inj (zNC HY.out HI.out))
   have hk:=(F.out.keep _ vC).1
   obtain ⟨⟨a0,a1,a2,a3,a4,a5,a6,a7,a8⟩,b0,b1,b2,b3,b4,b5,b6,b7,b8⟩:=nen hk
   have hla:=zA hk
   clear hk
   have hk:=(F.out.keep _ vA).1
   obtain ⟨⟨x0,x1,x2,x3,x4,x5,x6,x7,x8,x9,xX⟩,y0,y1,y2,y3,y4,y5,y6,y7,y8,y9,yX⟩:=hen hk
   have hlx:=zA hk
   clear hk
   go_wp2_with fail
   replace F:=vH (F.out.put1 2 rfl 0 (.int .i64 9) rfl)
   replace F:=vH (F.out.put1 2 rfl 4 (.slice (some ⟨u2.heap.size,0,none⟩) 1 1) rfl)
   replace F:=vH (F.out.alloc2 (.cells #[.int .i64 qk,.int .i64 qn,.string (cbs qs),.string (cbs qo),.int .i64 qd,.slice qp ql qc,.int .i64 qa,.int .i64 qb,.int .i64 qr,.int .i64 qe,.int .i64 qf] 111) (b:=u2.heap.size) (by simp only [zI]))
   have hnrowe:=Nat.ne_of_gt ((List.pairwise_cons.1 F.out.nd).1 _ vA)
   have hnerow:=Ne.symm hnrowe
   dsimp only at hnrowe hnerow
   have hnrowZ:=Nat.ne_of_gt ((List.pairwise_cons.1 F.out.nd).1 _ vB)
   have hnZrow:=Ne.symm hnrowZ
   dsimp only at hnrowZ hnZrow
   have hnrows:=Nat.ne_of_gt ((List.pairwise_cons.1 F.out.nd).1 _ vC)
   have hnsrow:=Ne.symm hnrows
   dsimp only at hnrows hnsrow
   clear a0 a1 a2 a3 a4 a5 a6 a7 a8 b0 b1 b2 b3 b4 b5 b6 b7 b8 hla x0 x1 x2 x3 x4 x5 x6 x7 x8 x9 xX y0 y1 y2 y3 y4 y5 y6 y7 y8 y9 yX hlx
   refine (zD _ R S ts _ F.out.qr ⟨#[59]⟩ (by decide) false (by decide)).mono ?_
   rintro e u3 ⟨rfl,hb⟩
   replace F:=vH (F.out.go hb)
   clear hb
   obtain ⟨b,hb⟩:∃ b,Qe.is ts s1 false [59] = b:=⟨_,rfl⟩
   try rw [hb]
   have HJ:=vH hb
   clear hb
   have hq:∃ c st,(qk != 7) = c ∧ (if Qe.is ts s1 false [59] = true ∧ kindOf e0 ≠ 7 then Qe.fail ts s1 2 else s1) = st ∧ (b = false ∧ st = s1 ∨ b = true ∧ c = false ∧ st = s1 ∨ b = true ∧ c = true ∧ st = Qe.fail ts s1 2):=by
    refine ⟨_,_,rfl,rfl,?_⟩
    rw [HKD.out,HJ.out]
    cases b with
    | false => exact .inl ⟨rfl,if_neg (fun h => by cases h.1)⟩
    | true =>
      by_cases h7:qk = 7
      ·exact .inr (.inl ⟨rfl,by rw [h7]; rfl,if_neg (fun h => h.2 h7)⟩)
      ·exact .inr (.inr ⟨rfl,by simpa using h7,if_pos ⟨rfl,h7⟩⟩)
   obtain ⟨c,st,h7,hst,hq⟩:=hq
   have hy:=HY.out
   unfold Qs.plainDo at hy
   rw [hst] at hy
   replace HY:=vH hy
   clear hy hst
   rcases hq with ⟨rfl,rfl⟩ | ⟨rfl,rfl,rfl⟩ | ⟨rfl,rfl,rfl⟩
   all_goals
    have hk:=(F.out.keep _ vB).1
    obtain ⟨⟨x0,x1,x2,x3,x4,x5,x6,x7,x8,x9,xX⟩,y0,y1,y2,y3,y4,y5,y6,y7,y8,y9,yX⟩:=hen hk
    have hlx:=zA hk
    clear hk
    go_wp2_with fail
    clear x0 x1 x2 x3 x4 x5 x6 x7 x8 x9 xX y0 y1 y2 y3 y4 y5 y6 y7 y8 y9 yX hlx
    try (refine (zAh _ R S ts _ F.out.qr 2).mono ?_; rintro e u4 ⟨rfl,hr,hg⟩; have F2:Hid (Fr w R (QrK R S ts) _ _ _ _):=vH (F.out.step hr hg); clear F; have F:=F2; clear F2; clear hr hg; go_wp2_with fail)
    refine (zH _ R S ts _ F.out.qr ⟨#[59]⟩ (by decide) false (by decide)).mono ?_
    rintro e u4 ⟨rfl,hr,hg⟩
    replace F:Hid (Fr w R (QrK R S ts) (Qe.take ts _ false [59]) _ _ _):=vH (F.out.step hr hg)
    clear hr hg
    have hk:=(F.out.keep _ vD).1
    obtain ⟨⟨a0,a1,a2,a3,a4,a5,a6,a7,a8⟩,b0,b1,b2,b3,b4,b5,b6,b7,b8⟩:=nen hk
    have hla:=zA hk
    clear hk
    have hk:=(F.out.keep _ vC).1
    obtain ⟨⟨d0,d1,d2,d3,d4,d5,d6,d7,d8⟩,g0,g1,g2,g3,g4,g5,g6,g7,g8⟩:=nen hk
    have hld:=zA hk
    clear hk
    go_wp2_with fail
    replace F:=vH (F.out.pw 2 rfl (.int .i64 9) (.string ⟨#[]⟩) (.string ⟨#[]⟩) (.int .i64 0) (.slice (some ⟨u2.heap.size,0,none⟩) 1 1) (.slice none 0 0) (.slice none 0 0) (.int .i64 at0) (.int .i64 0))
    exact bodyPost_ret (v:=.agg #[.int .i64 9,.string ⟨#[]⟩,.string ⟨#[]⟩,.int .i64 0,.slice (some ⟨u2.heap.size,0,none⟩) 1 1,.slice none 0 0,.slice none 0 0,.int .i64 at0,.int .i64 0]) (by simp [results,Tryz.results96,go_sem,d0,d1,d2,d3,d4,d5,d6,d7,d8]) rfl (QStPost.eq HY.out ⟨9,[],[],0,some ⟨u2.heap.size,0,none⟩,1,1,none,0,0,none,0,0,at0,0,rfl,SIs.mk (KidsAt.one (F.out.keep _ vA).1 (F.out.keep _ vA).2 (Is.lower (F.out.ag _ vA).2 _ (Hq.out.ag (F.out.ag _ vA).1)) rfl) SsAt.nil SsAt.nil 9 [] [] 0 at0 0,F.out.qr,F.out.gr⟩)
 | true =>
   replace HY:=vH (zNB HY.out HI.out)
   by_cases h4:qk = 4
   ·subst h4
    obtain ⟨b0,s2,hb,hy⟩:=zNH HY.out s1 (if_neg (fun h => h.1 HKD.out))
    rw [if_pos HKD.out] at hy
    have HB:=vH hb
    replace HY:=vH hy
    clear hb hy
    have hk:=(F.out.keep _ vA).1
    obtain ⟨⟨x0,x1,x2,x3,x4,x5,x6,x7,x8,x9,xX⟩,y0,y1,y2,y3,y4,y5,y6,y7,y8,y9,yX⟩:=hen hk
    have hlx:=zA hk
    clear hk
    go_wp2_with fail
    clear x0 x1 x2 x3 x4 x5 x6 x7 x8 x9 xX y0 y1 y2 y3 y4 y5 y6 y7 y8 y9 yX hlx
    refine (zH _ R S ts _ F.out.qr ⟨#[61]⟩ (by decide) false (by decide)).mono ?_
    rintro e u3 ⟨rfl,hr,hg⟩
    replace F:Hid (Fr w R (QrK R S ts) (Qe.take ts _ false [61]) _ _ _):=vH (F.out.step hr hg)
    clear hr hg
    go_wp2_with fail
    refine (HX.out _ _ HB.out _ R S F.out.qr).mono ?_
    rintro e u4 ⟨pk,pn,ps,po,pd,pp,pl,pc,pa,pb,pr,pe,pf,rfl,hi,hr,hg⟩
    have Hp:=vH hi
    replace F:=vH (F.out.call hr hg)
    clear hi hr hg
    go_wp2_with fail
    replace F:=vH (F.out.alloc (.cells #[.int .i64 pk,.int .i64 pn,.string (cbs ps),.string (cbs po),.int .i64 pd,.slice pp pl pc,.int .i64 pa,.int .i64 pb,.int .i64 pr,.int .i64 pe,.int .i64 pf] 111))
    have hnbe:=Nat.ne_of_gt ((List.pairwise_cons.1 F.out.nd).1 _ vA)
    have hneb:=Ne.symm hnbe
    dsimp only at hnbe hneb
    have hnbZ:=Nat.ne_of_gt ((List.pairwise_cons.1 F.out.nd).1 _ vB)
    have hnZb:=Ne.symm hnbZ
    dsimp only at hnbZ hnZb
    have hnbs:=Nat.ne_of_gt ((List.pairwise_cons.1 F.out.nd).1 _ vC)
    have hnsb:=Ne.symm hnbs
    dsimp only at hnbs hnsb
    refine (zH _ R S ts _ F.out.qr ⟨#[59]⟩ (by decide) false (by decide)).mono ?_
    rintro e u5 ⟨rfl,hr,hg⟩
    replace F:Hid (Fr w R (QrK R S ts) (Qe.take ts s2 false [59]) _ _ _):=vH (F.out.step hr hg)
    clear hr hg
    have hk:=(F.out.keep _ vB).1
    obtain ⟨⟨x0,x1,x2,x3,x4,x5,x6,x7,x8,x9,xX⟩,y0,y1,y2,y3,y4,y5,y6,y7,y8,y9,yX⟩:=hen hk
    have hlx:=zA hk
    clear hk
    have hk:=(F.out.keep _ vA).1
    obtain ⟨⟨m0,m1,m2,m3,m4,m5,m6,m7,m8,m9,mX⟩,k0,k1,k2,k3,k4,k5,k6,k7,k8,k9,kX⟩:=hen hk
    have hlm:=zA hk
    clear hk
    have hk:=(F.out.keep _ vD).1
    obtain ⟨⟨a0,a1,a2,a3,a4,a5,a6,a7,a8⟩,b0,b1,b2,b3,b4,b5,b6,b7,b8⟩:=nen hk
    have hla:=zA hk
    clear hk y0 y1 y2 y3 y4 y5 y6 y7 y8 y9 yX k0 k1 k2 k3 k4 k5 k6 k7 k8 k9 kX
    replace F:=vH (F.out.put1 3 rfl 0 (.int .i64 3) rfl)
    replace F:=vH (F.out.put1 3 rfl 1 (.string (cbs qs)) rfl)
    replace F:=vH (F.out.put1 3 rfl 4 (.slice (some ⟨u5.heap.size,0,none⟩) 1 1) rfl)
    replace F:=vH (F.out.alloc2 (.cells #[.int .i64 pk,.int .i64 pn,.string (cbs ps),.string (cbs po),.int .i64 pd,.slice pp pl pc,.int .i64 pa,.int .i64 pb,.int .i64 pr,.int .i64 pe,.int .i64 pf] 111) (b:=u5.heap.size) (by simp only [zI]))
    have hnrowb:=Nat.ne_of_gt ((List.pairwise_cons.1 F.out.nd).1 _ vA)
    have hnbrow:=Ne.symm hnrowb
    dsimp only at hnrowb hnbrow
    have hnrowe:=Nat.ne_of_gt ((List.pairwise_cons.1 F.out.nd).1 _ vB)
    have hnerow:=Ne.symm hnrowe
    dsimp only at hnrowe hnerow
    have hnrowZ:=Nat.ne_of_gt ((List.pairwise_cons.1 F.out.nd).1 _ vC)
    have hnZrow:=Ne.symm hnrowZ
    dsimp only at hnrowZ hnZrow
    have hnrows:=Nat.ne_of_gt ((List.pairwise_cons.1 F.out.nd).1 _ vD)
    have hnsrow:=Ne.symm hnrows
    dsimp only at hnrows hnsrow
    have HROW:=vH (F.out.keep _ (List.Mem.tail _ vD)).1
    obtain ⟨wz,hwz⟩:∃ wz,wz = (((u5.setCell ⟨w.heap.size,0,none⟩ (.int .i64 3)).setCell ⟨w.heap.size,1,none⟩ (.string (cbs qs))).setCell ⟨w.heap.size,4,none⟩ (.slice (some ⟨u5.heap.size,0,none⟩) 1 1)).alloc (.cells #[.int .i64 pk,.int .i64 pn,.string (cbs ps),.string (cbs po),.int .i64 pd,.slice pp pl pc,.int .i64 pa,.int .i64 pb,.int .i64 pr,.int .i64 pe,.int .i64 pf] 111):=⟨_,rfl⟩
    rw [← hwz] at F
    go_wp2_with (refine wpList_load_row rfl 90 (.tmp 3) rfl w.heap.size rfl 90 #[.int .i64 3,.string (cbs qs),.string ⟨#[]⟩,.int .i64 0,.slice (some ⟨u5.heap.size,0,none⟩) 1 1,.slice none 0 0,.slice none 0 0,.int .i64 at0,.int .i64 0] (0,0) _ ?hs Tryz.underlying90 rfl zD3 ?_; (case hs => exact HROW.out); rw [← hwz]; clear hwz x0 x1 x2 x3 x4 x5 x6 x7 x8 x9 xX m0 m1 m2 m3 m4 m5 m6 m7 m8 m9 mX a0 a1 a2 a3 a4 a5 a6 a7 a8 b0 b1 b2 b3 b4 b5 b6 b7 b8 hlx hlm hla; have hk:=(F.out.keep _ vD).1; obtain ⟨⟨d0,d1,d2,d3,d4,d5,d6,d7,d8⟩,g0,g1,g2,g3,g4,g5,g6,g7,g8⟩:=nen hk; have hld:=zA hk; clear hk)
    replace F:=vH (F.out.pw 3 rfl (.int .i64 3) (.string (cbs qs)) (.string ⟨#[]⟩) (.int .i64 0) (.slice (some ⟨u5.heap.size,0,none⟩) 1 1) (.slice none 0 0) (.slice none 0 0) (.int .i64 at0) (.int .i64 0))
    exact bodyPost_ret (v:=.agg #[.int .i64 3,.string (cbs qs),.string ⟨#[]⟩,.int .i64 0,.slice (some ⟨u5.heap.size,0,none⟩) 1 1,.slice none 0 0,.slice none 0 0,.int .i64 at0,.int .i64 0]) (by simp [results,Tryz.results96,go_sem,d0,d1,d2,d3,d4,d5,d6,d7,d8]) rfl (QStPost.eq HY.out ⟨3,qs,[],0,some ⟨u5.heap.size,0,none⟩,1,1,none,0,0,none,0,0,at0,0,rfl,SIs.named (SIs.mk (KidsAt.one (F.out.keep _ vA).1 (F.out.keep _ vA).2 (Is.lower (F.out.ag _ vA).2 _ (Hp.out.ag (F.out.ag _ vA).1)) rfl) SsAt.nil SsAt.nil 3 (nameOf e0) [] 0 at0 0) hnm.out,F.out.qr,F.out.gr⟩)
   ·have hq:∃ c5 c6 st,(qk != 5) = c5 ∧ (qk != 6) = c6 ∧ (if kindOf e0 ≠ 4 ∧ kindOf e0 ≠ 5 ∧ kindOf e0 ≠ 6 then Qe.fail ts s1 2 else s1) = st ∧ (c5 = false ∧ st = s1 ∨ c5 = true ∧ c6 = false ∧ st = s1 ∨ c5 = true ∧ c6 = true ∧ st = Qe.fail ts s1 2):=by
        refine ⟨_,_,_,rfl,rfl,rfl,?_⟩
        rw [HKD.out]
        by_cases h5:qk = 5
        ·exact .inl ⟨by rw [h5]; rfl,if_neg (fun h => h.2.1 h5)⟩
        ·by_cases h6:qk = 6
         ·exact .inr (.inl ⟨by simpa using h5,by rw [h6]; rfl,if_neg (fun h => h.2.2 h6)⟩)
         ·exact .inr (.inr ⟨by simpa using h5,by simpa using h6,if_pos ⟨h4,h5,h6⟩⟩)
    obtain ⟨c5,c6,st,g5,g6,hst,hq⟩:=hq
    obtain ⟨b0,s2,hb,hy⟩:=zNH HY.out st hst
    rw [HKD.out,if_neg h4] at hy
    have g4:(qk != 4) = true:=by simpa using h4
    have g4b:(qk == 4) = false:=by simpa using h4
    have HB:=vH hb
    replace HY:=vH hy
    clear hb hy hst h4
    rcases hq with ⟨rfl,rfl⟩ | ⟨rfl,rfl,rfl⟩ | ⟨rfl,rfl,rfl⟩
    all_goals
        have hk:=(F.out.keep _ vA).1
        obtain ⟨⟨x0,x1,x2,x3,x4,x5,x6,x7,x8,x9,xX⟩,y0,y1,y2,y3,y4,y5,y6,y7,y8,y9,yX⟩:=hen hk
        have hlx:=zA hk
        clear hk
        go_wp2_with fail
        clear x0 x1 x2 x3 x4 x5 x6 x7 x8 x9 xX y0 y1 y2 y3 y4 y5 y6 y7 y8 y9 yX hlx
        try (refine (zAh _ R S ts _ F.out.qr 2).mono ?_; rintro e u3 ⟨rfl,hr,hg⟩; have F2:Hid (Fr w R (QrK R S ts) _ _ _ _):=vH (F.out.step hr hg); clear F; have F:=F2; clear F2; clear hr hg; go_wp2_with fail)
        refine (zH _ R S ts _ F.out.qr ⟨#[61]⟩ (by decide) false (by decide)).mono ?_
        rintro e u3 ⟨rfl,hr,hg⟩
        replace F:Hid (Fr w R (QrK R S ts) (Qe.take ts _ false [61]) _ _ _):=vH (F.out.step hr hg)
        clear hr hg
        go_wp2_with fail
        refine (HX.out _ _ HB.out _ R S F.out.qr).mono ?_
        rintro e u4 ⟨pk,pn,ps,po,pd,pp,pl,pc,pa,pb,pr,pe,pf,rfl,hi,hr,hg⟩
        have Hp:=vH hi
        replace F:=vH (F.out.call hr hg)
        clear hi hr hg
        go_wp2_with fail
        replace F:=vH (F.out.alloc (.cells #[.int .i64 pk,.int .i64 pn,.string (cbs ps),.string (cbs po),.int .i64 pd,.slice pp pl pc,.int .i64 pa,.int .i64 pb,.int .i64 pr,.int .i64 pe,.int .i64 pf] 111))
        have hnbe:=Nat.ne_of_gt ((List.pairwise_cons.1 F.out.nd).1 _ vA)
        have hneb:=Ne.symm hnbe
        dsimp only at hnbe hneb
        have hnbZ:=Nat.ne_of_gt ((List.pairwise_cons.1 F.out.nd).1 _ vB)
        have hnZb:=Ne.symm hnbZ
        dsimp only at hnbZ hnZb
        have hnbs:=Nat.ne_of_gt ((List.pairwise_cons.1 F.out.nd).1 _ vC)
        have hnsb:=Ne.symm hnbs
        dsimp only at hnbs hnsb
        refine (zH _ R S ts _ F.out.qr ⟨#[59]⟩ (by decide) false (by decide)).mono ?_
        rintro e u5 ⟨rfl,hr,hg⟩
        replace F:Hid (Fr w R (QrK R S ts) (Qe.take ts s2 false [59]) _ _ _):=vH (F.out.step hr hg)
        clear hr hg
        have hk:=(F.out.keep _ vB).1
        obtain ⟨⟨x0,x1,x2,x3,x4,x5,x6,x7,x8,x9,xX⟩,y0,y1,y2,y3,y4,y5,y6,y7,y8,y9,yX⟩:=hen hk
        have hlx:=zA hk
        clear hk
        have hk:=(F.out.keep _ vA).1
        obtain ⟨⟨m0,m1,m2,m3,m4,m5,m6,m7,m8,m9,mX⟩,k0,k1,k2,k3,k4,k5,k6,k7,k8,k9,kX⟩:=hen hk
        have hlm:=zA hk
        clear hk
        have hk:=(F.out.keep _ vD).1
        obtain ⟨⟨a0,a1,a2,a3,a4,a5,a6,a7,a8⟩,b0,b1,b2,b3,b4,b5,b6,b7,b8⟩:=nen hk
        have hla:=zA hk
        clear hk y0 y1 y2 y3 y4 y5 y6 y7 y8 y9 yX k0 k1 k2 k3 k4 k5 k6 k7 k8 k9 kX
        replace F:=vH (F.out.put1 3 rfl 0 (.int .i64 4) rfl)
        replace F:=vH (F.out.put1 3 rfl 4 (.slice (some ⟨u5.heap.size,0,none⟩) 2 2) rfl)
        replace F:=vH (F.out.alloc2 (.cells #[.int .i64 qk,.int .i64 qn,.string (cbs qs),.string (cbs qo),.int .i64 qd,.slice qp ql qc,.int .i64 qa,.int .i64 qb,.int .i64 qr,.int .i64 qe,.int .i64 qf,.int .i64 pk,.int .i64 pn,.string (cbs ps),.string (cbs po),.int .i64 pd,.slice pp pl pc,.int .i64 pa,.int .i64 pb,.int .i64 pr,.int .i64 pe,.int .i64 pf] 111) (b:=u5.heap.size) (by simp only [zI]))
        have hnrowb:=Nat.ne_of_gt ((List.pairwise_cons.1 F.out.nd).1 _ vA)
        have hnbrow:=Ne.symm hnrowb
        dsimp only at hnrowb hnbrow
        have hnrowe:=Nat.ne_of_gt ((List.pairwise_cons.1 F.out.nd).1 _ vB)
        have hnerow:=Ne.symm hnrowe
        dsimp only at hnrowe hnerow
        have hnrowZ:=Nat.ne_of_gt ((List.pairwise_cons.1 F.out.nd).1 _ vC)
        have hnZrow:=Ne.symm hnrowZ
        dsimp only at hnrowZ hnZrow
        have hnrows:=Nat.ne_of_gt ((List.pairwise_cons.1 F.out.nd).1 _ vD)
        have hnsrow:=Ne.symm hnrows
        dsimp only at hnrows hnsrow
        have HROW:=vH (F.out.keep _ (List.Mem.tail _ vD)).1
        obtain ⟨wz,hwz⟩:∃ wz,wz = ((u5.setCell ⟨w.heap.size,0,none⟩ (.int .i64 4)).setCell ⟨w.heap.size,4,none⟩ (.slice (some ⟨u5.heap.size,0,none⟩) 2 2)).alloc (.cells #[.int .i64 qk,.int .i64 qn,.string (cbs qs),.string (cbs qo),.int .i64 qd,.slice qp ql qc,.int .i64 qa,.int .i64 qb,.int .i64 qr,.int .i64 qe,.int .i64 qf,.int .i64 pk,.int .i64 pn,.string (cbs ps),.string (cbs po),.int .i64 pd,.slice pp pl pc,.int .i64 pa,.int .i64 pb,.int .i64 pr,.int .i64 pe,.int .i64 pf] 111):=⟨_,rfl⟩
        rw [← hwz] at F
        go_wp2_with (refine wpList_load_row rfl 90 (.tmp 3) rfl w.heap.size rfl 90 #[.int .i64 4,.string ⟨#[]⟩,.string ⟨#[]⟩,.int .i64 0,.slice (some ⟨u5.heap.size,0,none⟩) 2 2,.slice none 0 0,.slice none 0 0,.int .i64 at0,.int .i64 0] (0,0) _ ?hs Tryz.underlying90 rfl zD3 ?_; (case hs => exact HROW.out); rw [← hwz]; clear hwz x0 x1 x2 x3 x4 x5 x6 x7 x8 x9 xX m0 m1 m2 m3 m4 m5 m6 m7 m8 m9 mX a0 a1 a2 a3 a4 a5 a6 a7 a8 b0 b1 b2 b3 b4 b5 b6 b7 b8 hlx hlm hla; have hk:=(F.out.keep _ vD).1; obtain ⟨⟨d0,d1,d2,d3,d4,d5,d6,d7,d8⟩,g0,g1,g2,g3,g4,g5,g6,g7,g8⟩:=nen hk; have hld:=zA hk; clear hk)
        replace F:=vH (F.out.pw 3 rfl (.int .i64 4) (.string ⟨#[]⟩) (.string ⟨#[]⟩) (.int .i64 0) (.slice (some ⟨u5.heap.size,0,none⟩) 2 2) (.slice none 0 0) (.slice none 0 0) (.int .i64 at0) (.int .i64 0))
        exact bodyPost_ret (v:=.agg #[.int .i64 4,.string ⟨#[]⟩,.string ⟨#[]⟩,.int .i64 0,.slice (some ⟨u5.heap.size,0,none⟩) 2 2,.slice none 0 0,.slice none 0 0,.int .i64 at0,.int .i64 0]) (by simp [results,Tryz.results96,go_sem,d0,d1,d2,d3,d4,d5,d6,d7,d8]) rfl (QStPost.eq HY.out ⟨4,[],[],0,some ⟨u5.heap.size,0,none⟩,2,2,none,0,0,none,0,0,at0,0,rfl,SIs.mk (KidsAt.two (F.out.keep _ vA).1 (F.out.keep _ vA).2 (Is.lower (F.out.ag _ vB).2 _ (Hq.out.ag (F.out.ag _ vB).1)) (Is.lower (F.out.ag _ vA).2 _ (Hp.out.ag (F.out.ag _ vA).1)) rfl) SsAt.nil SsAt.nil 4 [] [] 0 at0 0,F.out.qr,F.out.gr⟩)
end Go.Proofs.YtipmjjfknhblnaaGreatDoor
