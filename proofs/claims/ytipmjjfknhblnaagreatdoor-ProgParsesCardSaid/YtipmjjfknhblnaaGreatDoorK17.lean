/-
  The maps of steps of the project's reader of statements. The
-/
import Derived.Test.YtipmjjfknhblnaaGreatDoorK15
import Derived.Test.YtipmjjfknhblnaaGreatDoorK16
import Derived.Test.YtipmjjfknhblnaaGreatDoorK02
import Derived.Deep.RegionLawGrows
import Derived.Lib.SmallJoins
set_option maxRecDepth 8000
set_option maxHeartbeats 8000000
namespace Go.Proofs.YtipmjjfknhblnaaGreatDoor
open Go.RowKit
open Px (RT tokAt)
open Pe
open Ps (Sm PX)
theorem zGQ (w:World) :
 Calls Tryz.prog 112 #[] w fun e w' => e = .returned (.map (some w.heap.size)) ∧ w' = w.alloc (.map smapWord 6):=by
 have h0:=fun w => zAU 134 w
 have h1:=zAk Tryz.underlying134 Tryz.underlying9 (key:=.string ⟨#[118,97,114]⟩) (zQ _) (.func (.func 122) #[] #[]) w #[] #[⟨.string ⟨#[118,97,114]⟩,.func (.func 122) #[] #[],0⟩] 0 1 rfl rfl rfl
 have h2:=zAk Tryz.underlying134 Tryz.underlying9 (key:=.string ⟨#[108,101,116]⟩) (zQ _) (.func (.func 123) #[] #[]) w #[⟨.string ⟨#[118,97,114]⟩,.func (.func 122) #[] #[],0⟩] #[⟨.string ⟨#[118,97,114]⟩,.func (.func 122) #[] #[],0⟩,⟨.string ⟨#[108,101,116]⟩,.func (.func 123) #[] #[],1⟩] 1 2 rfl rfl rfl
 have h3:=zAk Tryz.underlying134 Tryz.underlying9 (key:=.string ⟨#[105,102]⟩) (zQ _) (.func (.func 124) #[] #[]) w #[⟨.string ⟨#[118,97,114]⟩,.func (.func 122) #[] #[],0⟩,⟨.string ⟨#[108,101,116]⟩,.func (.func 123) #[] #[],1⟩] #[⟨.string ⟨#[118,97,114]⟩,.func (.func 122) #[] #[],0⟩,⟨.string ⟨#[108,101,116]⟩,.func (.func 123) #[] #[],1⟩,⟨.string ⟨#[105,102]⟩,.func (.func 124) #[] #[],2⟩] 2 3 rfl rfl rfl
 have h4:=zAk Tryz.underlying134 Tryz.underlying9 (key:=.string ⟨#[119,104,105,108,101]⟩) (zQ _) (.func (.func 125) #[] #[]) w #[⟨.string ⟨#[118,97,114]⟩,.func (.func 122) #[] #[],0⟩,⟨.string ⟨#[108,101,116]⟩,.func (.func 123) #[] #[],1⟩,⟨.string ⟨#[105,102]⟩,.func (.func 124) #[] #[],2⟩] #[⟨.string ⟨#[118,97,114]⟩,.func (.func 122) #[] #[],0⟩,⟨.string ⟨#[108,101,116]⟩,.func (.func 123) #[] #[],1⟩,⟨.string ⟨#[105,102]⟩,.func (.func 124) #[] #[],2⟩,⟨.string ⟨#[119,104,105,108,101]⟩,.func (.func 125) #[] #[],3⟩] 3 4 rfl rfl rfl
 have h5:=zAk Tryz.underlying134 Tryz.underlying9 (key:=.string ⟨#[114,101,116,117,114,110]⟩) (zQ _) (.func (.func 126) #[] #[]) w #[⟨.string ⟨#[118,97,114]⟩,.func (.func 122) #[] #[],0⟩,⟨.string ⟨#[108,101,116]⟩,.func (.func 123) #[] #[],1⟩,⟨.string ⟨#[105,102]⟩,.func (.func 124) #[] #[],2⟩,⟨.string ⟨#[119,104,105,108,101]⟩,.func (.func 125) #[] #[],3⟩] #[⟨.string ⟨#[118,97,114]⟩,.func (.func 122) #[] #[],0⟩,⟨.string ⟨#[108,101,116]⟩,.func (.func 123) #[] #[],1⟩,⟨.string ⟨#[105,102]⟩,.func (.func 124) #[] #[],2⟩,⟨.string ⟨#[119,104,105,108,101]⟩,.func (.func 125) #[] #[],3⟩,⟨.string ⟨#[114,101,116,117,114,110]⟩,.func (.func 126) #[] #[],4⟩] 4 5 rfl rfl rfl
 have h6:=zAk Tryz.underlying134 Tryz.underlying9 (key:=.string ⟨#[112,114,105,110,116]⟩) (zQ _) (.func (.func 127) #[] #[]) w #[⟨.string ⟨#[118,97,114]⟩,.func (.func 122) #[] #[],0⟩,⟨.string ⟨#[108,101,116]⟩,.func (.func 123) #[] #[],1⟩,⟨.string ⟨#[105,102]⟩,.func (.func 124) #[] #[],2⟩,⟨.string ⟨#[119,104,105,108,101]⟩,.func (.func 125) #[] #[],3⟩,⟨.string ⟨#[114,101,116,117,114,110]⟩,.func (.func 126) #[] #[],4⟩] #[⟨.string ⟨#[118,97,114]⟩,.func (.func 122) #[] #[],0⟩,⟨.string ⟨#[108,101,116]⟩,.func (.func 123) #[] #[],1⟩,⟨.string ⟨#[105,102]⟩,.func (.func 124) #[] #[],2⟩,⟨.string ⟨#[119,104,105,108,101]⟩,.func (.func 125) #[] #[],3⟩,⟨.string ⟨#[114,101,116,117,114,110]⟩,.func (.func 126) #[] #[],4⟩,⟨.string ⟨#[112,114,105,110,116]⟩,.func (.func 127) #[] #[],5⟩] 5 6 rfl rfl rfl
 go_in
 go_wp2_with fail
 go_ret
 exact ⟨rfl,rfl⟩
theorem zGR (w:World)(R:Nat) :
 Calls Tryz.prog 113 #[.pointer (some ⟨R,0,none⟩)] w fun e w' => e = .returned (.map (some w.heap.size)) ∧ w' = w.alloc (.map (smapSign R) 2):=by
 have h0:=fun w => zAU 135 w
 have h1:=zAk Tryz.underlying135 Tryz.underlying9 (key:=.string ⟨#[59]⟩) (zQ _) (.func (.func 128) #[.pointer (some ⟨R,0,none⟩)] #[]) w #[] #[⟨.string ⟨#[59]⟩,.func (.func 128) #[.pointer (some ⟨R,0,none⟩)] #[],0⟩] 0 1 rfl rfl rfl
 have h2:=zAk Tryz.underlying135 Tryz.underlying9 (key:=.string ⟨#[61]⟩) (zQ _) (.func (.func 129) #[.pointer (some ⟨R,0,none⟩)] #[]) w #[⟨.string ⟨#[59]⟩,.func (.func 128) #[.pointer (some ⟨R,0,none⟩)] #[],0⟩] #[⟨.string ⟨#[59]⟩,.func (.func 128) #[.pointer (some ⟨R,0,none⟩)] #[],0⟩,⟨.string ⟨#[61]⟩,.func (.func 129) #[.pointer (some ⟨R,0,none⟩)] #[],1⟩] 1 2 rfl rfl rfl
 go_in
 go_wp2_with fail
 go_ret
 exact ⟨rfl,rfl⟩
theorem zEm {l:List UInt8}(h:l = [118,97,114]){w:World}{M:Nat}(hb:w.heap[M]? = some (.map smapWord 6)) :
 (Instr.lookup 134 (.map (some M)) (.string (cbs l)) true).run Tryz.prog w = .ok (.tuple #[.func (.func 122) #[] #[],.bool true]) w:=by
 subst h
 exact zZ (i:=0) Tryz.underlying134 Tryz.underlying9 (zQ _) hb rfl
theorem zEl {l:List UInt8}(h:l = [108,101,116]){w:World}{M:Nat}(hb:w.heap[M]? = some (.map smapWord 6)) :
 (Instr.lookup 134 (.map (some M)) (.string (cbs l)) true).run Tryz.prog w = .ok (.tuple #[.func (.func 123) #[] #[],.bool true]) w:=by
 subst h
 exact zZ (i:=1) Tryz.underlying134 Tryz.underlying9 (zQ _) hb rfl
theorem zEk {l:List UInt8}(h:l = [105,102]){w:World}{M:Nat}(hb:w.heap[M]? = some (.map smapWord 6)) :
 (Instr.lookup 134 (.map (some M)) (.string (cbs l)) true).run Tryz.prog w = .ok (.tuple #[.func (.func 124) #[] #[],.bool true]) w:=by
 subst h
 exact zZ (i:=2) Tryz.underlying134 Tryz.underlying9 (zQ _) hb rfl
theorem zEj {l:List UInt8}(h:l = [119,104,105,108,101]){w:World}{M:Nat}(hb:w.heap[M]? = some (.map smapWord 6)) :
 (Instr.lookup 134 (.map (some M)) (.string (cbs l)) true).run Tryz.prog w = .ok (.tuple #[.func (.func 125) #[] #[],.bool true]) w:=by
 subst h
 exact zZ (i:=3) Tryz.underlying134 Tryz.underlying9 (zQ _) hb rfl
theorem zEi {l:List UInt8}(h:l = [114,101,116,117,114,110]){w:World}{M:Nat}(hb:w.heap[M]? = some (.map smapWord 6)) :
 (Instr.lookup 134 (.map (some M)) (.string (cbs l)) true).run Tryz.prog w = .ok (.tuple #[.func (.func 126) #[] #[],.bool true]) w:=by
 subst h
 exact zZ (i:=4) Tryz.underlying134 Tryz.underlying9 (zQ _) hb rfl
theorem zEh {l:List UInt8}(h:l = [112,114,105,110,116]){w:World}{M:Nat}(hb:w.heap[M]? = some (.map smapWord 6)) :
 (Instr.lookup 134 (.map (some M)) (.string (cbs l)) true).run Tryz.prog w = .ok (.tuple #[.func (.func 127) #[] #[],.bool true]) w:=by
 subst h
 exact zZ (i:=5) Tryz.underlying134 Tryz.underlying9 (zQ _) hb rfl
theorem zGC {l:List UInt8}(h0:¬ l = [118,97,114])(h1:¬ l = [108,101,116])(h2:¬ l = [105,102])(h3:¬ l = [119,104,105,108,101])(h4:¬ l = [114,101,116,117,114,110])(h5:¬ l = [112,114,105,110,116]){w:World}{M:Nat}(hb:w.heap[M]? = some (.map smapWord 6)) :
 (Instr.lookup 134 (.map (some M)) (.string (cbs l)) true).run Tryz.prog w = .ok (.tuple #[.nilFunc,.bool false]) w:=by
 refine zBw Tryz.underlying134 Tryz.underlying9 (zQ _) hb ?_ (by kernel_rfl)
 replace h0:=zAO h0
 replace h1:=zAO h1
 replace h2:=zAO h2
 replace h3:=zAO h3
 replace h4:=zAO h4
 replace h5:=zAO h5
 simp only [smapWord,Instr.findNow,Instr.sameNow,h0,h1,h2,h3,h4,h5]
theorem zEp {l:List UInt8}(h:l = [59]){w:World}{R M:Nat}(hb:w.heap[M]? = some (.map (smapSign R) 2)) :
 (Instr.lookup 135 (.map (some M)) (.string (cbs l)) true).run Tryz.prog w = .ok (.tuple #[.func (.func 128) #[.pointer (some ⟨R,0,none⟩)] #[],.bool true]) w:=by
 subst h
 exact zZ (i:=0) Tryz.underlying135 Tryz.underlying9 (zQ _) hb rfl
theorem zEo {l:List UInt8}(h:l = [61]){w:World}{R M:Nat}(hb:w.heap[M]? = some (.map (smapSign R) 2)) :
 (Instr.lookup 135 (.map (some M)) (.string (cbs l)) true).run Tryz.prog w = .ok (.tuple #[.func (.func 129) #[.pointer (some ⟨R,0,none⟩)] #[],.bool true]) w:=by
 subst h
 exact zZ (i:=1) Tryz.underlying135 Tryz.underlying9 (zQ _) hb rfl
theorem zGE {l:List UInt8}(h0:¬ l = [59])(h1:¬ l = [61]){w:World}{R M:Nat}(hb:w.heap[M]? = some (.map (smapSign R) 2)) :
 (Instr.lookup 135 (.map (some M)) (.string (cbs l)) true).run Tryz.prog w = .ok (.tuple #[.nilFunc,.bool false]) w:=by
 refine zBw Tryz.underlying135 Tryz.underlying9 (zQ _) hb ?_ (by kernel_rfl)
 replace h0:=zAO h0
 replace h1:=zAO h1
 simp only [smapSign,Instr.findNow,Instr.sameNow,h0,h1]
end Go.Proofs.YtipmjjfknhblnaaGreatDoor
namespace Go.Proofs.YtipmjjfknhblnaaGreatDoor
open Go.RowKit
open Px (RT tokAt)
open Pe
open Ps (Sm PX)
theorem KidsAt.own {w:World}{base B n c:Nat}{p:Option Addr}{l:List Ex}{vss:List (List Value)}(h:w.ownsRow base 111 11 (.slice p n c) l.length vss.flatten)(hB:B ≤ base)(hl:vss.length = l.length)
 (hi:∀ (i:Nat) e vs,l[i]? = some e → vss[i]? = some vs → Is w B e vs):KidsAt w B p l:=by
 rcases h.2 with ⟨hv,h0⟩ | ⟨g,cap,cur,hv,hb,hc,hn,hcap,hsize,htake⟩
 ·exact .inl (List.eq_nil_of_length_eq_zero h0)
 ·simp only [Value.slice.injEq] at hv
  obtain ⟨rfl,rfl,rfl⟩:=hv
  refine .inr ⟨g,0,rfl,zA hc,Nat.le_trans hB hb,At.of_row hc l 0 vss hl hi fun i hlt => ?_⟩
  rw [← htake] at hlt ⊢
  have hlt2:i < l.length * 11:=by simp at hlt; omega
  simp [hlt2]
theorem Is.kind {w:World}{B:Nat}{e:Ex}{zk zn:Int}{zs zo:List UInt8}{zd:Int}{kv:Value}{za zb zr ze zf:Int}(h:Is w B e (exCells zk zn zs zo zd kv za zb zr ze zf)):Ps.kindOf e = zk ∧ cbs (Ps.nameOf e) = cbs zs:=by
 cases e
 rw [Is] at h
 obtain ⟨p,c,hv,-⟩:=h
 simp only [exCells,List.cons.injEq,Value.int.injEq,Value.string.injEq,true_and] at hv
 exact ⟨hv.1.symm,hv.2.2.1.symm⟩
theorem SIs.named {w:World}{B:Nat}{x:Sm}{kind:Int}{name ofn n2:List UInt8}{dims:Int}{ev bv lv:Value}{at_ ref:Int}(h:SIs w B x (smCells kind n2 ofn dims ev bv lv at_ ref))(hn:cbs n2 = cbs name):SIs w B x (smCells kind name ofn dims ev bv lv at_ ref):=by
 have:smCells kind name ofn dims ev bv lv at_ ref = smCells kind n2 ofn dims ev bv lv at_ ref:=by simp only [smCells,hn]
 rw [this]
 exact h
theorem zIO {w w':World}{base n sz:Nat}{T:TypeId}{v:Value}{xs:List Value}(h:w.ownsRow base T sz v n xs)(hg:Ag base w w'):w'.ownsRow base T sz v n xs:=by
 rcases h with ⟨h1,h2 | ⟨g,cap,cur,hv,hb,hc,hn⟩⟩
 ·exact ⟨h1,.inl h2⟩
 ·exact ⟨h1,.inr ⟨g,cap,cur,hv,hb,(hg.block g hb (zA hc)).trans hc,hn⟩⟩
theorem zLZ {w:World}{B:Nat}{e:Ex}{vs:List Value}(h:Is w B e vs):∀ (i:Nat) e' vs',[e][i]? = some e' → [vs][i]? = some vs' → Is w B e' vs'
 | 0,e',vs',he,hv => by
   simp at he hv
   subst he hv
   exact h
 | i + 1,e',vs',he,hv => by simp at he
theorem zFb {w:World}{B:Nat}{e e2:Ex}{vs vs2:List Value}(h:Is w B e vs)(h2:Is w B e2 vs2):∀ (i:Nat) e' vs',[e,e2][i]? = some e' → [vs,vs2][i]? = some vs' → Is w B e' vs'
 | 0,e',vs',he,hv => by
   simp at he hv
   subst he hv
   exact h
 | 1,e',vs',he,hv => by
   simp at he hv
   subst he hv
   exact h2
 | i + 2,e',vs',he,hv => by simp at he
theorem zNv {w w2:World}(h:w.grownBy w2 none):Below w.heap.size w w2:=⟨h.os,h.tape,h.output,h.size,fun k hk => h.block k hk (by simp)⟩
theorem Fr.grown {σ:Type}{w wa w8:World}{R:Nat}{K : σ → World → Prop}{s : σ}{L:List (Nat × Obj)}{T:List (Nat × World)}(h:Fr w R K s L T wa)(hg:wa.grownBy w8 none):Fr w R K s L ((wa.heap.size,w8) :: T) w8:=
 (h.go (zNv hg)).tree h.gr.size fun p hp => zA (h.keep p hp).1
def StPostB (B:Nat)(w:World)(R M1 M2:Nat)(S:Value)(ts:List RT)(x:Sm × St)(e:Ending)(w':World):Prop:=
 ∃ (kind:Int) (name ofn:List UInt8) (dims:Int) (ep:Option Addr) (el ec:Nat) (bp:Option Addr) (bl bc:Nat) (lp:Option Addr) (ll lc:Nat) (at_ ref:Int),
   e = .returned (.agg #[.int .i64 kind,.string (cbs name),.string (cbs ofn),.int .i64 dims,.slice ep el ec,.slice bp bl bc,.slice lp ll lc,.int .i64 at_,.int .i64 ref]) ∧
   SIs w' B x.1 (smCells kind name ofn dims (.slice ep el ec) (.slice bp bl bc) (.slice lp ll lc) at_ ref) ∧ Rq w' R M1 M2 S ts x.2 ∧ Gr R w w'
theorem zKO {ts:List RT}{e:Ex}{s:St}(h:Ps.kindOf e = 7):Ps.call ts e s = (.mk 9 [] [] 0 [e] [] [] 0 0,Ps.nxt s):=if_pos h
theorem zMn {ts:List RT}{e:Ex}{s:St}(h:¬ Ps.kindOf e = 7):Ps.call ts e s = Ps.refuse ts s:=if_neg h
theorem zIg (w:World)(R M1 M2:Nat)(S:Value)(ts:List RT)(s:St)(h:Rq w R M1 M2 S ts s)(e0:Ex)(zk zn:Int)(zs zo:List UInt8)(zd:Int)(zp:Option Addr)(zl zc:Nat)(za zb zr ze zf:Int)(B B0:Nat)(hRB:R < B0)(hB:B ≤ B0)(hBw:B ≤ w.heap.size)(he:Is w B0 e0 (exCells zk zn zs zo zd (.slice zp zl zc) za zb zr ze zf)) :
 Calls Tryz.prog 128 #[.pointer (some ⟨R,0,none⟩),.agg #[.int .i64 zk,.int .i64 zn,.string (cbs zs),.string (cbs zo),.int .i64 zd,.slice zp zl zc,.int .i64 za,.int .i64 zb,.int .i64 zr,.int .i64 ze,.int .i64 zf]] w (StPostB B w R M1 M2 S ts (Ps.call ts e0 s)):=by
 have hkd:=(he.kind).1
 have HE:=vH he
 by_cases hc:zk = 7
 ·rw [zKO (hkd.trans hc)]
  subst hc
  clear hkd he
  have hlt:=h.lt
  have HH:=vH h
  have F:=vH (((Fr.of h).alloc (.cells #[.int .i64 7,.int .i64 zn,.string (cbs zs),.string (cbs zo),.int .i64 zd,.slice zp zl zc,.int .i64 za,.int .i64 zb,.int .i64 zr,.int .i64 ze,.int .i64 zf] 111)).alloc2 (.cells vS 90) (zB _ _))
  clear h
  go_in
  go_wp2_with fail
  refine (zL _ R 137 S _ ts _ F.out.rq.cu ).mono ?_
  rintro e u1 ⟨rfl,hc,hg⟩
  replace F:=vH (F.out.cur hc hg)
  clear hc hg
  have hk:=(F.out.keep _ vA).1
  obtain ⟨⟨d0,d1,d2,d3,d4,d5,d6,d7,d8⟩,g0,g1,g2,g3,g4,g5,g6,g7,g8⟩:=nen hk
  have hld:=zA hk
  clear hk
  have hd1:w.heap.size ≠ w.heap.size + 1:=by omega
  have hd2:=Ne.symm hd1
  have hk:=(F.out.keep _ vB).1
  obtain ⟨⟨x0,x1,x2,x3,x4,x5,x6,x7,x8,x9,xX⟩,y0,y1,y2,y3,y4,y5,y6,y7,y8,y9,yX⟩:=hen hk
  have hlx:=zA hk
  clear hk
  go_wp2_with fail
  replace F:=vH (F.out.pw 0 rfl (.int .i64 9) (.string ⟨#[]⟩) (.string ⟨#[]⟩) (.int .i64 0) (.slice (some ⟨u1.heap.size,0,none⟩) 1 1) (.slice none 0 0) (.slice none 0 0) (.int .i64 0) (.int .i64 0))
  replace F:=vH (F.out.alloc2 (.cells #[.int .i64 7,.int .i64 zn,.string (cbs zs),.string (cbs zo),.int .i64 zd,.slice zp zl zc,.int .i64 za,.int .i64 zb,.int .i64 zr,.int .i64 ze,.int .i64 zf] 111) (b:=u1.heap.size) (by simp only [zI]))
  have hrow:=(F.out.keep _ vA)
  have hie:=Is.lower hB _ (HE.out.ag (Ag.gr F.out.gr hRB))
  have hkids:=KidsAt.one hrow.1 (Nat.le_trans hBw hrow.2) hie rfl
  exact bodyPost_ret (v:=.agg #[.int .i64 9,.string ⟨#[]⟩,.string ⟨#[]⟩,.int .i64 0,.slice (some ⟨u1.heap.size,0,none⟩) 1 1,.slice none 0 0,.slice none 0 0,.int .i64 0,.int .i64 0]) (by simp [results,Tryz.results128,go_sem,hld,d0,d1,d2,d3,d4,d5,d6,d7,d8]) rfl ⟨9,[],[],0,some ⟨u1.heap.size,0,none⟩,1,1,none,0,0,none,0,0,0,0,rfl,SIs.mk hkids SsAt.nil SsAt.nil 9 [] [] 0 0 0,F.out.rq,F.out.gr⟩
 ·rw [zMn (fun hh => hc (hkd.symm.trans hh))]
  have hc2:(zk != 7) = true:=by simpa using hc
  clear hkd he hc
  have hlt:=h.lt
  have HH:=vH h
  have F:=vH (((Fr.of h).alloc (.cells #[.int .i64 zk,.int .i64 zn,.string (cbs zs),.string (cbs zo),.int .i64 zd,.slice zp zl zc,.int .i64 za,.int .i64 zb,.int .i64 zr,.int .i64 ze,.int .i64 zf] 111)).alloc2 (.cells vS 90) (zB _ _))
  clear h
  go_in
  go_wp2_with fail
  refine (zAS _ R M1 M2 S ts _ F.out.rq).mono ?_
  rintro e u11 ⟨sk,sn,so,sd,sep,sel,sec,sbp,sbl,sbc,slp,sll,slc,sa,sr,rfl,hi,hr,hg⟩
  have Hst:=vH hi
  replace F:=vH (F.out.call hr hg)
  clear hi hr hg
  have hk:=(F.out.keep _ vA).1
  obtain ⟨⟨d0,d1,d2,d3,d4,d5,d6,d7,d8⟩,g0,g1,g2,g3,g4,g5,g6,g7,g8⟩:=nen hk
  have hld:=zA hk
  clear hk
  go_wp2_with fail
  replace F:=vH (F.out.pw 0 rfl (.int .i64 sk) (.string (cbs sn)) (.string (cbs so)) (.int .i64 sd) (.slice sep sel sec) (.slice sbp sbl sbc) (.slice slp sll slc) (.int .i64 sa) (.int .i64 sr))
  exact bodyPost_ret (v:=.agg #[.int .i64 sk,.string (cbs sn),.string (cbs so),.int .i64 sd,.slice sep sel sec,.slice sbp sbl sbc,.slice slp sll slc,.int .i64 sa,.int .i64 sr]) (by simp [results,Tryz.results128,go_sem,d0,d1,d2,d3,d4,d5,d6,d7,d8]) rfl ⟨sk,sn,so,sd,sep,sel,sec,sbp,sbl,sbc,slp,sll,slc,sa,sr,rfl,SIs.lower hBw _ (SIs.lower (F.out.ag _ vA).2 _ (SIs.ag (F.out.ag _ vA).1 _ Hst.out)),F.out.rq,F.out.gr⟩
theorem zHM {ts:List RT}{P:PX}{e:Ex}{s s3:St}{x:Ex}(h:Ps.kindOf e = 4)(hX:Ps.rd P (Ps.nxt s) = (x,s3)):Ps.assignment ts P e s = (.mk 3 (Ps.nameOf e) [] 0 [x] [] [] 0 0,Ps.sgn ts s3 [59]):=by
 simp only [Ps.assignment,Ps.assigned,hX,h,if_true]
theorem zDH {ts:List RT}{P:PX}{e:Ex}{s s3:St}{x:Ex}(h:Ps.kindOf e = 5 ∨ Ps.kindOf e = 6)(hX:Ps.rd P (Ps.nxt s) = (x,s3)):Ps.assignment ts P e s = (.mk 4 [] [] 0 [e,x] [] [] 0 0,Ps.sgn ts s3 [59]):=by
 have h4:¬ Ps.kindOf e = 4:=by omega
 simp only [Ps.assignment,Ps.assigned,hX,if_neg h4,if_pos h]
theorem zJv {ts:List RT}{P:PX}{e:Ex}{s:St}(h4:¬ Ps.kindOf e = 4)(h5:¬ Ps.kindOf e = 5)(h6:¬ Ps.kindOf e = 6):Ps.assignment ts P e s = Ps.refuse ts s:=by
 have h:¬ (Ps.kindOf e = 5 ∨ Ps.kindOf e = 6):=by omega
 simp only [Ps.assignment,if_neg h4,if_neg h]
theorem zF6 {w:World}{b:Nat}{T:TypeId}{A:Array Value}{vs:List Value}(hb:w.heap[b]? = some (.cells A T (0,0)))(hA:A = ⟨vs⟩):∀ j u,vs[j]? = some u → w.cell? ((⟨b,0,none⟩:Addr).add j) = some u:=by
 intro j u hu
 subst hA
 have hadd:(⟨b,0,none⟩:Addr).add j = ⟨b,j,none⟩:=by unfold Addr.add; split <;> simp_all
 rw [hadd,cell_of_row _ _ j _ _ _ hb]
 simpa using hu
theorem zFh (w:World)(R M1 M2:Nat)(S:Value)(ts:List RT)(s:St)(h:Rq w R M1 M2 S ts s)(e0:Ex)(zk zn:Int)(zs zo:List UInt8)(zd:Int)(zp:Option Addr)(zl zc:Nat)(za zb zr ze zf:Int)(B B0:Nat)(hRB:R < B0)(hB:B ≤ B0)(hBw:B ≤ w.heap.size)(he:Is w B0 e0 (exCells zk zn zs zo zd (.slice zp zl zc) za zb zr ze zf))(P:PX)(hP:POk ts P) :
 Calls Tryz.prog 129 #[.pointer (some ⟨R,0,none⟩),.agg #[.int .i64 zk,.int .i64 zn,.string (cbs zs),.string (cbs zo),.int .i64 zd,.slice zp zl zc,.int .i64 za,.int .i64 zb,.int .i64 zr,.int .i64 ze,.int .i64 zf]] w (StPostB B w R M1 M2 S ts (Ps.assignment ts P e0 s)):=by
 have hkd:=(he.kind).1
 have hnm:=vH (he.kind).2
 have HE:=vH he
 have HP:=vH hP
 by_cases h4:zk = 4
 ·subst h4
  obtain ⟨x,s3,hX⟩:∃ x s3,Ps.rd P (Ps.nxt s) = (x,s3):=⟨_,_,rfl⟩
  have HX:=vH hX
  rw [zHM hkd hX]
  clear hX hkd he hP
  have hlt:=h.lt
  have HH:=vH h
  have F:=vH (((((Fr.of h).alloc (.cells #[.int .i64 4,.int .i64 zn,.string (cbs zs),.string (cbs zo),.int .i64 zd,.slice zp zl zc,.int .i64 za,.int .i64 zb,.int .i64 zr,.int .i64 ze,.int .i64 zf] 111)).alloc2 (.cells vS 90) (b:=w.heap.size + 1) (zB _ _)).alloc2 (.cells #[.int .i64 4,.int .i64 zn,.string (cbs zs),.string (cbs zo),.int .i64 zd,.slice zp zl zc,.int .i64 za,.int .i64 zb,.int .i64 zr,.int .i64 ze,.int .i64 zf] 111) (b:=w.heap.size + 1 + 1) (by simp only [zB])).alloc2 (.cells #[.int .i64 3,.string (cbs zs),.string ⟨#[]⟩,.int .i64 0,.slice none 0 0,.slice none 0 0,.slice none 0 0,.int .i64 0,.int .i64 0] 90) (b:=w.heap.size + 1 + 1 + 1) (by simp only [zB]))
  clear h
  go_in
  go_wp2_with fail
  have hn1:w.heap.size + 1 ≠ w.heap.size + 1 + 1 + 1:=by omega
  have hn2:=Ne.symm hn1
  have hn3:w.heap.size + 1 ≠ w.heap.size + 1 + 1:=by omega
  have hn4:=Ne.symm hn3
  have hn5:w.heap.size + 1 + 1 ≠ w.heap.size + 1 + 1 + 1:=by omega
  have hn6:=Ne.symm hn5
  refine (zL _ R 137 S _ ts _ F.out.rq.cu ).mono ?_
  rintro e u1 ⟨rfl,hc,hg⟩
  replace F:=vH (F.out.cur hc hg)
  clear hc hg
  go_wp2_with fail
  have hX:Ps.rd P ⟨next s.c,s.o⟩ = (x,s3):=HX.out
  have hex:=fun w1 hh => zT w1 R M1 M2 S ts ⟨next s.c,s.o⟩ hh P HP.out
  rw [hX] at hex
  have HEX:=vH hex
  clear hex hX
  obtain ⟨i0,hi0,hz0,hz1,hz2⟩:=info_parts zEY
  replace F:=vH (F.out.go (Below.refl _ _).drew)
  have hk:=(F.out.keep _ vA).1
  obtain ⟨⟨a0,a1,a2,a3,a4,a5,a6,a7,a8⟩,b0,b1,b2,b3,b4,b5,b6,b7,b8⟩:=nen hk
  have hla:=zA hk
  clear hk
  go_region_law (first
   | (refine step_append_grows rfl (.tmp 27) (.tmp 30) 88 rfl 111 i0 _ 11 120 Tryz.underlying88 hi0 hz0 hz1 hz2 rfl (by decide) none 0 0 [] (by simp [Act.eval]) (fun _ => ⟨rfl,rfl⟩) rfl (fun b hb => by cases hb) ⟨wq.heap.size,0,none⟩ 1 1 (exCells qk qn qs qo qd (.slice qp ql qc) qa qb qr qe qf) (by simp [Act.eval]) rfl (zAy rfl rfl) (zCx _ _ _ _ _ _ _ _ _ _ _ _ _) (by decide) (by decide) (by decide) ?_; intro v' w8 hown hgrow; obtain ⟨gg,cap,hv⟩:=Joins.ownsRow_form hown (by decide); subst hv; have HOWN:=vH hown; have F5:=vH ((F4.out.alloc (.cells #[.int .i64 qk,.int .i64 qn,.string (cbs qs),.string (cbs qo),.int .i64 qd,.slice qp ql qc,.int .i64 qa,.int .i64 qb,.int .i64 qr,.int .i64 qe,.int .i64 qf] 111)).grown hgrow); clear hown hgrow x0 x1 x2 x3 x4 x5 x6 x7 x8 y0 y1 y2 y3 y4 y5 y6 y7 y8 hlx; have hk:=(F5.out.keep _ vB).1; obtain ⟨⟨a0,a1,a2,a3,a4,a5,a6,a7,a8⟩,b0,b1,b2,b3,b4,b5,b6,b7,b8⟩:=nen hk; have hla:=zA hk; clear hk)
   | (go_simp; go_wp2_with (go_at_call 140; (with_reducible refine Calls.mono (HEX.out _ F.out.rq) ?_); rintro e wq ⟨qk,qn,qs,qo,qd,qp,ql,qc,qa,qb,qr,qe,qf,rfl,hi,hr,hg⟩; have Hq:=vH hi; have hgrow0:=hg.size; have F4:=vH (F.out.call hr hg); clear hi hr hg hgrow0 a0 a1 a2 a3 a4 a5 a6 a7 a8 b0 b1 b2 b3 b4 b5 b6 b7 b8 hla; have hk:=(F4.out.keep _ vA).1; obtain ⟨⟨x0,x1,x2,x3,x4,x5,x6,x7,x8⟩,y0,y1,y2,y3,y4,y5,y6,y7,y8⟩:=nen hk; have hlx:=zA hk; clear hk)))
  all_goals clear F F4
  all_goals have F:=F5
  all_goals clear F5
  all_goals
   go_wp2_with fail
   clear a0 a1 a2 a3 a4 a5 a6 a7 a8 b0 b1 b2 b3 b4 b5 b6 b7 b8 hla
   replace F:=vH (F.out.put1 1 rfl 4 (.slice (some ⟨gg,0,none⟩) 1 cap) rfl)
   refine (zJ _ R 137 S _ ts _ F.out.rq.cu ⟨#[59]⟩).mono ?_
   rintro e u2 ⟨rfl,hc,hg⟩
   replace F:=vH (F.out.cur hc hg)
   clear hc hg
   have hk:=(F.out.keep _ vB).1
   obtain ⟨⟨a0,a1,a2,a3,a4,a5,a6,a7,a8⟩,b0,b1,b2,b3,b4,b5,b6,b7,b8⟩:=nen hk
   have hla:=zA hk
   clear hk
   have hk:=(F.out.keep _ vD).1
   obtain ⟨⟨d0,d1,d2,d3,d4,d5,d6,d7,d8⟩,g0,g1,g2,g3,g4,g5,g6,g7,g8⟩:=nen hk
   have hld:=zA hk
   clear hk
   go_wp2_with fail
   replace F:=vH (F.out.pw 3 rfl (.int .i64 3) (.string (cbs zs)) (.string ⟨#[]⟩) (.int .i64 0) (.slice (some ⟨gg,0,none⟩) 1 cap) (.slice none 0 0) (.slice none 0 0) (.int .i64 0) (.int .i64 0))
   have hown:=zIO HOWN.out (F.out.ag _ vA).1
   have hix:=Is.lower (Nat.le_trans hBw (F.out.ag _ vB).2) _ (Hq.out.ag (F.out.ag _ vB).1)
   have hkk:KidsAt _ B (some ⟨gg,0,none⟩) [x]:=KidsAt.own (l:=[x]) (vss:=[(exCells qk qn qs qo qd (.slice qp ql qc) qa qb qr qe qf)]) hown (Nat.le_trans hBw (F.out.ag _ vA).2) rfl (zLZ hix)
   exact bodyPost_ret (v:=.agg #[.int .i64 3,.string (cbs zs),.string ⟨#[]⟩,.int .i64 0,.slice (some ⟨gg,0,none⟩) 1 cap,.slice none 0 0,.slice none 0 0,.int .i64 0,.int .i64 0]) (by simp [results,Tryz.results129,go_sem,d0,d1,d2,d3,d4,d5,d6,d7,d8]) rfl ⟨3,zs,[],0,some ⟨gg,0,none⟩,1,cap,none,0,0,none,0,0,0,0,rfl,SIs.named (SIs.mk hkk SsAt.nil SsAt.nil 3 (Ps.nameOf e0) [] 0 0 0) hnm.out,F.out.rq,F.out.gr⟩
 by_cases h5:zk = 5
 ·subst h5
  obtain ⟨x,s3,hX⟩:∃ x s3,Ps.rd P (Ps.nxt s) = (x,s3):=⟨_,_,rfl⟩
  have HX:=vH hX
  rw [zDH (.inl hkd) hX]
  clear hX hkd he hP
  have hlt:=h.lt
  have HH:=vH h
  have F:=vH (((((Fr.of h).alloc (.cells #[.int .i64 5,.int .i64 zn,.string (cbs zs),.string (cbs zo),.int .i64 zd,.slice zp zl zc,.int .i64 za,.int .i64 zb,.int .i64 zr,.int .i64 ze,.int .i64 zf] 111)).alloc2 (.cells vS 90) (b:=w.heap.size + 1) (zB _ _)).alloc2 (.cells #[.int .i64 5,.int .i64 zn,.string (cbs zs),.string (cbs zo),.int .i64 zd,.slice zp zl zc,.int .i64 za,.int .i64 zb,.int .i64 zr,.int .i64 ze,.int .i64 zf] 111) (b:=w.heap.size + 1 + 1) (by simp only [zB])).alloc2 (.cells #[.int .i64 4,.string ⟨#[]⟩,.string ⟨#[]⟩,.int .i64 0,.slice (some ⟨w.heap.size + 1 + 1,0,none⟩) 1 1,.slice none 0 0,.slice none 0 0,.int .i64 0,.int .i64 0] 90) (b:=w.heap.size + 1 + 1 + 1) (by simp only [zB]))
  clear h
  go_in
  go_wp2_with fail
  have hn1:w.heap.size + 1 ≠ w.heap.size + 1 + 1 + 1:=by omega
  have hn2:=Ne.symm hn1
  have hn3:w.heap.size + 1 ≠ w.heap.size + 1 + 1:=by omega
  have hn4:=Ne.symm hn3
  have hn5:w.heap.size + 1 + 1 ≠ w.heap.size + 1 + 1 + 1:=by omega
  have hn6:=Ne.symm hn5
  refine (zL _ R 137 S _ ts _ F.out.rq.cu ).mono ?_
  rintro e u21 ⟨rfl,hc,hg⟩
  replace F:=vH (F.out.cur hc hg)
  clear hc hg
  go_wp2_with fail
  have hX:Ps.rd P ⟨next s.c,s.o⟩ = (x,s3):=HX.out
  have hex:=fun w1 hh => zT w1 R M1 M2 S ts ⟨next s.c,s.o⟩ hh P HP.out
  rw [hX] at hex
  have HEX:=vH hex
  clear hex hX
  obtain ⟨i0,hi0,hz0,hz1,hz2⟩:=info_parts zEY
  replace F:=vH (F.out.go (Below.refl _ _).drew)
  have hk:=(F.out.keep _ vA).1
  obtain ⟨⟨a0,a1,a2,a3,a4,a5,a6,a7,a8⟩,b0,b1,b2,b3,b4,b5,b6,b7,b8⟩:=nen hk
  have hla:=zA hk
  clear hk
  go_region_law (first
   | (refine step_append_grows rfl (.tmp 27) (.tmp 30) 88 rfl 111 i0 _ 11 120 Tryz.underlying88 hi0 hz0 hz1 hz2 rfl (by decide) (some ⟨w.heap.size + 1 + 1,0,none⟩) 1 1 (exCells 5 zn zs zo zd (.slice zp zl zc) za zb zr ze zf) (by simp [Act.eval]) (fun hh => by cases hh) rfl (fun b hb j u hu => by cases hb; exact zF6 (zE _ (F4.out.keep _ vB).1) rfl j u hu) ⟨wq.heap.size,0,none⟩ 1 1 (exCells qk qn qs qo qd (.slice qp ql qc) qa qb qr qe qf) (by simp [Act.eval]) rfl (zAy rfl rfl) (zCx _ _ _ _ _ _ _ _ _ _ _ _ _) (by decide) (by decide) (by decide) ?_; intro v' w8 hown hgrow; obtain ⟨gg,cap,hv⟩:=Joins.ownsRow_form hown (by decide); subst hv; have HOWN:=vH hown; have F5:=vH ((F4.out.alloc (.cells #[.int .i64 qk,.int .i64 qn,.string (cbs qs),.string (cbs qo),.int .i64 qd,.slice qp ql qc,.int .i64 qa,.int .i64 qb,.int .i64 qr,.int .i64 qe,.int .i64 qf] 111)).grown hgrow); clear hown hgrow x0 x1 x2 x3 x4 x5 x6 x7 x8 y0 y1 y2 y3 y4 y5 y6 y7 y8 hlx; have hk:=(F5.out.keep _ vB).1; obtain ⟨⟨a0,a1,a2,a3,a4,a5,a6,a7,a8⟩,b0,b1,b2,b3,b4,b5,b6,b7,b8⟩:=nen hk; have hla:=zA hk; clear hk)
   | (go_simp; go_wp2_with (go_at_call 140; (with_reducible refine Calls.mono (HEX.out _ F.out.rq) ?_); rintro e wq ⟨qk,qn,qs,qo,qd,qp,ql,qc,qa,qb,qr,qe,qf,rfl,hi,hr,hg⟩; have Hq:=vH hi; have hgrow0:=hg.size; have F4:=vH (F.out.call hr hg); clear hi hr hg hgrow0 a0 a1 a2 a3 a4 a5 a6 a7 a8 b0 b1 b2 b3 b4 b5 b6 b7 b8 hla; have hk:=(F4.out.keep _ vA).1; obtain ⟨⟨x0,x1,x2,x3,x4,x5,x6,x7,x8⟩,y0,y1,y2,y3,y4,y5,y6,y7,y8⟩:=nen hk; have hlx:=zA hk; clear hk)))
  all_goals clear F F4
  all_goals have F:=F5
  all_goals clear F5
  all_goals
   go_wp2_with fail
   clear a0 a1 a2 a3 a4 a5 a6 a7 a8 b0 b1 b2 b3 b4 b5 b6 b7 b8 hla
   replace F:=vH (F.out.put1 1 rfl 4 (.slice (some ⟨gg,0,none⟩) 2 cap) rfl)
   refine (zJ _ R 137 S _ ts _ F.out.rq.cu ⟨#[59]⟩).mono ?_
   rintro e u22 ⟨rfl,hc,hg⟩
   replace F:=vH (F.out.cur hc hg)
   clear hc hg
   have hk:=(F.out.keep _ vB).1
   obtain ⟨⟨a0,a1,a2,a3,a4,a5,a6,a7,a8⟩,b0,b1,b2,b3,b4,b5,b6,b7,b8⟩:=nen hk
   have hla:=zA hk
   clear hk
   have hk:=(F.out.keep _ vD).1
   obtain ⟨⟨d0,d1,d2,d3,d4,d5,d6,d7,d8⟩,g0,g1,g2,g3,g4,g5,g6,g7,g8⟩:=nen hk
   have hld:=zA hk
   clear hk
   go_wp2_with fail
   replace F:=vH (F.out.pw 3 rfl (.int .i64 4) (.string ⟨#[]⟩) (.string ⟨#[]⟩) (.int .i64 0) (.slice (some ⟨gg,0,none⟩) 2 cap) (.slice none 0 0) (.slice none 0 0) (.int .i64 0) (.int .i64 0))
   have hown:=zIO HOWN.out (F.out.ag _ vA).1
   have hix:=Is.lower (Nat.le_trans hBw (F.out.ag _ vB).2) _ (Hq.out.ag (F.out.ag _ vB).1)
   have hie:=Is.lower hB _ (HE.out.ag (Ag.gr F.out.gr hRB))
   have hkk:KidsAt _ B (some ⟨gg,0,none⟩) [e0,x]:=KidsAt.own (l:=[e0,x]) (vss:=[(exCells 5 zn zs zo zd (.slice zp zl zc) za zb zr ze zf),(exCells qk qn qs qo qd (.slice qp ql qc) qa qb qr qe qf)]) hown (Nat.le_trans hBw (F.out.ag _ vA).2) rfl (zFb hie hix)
   exact bodyPost_ret (v:=.agg #[.int .i64 4,.string ⟨#[]⟩,.string ⟨#[]⟩,.int .i64 0,.slice (some ⟨gg,0,none⟩) 2 cap,.slice none 0 0,.slice none 0 0,.int .i64 0,.int .i64 0]) (by simp [results,Tryz.results129,go_sem,d0,d1,d2,d3,d4,d5,d6,d7,d8]) rfl ⟨4,[],[],0,some ⟨gg,0,none⟩,2,cap,none,0,0,none,0,0,0,0,rfl,SIs.mk hkk SsAt.nil SsAt.nil 4 [] [] 0 0 0,F.out.rq,F.out.gr⟩
 by_cases h6:zk = 6
 ·subst h6
  obtain ⟨x,s3,hX⟩:∃ x s3,Ps.rd P (Ps.nxt s) = (x,s3):=⟨_,_,rfl⟩
  have HX:=vH hX
  rw [zDH (.inr hkd) hX]
  clear hX hkd he hP
  have hlt:=h.lt
  have HH:=vH h
  have F:=vH (((((Fr.of h).alloc (.cells #[.int .i64 6,.int .i64 zn,.string (cbs zs),.string (cbs zo),.int .i64 zd,.slice zp zl zc,.int .i64 za,.int .i64 zb,.int .i64 zr,.int .i64 ze,.int .i64 zf] 111)).alloc2 (.cells vS 90) (b:=w.heap.size + 1) (zB _ _)).alloc2 (.cells #[.int .i64 6,.int .i64 zn,.string (cbs zs),.string (cbs zo),.int .i64 zd,.slice zp zl zc,.int .i64 za,.int .i64 zb,.int .i64 zr,.int .i64 ze,.int .i64 zf] 111) (b:=w.heap.size + 1 + 1) (by simp only [zB])).alloc2 (.cells #[.int .i64 4,.string ⟨#[]⟩,.string ⟨#[]⟩,.int .i64 0,.slice (some ⟨w.heap.size + 1 + 1,0,none⟩) 1 1,.slice none 0 0,.slice none 0 0,.int .i64 0,.int .i64 0] 90) (b:=w.heap.size + 1 + 1 + 1) (by simp only [zB]))
  clear h
  go_in
  go_wp2_with fail
  have hn1:w.heap.size + 1 ≠ w.heap.size + 1 + 1 + 1:=by omega
  have hn2:=Ne.symm hn1
  have hn3:w.heap.size + 1 ≠ w.heap.size + 1 + 1:=by omega
  have hn4:=Ne.symm hn3
  have hn5:w.heap.size + 1 + 1 ≠ w.heap.size + 1 + 1 + 1:=by omega
  have hn6:=Ne.symm hn5
  refine (zL _ R 137 S _ ts _ F.out.rq.cu ).mono ?_
  rintro e u41 ⟨rfl,hc,hg⟩
  replace F:=vH (F.out.cur hc hg)
  clear hc hg
  go_wp2_with fail
  have hX:Ps.rd P ⟨next s.c,s.o⟩ = (x,s3):=HX.out
  have hex:=fun w1 hh => zT w1 R M1 M2 S ts ⟨next s.c,s.o⟩ hh P HP.out
  rw [hX] at hex
  have HEX:=vH hex
  clear hex hX
  obtain ⟨i0,hi0,hz0,hz1,hz2⟩:=info_parts zEY
  replace F:=vH (F.out.go (Below.refl _ _).drew)
  have hk:=(F.out.keep _ vA).1
  obtain ⟨⟨a0,a1,a2,a3,a4,a5,a6,a7,a8⟩,b0,b1,b2,b3,b4,b5,b6,b7,b8⟩:=nen hk
  have hla:=zA hk
  clear hk
  go_region_law (first
   | (refine step_append_grows rfl (.tmp 27) (.tmp 30) 88 rfl 111 i0 _ 11 120 Tryz.underlying88 hi0 hz0 hz1 hz2 rfl (by decide) (some ⟨w.heap.size + 1 + 1,0,none⟩) 1 1 (exCells 6 zn zs zo zd (.slice zp zl zc) za zb zr ze zf) (by simp [Act.eval]) (fun hh => by cases hh) rfl (fun b hb j u hu => by cases hb; exact zF6 (zE _ (F4.out.keep _ vB).1) rfl j u hu) ⟨wq.heap.size,0,none⟩ 1 1 (exCells qk qn qs qo qd (.slice qp ql qc) qa qb qr qe qf) (by simp [Act.eval]) rfl (zAy rfl rfl) (zCx _ _ _ _ _ _ _ _ _ _ _ _ _) (by decide) (by decide) (by decide) ?_; intro v' w8 hown hgrow; obtain ⟨gg,cap,hv⟩:=Joins.ownsRow_form hown (by decide); subst hv; have HOWN:=vH hown; have F5:=vH ((F4.out.alloc (.cells #[.int .i64 qk,.int .i64 qn,.string (cbs qs),.string (cbs qo),.int .i64 qd,.slice qp ql qc,.int .i64 qa,.int .i64 qb,.int .i64 qr,.int .i64 qe,.int .i64 qf] 111)).grown hgrow); clear hown hgrow x0 x1 x2 x3 x4 x5 x6 x7 x8 y0 y1 y2 y3 y4 y5 y6 y7 y8 hlx; have hk:=(F5.out.keep _ vB).1; obtain ⟨⟨a0,a1,a2,a3,a4,a5,a6,a7,a8⟩,b0,b1,b2,b3,b4,b5,b6,b7,b8⟩:=nen hk; have hla:=zA hk; clear hk)
   | (go_simp; go_wp2_with (go_at_call 140; (with_reducible refine Calls.mono (HEX.out _ F.out.rq) ?_); rintro e wq ⟨qk,qn,qs,qo,qd,qp,ql,qc,qa,qb,qr,qe,qf,rfl,hi,hr,hg⟩; have Hq:=vH hi; have hgrow0:=hg.size; have F4:=vH (F.out.call hr hg); clear hi hr hg hgrow0 a0 a1 a2 a3 a4 a5 a6 a7 a8 b0 b1 b2 b3 b4 b5 b6 b7 b8 hla; have hk:=(F4.out.keep _ vA).1; obtain ⟨⟨x0,x1,x2,x3,x4,x5,x6,x7,x8⟩,y0,y1,y2,y3,y4,y5,y6,y7,y8⟩:=nen hk; have hlx:=zA hk; clear hk)))
  all_goals clear F F4
  all_goals have F:=F5
  all_goals clear F5
  all_goals
   go_wp2_with fail
   clear a0 a1 a2 a3 a4 a5 a6 a7 a8 b0 b1 b2 b3 b4 b5 b6 b7 b8 hla
   replace F:=vH (F.out.put1 1 rfl 4 (.slice (some ⟨gg,0,none⟩) 2 cap) rfl)
   refine (zJ _ R 137 S _ ts _ F.out.rq.cu ⟨#[59]⟩).mono ?_
   rintro e u42 ⟨rfl,hc,hg⟩
   replace F:=vH (F.out.cur hc hg)
   clear hc hg
   have hk:=(F.out.keep _ vB).1
   obtain ⟨⟨a0,a1,a2,a3,a4,a5,a6,a7,a8⟩,b0,b1,b2,b3,b4,b5,b6,b7,b8⟩:=nen hk
   have hla:=zA hk
   clear hk
   have hk:=(F.out.keep _ vD).1
   obtain ⟨⟨d0,d1,d2,d3,d4,d5,d6,d7,d8⟩,g0,g1,g2,g3,g4,g5,g6,g7,g8⟩:=nen hk
   have hld:=zA hk
   clear hk
   go_wp2_with fail
   replace F:=vH (F.out.pw 3 rfl (.int .i64 4) (.string ⟨#[]⟩) (.string ⟨#[]⟩) (.int .i64 0) (.slice (some ⟨gg,0,none⟩) 2 cap) (.slice none 0 0) (.slice none 0 0) (.int .i64 0) (.int .i64 0))
   have hown:=zIO HOWN.out (F.out.ag _ vA).1
   have hix:=Is.lower (Nat.le_trans hBw (F.out.ag _ vB).2) _ (Hq.out.ag (F.out.ag _ vB).1)
   have hie:=Is.lower hB _ (HE.out.ag (Ag.gr F.out.gr hRB))
   have hkk:KidsAt _ B (some ⟨gg,0,none⟩) [e0,x]:=KidsAt.own (l:=[e0,x]) (vss:=[(exCells 6 zn zs zo zd (.slice zp zl zc) za zb zr ze zf),(exCells qk qn qs qo qd (.slice qp ql qc) qa qb qr qe qf)]) hown (Nat.le_trans hBw (F.out.ag _ vA).2) rfl (zFb hie hix)
   exact bodyPost_ret (v:=.agg #[.int .i64 4,.string ⟨#[]⟩,.string ⟨#[]⟩,.int .i64 0,.slice (some ⟨gg,0,none⟩) 2 cap,.slice none 0 0,.slice none 0 0,.int .i64 0,.int .i64 0]) (by simp [results,Tryz.results129,go_sem,d0,d1,d2,d3,d4,d5,d6,d7,d8]) rfl ⟨4,[],[],0,some ⟨gg,0,none⟩,2,cap,none,0,0,none,0,0,0,0,rfl,SIs.mk hkk SsAt.nil SsAt.nil 4 [] [] 0 0 0,F.out.rq,F.out.gr⟩
 rw [zJv (fun hh => h4 (hkd.symm.trans hh)) (fun hh => h5 (hkd.symm.trans hh)) (fun hh => h6 (hkd.symm.trans hh))]
 have g4:(zk == 4) = false:=by simpa using h4
 have g5:(zk == 5) = false:=by simpa using h5
 have g6:(zk == 6) = false:=by simpa using h6
 clear hkd he h4 h5 h6 hP
 have hlt:=h.lt
 have HH:=vH h
 have F:=vH (((((Fr.of h).alloc (.cells #[.int .i64 zk,.int .i64 zn,.string (cbs zs),.string (cbs zo),.int .i64 zd,.slice zp zl zc,.int .i64 za,.int .i64 zb,.int .i64 zr,.int .i64 ze,.int .i64 zf] 111)).alloc2 (.cells vS 90) (b:=w.heap.size + 1) (zB _ _)).alloc2 (.cells #[.int .i64 zk,.int .i64 zn,.string (cbs zs),.string (cbs zo),.int .i64 zd,.slice zp zl zc,.int .i64 za,.int .i64 zb,.int .i64 zr,.int .i64 ze,.int .i64 zf] 111) (b:=w.heap.size + 1 + 1) (by simp only [zB])).alloc2 (.cells #[.int .i64 4,.string ⟨#[]⟩,.string ⟨#[]⟩,.int .i64 0,.slice (some ⟨w.heap.size + 1 + 1,0,none⟩) 1 1,.slice none 0 0,.slice none 0 0,.int .i64 0,.int .i64 0] 90) (b:=w.heap.size + 1 + 1 + 1) (by simp only [zB]))
 clear h
 go_in
 go_wp2_with fail
 have hn1:w.heap.size + 1 ≠ w.heap.size + 1 + 1 + 1:=by omega
 have hn2:=Ne.symm hn1
 have hn3:w.heap.size + 1 ≠ w.heap.size + 1 + 1:=by omega
 have hn4:=Ne.symm hn3
 have hn5:w.heap.size + 1 + 1 ≠ w.heap.size + 1 + 1 + 1:=by omega
 have hn6:=Ne.symm hn5
 refine (zAS _ R M1 M2 S ts _ F.out.rq).mono ?_
 rintro e u61 ⟨sk,sn,so,sd,sep,sel,sec,sbp,sbl,sbc,slp,sll,slc,sa,sr,rfl,hi,hr,hg⟩
 have Hst:=vH hi
 replace F:=vH (F.out.call hr hg)
 clear hi hr hg
 have hk:=(F.out.keep _ vC).1
 obtain ⟨⟨d0,d1,d2,d3,d4,d5,d6,d7,d8⟩,g0,g1,g2,g3,g4,g5,g6,g7,g8⟩:=nen hk
 have hld:=zA hk
 clear hk
 go_wp2_with fail
 replace F:=vH (F.out.pw 2 rfl (.int .i64 sk) (.string (cbs sn)) (.string (cbs so)) (.int .i64 sd) (.slice sep sel sec) (.slice sbp sbl sbc) (.slice slp sll slc) (.int .i64 sa) (.int .i64 sr))
 exact bodyPost_ret (v:=.agg #[.int .i64 sk,.string (cbs sn),.string (cbs so),.int .i64 sd,.slice sep sel sec,.slice sbp sbl sbc,.slice slp sll slc,.int .i64 sa,.int .i64 sr]) (by simp [results,Tryz.results129,go_sem,d0,d1,d2,d3,d4,d5,d6,d7,d8]) rfl ⟨sk,sn,so,sd,sep,sel,sec,sbp,sbl,sbc,slp,sll,slc,sa,sr,rfl,SIs.lower hBw _ (SIs.lower (F.out.ag _ vA).2 _ (SIs.ag (F.out.ag _ vA).1 _ Hst.out)),F.out.rq,F.out.gr⟩
end Go.Proofs.YtipmjjfknhblnaaGreatDoor
