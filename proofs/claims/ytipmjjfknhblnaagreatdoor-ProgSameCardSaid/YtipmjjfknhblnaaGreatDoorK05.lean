/-
  The contracts of the project's cursor over tokens, fifth par
-/
import Derived.Test.YtipmjjfknhblnaaGreatDoorK04
import Derived.Test.YtipmjjfknhblnaaGreatDoorK02
import Derived.Deep.RegionWith
import Derived.Maps.Keyed
set_option maxHeartbeats 8000000
namespace Go.Proofs.YtipmjjfknhblnaaGreatDoor
open Go.RowKit
open Px (RT tokAt)
open Pe
theorem Gr.fresh {R:Nat}{w w':World}(h:Gr R w w')(hR:w.heap.size ≤ R):Below w.heap.size w w':=⟨h.os,h.tape,h.output,h.size,fun i hi => h.block i hi (by omega)⟩
theorem Toks.re {w:World}{R R2:Nat}{S:Value}{ts:List RT}(h:Toks w R S ts)(hR:w.heap.size ≤ R2):Toks w R2 S ts:=by
 obtain ⟨p,n,c,hS,hn,hm⟩:=h.val
 refine ⟨⟨p,n,c,hS,hn,?_⟩,h.short⟩
 rcases hm with h0 | ⟨b,off,hp,hb,-,hc⟩
 ·exact .inl h0
 ·exact .inr ⟨b,off,hp,hb,by omega,hc⟩
theorem Toks.below {w w':World}{R:Nat}{S:Value}{ts:List RT}(h:Toks w R S ts)(hb:Below w.heap.size w w'):Toks w' R S ts:=h.gr (Gr.of hb)
theorem Toks.slice {w:World}{R:Nat}{S:Value}{ts:List RT}(h:Toks w R S ts):∃ p n c,S = .slice p n c:=by
 obtain ⟨p,n,c,hS,-,-⟩:=h.val
 exact ⟨p,n,c,hS⟩
theorem zFH (w:World)(p:Option Addr)(n c:Nat)(k:Int) :
 Calls Tryz.prog 12 #[.slice p n c,.int .i64 k] w fun e w' => e = .returned (.agg #[.slice p n c,.int .i64 k,.int .i64 0,.int .i64 0]) ∧ Below w.heap.size w w':=by
 go_in
 go_wp2_with fail
 refine bodyPost_ret (v:=.agg #[.slice p n c,.int .i64 k,.int .i64 0,.int .i64 0]) (by simp [results,Tryz.results12,go_sem]) rfl ⟨rfl,?_⟩
 exact (Below.refl _ _).alloc (Nat.le_refl _) _
theorem zBK (w:World)(R0:Nat)(S:Value)(ts:List RT)(k:Int)(h:Toks w R0 S ts) :
 Calls Tryz.prog 68 #[S,.int .i64 k] w fun e w' => e = .returned (.tuple #[.agg #[.string (cbs (ofAns ts k).1),.int .i64 (ofAns ts k).2.1],.int .i64 (ofAns ts k).2.2.1,.agg #[.int .i64 (ofAns ts k).2.2.2.1,.int .i64 (ofAns ts k).2.2.2.2]]) ∧ Below w.heap.size w w':=by
 obtain ⟨p,n,c,rfl⟩:=h.slice
 have HH:=vH (h.re (Nat.le_refl _))
 clear h
 unfold ofAns
 obtain ⟨wa,hwa⟩:∃ wa,wa = ((w.alloc (.cells vO 59)).alloc (.cells vF 29)):=⟨_,rfl⟩
 have hbA:Below w.heap.size w wa:=by rw [hwa]; exact ((Below.refl _ _).alloc (Nat.le_refl _) _).alloc (by rw [zB]; omega) _
 have hkA:wa.heap[w.heap.size]? = some (.cells vO 59 (0,0)):=by rw [hwa]; exact zE _ (heap_alloc_new w _)
 have hkB:wa.heap[w.heap.size + 1]? = some (.cells vF 29 (0,0)):=by rw [hwa]; have:=heap_alloc_new (w.alloc (.cells vO 59)) (.cells vF 29); rw [zB] at this; exact this
 have HBA:=vH hbA
 have HKA:=vH hkA
 have HKB:=vH hkB
 clear hbA hkA hkB
 go_in
 go_wp2_with fail
 rw [← hwa]
 refine (zFH _ p n c k).mono ?_
 rintro e w1 ⟨rfl,hb1⟩
 have HB1:=vH (zC HBA.out hb1 HBA.out.size)
 have HKA1:=vH ((Gr.of (R:=wa.heap.size) hb1).box HKA.out (Nat.ne_of_lt (zA HKA.out)))
 have HKB1:=vH ((Gr.of (R:=wa.heap.size) hb1).box HKB.out (Nat.ne_of_lt (zA HKB.out)))
 clear hb1 HKA HKB hwa HBA
 obtain ⟨nm,d,s2,hrt⟩:∃ nm d s2,readType ts ⟨k,0,0⟩ = (nm,d,s2):=⟨_,_,_,rfl⟩
 have HRT:=vH hrt
 clear hrt
 have hcu:Cu (w1.alloc (.cells #[.slice p n c,.int .i64 k,.int .i64 0,.int .i64 0] 40)) w1.heap.size 40 (.slice p n c) [] ts ⟨k,0,0⟩:=
  ⟨heap_alloc_new w1 _,((HH.out.below HB1.out).re (Nat.le_refl _)).gr (Gr.alloc (Gr.refl _ _) _)⟩
 have HCU:=vH hcu
 clear hcu
 go_wp2_with fail
 refine (zBv _ w1.heap.size 40 (.slice p n c) [] ts ⟨k,0,0⟩ HCU.out).mono ?_
 rw [HRT.out]
 dsimp only
 rintro e w2 ⟨rfl,hr2,hg2⟩
 have hg1:=(Gr.alloc (Gr.refl w1.heap.size w1) (.cells #[.slice p n c,.int .i64 k,.int .i64 0,.int .i64 0] 40)).trans hg2
 have HB2:=vH (zC HB1.out (hg1.fresh (Nat.le_refl _)) HB1.out.size)
 have HKA2:=vH (hg1.box HKA1.out (Nat.ne_of_lt (zA HKA1.out)))
 have HKB2:=vH (hg1.box HKB1.out (Nat.ne_of_lt (zA HKB1.out)))
 have HR2:=vH hr2
 clear hr2 hg2 hg1 HKA1 HKB1 HCU
 go_wp2_with fail
 refine (zEz _ w1.heap.size 40 (.slice p n c) [] ts s2 HR2.out (cbs nm) (d:Nat)).mono ?_
 rintro e w3 ⟨rfl,hb3⟩
 have HB3:=vH (zC HB2.out hb3 HB2.out.size)
 obtain ⟨⟨a0,a1⟩,⟨f0,f1⟩,hlA⟩:=duo ((Gr.of (R:=w2.heap.size) hb3).box HKA2.out (Nat.ne_of_lt (zA HKA2.out)))
 obtain ⟨⟨b0,b1⟩,⟨g0,g1⟩,hlB⟩:=duo ((Gr.of (R:=w2.heap.size) hb3).box HKB2.out (Nat.ne_of_lt (zA HKB2.out)))
 clear hb3
 obtain ⟨k2,E2,F2⟩:=s2
 by_cases hE:E2 = 0
 ·subst hE
  rw [show ends ⟨k2,0,F2⟩ = (k2,0,0) from rfl]
  dsimp only
  rw [if_pos rfl]
  go_wp2_with fail
  refine bodyPost_ret (v:=.tuple #[.agg #[.string (cbs nm),.int .i64 (d:Nat)],.int .i64 k2,.agg #[.int .i64 0,.int .i64 0]]) (by simp [results,Tryz.results68,go_sem,a0,a1,b0,b1]) rfl ⟨by rw [HRT.out]; rfl,?_⟩
  repeat (refine zO ?_ (by omega))
  exact HB3.out
 ·rw [show ends ⟨k2,E2,F2⟩ = (0,E2,F2) from if_neg hE]
  dsimp only
  rw [if_neg hE]
  have HE:=vH hE
  clear hE
  go_wp2_with fail
  refine bodyPost_ret (v:=.tuple #[.agg #[.string ⟨#[]⟩,.int .i64 0],.int .i64 0,.agg #[.int .i64 E2,.int .i64 F2]]) (by simp [results,Tryz.results68,go_sem,a0,a1,b0,b1]) rfl ⟨by rw [HRT.out,ofEnd,if_neg HE.out]; rfl,?_⟩
  repeat (refine zO ?_ (by omega))
  exact HB3.out
def rp (R:Nat):Value:=.pointer (some ⟨R,0,none⟩)
def mapKind (R:Nat):Array MapEntry:=#[⟨.int .i64 2,.func (.func 164) #[.pointer (some ⟨R,0,none⟩)] #[],0⟩,⟨.int .i64 1,.func (.func 165) #[.pointer (some ⟨R,0,none⟩)] #[],1⟩,⟨.int .i64 3,.func (.func 166) #[.pointer (some ⟨R,0,none⟩)] #[],2⟩,⟨.int .i64 4,.func (.func 167) #[.pointer (some ⟨R,0,none⟩)] #[],3⟩]
def mapWord:Array MapEntry:=#[⟨.string ⟨#[116,114,117,101]⟩,.func (.func 168) #[] #[],0⟩,⟨.string ⟨#[102,97,108,115,101]⟩,.func (.func 168) #[] #[],1⟩,⟨.string ⟨#[110,117,108,108]⟩,.func (.func 169) #[] #[],2⟩,⟨.string ⟨#[110,101,119]⟩,.func (.func 170) #[] #[],3⟩,⟨.string ⟨#[108,101,110]⟩,.func (.func 171) #[] #[],4⟩,⟨.string ⟨#[114,101,97,100]⟩,.func (.func 172) #[] #[],5⟩]
def mapSuffix:Array MapEntry:=#[⟨.string ⟨#[46]⟩,.func (.func 173) #[] #[],0⟩,⟨.string ⟨#[91]⟩,.func (.func 174) #[] #[],1⟩]
theorem zAU (t:TypeId)(w:World):(Instr.makeMap t none).run Tryz.prog w = .ok (.map (some w.heap.size)) (w.alloc (.map #[] 0)):=rfl
theorem zJ8 (h:Array Obj)(a b:Obj):(h.push a).setIfInBounds h.size b = h.push b:=by
 apply Array.ext_getElem?
 intro k
 rw [Array.getElem?_setIfInBounds,Array.getElem?_push,Array.getElem?_push,Array.size_push]
 by_cases hk:h.size = k
 ·subst hk; simp
 ·simp [hk,Ne.symm hk]
theorem zQ (s:ByteArray):MapKept.IsKey .string (.string s):=trivial
theorem zBo (k:Int):MapKept.IsKey (.int .i64) (.int .i64 k):=rfl
theorem zD5 {k:TypeId}{d:TypeDesc}(hd:Tryz.prog.underlying k = some d){key:Value}{es:List MapEntry}{r:Option (Nat × Value)}(h:Instr.findNow d key es 0 = some r)(w:World):(Instr.findKey k key es).run Tryz.prog w = .ok r w:=by
 unfold Instr.findKey
 simp [run_underlying hd,h,Result.andThen]
theorem zAk {t k e:TypeId}{d:TypeDesc}(ht:Tryz.prog.underlying t = some (.map k e))(hd:Tryz.prog.underlying k = some d){key:Value}(hk:MapKept.IsKey d key)(v:Value)(w:World)(es es2:Array MapEntry)(n n2:Nat)
 (h:Instr.findNow d key es.toList 0 = some none) (h2:es2 = es.push ⟨key,v,n⟩) (h3:n2 = n + 1) :
 (Instr.mapUpdate t (.map (some w.heap.size)) key v).run Tryz.prog (w.alloc (.map es n)) = .ok () (w.alloc (.map es2 n2)):=by
 subst h2 h3
 have hb:(w.alloc (.map es n)).heap[w.heap.size]? = some (.map es n):=heap_alloc_new w _
 simp only [Instr.mapUpdate,Sem.run_bind,run_underlying ht,MapKept.run_getObj_map hb,MapKept.run_checkKey hd hk,zD5 hd h,MapKept.run_setObj_map _ hb,Result.andThen]
 unfold World.alloc
 rw [zJ8]
theorem zZ {t k e:TypeId}{d:TypeDesc}(ht:Tryz.prog.underlying t = some (.map k e))(hd:Tryz.prog.underlying k = some d){key:Value}(hk:MapKept.IsKey d key){w:World}{M:Nat}{es:Array MapEntry}{n:Nat}(hb:w.heap[M]? = some (.map es n))
 {i:Nat} {v:Value} (h:Instr.findNow d key es.toList 0 = some (some (i,v))) :
 (Instr.lookup t (.map (some M)) key true).run Tryz.prog w = .ok (.tuple #[v,.bool true]) w:=by
 simp [Instr.lookup,run_underlying ht,MapKept.run_getObj_map hb,MapKept.run_checkKey hd hk,zD5 hd h,Result.andThen]
theorem zBw {t k e:TypeId}{d:TypeDesc}(ht:Tryz.prog.underlying t = some (.map k e))(hd:Tryz.prog.underlying k = some d){key:Value}(hk:MapKept.IsKey d key){w:World}{M:Nat}{es:Array MapEntry}{n:Nat}(hb:w.heap[M]? = some (.map es n))
 (h:Instr.findNow d key es.toList 0 = some none) {z:Value} (hz:(zeroValue e).run Tryz.prog w = .ok z w) :
 (Instr.lookup t (.map (some M)) key true).run Tryz.prog w = .ok (.tuple #[z,.bool false]) w:=by
 simp [Instr.lookup,run_underlying ht,MapKept.run_getObj_map hb,MapKept.run_checkKey hd hk,zD5 hd h,hz,Result.andThen]
theorem zCF (R:Nat)(k:Int)(v:Value)(h:(k = 1 ∧ v = .func (.func 165) #[.pointer (some ⟨R,0,none⟩)] #[]) ∨ (k = 2 ∧ v = .func (.func 164) #[.pointer (some ⟨R,0,none⟩)] #[]) ∨ (k = 3 ∧ v = .func (.func 166) #[.pointer (some ⟨R,0,none⟩)] #[]) ∨ (k = 4 ∧ v = .func (.func 167) #[.pointer (some ⟨R,0,none⟩)] #[]))
 {w:World} {M:Nat} (hb:w.heap[M]? = some (.map (mapKind R) 4)) :
 (Instr.lookup 188 (.map (some M)) (.int .i64 k) true).run Tryz.prog w = .ok (.tuple #[v,.bool true]) w:=by
 rcases h with ⟨rfl,rfl⟩ | ⟨rfl,rfl⟩ | ⟨rfl,rfl⟩ | ⟨rfl,rfl⟩
 ·exact zZ (i:=1) Tryz.underlying188 Tryz.underlying3 (zBo _) hb rfl
 ·exact zZ (i:=0) Tryz.underlying188 Tryz.underlying3 (zBo _) hb rfl
 ·exact zZ (i:=2) Tryz.underlying188 Tryz.underlying3 (zBo _) hb rfl
 ·exact zZ (i:=3) Tryz.underlying188 Tryz.underlying3 (zBo _) hb rfl
theorem zI1 (R:Nat)(k:Int)(h1:k ≠ 1)(h2:k ≠ 2)(h3:k ≠ 3)(h4:k ≠ 4){w:World}{M:Nat}(hb:w.heap[M]? = some (.map (mapKind R) 4)) :
 (Instr.lookup 188 (.map (some M)) (.int .i64 k) true).run Tryz.prog w = .ok (.tuple #[.nilFunc,.bool false]) w:=by
 refine zBw Tryz.underlying188 Tryz.underlying3 (zBo _) hb ?_ (by kernel_rfl)
 have e1:(k == 1) = false:=by simpa using h1
 have e2:(k == 2) = false:=by simpa using h2
 have e3:(k == 3) = false:=by simpa using h3
 have e4:(k == 4) = false:=by simpa using h4
 simp only [mapKind,Instr.findNow,Instr.sameNow,e1,e2,e3,e4,if_true]
theorem zCL (w:World)(R:Nat) :
 Calls Tryz.prog 158 #[.pointer (some ⟨R,0,none⟩)] w fun e w' => e = .returned (.map (some w.heap.size)) ∧ w' = w.alloc (.map (mapKind R) 4):=by
 have h0:=fun w => zAU 188 w
 have h1:=zAk Tryz.underlying188 Tryz.underlying3 (key:=.int .i64 2) (zBo _) (.func (.func 164) #[.pointer (some ⟨R,0,none⟩)] #[]) w #[] #[⟨.int .i64 2,.func (.func 164) #[.pointer (some ⟨R,0,none⟩)] #[],0⟩] 0 1 rfl rfl rfl
 have h2:=zAk Tryz.underlying188 Tryz.underlying3 (key:=.int .i64 1) (zBo _) (.func (.func 165) #[.pointer (some ⟨R,0,none⟩)] #[]) w #[⟨.int .i64 2,.func (.func 164) #[.pointer (some ⟨R,0,none⟩)] #[],0⟩] #[⟨.int .i64 2,.func (.func 164) #[.pointer (some ⟨R,0,none⟩)] #[],0⟩,⟨.int .i64 1,.func (.func 165) #[.pointer (some ⟨R,0,none⟩)] #[],1⟩] 1 2 rfl rfl rfl
 have h3:=zAk Tryz.underlying188 Tryz.underlying3 (key:=.int .i64 3) (zBo _) (.func (.func 166) #[.pointer (some ⟨R,0,none⟩)] #[]) w #[⟨.int .i64 2,.func (.func 164) #[.pointer (some ⟨R,0,none⟩)] #[],0⟩,⟨.int .i64 1,.func (.func 165) #[.pointer (some ⟨R,0,none⟩)] #[],1⟩] #[⟨.int .i64 2,.func (.func 164) #[.pointer (some ⟨R,0,none⟩)] #[],0⟩,⟨.int .i64 1,.func (.func 165) #[.pointer (some ⟨R,0,none⟩)] #[],1⟩,⟨.int .i64 3,.func (.func 166) #[.pointer (some ⟨R,0,none⟩)] #[],2⟩] 2 3 rfl rfl rfl
 have h4:=zAk Tryz.underlying188 Tryz.underlying3 (key:=.int .i64 4) (zBo _) (.func (.func 167) #[.pointer (some ⟨R,0,none⟩)] #[]) w #[⟨.int .i64 2,.func (.func 164) #[.pointer (some ⟨R,0,none⟩)] #[],0⟩,⟨.int .i64 1,.func (.func 165) #[.pointer (some ⟨R,0,none⟩)] #[],1⟩,⟨.int .i64 3,.func (.func 166) #[.pointer (some ⟨R,0,none⟩)] #[],2⟩] #[⟨.int .i64 2,.func (.func 164) #[.pointer (some ⟨R,0,none⟩)] #[],0⟩,⟨.int .i64 1,.func (.func 165) #[.pointer (some ⟨R,0,none⟩)] #[],1⟩,⟨.int .i64 3,.func (.func 166) #[.pointer (some ⟨R,0,none⟩)] #[],2⟩,⟨.int .i64 4,.func (.func 167) #[.pointer (some ⟨R,0,none⟩)] #[],3⟩] 3 4 rfl rfl rfl
 have hf:∀ k w,(Instr.makeFunc (.func k) #[.pointer (some ⟨R,0,none⟩)] #[]).run Tryz.prog w = .ok (.func (.func k) #[.pointer (some ⟨R,0,none⟩)] #[]) w:=fun _ _ => rfl
 go_in
 go_wp2_with fail
 go_ret
 exact ⟨rfl,rfl⟩
theorem zCK (w:World) :
 Calls Tryz.prog 159 #[] w fun e w' => e = .returned (.map (some w.heap.size)) ∧ w' = w.alloc (.map mapWord 6):=by
 have h0:=fun w => zAU 189 w
 have h1:=zAk Tryz.underlying189 Tryz.underlying9 (key:=.string ⟨#[116,114,117,101]⟩) (zQ _) (.func (.func 168) #[] #[]) w #[] #[⟨.string ⟨#[116,114,117,101]⟩,.func (.func 168) #[] #[],0⟩] 0 1 rfl rfl rfl
 have h2:=zAk Tryz.underlying189 Tryz.underlying9 (key:=.string ⟨#[102,97,108,115,101]⟩) (zQ _) (.func (.func 168) #[] #[]) w #[⟨.string ⟨#[116,114,117,101]⟩,.func (.func 168) #[] #[],0⟩] #[⟨.string ⟨#[116,114,117,101]⟩,.func (.func 168) #[] #[],0⟩,⟨.string ⟨#[102,97,108,115,101]⟩,.func (.func 168) #[] #[],1⟩] 1 2 rfl rfl rfl
 have h3:=zAk Tryz.underlying189 Tryz.underlying9 (key:=.string ⟨#[110,117,108,108]⟩) (zQ _) (.func (.func 169) #[] #[]) w #[⟨.string ⟨#[116,114,117,101]⟩,.func (.func 168) #[] #[],0⟩,⟨.string ⟨#[102,97,108,115,101]⟩,.func (.func 168) #[] #[],1⟩] #[⟨.string ⟨#[116,114,117,101]⟩,.func (.func 168) #[] #[],0⟩,⟨.string ⟨#[102,97,108,115,101]⟩,.func (.func 168) #[] #[],1⟩,⟨.string ⟨#[110,117,108,108]⟩,.func (.func 169) #[] #[],2⟩] 2 3 rfl rfl rfl
 have h4:=zAk Tryz.underlying189 Tryz.underlying9 (key:=.string ⟨#[110,101,119]⟩) (zQ _) (.func (.func 170) #[] #[]) w #[⟨.string ⟨#[116,114,117,101]⟩,.func (.func 168) #[] #[],0⟩,⟨.string ⟨#[102,97,108,115,101]⟩,.func (.func 168) #[] #[],1⟩,⟨.string ⟨#[110,117,108,108]⟩,.func (.func 169) #[] #[],2⟩] #[⟨.string ⟨#[116,114,117,101]⟩,.func (.func 168) #[] #[],0⟩,⟨.string ⟨#[102,97,108,115,101]⟩,.func (.func 168) #[] #[],1⟩,⟨.string ⟨#[110,117,108,108]⟩,.func (.func 169) #[] #[],2⟩,⟨.string ⟨#[110,101,119]⟩,.func (.func 170) #[] #[],3⟩] 3 4 rfl rfl rfl
 have h5:=zAk Tryz.underlying189 Tryz.underlying9 (key:=.string ⟨#[108,101,110]⟩) (zQ _) (.func (.func 171) #[] #[]) w #[⟨.string ⟨#[116,114,117,101]⟩,.func (.func 168) #[] #[],0⟩,⟨.string ⟨#[102,97,108,115,101]⟩,.func (.func 168) #[] #[],1⟩,⟨.string ⟨#[110,117,108,108]⟩,.func (.func 169) #[] #[],2⟩,⟨.string ⟨#[110,101,119]⟩,.func (.func 170) #[] #[],3⟩] #[⟨.string ⟨#[116,114,117,101]⟩,.func (.func 168) #[] #[],0⟩,⟨.string ⟨#[102,97,108,115,101]⟩,.func (.func 168) #[] #[],1⟩,⟨.string ⟨#[110,117,108,108]⟩,.func (.func 169) #[] #[],2⟩,⟨.string ⟨#[110,101,119]⟩,.func (.func 170) #[] #[],3⟩,⟨.string ⟨#[108,101,110]⟩,.func (.func 171) #[] #[],4⟩] 4 5 rfl rfl rfl
 have h6:=zAk Tryz.underlying189 Tryz.underlying9 (key:=.string ⟨#[114,101,97,100]⟩) (zQ _) (.func (.func 172) #[] #[]) w #[⟨.string ⟨#[116,114,117,101]⟩,.func (.func 168) #[] #[],0⟩,⟨.string ⟨#[102,97,108,115,101]⟩,.func (.func 168) #[] #[],1⟩,⟨.string ⟨#[110,117,108,108]⟩,.func (.func 169) #[] #[],2⟩,⟨.string ⟨#[110,101,119]⟩,.func (.func 170) #[] #[],3⟩,⟨.string ⟨#[108,101,110]⟩,.func (.func 171) #[] #[],4⟩] #[⟨.string ⟨#[116,114,117,101]⟩,.func (.func 168) #[] #[],0⟩,⟨.string ⟨#[102,97,108,115,101]⟩,.func (.func 168) #[] #[],1⟩,⟨.string ⟨#[110,117,108,108]⟩,.func (.func 169) #[] #[],2⟩,⟨.string ⟨#[110,101,119]⟩,.func (.func 170) #[] #[],3⟩,⟨.string ⟨#[108,101,110]⟩,.func (.func 171) #[] #[],4⟩,⟨.string ⟨#[114,101,97,100]⟩,.func (.func 172) #[] #[],5⟩] 5 6 rfl rfl rfl
 go_in
 go_wp2_with fail
 go_ret
 exact ⟨rfl,rfl⟩
theorem zB8 (w:World) :
 Calls Tryz.prog 160 #[] w fun e w' => e = .returned (.map (some w.heap.size)) ∧ w' = w.alloc (.map mapSuffix 2):=by
 have h0:=fun w => zAU 190 w
 have h1:=zAk Tryz.underlying190 Tryz.underlying9 (key:=.string ⟨#[46]⟩) (zQ _) (.func (.func 173) #[] #[]) w #[] #[⟨.string ⟨#[46]⟩,.func (.func 173) #[] #[],0⟩] 0 1 rfl rfl rfl
 have h2:=zAk Tryz.underlying190 Tryz.underlying9 (key:=.string ⟨#[91]⟩) (zQ _) (.func (.func 174) #[] #[]) w #[⟨.string ⟨#[46]⟩,.func (.func 173) #[] #[],0⟩] #[⟨.string ⟨#[46]⟩,.func (.func 173) #[] #[],0⟩,⟨.string ⟨#[91]⟩,.func (.func 174) #[] #[],1⟩] 1 2 rfl rfl rfl
 go_in
 go_wp2_with fail
 go_ret
 exact ⟨rfl,rfl⟩
theorem zHU {w:World}{M:Nat}(hb:w.heap[M]? = some (.map mapWord 6)) :
 (Instr.lookup 189 (.map (some M)) (.string ⟨#[116,114,117,101]⟩) true).run Tryz.prog w = .ok (.tuple #[.func (.func 168) #[] #[],.bool true]) w:=
 zZ (i:=0) Tryz.underlying189 Tryz.underlying9 (zQ _) hb rfl
theorem zHT {w:World}{M:Nat}(hb:w.heap[M]? = some (.map mapWord 6)) :
 (Instr.lookup 189 (.map (some M)) (.string ⟨#[102,97,108,115,101]⟩) true).run Tryz.prog w = .ok (.tuple #[.func (.func 168) #[] #[],.bool true]) w:=
 zZ (i:=1) Tryz.underlying189 Tryz.underlying9 (zQ _) hb rfl
theorem zHS {w:World}{M:Nat}(hb:w.heap[M]? = some (.map mapWord 6)) :
 (Instr.lookup 189 (.map (some M)) (.string ⟨#[110,117,108,108]⟩) true).run Tryz.prog w = .ok (.tuple #[.func (.func 169) #[] #[],.bool true]) w:=
 zZ (i:=2) Tryz.underlying189 Tryz.underlying9 (zQ _) hb rfl
theorem zHR {w:World}{M:Nat}(hb:w.heap[M]? = some (.map mapWord 6)) :
 (Instr.lookup 189 (.map (some M)) (.string ⟨#[110,101,119]⟩) true).run Tryz.prog w = .ok (.tuple #[.func (.func 170) #[] #[],.bool true]) w:=
 zZ (i:=3) Tryz.underlying189 Tryz.underlying9 (zQ _) hb rfl
theorem zHQ {w:World}{M:Nat}(hb:w.heap[M]? = some (.map mapWord 6)) :
 (Instr.lookup 189 (.map (some M)) (.string ⟨#[108,101,110]⟩) true).run Tryz.prog w = .ok (.tuple #[.func (.func 171) #[] #[],.bool true]) w:=
 zZ (i:=4) Tryz.underlying189 Tryz.underlying9 (zQ _) hb rfl
theorem zHP {w:World}{M:Nat}(hb:w.heap[M]? = some (.map mapWord 6)) :
 (Instr.lookup 189 (.map (some M)) (.string ⟨#[114,101,97,100]⟩) true).run Tryz.prog w = .ok (.tuple #[.func (.func 172) #[] #[],.bool true]) w:=
 zZ (i:=5) Tryz.underlying189 Tryz.underlying9 (zQ _) hb rfl
theorem zDI (s:ByteArray)(h0:(s == ⟨#[116,114,117,101]⟩) = false)(h1:(s == ⟨#[102,97,108,115,101]⟩) = false)(h2:(s == ⟨#[110,117,108,108]⟩) = false)(h3:(s == ⟨#[110,101,119]⟩) = false)(h4:(s == ⟨#[108,101,110]⟩) = false)(h5:(s == ⟨#[114,101,97,100]⟩) = false){w:World}{M:Nat}(hb:w.heap[M]? = some (.map mapWord 6)) :
 (Instr.lookup 189 (.map (some M)) (.string s) true).run Tryz.prog w = .ok (.tuple #[.nilFunc,.bool false]) w:=by
 refine zBw Tryz.underlying189 Tryz.underlying9 (zQ _) hb ?_ (by kernel_rfl)
 simp only [mapWord,Instr.findNow,Instr.sameNow,h0,h1,h2,h3,h4,h5]
theorem zFd {w:World}{M:Nat}(hb:w.heap[M]? = some (.map mapSuffix 2)) :
 (Instr.lookup 190 (.map (some M)) (.string ⟨#[46]⟩) true).run Tryz.prog w = .ok (.tuple #[.func (.func 173) #[] #[],.bool true]) w:=
 zZ (i:=0) Tryz.underlying190 Tryz.underlying9 (zQ _) hb rfl
theorem zFc {w:World}{M:Nat}(hb:w.heap[M]? = some (.map mapSuffix 2)) :
 (Instr.lookup 190 (.map (some M)) (.string ⟨#[91]⟩) true).run Tryz.prog w = .ok (.tuple #[.func (.func 174) #[] #[],.bool true]) w:=
 zZ (i:=1) Tryz.underlying190 Tryz.underlying9 (zQ _) hb rfl
theorem zCJ (s:ByteArray)(h0:(s == ⟨#[46]⟩) = false)(h1:(s == ⟨#[91]⟩) = false){w:World}{M:Nat}(hb:w.heap[M]? = some (.map mapSuffix 2)) :
 (Instr.lookup 190 (.map (some M)) (.string s) true).run Tryz.prog w = .ok (.tuple #[.nilFunc,.bool false]) w:=by
 refine zBw Tryz.underlying190 Tryz.underlying9 (zQ _) hb ?_ (by kernel_rfl)
 simp only [mapSuffix,Instr.findNow,Instr.sameNow,h0,h1]
end Go.Proofs.YtipmjjfknhblnaaGreatDoor
