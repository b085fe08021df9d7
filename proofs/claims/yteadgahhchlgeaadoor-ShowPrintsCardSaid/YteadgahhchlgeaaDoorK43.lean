/-
  The project's writer of statements: the whole.
-/
import Derived.Test.YteadgahhchlgeaaDoorK02
import Derived.Test.YteadgahhchlgeaaDoorK23
import Derived.Test.YteadgahhchlgeaaDoorK42
import Derived.Shelf.Strings.OnBuilder
import Derived.Lib.Join
import Derived.Laws.OwnMore
set_option maxHeartbeats 8000000
set_option maxRecDepth 8000
namespace Go.Proofs.YteadgahhchlgeaaDoor
open Go.RowKit
open Pe (Ex)
open Ps (Sm kindOf)
open Rt (tyB lvl prE prL pad prS prB stOf blT shS shB shSK shL shE zAw zG zAC)
theorem zCr:∀ {xs:List Sm}{n:Nat}{x:Sm},shB xs n → x ∈ xs → shS x n
 | [],_,_,_,h => by cases h
 | y :: ys,n,x,h,hm => by
   rw [shB] at h
   rcases List.mem_cons.1 hm with rfl | hm
   ·exact h.1
   ·exact zCr h.2 hm
theorem zN0 (x:Sm)(d:Nat) : 1 ≤ (prS x d).length:=by
 cases x
 rw [prS]
 simp only [List.length_append,List.length_cons,List.length_nil]
 omega
theorem zDC:∀ (xs:List Sm)(d:Nat),xs.length ≤ (prB xs d).length
 | [],_ => Nat.zero_le _
 | x :: xs,d => by
   have h1:=zDC xs d
   have h2:=zN0 x d
   rw [prB,List.length_append,List.length_cons]
   omega
theorem zJb {x:Sm}{body:List Sm}(hx:x ∈ body)(k:Int)(n o:List UInt8)(d:Int)(es:List Ex)(els:List Sm)(a r:Int):SizeOf.sizeOf x < SizeOf.sizeOf (Sm.mk k n o d es body els a r):=by
 have:=List.sizeOf_lt_of_mem hx
 simp
 omega
theorem zLc {x:Sm}{els:List Sm}(hx:x ∈ els)(k:Int)(n o:List UInt8)(d:Int)(es:List Ex)(body:List Sm)(a r:Int):SizeOf.sizeOf x < SizeOf.sizeOf (Sm.mk k n o d es body els a r):=by
 have:=List.sizeOf_lt_of_mem hx
 simp
 omega
theorem zRN:∀ (m:Nat)(x:Sm),SizeOf.sizeOf x ≤ m → ∀ {b d q:Nat}{w0 w1:World},shS x q → d + q ≤ 50 → Sta b w0 w1 → ∀ {bl off:Nat},St1 w0 bl off x → GivW b (d:Int) w1 106 #[.pointer (some ⟨b,0,none⟩),.pointer (some ⟨bl,off,none⟩)] (prS x d):=by
 intro m
 induction m with
 | zero => intro x h; cases x; simp at h
 | succ m ih =>
   intro x hs b d q w0 w1 hsh hdq hS bl off hA
   obtain ⟨k,nm,ot,dm,es,body,els,a,r⟩:=x
   obtain ⟨hbl,vs,hi,hc⟩:=hA
   rw [SIs] at hi
   obtain ⟨p,c,qb,cb,qe,ce,rfl,hp,hqb,hqe⟩:=hi
   have hk:Ks w0 bl off k nm ot dm (.slice p es.length c) (.slice qb body.length cb) (.slice qe els.length ce) a r:=zKe hc
   rw [shS] at hsh
   obtain ⟨⟨hk0,hkd,hm1,hm2,hm7⟩,hsl,hb1,he1,hsb,hse⟩:=hsh
   have hd:d ≤ 50:=by omega
   have hB:∀ (n:body.length ≤ 100000000000000),GivW b (d:Int) w1 76 #[.pointer (some ⟨b,0,none⟩),.slice qb body.length cb] (prB body (d + 1)):=fun n =>
    zCK hS hd qb cb body hqb n fun x hx bl off h1 => ih x (by have:=zJb hx k nm ot dm es els a r; omega) (zCr hsb hx) (by
        rcases hb1 with h | h
        ·rw [h] at hx; cases hx
        ·omega) hS h1
   have hE:∀ (n:els.length ≤ 100000000000000),GivW b (d:Int) w1 76 #[.pointer (some ⟨b,0,none⟩),.slice qe els.length ce] (prB els (d + 1)):=fun n =>
    zCK hS hd qe ce els hqe n fun x hx bl off h1 => ih x (by have:=zLc hx k nm ot dm es body a r; omega) (zCr hse hx) (by
        rcases he1 with h | h
        ·rw [h] at hx; cases hx
        ·omega) hS h1
   have hX:∀ (j:Nat) (x:Ex),es[j]? = some x → es.length ≤ 2 → (prE x).length ≤ 70368744177664 → Gives w0 127 #[.pointer (some ⟨bl,off,none⟩),.int .i64 (j:Int)] (prE x):=fun j x hx h2 hl =>
    zHX hS.env hp hk j _ rfl hx (zAw hsl (List.mem_of_getElem? hx)) (by omega) hl
   clear hc hs ih hp hqb hqe
   obtain ⟨D,rfl⟩:=Int.eq_ofNat_of_zero_le hkd.1
   have hcs:k = 1 ∨ k = 2 ∨ k = 3 ∨ k = 4 ∨ k = 5 ∨ k = 6 ∨ k = 7 ∨ k = 8 ∨ k = 9:=by omega
   rw [prS]
   intro l w hW hlen
   simp only [List.length_append] at hlen
   rcases hcs with rfl | rfl | rfl | rfl | rfl | rfl | rfl | rfl | rfl
   ·have h1:(stOf d 1 nm ot D (prL es) (prB body (d + 1)) els.isEmpty (prB els (d + 1))) = [118,97,114] ++ 32 :: (nm ++ 58 :: 32 :: (tyB ot D ++ [59])):=rfl
    rw [h1] at hlen ⊢
    simp only [List.length_append,List.length_cons,List.length_nil,zAg] at hlen
    have h2:=zSe hS hd D (tyB ot D) (fun w1 => zCz w1 ot D (by omega) (by omega)) hk l w hW (by simp only [List.flatten_cons,List.flatten_nil,List.length_append,List.length_cons,List.length_nil,zAg]; omega)
    simpa using h2
   ·obtain ⟨e,rfl⟩:=zAi (hm1 (by omega))
    rw [zG] at hlen ⊢
    have h1:(stOf d 2 nm ot D [(lvl (kindOf e),prE e)] (prB body (d + 1)) els.isEmpty (prB els (d + 1))) = [108,101,116] ++ 32 :: (nm ++ 58 :: 32 :: (tyB ot D ++ 32 :: 61 :: 32 :: (prE e ++ [59]))):=rfl
    rw [h1] at hlen ⊢
    simp only [List.length_append,List.length_cons,List.length_nil,zAg] at hlen
    have h2:=zSh hS hd D (tyB ot D) (prE e) (fun w1 => zCz w1 ot D (by omega) (by omega)) (hX 0 e rfl (by simp) (by omega)) hk l w hW (by simp only [List.flatten_cons,List.flatten_nil,List.length_append,List.length_cons,List.length_nil,zAg]; omega)
    simpa using h2
   ·obtain ⟨e,rfl⟩:=zAi (hm1 (by omega))
    rw [zG] at hlen ⊢
    have h1:(stOf d 3 nm ot D [(lvl (kindOf e),prE e)] (prB body (d + 1)) els.isEmpty (prB els (d + 1))) = nm ++ 32 :: 61 :: 32 :: (prE e ++ [59]):=rfl
    rw [h1] at hlen ⊢
    simp only [List.length_append,List.length_cons,List.length_nil] at hlen
    have h2:=zSf hS hd (prE e) (hX 0 e rfl (by simp) (by omega)) hk l w hW (by simp only [List.flatten_cons,List.flatten_nil,List.length_append,List.length_cons,List.length_nil]; omega)
    simpa using h2
   ·obtain ⟨e,e2,rfl⟩:=zCa (hm2 (by omega))
    rw [zAC] at hlen ⊢
    have h1:(stOf d 4 nm ot D [(lvl (kindOf e),prE e),(lvl (kindOf e2),prE e2)] (prB body (d + 1)) els.isEmpty (prB els (d + 1))) = prE e ++ 32 :: 61 :: 32 :: (prE e2 ++ [59]):=rfl
    rw [h1] at hlen ⊢
    simp only [List.length_append,List.length_cons,List.length_nil] at hlen
    have h2:=zSg hS hd (prE e) (prE e2) (hX 0 e rfl (by simp) (by omega)) (hX 1 e2 rfl (by simp) (by omega)) hk l w hW (by simp only [List.flatten_cons,List.flatten_nil,List.length_append,List.length_cons,List.length_nil]; omega)
    simpa using h2
   ·obtain ⟨e,rfl⟩:=zAi (hm1 (by omega))
    rw [zG] at hlen ⊢
    have hb2:=zDC body (d + 1)
    have he2:=zDC els (d + 1)
    cases els with
    | nil =>
      have h1:(stOf d 5 nm ot D [(lvl (kindOf e),prE e)] (prB body (d + 1)) ([]:List Sm).isEmpty (prB [] (d + 1))) = [105,102] ++ 32 :: (prE e ++ 32 :: (blT d (prB body (d + 1)) ++ [])):=rfl
      rw [h1] at hlen ⊢
      unfold blT at hlen ⊢
      simp only [List.length_append,List.length_cons,List.length_nil] at hlen
      have h2:=s_if hS hd _ (zS6 hS hd qe ce (prE e) (prB body (d + 1)) (hX 0 e rfl (by simp) (by omega)) (hB (by omega)) hk) hk l w hW (by simp only [List.flatten_cons,List.flatten_nil,List.length_append,List.length_cons,List.length_nil]; omega)
      simpa using h2
    | cons y ys =>
      have h1:(stOf d 5 nm ot D [(lvl (kindOf e),prE e)] (prB body (d + 1)) (y :: ys).isEmpty (prB (y :: ys) (d + 1))) = [105,102] ++ 32 :: (prE e ++ 32 :: (blT d (prB body (d + 1)) ++ 32 :: ([101,108,115,101] ++ 32 :: blT d (prB (y :: ys) (d + 1))))):=rfl
      rw [h1] at hlen ⊢
      unfold blT at hlen ⊢
      simp only [List.length_append,List.length_cons,List.length_nil] at hlen
      rw [List.length_cons] at he2
      have h2:=s_if hS hd _ (zS7 hS hd qe (y :: ys).length ce (Nat.zero_lt_succ _) (prE e) (prB body (d + 1)) (prB (y :: ys) (d + 1)) (hX 0 e rfl (by simp) (by omega)) (hB (by omega)) (hE (by rw [List.length_cons]; omega)) hk) hk l w hW (by simp only [List.flatten_cons,List.flatten_nil,List.length_append,List.length_cons,List.length_nil]; omega)
      simpa using h2
   ·obtain ⟨e,rfl⟩:=zAi (hm1 (by omega))
    rw [zG] at hlen ⊢
    have hb2:=zDC body (d + 1)
    have h1:(stOf d 6 nm ot D [(lvl (kindOf e),prE e)] (prB body (d + 1)) els.isEmpty (prB els (d + 1))) = [119,104,105,108,101] ++ 32 :: (prE e ++ 32 :: blT d (prB body (d + 1))):=rfl
    rw [h1] at hlen ⊢
    unfold blT at hlen ⊢
    simp only [List.length_append,List.length_cons,List.length_nil] at hlen
    have h2:=zNH hS hd (prE e) (prB body (d + 1)) (hX 0 e rfl (by simp) (by omega)) (hB (by omega)) hk l w hW (by simp only [List.flatten_cons,List.flatten_nil,List.length_append,List.length_cons,List.length_nil]; omega)
    simpa using h2
   ·match es,hm7 rfl with
    | [],_ =>
      have h1:(stOf d 7 nm ot D (prL []) (prB body (d + 1)) els.isEmpty (prB els (d + 1))) = [114,101,116,117,114,110] ++ ([] ++ [59]):=by rw [prL]; rfl
      rw [h1] at hlen ⊢
      simp only [List.length_append,List.length_cons,List.length_nil] at hlen
      have h2:=zPP hS hd _ (zPZ hS hd p c hk) hk l w hW (by simp only [List.flatten_cons,List.flatten_nil,List.length_append,List.length_cons,List.length_nil]; omega)
      simpa using h2
    | [e],_ =>
      rw [zG] at hlen ⊢
      have h1:(stOf d 7 nm ot D [(lvl (kindOf e),prE e)] (prB body (d + 1)) els.isEmpty (prB els (d + 1))) = [114,101,116,117,114,110] ++ ((32 :: prE e) ++ [59]):=rfl
      rw [h1] at hlen ⊢
      simp only [List.length_append,List.length_cons,List.length_nil] at hlen
      have h2:=zPP hS hd _ (zSn hS hd p c (prE e) (hX 0 e rfl (by simp) (by omega)) hk) hk l w hW (by simp only [List.flatten_cons,List.flatten_nil,List.length_append,List.length_cons,List.length_nil]; omega)
      simpa using h2
   ·obtain ⟨e,rfl⟩:=zAi (hm1 (by omega))
    rw [zG] at hlen ⊢
    have h1:(stOf d 8 nm ot D [(lvl (kindOf e),prE e)] (prB body (d + 1)) els.isEmpty (prB els (d + 1))) = [112,114,105,110,116] ++ 32 :: (prE e ++ [59]):=rfl
    rw [h1] at hlen ⊢
    simp only [List.length_append,List.length_cons,List.length_nil] at hlen
    have h2:=zNI hS hd (prE e) (hX 0 e rfl (by simp) (by omega)) hk l w hW (by simp only [List.flatten_cons,List.flatten_nil,List.length_append,List.length_cons,List.length_nil]; omega)
    simpa using h2
   ·obtain ⟨e,rfl⟩:=zAi (hm1 (by omega))
    rw [zG] at hlen ⊢
    have h1:(stOf d 9 nm ot D [(lvl (kindOf e),prE e)] (prB body (d + 1)) els.isEmpty (prB els (d + 1))) = prE e ++ [59]:=rfl
    rw [h1] at hlen ⊢
    simp only [List.length_append,List.length_cons,List.length_nil] at hlen
    have h2:=s_do hS hd (prE e) (hX 0 e rfl (by simp) (by omega)) hk l w hW (by simp only [List.flatten_cons,List.flatten_nil,List.length_append,List.length_cons,List.length_nil]; omega)
    simpa using h2
theorem zIR {x:Sm}{b d q:Nat}{w0 w1:World}(h:shS x q)(hd:d + q ≤ 50)(hS:Sta b w0 w1){bl off:Nat}(hA:St1 w0 bl off x):GivW b (d:Int) w1 106 #[.pointer (some ⟨b,0,none⟩),.pointer (some ⟨bl,off,none⟩)] (prS x d):=zRN _ x (Nat.le_refl _) h hd hS hA
end Go.Proofs.YteadgahhchlgeaaDoor
namespace Go.Proofs.YteadgahhchlgeaaDoor
open Go.RowKit
open Pe (Ex)
open Ps (Sm kindOf)
open Pg (Pm Rc Fc Gm)
open Rt (tyB pad prB pmB fdB rcB PmOk RcOk)
theorem Sta.at_ {b:Nat}{w0 w1 w:World}{l:List UInt8}{n:Int}(h:Sta b w0 w1)(hW:Ws b l n w1 w):Sta b w0 w:=⟨h.size,h.up hW,h.env⟩
theorem zB5 (w:World)(x:Pm)(hx:PmOk x)(hl:(pmB x).length ≤ 70368744177664) :
 Calls Tryd.prog 43 #[.agg #[.string (cbs x.name),.string (cbs x.ofn),.int .i64 x.dims,.int .i64 x.at_]] w fun e w' => e = .returned (.string (cbs (pmB x))) ∧ Below w.heap.size w w':=by
 obtain ⟨nm,o,dm,a⟩:=x
 obtain ⟨h0,h3⟩:=hx
 dsimp only at h0 h3 ⊢
 obtain ⟨D,rfl⟩:=Int.eq_ofNat_of_zero_le h0
 have h1:(pmB ⟨nm,o,(D:Int),a⟩) = nm ++ 58 :: 32 :: tyB o D:=rfl
 rw [h1] at hl ⊢
 simp only [List.length_append,List.length_cons,zAg] at hl
 exact zFp w nm o D a (by omega) (by omega) (by omega) fun w1 => zCz w1 o D (by omega) (by omega)
theorem zFk {w:World}{B:Nat}{p:Option Addr}{l:List Pm}(h:PsAt w B p l){j:Nat}{x:Pm}(hx:l[j]? = some x):∃ bl off,p = some ⟨bl,off,none⟩ ∧ bl < w.heap.size ∧ w.cell? ⟨bl,off + j * 4,none⟩ = some (.string (cbs x.name)) ∧ w.cell? ⟨bl,off + j * 4 + 1,none⟩ = some (.string (cbs x.ofn)) ∧ w.cell? ⟨bl,off + j * 4 + 2,none⟩ = some (.int .i64 x.dims) ∧ w.cell? ⟨bl,off + j * 4 + 3,none⟩ = some (.int .i64 x.at_):=by
 obtain ⟨bl,off,vs,h1,h2,h3,h4⟩:=h.lat.get hx
 rw [PIs] at h3
 subst h3
 exact ⟨bl,off,h1,h2,h4 0 _ (by decide) rfl,h4 1 _ (by decide) rfl,h4 2 _ (by decide) rfl,h4 3 _ (by decide) rfl⟩
theorem zOC {x:Pm}{l:List Pm}{j:Nat}(h:l.drop j = x :: l.drop (j + 1)):fdB (l.drop j) = pad 1 ++ (([pmB x,[59]]:List (List UInt8)).flatten ++ [10]) ++ fdB (l.drop (j + 1)):=by
 rw [h,fdB]
 simp [pad,List.replicate]
theorem zQv {b:Nat}{l:List UInt8}{d:Nat}{w1 w:World}(ss:List (List UInt8))(N:Nat)(hN:w.heap.size = N)(h:Ws b l (d:Int) w1 w)(hd:d ≤ 50)(hlen:l.length + (pad d ++ (ss.flatten ++ [10])).length ≤ 70368744177664)(hs:ss.length ≤ 1000)(A:Array Value)(hA:A = (ss.map fun s => Value.string (cbs s)).toArray)(k:Nat)(hk:k = ss.length) :
 Calls Tryd.prog 42 #[.pointer (some ⟨b,0,none⟩),.slice (some ⟨N,0,none⟩) k k] (w.alloc (.cells A 9)) fun e w' => e = .returned (.tuple #[]) ∧ Ws b (l ++ (pad d ++ (ss.flatten ++ [10]))) (d:Int) w1 w':=by
 subst hN
 exact zBi ss h hd hlen hs A hA k hk
theorem zIh {b:Nat}{w0 w1:World}(hS:Sta b w0 w1)(nm:List UInt8)(p:Option Addr)(c:Nat)(a:Int)(fs:List Pm)(hp:PsAt w0 0 p fs)(hok:∀ x ∈ fs,PmOk x)(hn:fs.length ≤ 8) :
 GivW b ((0:Nat):Int) w1 41 #[.pointer (some ⟨b,0,none⟩),.agg #[.string (cbs nm),.slice p fs.length c,.int .i64 a]]
  (pad 0 ++ (([[114,101,99,111,114,100,32],nm,[32,123]]:List (List UInt8)).flatten ++ [10]) ++ (fdB fs ++ (pad 0 ++ (([[125]]:List (List UInt8)).flatten ++ [10])))):=by
 intro l w hW hlen
 have hg:=hW.go (w':=w.alloc (.cells #[.string (cbs nm),.slice p fs.length c,.int .i64 a] 75)) ((Below.refl _ _).alloc (Nat.le_refl _) _)
 have H0:=vH hg
 have F:=vH (Ws.start hg.is)
 have SS:=vH (hS.at_ hg)
 have HBX:=vH (heap_alloc_new w (.cells #[.string (cbs nm),.slice p fs.length c,.int .i64 a] 75))
 have HNE:=vH (Nat.ne_of_gt hW.is.lt)
 have H1:Hid (l.length + (pad 0 ++ (([[114,101,99,111,114,100,32],nm,[32,123]]:List (List UInt8)).flatten ++ [10])).length ≤ 70368744177664):=vH (by
  simp only [List.length_append] at hlen ⊢
  omega)
 have HL:=vH hlen
 have HP:=vH hp
 have HOK:=vH hok
 have HN:=vH hn
 clear hW hlen hp hok hS hg hn
 go_in
 go_wp2_with fail
 refine (zQv [[114,101,99,111,114,100,32],nm,[32,123]] (w.heap.size + 1) (zC _ _) F.out (by decide) H1.out (by simp) _ rfl 3 rfl).mono ?_
 rintro e u ⟨rfl,hW2⟩
 have F2:=vH hW2
 have hc:=hW2.is.cell2
 have hf:=hW2.is.froz2
 obtain ⟨⟨b0,b1,b2⟩,-⟩:=tri (hW2.box HBX.out HNE.out (by decide))
 have hne:=HNE.out
 clear hW2 F
 go_wp2_with fail
 clear hc hf
 have F3:=vH (F2.out.blocks ((1:Nat):Int))
 clear b0 b1 b2 hne
 go_loopg [21] fs.length (fun g v wr => ∃ j:Nat,g + j = fs.length ∧ v = .int .i64 (j:Int) ∧ ∃ t:List UInt8,Ws b t ((1:Nat):Int) (w.alloc (.cells #[.string (cbs nm),.slice p fs.length c,.int .i64 a] 75)) wr ∧ t ++ fdB (fs.drop j) = l ++ (pad 0 ++ (([[114,101,99,111,114,100,32],nm,[32,123]]:List (List UInt8)).flatten ++ [10])) ++ fdB fs)
 case atStart => exact ⟨0,rfl,rfl,_,F3.out,rfl⟩
 case round =>
  obtain ⟨j,hj,rfl,t,hF,ht⟩:=hrel
  have F4:=vH hF
  have HT:=vH ht
  have HJ:=vH hj
  cases gk with
  | zero =>
    obtain rfl:j = fs.length:=by omega
    have hd1:decide ((fs.length:Int) < (fs.length:Int)) = false:=decide_eq_false (by omega)
    have hc:=hF.is.cell2
    have hf:=hF.is.froz2
    have h9:=ht
    rw [List.drop_of_length_le (Nat.le_refl _),fdB,List.append_nil] at h9
    have H9:=vH h9
    have F5:=vH ((hF.blocks ((0:Nat):Int)).cast h9)
    have H2:Hid ((l ++ (pad 0 ++ (([[114,101,99,111,114,100,32],nm,[32,123]]:List (List UInt8)).flatten ++ [10])) ++ fdB fs).length + (pad 0 ++ (([[125]]:List (List UInt8)).flatten ++ [10])).length ≤ 70368744177664):=vH (by
        have:=HL.out
        simp only [List.length_append] at this ⊢
        omega)
    clear hF ht hj h9
    go_wp2_with fail
    refine (zQv [[125]] wr.heap.size (zY _ _ _) F5.out (by decide) H2.out (by simp) _ rfl 1 rfl).mono ?_
    rintro e u ⟨rfl,hW2⟩
    have F6:=vH hW2
    clear hW2
    go_wp2_with fail
    go_end0
    exact ⟨rfl,(H0.out.join F6.out).cast (by simp only [List.append_assoc])⟩
  | succ m =>
    have hjl:j < fs.length:=by omega
    have hd1:decide ((j:Int) < (fs.length:Int)) = true:=decide_eq_true (by omega)
    have hd2:decide (fs.length ≤ j) = false:=decide_eq_false (by omega)
    have hi1:(j:Int) < (fs.length:Int):=by omega
    have hi3:(0:Int) ≤ (j:Int):=by omega
    have hdw:wrap64 ((j:Int) + 1) = ((j + 1:Nat):Int):=by have:=HN.out; simp [wrap64]; omega
    have he:=List.getElem?_eq_getElem hjl
    have hd4:fs.drop j = fs[j] :: fs.drop (j + 1):=List.drop_eq_getElem_cons hjl
    have hm:=HOK.out _ (List.getElem_mem hjl)
    generalize fs[j] = x at he hd4 hm
    obtain ⟨kb,ko,rfl,hkb,c0,c1,c2,c3⟩:=zFk HP.out he
    have hup:=SS.out.up hF
    have y0:=zD hup c0
    have y1:=zD hup c1
    have y2:=zD hup c2
    have y3:=zD hup c3
    have hkw:kb ≠ wr.heap.size:=by have:=hup.size; omega
    have hn2:=ht
    rw [zOC hd4] at hn2
    have h3:=congrArg List.length hn2
    have h4:=HL.out
    simp only [List.length_append] at h3 h4
    have h2:t.length + (pad 1 ++ (([pmB x,[59]]:List (List UInt8)).flatten ++ [10])).length ≤ 70368744177664:=by
        simp only [List.length_append]
        omega
    have h5:(pmB x).length ≤ 70368744177664:=by
        simp only [List.flatten_cons,List.length_append] at h2
        omega
    have H2:=vH h2
    have H5:=vH h5
    have HN2:=vH hn2
    have HM:=vH hm
    clear hF ht hj he hd4 hm hn2 h2 h3 h4 h5 c0 c1 c2 c3 hup hkb
    go_wp2_with fail
    refine (zB5 _ x HM.out H5.out).mono ?_
    rintro e u ⟨rfl,hb⟩
    have F5:=vH ((F4.out.go ((Below.refl _ _).alloc (Nat.le_refl _) _)).go hb)
    clear hb y0 y1 y2 y3
    go_wp2_with fail
    refine (zBi [pmB x,[59]] F5.out (by decide) H2.out (by simp) _ rfl 2 rfl).mono ?_
    rintro e u ⟨rfl,hW2⟩
    have F6:=vH hW2
    clear hW2
    go_wp2_with fail
    go_roundg m
    case measure => omega
    case rel => exact ⟨j + 1,by have:=HJ.out; omega,by first | rfl | simp [hdw],_,F6.out,by rw [← HN2.out]; simp only [List.append_assoc]⟩
end Go.Proofs.YteadgahhchlgeaaDoor
namespace Go.Proofs.YteadgahhchlgeaaDoor
open Go.RowKit
open Pe (Ex)
open Ps (Sm kindOf)
open Pg (Pm Rc Fc Gm)
open Rt (tyB pad prB pmB paB fdB rcB fcB blT PmOk RcOk shB shS)
theorem zGf:Builder.Extra Tryd.prog Tryd.lays156_ren where
 sizeBuilder:=by kernel_rfl
 liesBuilder:=by kernel_rfl
 t5:=Tryd.underlying5
 a5:=Tryd.isAgg5
 z5:=Tryd.sizeOf5
 v5:=Tryd.zeroValue5
 infoByte:=by kernel_rfl
 cellsByte:=by kernel_rfl
 sizeByte:=by kernel_rfl
 neB5:=by decide
theorem zGO:∀ ps:List Pm,Lib.join (ps.map pmB) [44,32] = paB ps
 | [] => rfl
 | [x] => Lib.join_one _ _
 | x :: y :: l => by
   have h:=zGO (y :: l)
   rw [List.map_cons,Lib.join_cons] at h
   rw [List.map_cons,List.map_cons,Lib.join_cons,paB,← h]
   simp [Lib.joinTail]
theorem zHw (bk:Nat)(ps:List Pm)(w:World)(h:∀ (j:Nat) x,ps[j]? = some x → w.cell? ⟨bk,j,none⟩ = some (.string (cbs (pmB x))))(hbk:bk < w.heap.size)(hn:ps.length ≤ 6)(hl:(paB ps).length ≤ 70368744177664) :
 Calls Tryd.prog 75 #[.slice (some ⟨bk,0,none⟩) ps.length ps.length,.string ⟨#[44,32]⟩] w fun e w' => e = .returned (.string (cbs (paB ps))) ∧ Below w.heap.size w w':=by
 have hm:(ps.map fun x => cbs (pmB x)).map (fun s => s.data.toList) = ps.map pmB:=by rw [List.map_map]; rfl
 have h2:=Any.strings_Join Tryd.lays156 zGf bk 0 ps.length (ps.map fun x => cbs (pmB x)) ⟨#[44,32]⟩ w (fun j s hs => by
  rw [List.getElem?_map] at hs
  cases hx:ps[j]? with
  | none => rw [hx] at hs; cases hs
  | some x =>
    rw [hx] at hs
    obtain rfl:=Option.some.inj hs
    rw [Nat.zero_add]
    exact h j x hx) hbk (by rw [List.length_map]; omega) (by rw [List.length_map]; exact Nat.le_refl _) (by rw [hm,show (⟨#[44,32]⟩:ByteArray).data.toList = [44,32] from rfl,zGO]; omega)
 rw [hm,List.length_map,show (⟨#[44,32]⟩:ByteArray).data.toList = [44,32] from rfl,zGO] at h2
 exact h2
theorem sev {w1:World}{B:Nat}{T:TypeId}{c0 c1 c2 c3 c4 c5 c6:Value}(h:w1.heap[B]? = some (.cells #[c0,c1,c2,c3,c4,c5,c6] T (0,0))) :
 w1.cell? ⟨B,0,none⟩ = some c0 ∧ w1.cell? ⟨B,1,none⟩ = some c1 ∧ w1.cell? ⟨B,2,none⟩ = some c2 ∧ w1.cell? ⟨B,3,none⟩ = some c3 ∧ w1.cell? ⟨B,4,none⟩ = some c4 ∧ w1.cell? ⟨B,5,none⟩ = some c5 ∧ w1.cell? ⟨B,6,none⟩ = some c6:=
 ⟨by rw [cell_of_row _ _ _ _ _ _ h]; rfl,by rw [cell_of_row _ _ _ _ _ _ h]; rfl,by rw [cell_of_row _ _ _ _ _ _ h]; rfl,by rw [cell_of_row _ _ _ _ _ _ h]; rfl,by rw [cell_of_row _ _ _ _ _ _ h]; rfl,by rw [cell_of_row _ _ _ _ _ _ h]; rfl,by rw [cell_of_row _ _ _ _ _ _ h]; rfl⟩
theorem Ws.set {b:Nat}{l:List UInt8}{n:Int}{w1 w:World}(h:Ws b l n w1 w){M i:Nat}{A:Array Value}{T:TypeId}{fr:Nat × Nat}(hM:w.heap[M]? = some (.cells A T fr))(hT:T ≠ 5)(hb:b < M)(h1:w1.heap.size ≤ M)(u:Value):Ws b l n w1 (w.setCell ⟨M,i,none⟩ u):=by
 obtain ⟨⟨p,hp,v,hbk,hown,hne,hnil⟩,hk⟩:=h
 have hgr:w.grownBy (w.setCell ⟨M,i,none⟩ u) (some M):=⟨rfl,rfl,rfl,by simp [World.setCell],fun k _ hk => Below.heap_setCell _ _ _ _ (fun e => hk (by simp [e]))⟩
 have hvM:v.ownBlock ≠ some M:=by
  intro hc
  obtain ⟨c,fz,h2⟩:=Lib.ownsRowF_kind (World.ownsRowF_of hown) M hc
  rw [hM] at h2
  injection h2 with h2
  injection h2 with _ h3 _
  exact hT h3
 refine ⟨⟨p,hp,v,(hgr.block b (zA hbk) (by simp; omega)).trans hbk,hown.kept hgr (Or.inr hvM),hne,hnil⟩,⟨hk.below.setCell (p:=⟨M,i,none⟩) (Nat.le_of_lt hb) _,fun k o hk1 hk2 hk3 => ?_⟩⟩
 have h4:=hk.kept k o hk1 hk2 hk3
 rw [hgr.block k (Array.getElem?_eq_some_iff.1 h4).1 (by
  have:=(Array.getElem?_eq_some_iff.1 hk1).1
  simp
  omega)]
 exact h4
def Names (wr:World)(M:Nat)(ps:List Pm)(j:Nat):Prop:=∃ A:Array Value,wr.heap[M]? = some (.cells A 9 (0,0)) ∧ A.size = ps.length ∧ ∀ i,i < j → ∀ x,ps[i]? = some x → A[i]? = some (.string (cbs (pmB x)))
theorem Names.go {wr w2:World}{M:Nat}{ps:List Pm}{j:Nat}(h:Names wr M ps j)(hb:Below wr.heap.size wr w2):Names w2 M ps j:=by
 obtain ⟨A,h1,h2,h3⟩:=h
 exact ⟨A,(hb.block _ (zA h1)).trans h1,h2,h3⟩
theorem Names.next {wr:World}{M:Nat}{ps:List Pm}{j:Nat}(h:Names wr M ps j){x:Pm}(hx:ps[j]? = some x):Names (wr.setCell ⟨M,j,none⟩ (.string (cbs (pmB x)))) M ps (j + 1):=by
 obtain ⟨A,h1,h2,h3⟩:=h
 have hj:=(List.getElem?_eq_some_iff.1 hx).1
 refine ⟨A.setIfInBounds j (.string (cbs (pmB x))),by simp [World.setCell,Array.getElem?_modify,h1],by simp [h2],fun i hi y hy => ?_⟩
 by_cases h4:i = j
 ·subst h4
  rw [hx] at hy
  obtain rfl:=Option.some.inj hy
  rw [Array.getElem?_setIfInBounds_self]
  simp [h2,hj]
 ·rw [Array.getElem?_setIfInBounds_ne (Ne.symm h4)]
  exact h3 i (by omega) y hy
theorem zQe:∀ {ps:List Pm}{x:Pm},x ∈ ps → (pmB x).length ≤ (paB ps).length
 | [y],x,h => by
   rw [List.mem_singleton] at h
   subst h
   exact Nat.le_refl _
 | y :: z :: l,x,h => by
   rw [paB,List.length_append,List.length_cons,List.length_cons]
   rcases List.mem_cons.1 h with rfl | h
   ·omega
   ·have:=zQe h
    omega
theorem zF3 {b:Nat}{w0 w1:World}(hS:Sta b w0 w1)(nm:List UInt8)(p:Option Addr)(c:Nat)(has:Bool)(rn:List UInt8)(D:Nat)(hD:D ≤ 3)(q:Option Addr)(cb:Nat)(a:Int)(ps:List Pm)(body:List Sm)(hp:PsAt w0 0 p ps)(hok:∀ x ∈ ps,PmOk x)(hn:ps.length ≤ 6)(hq:SsAt w0 0 q body)(hsb:shB body 49) :
 GivW b ((0:Nat):Int) w1 44 #[.pointer (some ⟨b,0,none⟩),.agg #[.string (cbs nm),.slice p ps.length c,.bool has,.string (cbs rn),.int .i64 (D:Int),.slice q body.length cb,.int .i64 a]]
  ((pad 0 ++ (([[102,117,110,99,32],nm,[40],paB ps,[41],(if has = true then [58,32] ++ tyB rn D else []),[32,123]]:List (List UInt8)).flatten ++ [10])) ++ (prB body 1 ++ (pad 0 ++ (([[125]]:List (List UInt8)).flatten ++ [10])))):=by
 intro l w hW hlen
 have hlt:=hW.is.lt
 have hw1:w1.heap.size ≤ w.heap.size:=hW.k.below.size
 have H0:=vH hW
 have H00:=vH (hW.go (w':=w.alloc (.cells #[.string (cbs nm),.slice p ps.length c,.bool has,.string (cbs rn),.int .i64 (D:Int),.slice q body.length cb,.int .i64 a] 82)) ((Below.refl _ _).alloc (Nat.le_refl _) _))
 have HBX:=vH (heap_alloc_new w (.cells #[.string (cbs nm),.slice p ps.length c,.bool has,.string (cbs rn),.int .i64 (D:Int),.slice q body.length cb,.int .i64 a] 82))
 have SS:=vH hS
 have HL:=vH hlen
 have HP:=vH hp
 have HQ:=vH hq
 have HOK:=vH hok
 have HN:=vH hn
 have HD:=vH hD
 have HSB:=vH hsb
 have HLT:=vH hlt
 have HW1:=vH hw1
 obtain ⟨i0,hi,hz0,hz1,hz2⟩:=info_parts (show (Tryd.prog.info? 9).map (fun i => (i.zero,i.size,i.bytes)) = some (some (.string ⟨#[]⟩),1,16) by kernel_rfl)
 have hmk:=fun (w2:World) => run_makeSlice (P:=Tryd.prog) (w:=w2) 35 9 i0 (.string ⟨#[]⟩) Tryd.underlying35 hi hz0 .i64 .i64 (ps.length:Int) (ps.length:Int) (by omega) (Int.le_refl _) (by rw [hz1]; simp; omega) (by rw [hz2]; omega) (by omega)
 simp only [Int.toNat_natCast,hz1,Nat.mul_one] at hmk
 have hms:(madeCells (Value.string ⟨#[]⟩).cells ps.length).size = ps.length:=by have:=size_madeCells (Value.string ⟨#[]⟩).cells ps.length; simpa using this
 generalize madeCells (Value.string ⟨#[]⟩).cells ps.length = A0 at hmk hms
 have HMS:=vH hms
 clear hW hlen hp hok hS hn hq hD hlt hw1 hsb hi hz0 hz1 hz2 hms
 go_in
 go_wp2_with fail
 go_loopg [15] ps.length (fun g v wr => ∃ j:Nat,g + j = ps.length ∧ v = .int .i64 (j:Int) ∧ Ws b l ((0:Nat):Int) w1 wr ∧ wr.heap[w.heap.size]? = some (.cells #[.string (cbs nm),.slice p ps.length c,.bool has,.string (cbs rn),.int .i64 (D:Int),.slice q body.length cb,.int .i64 a] 82 (0,0)) ∧ Names wr (w.heap.size + 1) ps j)
 case atStart => exact ⟨0,rfl,rfl,H00.out.go ((Below.refl _ _).alloc (Nat.le_refl _) _),zM _ HBX.out,A0,by have:=heap_alloc_new (w.alloc (.cells #[.string (cbs nm),.slice p ps.length c,.bool has,.string (cbs rn),.int .i64 (D:Int),.slice q body.length cb,.int .i64 a] 82)) (.cells A0 9); rw [zC] at this; exact this,HMS.out,fun i hi => absurd hi (Nat.not_lt_zero _)⟩
 case round =>
  obtain ⟨j,hj,rfl,hF,hbx,hnm⟩:=hrel
  have F4:=vH hF
  have HB2:=vH hbx
  have HNM:=vH hnm
  have HJJ:=vH hj
  cases gk with
  | zero =>
    obtain rfl:j = ps.length:=by omega
    have hd1:decide ((ps.length:Int) < (ps.length:Int)) = false:=decide_eq_false (by omega)
    clear hF hbx hnm hj hmk
    cases has with
    | true =>
      have HL2:Hid (l.length + ((pad 0 ++ (([[102,117,110,99,32],nm,[40],paB ps,[41],([58,32] ++ tyB rn D),[32,123]]:List (List UInt8)).flatten ++ [10])) ++ (prB body 1 ++ (pad 0 ++ (([[125]]:List (List UInt8)).flatten ++ [10])))).length ≤ 70368744177664):=vH HL.out
      have F0:=vH (Ws.start F4.out.is)
      have S2:=vH (SS.out.at_ F4.out)
      have H1:Hid (l.length + (pad 0 ++ (([[102,117,110,99,32],nm,[40],paB ps,[41],([58,32] ++ tyB rn D),[32,123]]:List (List UInt8)).flatten ++ [10])).length ≤ 70368744177664):=vH (by
       have:=HL2.out
       simp only [List.length_append] at this ⊢
       omega)
      have H2:Hid ((l ++ (pad 0 ++ (([[102,117,110,99,32],nm,[40],paB ps,[41],([58,32] ++ tyB rn D),[32,123]]:List (List UInt8)).flatten ++ [10]))).length + (prB body 1).length ≤ 70368744177664):=vH (by
       have:=HL2.out
       simp only [List.length_append] at this ⊢
       omega)
      have H3:Hid ((l ++ (pad 0 ++ (([[102,117,110,99,32],nm,[40],paB ps,[41],([58,32] ++ tyB rn D),[32,123]]:List (List UInt8)).flatten ++ [10])) ++ prB body 1).length + (pad 0 ++ (([[125]]:List (List UInt8)).flatten ++ [10])).length ≤ 70368744177664):=vH (by
       have:=HL2.out
       simp only [List.length_append] at this ⊢
       omega)
      have hlj:(paB ps).length ≤ 70368744177664:=by
       have:=H1.out
       simp only [List.flatten_cons,List.length_append] at this
       omega
      have hbk:=zCK (d:=0) S2.out (by decide) q cb body HQ.out (by
       have:=HL2.out
       have h2:=zDC body 1
       simp only [List.length_append] at this
       omega) fun x hx bl off h1 => zIR (d:=1) (q:=49) (zCr HSB.out hx) (by decide) S2.out h1
      have HBK:=vH hbk
      clear hbk
      have hlr:rn.length ≤ 70368744177664:=by
       have:=H1.out
       simp only [List.flatten_cons,List.length_append,zAg] at this
       omega
      have hcat:(⟨#[58,32]⟩:ByteArray).size + (cbs (tyB rn D)).size ≤ 9223372036854775807:=by rw [zB,zAg]; have:=HD.out; show 2 + _ ≤ _; omega
      have hcb:(⟨#[58,32]⟩:ByteArray) ++ cbs (tyB rn D) = cbs ([58,32] ++ tyB rn D):=zAo [58,32] (tyB rn D)
      have HTY:=vH (zCz wr rn D HD.out hlr)
      have HCB:=vH hcb
      clear hlr hcb
      obtain ⟨z0,z1,z2,z3,z4,z5,z6⟩:=sev HB2.out
      go_wp2_with fail
      refine HTY.out.mono ?_
      rintro e u ⟨rfl,hb⟩
      have G:=vH (F0.out.go hb)
      have HB3:=vH ((hb.block _ (zA HB2.out)).trans HB2.out)
      have NM:=vH (HNM.out.go hb)
      clear hb z0 z1 z2 z3 z4 z5 z6
      go_wp2_with fail
      rw [HCB.out]
      clear hcat
      have G2:=vH (G.out.go (zAI u))
      have HB4:=vH (show u.drew.heap[w.heap.size]? = _ from HB3.out)
      have HJ:=vH (zHw (w.heap.size + 1) ps u.drew (fun j x hx => by
       obtain ⟨A,h1,h2,h3⟩:=NM.out
       rw [cell_of_row _ _ _ _ _ _ (show u.drew.heap[w.heap.size + 1]? = _ from h1)]
       exact h3 j (List.getElem?_eq_some_iff.1 hx).1 x hx) (by
       obtain ⟨A,h1,-⟩:=NM.out
       exact zA h1) HN.out hlj)
      clear hlj G
      have G:=G2
      have HBD:=HB4
      clear G2
      have HNE:=vH (Nat.ne_of_gt HLT.out)
      go_region_held3 (fun w' => w'.cell? ⟨w.heap.size,0,none⟩ = some (.string (cbs nm))) (first | exact (sev HBD.out).1 | exact (sev (zM _ HBD.out)).1)
       (first
       | (go_at_call 75; (with_reducible refine Calls.mono HJ.out ?_); rintro e u2 ⟨rfl,hb⟩; have G2:=vH (G.out.go hb); have G:=G2; have HB5:=vH ((hb.block _ (zA HBD.out)).trans HBD.out); have HBD:=HB5)
       | (go_at_call 42; (refine Calls.mono (zBi [[102,117,110,99,32],nm,[40],paB ps,[41],([58,32] ++ tyB rn D),[32,123]] G.out (by decide) H1.out (by simp) _ rfl 7 rfl) ?_); rintro e u2 ⟨rfl,hW2⟩; have G2:=vH hW2; have G:=G2; have HB5:=vH (G.out.box HB2.out HNE.out (by decide)); have HBD:=HB5))
      all_goals
       obtain ⟨z0,z1,z2,z3,z4,z5,z6⟩:=sev HBD.out
       go_wp2_with fail
       refine (HBK.out _ _ G.out H2.out).mono ?_
       rintro e u3 ⟨rfl,hW3⟩
       have G3:=vH hW3
       clear hW3 z0 z1 z2 z3 z4 z5 z6
       go_wp2_with fail
       refine (zBi [[125]] G3.out (by decide) H3.out (by simp) _ rfl 1 rfl).mono ?_
       rintro e u4 ⟨rfl,hW4⟩
       have G4:=vH hW4
       clear hW4
       go_wp2_with fail
       go_end0
       exact ⟨rfl,(F4.out.join G4.out).cast (by simp)⟩
    | false =>
      have HL2:Hid (l.length + ((pad 0 ++ (([[102,117,110,99,32],nm,[40],paB ps,[41],([]:List UInt8),[32,123]]:List (List UInt8)).flatten ++ [10])) ++ (prB body 1 ++ (pad 0 ++ (([[125]]:List (List UInt8)).flatten ++ [10])))).length ≤ 70368744177664):=vH HL.out
      have F0:=vH (Ws.start F4.out.is)
      have S2:=vH (SS.out.at_ F4.out)
      have H1:Hid (l.length + (pad 0 ++ (([[102,117,110,99,32],nm,[40],paB ps,[41],([]:List UInt8),[32,123]]:List (List UInt8)).flatten ++ [10])).length ≤ 70368744177664):=vH (by
       have:=HL2.out
       simp only [List.length_append] at this ⊢
       omega)
      have H2:Hid ((l ++ (pad 0 ++ (([[102,117,110,99,32],nm,[40],paB ps,[41],([]:List UInt8),[32,123]]:List (List UInt8)).flatten ++ [10]))).length + (prB body 1).length ≤ 70368744177664):=vH (by
       have:=HL2.out
       simp only [List.length_append] at this ⊢
       omega)
      have H3:Hid ((l ++ (pad 0 ++ (([[102,117,110,99,32],nm,[40],paB ps,[41],([]:List UInt8),[32,123]]:List (List UInt8)).flatten ++ [10])) ++ prB body 1).length + (pad 0 ++ (([[125]]:List (List UInt8)).flatten ++ [10])).length ≤ 70368744177664):=vH (by
       have:=HL2.out
       simp only [List.length_append] at this ⊢
       omega)
      have hlj:(paB ps).length ≤ 70368744177664:=by
       have:=H1.out
       simp only [List.flatten_cons,List.length_append] at this
       omega
      have hbk:=zCK (d:=0) S2.out (by decide) q cb body HQ.out (by
       have:=HL2.out
       have h2:=zDC body 1
       simp only [List.length_append] at this
       omega) fun x hx bl off h1 => zIR (d:=1) (q:=49) (zCr HSB.out hx) (by decide) S2.out h1
      have HBK:=vH hbk
      clear hbk
      obtain ⟨z0,z1,z2,z3,z4,z5,z6⟩:=sev HB2.out
      go_wp2_with fail
      clear z0 z1 z2 z3 z4 z5 z6
      have G:=F0
      have HB3:=HB2
      have NM:=HNM
      obtain ⟨u,rfl⟩:∃ u,u = wr:=⟨_,rfl⟩
      have G2:=vH (G.out.go (zAI u))
      have HB4:=vH (show u.drew.heap[w.heap.size]? = _ from HB3.out)
      have HJ:=vH (zHw (w.heap.size + 1) ps u.drew (fun j x hx => by
       obtain ⟨A,h1,h2,h3⟩:=NM.out
       rw [cell_of_row _ _ _ _ _ _ (show u.drew.heap[w.heap.size + 1]? = _ from h1)]
       exact h3 j (List.getElem?_eq_some_iff.1 hx).1 x hx) (by
       obtain ⟨A,h1,-⟩:=NM.out
       exact zA h1) HN.out hlj)
      clear hlj G
      have G:=G2
      have HBD:=HB4
      clear G2
      have HNE:=vH (Nat.ne_of_gt HLT.out)
      go_region_held3 (fun w' => w'.cell? ⟨w.heap.size,0,none⟩ = some (.string (cbs nm))) (first | exact (sev HBD.out).1 | exact (sev (zM _ HBD.out)).1)
       (first
       | (go_at_call 75; (with_reducible refine Calls.mono HJ.out ?_); rintro e u2 ⟨rfl,hb⟩; have G2:=vH (G.out.go hb); have G:=G2; have HB5:=vH ((hb.block _ (zA HBD.out)).trans HBD.out); have HBD:=HB5)
       | (go_at_call 42; (refine Calls.mono (zBi [[102,117,110,99,32],nm,[40],paB ps,[41],([]:List UInt8),[32,123]] G.out (by decide) H1.out (by simp) _ rfl 7 rfl) ?_); rintro e u2 ⟨rfl,hW2⟩; have G2:=vH hW2; have G:=G2; have HB5:=vH (G.out.box HB2.out HNE.out (by decide)); have HBD:=HB5))
      all_goals
       obtain ⟨z0,z1,z2,z3,z4,z5,z6⟩:=sev HBD.out
       go_wp2_with fail
       refine (HBK.out _ _ G.out H2.out).mono ?_
       rintro e u3 ⟨rfl,hW3⟩
       have G3:=vH hW3
       clear hW3 z0 z1 z2 z3 z4 z5 z6
       go_wp2_with fail
       refine (zBi [[125]] G3.out (by decide) H3.out (by simp) _ rfl 1 rfl).mono ?_
       rintro e u4 ⟨rfl,hW4⟩
       have G4:=vH hW4
       clear hW4
       go_wp2_with fail
       go_end0
       exact ⟨rfl,(F4.out.join G4.out).cast (by simp)⟩
  | succ m =>
    have hjl:j < ps.length:=by omega
    have hd1:decide ((j:Int) < (ps.length:Int)) = true:=decide_eq_true (by omega)
    have hd2:decide (ps.length ≤ j) = false:=decide_eq_false (by omega)
    have hi1:(j:Int) < (ps.length:Int):=by omega
    have hi3:(0:Int) ≤ (j:Int):=by omega
    have hdw:wrap64 ((j:Int) + 1) = ((j + 1:Nat):Int):=by have:=HN.out; simp [wrap64]; omega
    have he:=List.getElem?_eq_getElem hjl
    have hm:=HOK.out _ (List.getElem_mem hjl)
    have hlx:(pmB ps[j]).length ≤ 70368744177664:=by
        have h3:=zQe (List.getElem_mem hjl)
        have:=HL.out
        simp only [List.flatten_cons,List.length_append] at this
        omega
    generalize ps[j] = x at he hm hlx
    obtain ⟨kb,ko,rfl,hkb,c0,c1,c2,c3⟩:=zFk HP.out he
    have hup:=SS.out.up hF
    have y0:=zD hup c0
    have y1:=zD hup c1
    have y2:=zD hup c2
    have y3:=zD hup c3
    have hkw:kb ≠ wr.heap.size:=by have:=hup.size; omega
    have HE:=vH he
    have HM:=vH hm
    have HLX:=vH hlx
    clear hF hbx hnm hj he hm hlx c0 c1 c2 c3 hup hkb hmk
    go_wp2_with fail
    refine (zB5 _ x HM.out HLX.out).mono ?_
    rintro e u ⟨rfl,hb⟩
    have F5:=vH ((F4.out.go ((Below.refl _ _).alloc (Nat.le_refl _) _)).go hb)
    have HB3:=vH ((hb.block _ (zA (zM _ HB2.out))).trans (zM _ HB2.out))
    have NM:=vH ((HNM.out.go ((Below.refl _ _).alloc (Nat.le_refl _) _)).go hb)
    clear hb y0 y1 y2 y3
    obtain ⟨A,n1,n2,-⟩:=id NM.out
    obtain ⟨v0,hv0⟩:∃ v0,A[j]? = some v0:=⟨_,Array.getElem?_eq_getElem (by omega)⟩
    have z1:u.cell? ⟨w.heap.size + 1,j,none⟩ = some v0:=by rw [cell_of_row _ _ _ _ _ _ n1]; exact hv0
    have z2:u.frozen? ⟨w.heap.size + 1,j,none⟩ = false:=frozen_of_row _ _ _ _ _ n1
    have N1:=vH n1
    clear n1 n2 hv0
    go_wp2_with fail
    go_roundg m
    case measure => omega
    case rel => exact ⟨j + 1,by have:=HJJ.out; omega,by first | rfl | simp [hdw],F5.out.set N1.out (by decide) (by have:=HLT.out; omega) (by have:=HW1.out; omega) _,(Below.heap_setCell _ _ _ _ (by show w.heap.size ≠ w.heap.size + 1; omega)).trans HB3.out,NM.out.next HE.out⟩
end Go.Proofs.YteadgahhchlgeaaDoor
