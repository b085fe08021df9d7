/-
  The project's writer of statements: the whole.
-/
import Derived.Test.YtmiiplefgkcklaaDoorK04
import Derived.Test.YtmiiplefgkcklaaDoorK40
import Derived.Test.YtmiiplefgkcklaaDoorK22
set_option maxHeartbeats 8000000
set_option maxRecDepth 8000
namespace Go.Proofs.YtmiiplefgkcklaaDoor
open Go.RowKit
open Pe (Ex)
open Ps (Sm kindOf)
open Rt (tyB lvl prE prL pad prS prB stOf blT shS shB shSK shL shE zKY zAy zCb)
theorem zRb:∀ {xs:List Sm}{n:Nat}{x:Sm},shB xs n → x ∈ xs → shS x n
 | [],_,_,_,h => by cases h
 | y :: ys,n,x,h,hm => by
   rw [shB] at h
   rcases List.mem_cons.1 hm with rfl | hm
   ·exact h.1
   ·exact zRb h.2 hm
theorem zSo (x:Sm)(d:Nat) : 1 ≤ (prS x d).length:=by
 cases x
 rw [prS]
 simp only [List.length_append,List.length_cons,List.length_nil]
 omega
theorem zRj:∀ (xs:List Sm)(d:Nat),xs.length ≤ (prB xs d).length
 | [],_ => Nat.zero_le _
 | x :: xs,d => by
   have h1:=zRj xs d
   have h2:=zSo x d
   rw [prB,List.length_append,List.length_cons]
   omega
theorem zRQ {x:Sm}{body:List Sm}(hx:x ∈ body)(k:Int)(n o:List UInt8)(d:Int)(es:List Ex)(els:List Sm)(a r:Int):SizeOf.sizeOf x < SizeOf.sizeOf (Sm.mk k n o d es body els a r):=by
 have:=List.sizeOf_lt_of_mem hx
 simp
 omega
theorem zRY {x:Sm}{els:List Sm}(hx:x ∈ els)(k:Int)(n o:List UInt8)(d:Int)(es:List Ex)(body:List Sm)(a r:Int):SizeOf.sizeOf x < SizeOf.sizeOf (Sm.mk k n o d es body els a r):=by
 have:=List.sizeOf_lt_of_mem hx
 simp
 omega
theorem zS0:∀ (m:Nat)(x:Sm),SizeOf.sizeOf x ≤ m → ∀ {b d q:Nat}{w0 w1:World},shS x q → d + q ≤ 50 → Sta b w0 w1 → ∀ {bl off:Nat},St1 w0 bl off x → GivW b (d:Int) w1 87 #[.pointer (some ⟨b,0,none⟩),.pointer (some ⟨bl,off,none⟩)] (prS x d):=by
 intro m
 induction m with
 | zero => intro x h; cases x; simp at h
 | succ m ih =>
   intro x hs b d q w0 w1 hsh hdq hS bl off hA
   obtain ⟨k,nm,ot,dm,es,body,els,a,r⟩:=x
   obtain ⟨hbl,vs,hi,hc⟩:=hA
   rw [SIs] at hi
   obtain ⟨p,c,qb,cb,qe,ce,rfl,hp,hqb,hqe⟩:=hi
   have hk:Ks w0 bl off k nm ot dm (.slice p es.length c) (.slice qb body.length cb) (.slice qe els.length ce) a r:=zH0 hc
   rw [shS] at hsh
   obtain ⟨⟨hk0,hkd,hm1,hm2,hm7⟩,hsl,hb1,he1,hsb,hse⟩:=hsh
   have hd:d ≤ 50:=by omega
   have hB:∀ (n:body.length ≤ 100000000000000),GivW b (d:Int) w1 74 #[.pointer (some ⟨b,0,none⟩),.slice qb body.length cb] (prB body (d + 1)):=fun n =>
    zQ4 hS hd qb cb body hqb n fun x hx bl off h1 => ih x (by have:=zRQ hx k nm ot dm es els a r; omega) (zRb hsb hx) (by
        rcases hb1 with h | h
        ·rw [h] at hx; cases hx
        ·omega) hS h1
   have hE:∀ (n:els.length ≤ 100000000000000),GivW b (d:Int) w1 74 #[.pointer (some ⟨b,0,none⟩),.slice qe els.length ce] (prB els (d + 1)):=fun n =>
    zQ4 hS hd qe ce els hqe n fun x hx bl off h1 => ih x (by have:=zRY hx k nm ot dm es body a r; omega) (zRb hse hx) (by
        rcases he1 with h | h
        ·rw [h] at hx; cases hx
        ·omega) hS h1
   have hX:∀ (j:Nat) (x:Ex),es[j]? = some x → es.length ≤ 2 → (prE x).length ≤ 70368744177664 → Gives w0 97 #[.pointer (some ⟨bl,off,none⟩),.int .i64 (j:Int)] (prE x):=fun j x hx h2 hl =>
    zRK hS.env hp hk j _ rfl hx (zKY hsl (List.mem_of_getElem? hx)) (by omega) hl
   clear hc hs ih hp hqb hqe
   obtain ⟨D,rfl⟩:=Int.eq_ofNat_of_zero_le hkd.1
   have hcs:k = 1 ∨ k = 2 ∨ k = 3 ∨ k = 4 ∨ k = 5 ∨ k = 6 ∨ k = 7 ∨ k = 8 ∨ k = 9:=by omega
   rw [prS]
   intro l w hW hlen
   simp only [List.length_append] at hlen
   rcases hcs with rfl | rfl | rfl | rfl | rfl | rfl | rfl | rfl | rfl
   ·have h1:(stOf d 1 nm ot D (prL es) (prB body (d + 1)) els.isEmpty (prB els (d + 1))) = [118,97,114] ++ 32 :: (nm ++ 58 :: 32 :: (tyB ot D ++ [59])):=rfl
    rw [h1] at hlen ⊢
    simp only [List.length_append,List.length_cons,List.length_nil,zQJ] at hlen
    have h2:=zTc hS hd D (tyB ot D) (fun w1 => zQY w1 ot D (by omega) (by omega)) hk l w hW (by simp only [List.flatten_cons,List.flatten_nil,List.length_append,List.length_cons,List.length_nil,zQJ]; omega)
    simpa using h2
   ·obtain ⟨e,rfl⟩:=zQO (hm1 (by omega))
    rw [zAy] at hlen ⊢
    have h1:(stOf d 2 nm ot D [(lvl (kindOf e),prE e)] (prB body (d + 1)) els.isEmpty (prB els (d + 1))) = [108,101,116] ++ 32 :: (nm ++ 58 :: 32 :: (tyB ot D ++ 32 :: 61 :: 32 :: (prE e ++ [59]))):=rfl
    rw [h1] at hlen ⊢
    simp only [List.length_append,List.length_cons,List.length_nil,zQJ] at hlen
    have h2:=zTf hS hd D (tyB ot D) (prE e) (fun w1 => zQY w1 ot D (by omega) (by omega)) (hX 0 e rfl (by simp) (by omega)) hk l w hW (by simp only [List.flatten_cons,List.flatten_nil,List.length_append,List.length_cons,List.length_nil,zQJ]; omega)
    simpa using h2
   ·obtain ⟨e,rfl⟩:=zQO (hm1 (by omega))
    rw [zAy] at hlen ⊢
    have h1:(stOf d 3 nm ot D [(lvl (kindOf e),prE e)] (prB body (d + 1)) els.isEmpty (prB els (d + 1))) = nm ++ 32 :: 61 :: 32 :: (prE e ++ [59]):=rfl
    rw [h1] at hlen ⊢
    simp only [List.length_append,List.length_cons,List.length_nil] at hlen
    have h2:=zTd hS hd (prE e) (hX 0 e rfl (by simp) (by omega)) hk l w hW (by simp only [List.flatten_cons,List.flatten_nil,List.length_append,List.length_cons,List.length_nil]; omega)
    simpa using h2
   ·obtain ⟨e,e2,rfl⟩:=zQ2 (hm2 (by omega))
    rw [zCb] at hlen ⊢
    have h1:(stOf d 4 nm ot D [(lvl (kindOf e),prE e),(lvl (kindOf e2),prE e2)] (prB body (d + 1)) els.isEmpty (prB els (d + 1))) = prE e ++ 32 :: 61 :: 32 :: (prE e2 ++ [59]):=rfl
    rw [h1] at hlen ⊢
    simp only [List.length_append,List.length_cons,List.length_nil] at hlen
    have h2:=zTe hS hd (prE e) (prE e2) (hX 0 e rfl (by simp) (by omega)) (hX 1 e2 rfl (by simp) (by omega)) hk l w hW (by simp only [List.flatten_cons,List.flatten_nil,List.length_append,List.length_cons,List.length_nil]; omega)
    simpa using h2
   ·obtain ⟨e,rfl⟩:=zQO (hm1 (by omega))
    rw [zAy] at hlen ⊢
    have hb2:=zRj body (d + 1)
    have he2:=zRj els (d + 1)
    cases els with
    | nil =>
      have h1:(stOf d 5 nm ot D [(lvl (kindOf e),prE e)] (prB body (d + 1)) ([]:List Sm).isEmpty (prB [] (d + 1))) = [105,102] ++ 32 :: (prE e ++ 32 :: (blT d (prB body (d + 1)) ++ [])):=rfl
      rw [h1] at hlen ⊢
      unfold blT at hlen ⊢
      simp only [List.length_append,List.length_cons,List.length_nil] at hlen
      have h2:=s_if hS hd _ (zTu hS hd qe ce (prE e) (prB body (d + 1)) (hX 0 e rfl (by simp) (by omega)) (hB (by omega)) hk) hk l w hW (by simp only [List.flatten_cons,List.flatten_nil,List.length_append,List.length_cons,List.length_nil]; omega)
      simpa using h2
    | cons y ys =>
      have h1:(stOf d 5 nm ot D [(lvl (kindOf e),prE e)] (prB body (d + 1)) (y :: ys).isEmpty (prB (y :: ys) (d + 1))) = [105,102] ++ 32 :: (prE e ++ 32 :: (blT d (prB body (d + 1)) ++ 32 :: ([101,108,115,101] ++ 32 :: blT d (prB (y :: ys) (d + 1))))):=rfl
      rw [h1] at hlen ⊢
      unfold blT at hlen ⊢
      simp only [List.length_append,List.length_cons,List.length_nil] at hlen
      rw [List.length_cons] at he2
      have h2:=s_if hS hd _ (zTv hS hd qe (y :: ys).length ce (Nat.zero_lt_succ _) (prE e) (prB body (d + 1)) (prB (y :: ys) (d + 1)) (hX 0 e rfl (by simp) (by omega)) (hB (by omega)) (hE (by rw [List.length_cons]; omega)) hk) hk l w hW (by simp only [List.flatten_cons,List.flatten_nil,List.length_append,List.length_cons,List.length_nil]; omega)
      simpa using h2
   ·obtain ⟨e,rfl⟩:=zQO (hm1 (by omega))
    rw [zAy] at hlen ⊢
    have hb2:=zRj body (d + 1)
    have h1:(stOf d 6 nm ot D [(lvl (kindOf e),prE e)] (prB body (d + 1)) els.isEmpty (prB els (d + 1))) = [119,104,105,108,101] ++ 32 :: (prE e ++ 32 :: blT d (prB body (d + 1))):=rfl
    rw [h1] at hlen ⊢
    unfold blT at hlen ⊢
    simp only [List.length_append,List.length_cons,List.length_nil] at hlen
    have h2:=zSg hS hd (prE e) (prB body (d + 1)) (hX 0 e rfl (by simp) (by omega)) (hB (by omega)) hk l w hW (by simp only [List.flatten_cons,List.flatten_nil,List.length_append,List.length_cons,List.length_nil]; omega)
    simpa using h2
   ·match es,hm7 rfl with
    | [],_ =>
      have h1:(stOf d 7 nm ot D (prL []) (prB body (d + 1)) els.isEmpty (prB els (d + 1))) = [114,101,116,117,114,110] ++ ([] ++ [59]):=by rw [prL]; rfl
      rw [h1] at hlen ⊢
      simp only [List.length_append,List.length_cons,List.length_nil] at hlen
      have h2:=zSE hS hd _ (zSH hS hd p c hk) hk l w hW (by simp only [List.flatten_cons,List.flatten_nil,List.length_append,List.length_cons,List.length_nil]; omega)
      simpa using h2
    | [e],_ =>
      rw [zAy] at hlen ⊢
      have h1:(stOf d 7 nm ot D [(lvl (kindOf e),prE e)] (prB body (d + 1)) els.isEmpty (prB els (d + 1))) = [114,101,116,117,114,110] ++ ((32 :: prE e) ++ [59]):=rfl
      rw [h1] at hlen ⊢
      simp only [List.length_append,List.length_cons,List.length_nil] at hlen
      have h2:=zSE hS hd _ (zTh hS hd p c (prE e) (hX 0 e rfl (by simp) (by omega)) hk) hk l w hW (by simp only [List.flatten_cons,List.flatten_nil,List.length_append,List.length_cons,List.length_nil]; omega)
      simpa using h2
   ·obtain ⟨e,rfl⟩:=zQO (hm1 (by omega))
    rw [zAy] at hlen ⊢
    have h1:(stOf d 8 nm ot D [(lvl (kindOf e),prE e)] (prB body (d + 1)) els.isEmpty (prB els (d + 1))) = [112,114,105,110,116] ++ 32 :: (prE e ++ [59]):=rfl
    rw [h1] at hlen ⊢
    simp only [List.length_append,List.length_cons,List.length_nil] at hlen
    have h2:=zSh hS hd (prE e) (hX 0 e rfl (by simp) (by omega)) hk l w hW (by simp only [List.flatten_cons,List.flatten_nil,List.length_append,List.length_cons,List.length_nil]; omega)
    simpa using h2
   ·obtain ⟨e,rfl⟩:=zQO (hm1 (by omega))
    rw [zAy] at hlen ⊢
    have h1:(stOf d 9 nm ot D [(lvl (kindOf e),prE e)] (prB body (d + 1)) els.isEmpty (prB els (d + 1))) = prE e ++ [59]:=rfl
    rw [h1] at hlen ⊢
    simp only [List.length_append,List.length_cons,List.length_nil] at hlen
    have h2:=s_do hS hd (prE e) (hX 0 e rfl (by simp) (by omega)) hk l w hW (by simp only [List.flatten_cons,List.flatten_nil,List.length_append,List.length_cons,List.length_nil]; omega)
    simpa using h2
theorem zRO {x:Sm}{b d q:Nat}{w0 w1:World}(h:shS x q)(hd:d + q ≤ 50)(hS:Sta b w0 w1){bl off:Nat}(hA:St1 w0 bl off x):GivW b (d:Int) w1 87 #[.pointer (some ⟨b,0,none⟩),.pointer (some ⟨bl,off,none⟩)] (prS x d):=zS0 _ x (Nat.le_refl _) h hd hS hA
end Go.Proofs.YtmiiplefgkcklaaDoor
namespace Go.Proofs.YtmiiplefgkcklaaDoor
open Go.RowKit
open Pe (Ex)
open Ps (Sm kindOf)
open Pg (Pm Rc Fc Gm)
open Rt (tyB pad prB pmB fdB rcB PmOk RcOk)
theorem Sta.at_ {b:Nat}{w0 w1 w:World}{l:List UInt8}{n:Int}(h:Sta b w0 w1)(hW:Ws b l n w1 w):Sta b w0 w:=⟨h.size,h.up hW,h.env⟩
theorem zQX (w:World)(x:Pm)(hx:PmOk x)(hl:(pmB x).length ≤ 70368744177664) :
 Calls Tryd.prog 50 #[.agg #[.string (cbs x.name),.string (cbs x.ofn),.int .i64 x.dims,.int .i64 x.at_]] w fun e w' => e = .returned (.string (cbs (pmB x))) ∧ Below w.heap.size w w':=by
 obtain ⟨nm,o,dm,a⟩:=x
 obtain ⟨h0,h3⟩:=hx
 dsimp only at h0 h3 ⊢
 obtain ⟨D,rfl⟩:=Int.eq_ofNat_of_zero_le h0
 have h1:(pmB ⟨nm,o,(D:Int),a⟩) = nm ++ 58 :: 32 :: tyB o D:=rfl
 rw [h1] at hl ⊢
 simp only [List.length_append,List.length_cons,zQJ] at hl
 exact zRn w nm o D a (by omega) (by omega) (by omega) fun w1 => zQY w1 o D (by omega) (by omega)
theorem zRU {w:World}{B:Nat}{p:Option Addr}{l:List Pm}(h:PsAt w B p l){j:Nat}{x:Pm}(hx:l[j]? = some x):∃ bl off,p = some ⟨bl,off,none⟩ ∧ bl < w.heap.size ∧ w.cell? ⟨bl,off + j * 4,none⟩ = some (.string (cbs x.name)) ∧ w.cell? ⟨bl,off + j * 4 + 1,none⟩ = some (.string (cbs x.ofn)) ∧ w.cell? ⟨bl,off + j * 4 + 2,none⟩ = some (.int .i64 x.dims) ∧ w.cell? ⟨bl,off + j * 4 + 3,none⟩ = some (.int .i64 x.at_):=by
 obtain ⟨bl,off,vs,h1,h2,h3,h4⟩:=h.lat.get hx
 rw [PIs] at h3
 subst h3
 exact ⟨bl,off,h1,h2,h4 0 _ (by decide) rfl,h4 1 _ (by decide) rfl,h4 2 _ (by decide) rfl,h4 3 _ (by decide) rfl⟩
theorem zSv {x:Pm}{l:List Pm}{j:Nat}(h:l.drop j = x :: l.drop (j + 1)):fdB (l.drop j) = pad 1 ++ (([pmB x,[59]]:List (List UInt8)).flatten ++ [10]) ++ fdB (l.drop (j + 1)):=by
 rw [h,fdB]
 simp [pad,List.replicate]
theorem zSV {b:Nat}{l:List UInt8}{d:Nat}{w1 w:World}(ss:List (List UInt8))(N:Nat)(hN:w.heap.size = N)(h:Ws b l (d:Int) w1 w)(hd:d ≤ 50)(hlen:l.length + (pad d ++ (ss.flatten ++ [10])).length ≤ 70368744177664)(hs:ss.length ≤ 1000)(A:Array Value)(hA:A = (ss.map fun s => Value.string (cbs s)).toArray)(k:Nat)(hk:k = ss.length) :
 Calls Tryd.prog 49 #[.pointer (some ⟨b,0,none⟩),.slice (some ⟨N,0,none⟩) k k] (w.alloc (.cells A 9)) fun e w' => e = .returned (.tuple #[]) ∧ Ws b (l ++ (pad d ++ (ss.flatten ++ [10]))) (d:Int) w1 w':=by
 subst hN
 exact zQS ss h hd hlen hs A hA k hk
theorem zRM {b:Nat}{w0 w1:World}(hS:Sta b w0 w1)(nm:List UInt8)(p:Option Addr)(c:Nat)(a:Int)(fs:List Pm)(hp:PsAt w0 0 p fs)(hok:∀ x ∈ fs,PmOk x)(hn:fs.length ≤ 8) :
 GivW b ((0:Nat):Int) w1 48 #[.pointer (some ⟨b,0,none⟩),.agg #[.string (cbs nm),.slice p fs.length c,.int .i64 a]]
  (pad 0 ++ (([[114,101,99,111,114,100,32],nm,[32,123]]:List (List UInt8)).flatten ++ [10]) ++ (fdB fs ++ (pad 0 ++ (([[125]]:List (List UInt8)).flatten ++ [10])))):=by
 intro l w hW hlen
 have hg:=hW.go (w':=w.alloc (.cells #[.string (cbs nm),.slice p fs.length c,.int .i64 a] 64)) ((Below.refl _ _).alloc (Nat.le_refl _) _)
 have H0:=vH hg
 have F:=vH (Ws.start hg.is)
 have SS:=vH (hS.at_ hg)
 have HBX:=vH (heap_alloc_new w (.cells #[.string (cbs nm),.slice p fs.length c,.int .i64 a] 64))
 have HNE:=vH (Nat.ne_of_gt hW.is.lt)
 have H1:Hid (l.length + (pad 0 ++ (([[114,101,99,111,114,100,32],nm,[32,123]]:List (List UInt8)).flatten ++ [10])).length ≤ 70368744177664):=vH (by
  simp only [List.length_append] at hlen ⊢
  omega)
 have HL:=vH hlen
 have HP:=vH hp
 have HOK:=vH hok
 have HN:=vH hn
 clear hW hlen hp hok hS hg hn
 go_in
 go_wp2_with fail
 refine (zSV [[114,101,99,111,114,100,32],nm,[32,123]] (w.heap.size + 1) (zB _ _) F.out (by decide) H1.out (by simp) _ rfl 3 rfl).mono ?_
 rintro e u ⟨rfl,hW2⟩
 have F2:=vH hW2
 have hc:=hW2.is.cell2
 have hf:=hW2.is.froz2
 obtain ⟨⟨b0,b1,b2⟩,-⟩:=tri (hW2.box HBX.out HNE.out (by decide))
 have hne:=HNE.out
 clear hW2 F
 go_wp2_with fail
 clear hc hf
 have F3:=vH (F2.out.blocks ((1:Nat):Int))
 clear b0 b1 b2 hne
 go_loopg [21] fs.length (fun g v wr => ∃ j:Nat,g + j = fs.length ∧ v = .int .i64 (j:Int) ∧ ∃ t:List UInt8,Ws b t ((1:Nat):Int) (w.alloc (.cells #[.string (cbs nm),.slice p fs.length c,.int .i64 a] 64)) wr ∧ t ++ fdB (fs.drop j) = l ++ (pad 0 ++ (([[114,101,99,111,114,100,32],nm,[32,123]]:List (List UInt8)).flatten ++ [10])) ++ fdB fs)
 case atStart => exact ⟨0,rfl,rfl,_,F3.out,rfl⟩
 case round =>
  obtain ⟨j,hj,rfl,t,hF,ht⟩:=hrel
  have F4:=vH hF
  have HT:=vH ht
  have HJ:=vH hj
  cases gk with
  | zero =>
    obtain rfl:j = fs.length:=by omega
    have hd1:decide ((fs.length:Int) < (fs.length:Int)) = false:=decide_eq_false (by omega)
    have hc:=hF.is.cell2
    have hf:=hF.is.froz2
    have h9:=ht
    rw [List.drop_of_length_le (Nat.le_refl _),fdB,List.append_nil] at h9
    have H9:=vH h9
    have F5:=vH ((hF.blocks ((0:Nat):Int)).cast h9)
    have H2:Hid ((l ++ (pad 0 ++ (([[114,101,99,111,114,100,32],nm,[32,123]]:List (List UInt8)).flatten ++ [10])) ++ fdB fs).length + (pad 0 ++ (([[125]]:List (List UInt8)).flatten ++ [10])).length ≤ 70368744177664):=vH (by
        have:=HL.out
        simp only [List.length_append] at this ⊢
        omega)
    clear hF ht hj h9
    go_wp2_with fail
    refine (zSV [[125]] wr.heap.size (zU _ _ _) F5.out (by decide) H2.out (by simp) _ rfl 1 rfl).mono ?_
    rintro e u ⟨rfl,hW2⟩
    have F6:=vH hW2
    clear hW2
    go_wp2_with fail
    go_end0
    exact ⟨rfl,(H0.out.join F6.out).cast (by simp only [List.append_assoc])⟩
  | succ m =>
    have hjl:j < fs.length:=by omega
    have hd1:decide ((j:Int) < (fs.length:Int)) = true:=decide_eq_true (by omega)
    have hd2:decide (fs.length ≤ j) = false:=decide_eq_false (by omega)
    have hi1:(j:Int) < (fs.length:Int):=by omega
    have hi3:(0:Int) ≤ (j:Int):=by omega
    have hdw:wrap64 ((j:Int) + 1) = ((j + 1:Nat):Int):=by have:=HN.out; simp [wrap64]; omega
    have he:=List.getElem?_eq_getElem hjl
    have hd4:fs.drop j = fs[j] :: fs.drop (j + 1):=List.drop_eq_getElem_cons hjl
    have hm:=HOK.out _ (List.getElem_mem hjl)
    generalize fs[j] = x at he hd4 hm
    obtain ⟨kb,ko,rfl,hkb,c0,c1,c2,c3⟩:=zRU HP.out he
    have hup:=SS.out.up hF
    have y0:=zQI hup c0
    have y1:=zQI hup c1
    have y2:=zQI hup c2
    have y3:=zQI hup c3
    have hkw:kb ≠ wr.heap.size:=by have:=hup.size; omega
    have hn2:=ht
    rw [zSv hd4] at hn2
    have h3:=congrArg List.length hn2
    have h4:=HL.out
    simp only [List.length_append] at h3 h4
    have h2:t.length + (pad 1 ++ (([pmB x,[59]]:List (List UInt8)).flatten ++ [10])).length ≤ 70368744177664:=by
        simp only [List.length_append]
        omega
    have h5:(pmB x).length ≤ 70368744177664:=by
        simp only [List.flatten_cons,List.length_append] at h2
        omega
    have H2:=vH h2
    have H5:=vH h5
    have HN2:=vH hn2
    have HM:=vH hm
    clear hF ht hj he hd4 hm hn2 h2 h3 h4 h5 c0 c1 c2 c3 hup hkb
    go_wp2_with fail
    refine (zQX _ x HM.out H5.out).mono ?_
    rintro e u ⟨rfl,hb⟩
    have F5:=vH ((F4.out.go ((Below.refl _ _).alloc (Nat.le_refl _) _)).go hb)
    clear hb y0 y1 y2 y3
    go_wp2_with fail
    refine (zQS [pmB x,[59]] F5.out (by decide) H2.out (by simp) _ rfl 2 rfl).mono ?_
    rintro e u ⟨rfl,hW2⟩
    have F6:=vH hW2
    clear hW2
    go_wp2_with fail
    go_roundg m
    case measure => omega
    case rel => exact ⟨j + 1,by have:=HJ.out; omega,by first | rfl | simp [hdw],_,F6.out,by rw [← HN2.out]; simp only [List.append_assoc]⟩
end Go.Proofs.YtmiiplefgkcklaaDoor
