/-
  What is printed of a program that was read is not long (plai
-/
import Derived.Test.YteadgahhchlgeaaDoorK07
import Derived.Test.YteadgahhchlgeaaDoorK02
import Derived.Test.YteadgahhchlgeaaDoorK36
import Derived.Deep.LoopGhost
import Derived.Deep.RegionHeld3
set_option maxRecDepth 8000
set_option maxHeartbeats 8000000
namespace Go.Proofs.YteadgahhchlgeaaDoor
namespace Rt
open Go.RowKit
open Go.Lib (decDigits)
open Px (RT tokAt isT levelT signsOf)
open Qe (Q)
open Pe (Ex inc dec)
open Ps (Sm kindOf nameOf)
open Pg (Pm Rc Fc Gm)
open Ln.Lx (isName toks)
theorem zKX {r:List UInt8}(h:(answer r).2.1 = 0):szG (answer r).1 ≤ 6001:=by
 obtain ⟨vs,E,K,ht⟩:∃ vs E K,toks r = (vs,E,K):=⟨_,_,_,rfl⟩
 by_cases hE:E = 0
 ·subst hE
  obtain ⟨x,h1,h2,h3⟩:=zD4 ht
  rw [h1] at h ⊢
  unfold Qg.run at h2
  split at h2
  ·cases h2
  rename_i p q hq
  obtain rfl:=Option.some.inj h2
  unfold Qg.pgEnd at h ⊢
  by_cases hq0:q.E = 0
  ·rw [if_pos hq0]
   have hl:(vs.map toRT).length ≤ 900000000:=by omega
   obtain ⟨-,h4,h5⟩:=zCE hl (zGl hl (fun s y hy => run_up hl _ 0 s y hy) _).2 _ hq hq0
   have h6:szG Gm.zero = 0:=rfl
   rw [h6] at h4
   dsimp only at h4 h5 ⊢
   omega
  ·rw [if_neg hq0] at h
   exact (hq0 h).elim
 ·unfold answer at h
  rw [ht] at h
  dsimp only at h
  rw [if_neg hE] at h
  exact absurd h (by show ¬ ((E:Nat):Int) = 0; omega)
theorem zFq:∀ (k u:Nat),u < 10 ^ (k + 1) → (decDigits u).length ≤ k + 1
 | 0,u,h => by rw [zDU (by omega)]; exact Nat.le_refl _
 | k + 1,u,h => by
   by_cases hu:u < 10
   ·rw [zDU hu]; simp
   ·rw [zGd hu,List.length_append,List.length_singleton]
    have:=zFq k (u / 10) (by rw [Nat.pow_succ] at h; omega)
    omega
theorem zN7 {n:Int}(h:NuB n):(decDigits n.toNat).length ≤ 19:=zFq 18 _ (by have:=h.2; omega)
theorem zAJ {t:List UInt8}(h:NmB t):t.length ≤ 8:=by
 cases t with
 | nil => cases h
 | cons c r =>
   unfold NmB isName at h
   simp only [Bool.and_eq_true,decide_eq_true_eq] at h
   exact h.1.1.1
theorem zEc {t:List UInt8}{d:Nat}(hd:d ≤ 3)(h:OkL NmB NuB (tyT t d)):(tyB t d).length ≤ 14:=by
 have hw:t.length ≤ 8:=by
  have hm:Ok NmB NuB (word t):=h _ (List.mem_append_left _ (List.mem_append_right _ (List.mem_singleton.2 rfl)))
  unfold word at hm
  split at hm
  ·rename_i hc
   rcases hc with rfl | rfl <;> decide
  ·exact zAJ (hm.1 rfl)
 unfold tyB
 rw [List.length_append,List.length_append,List.length_replicate,List.length_replicate]
 omega
theorem zHT (n:Nat)(x:Nat × List UInt8):(prW n x).length ≤ x.2.length + 2:=by
 unfold prW
 split
 ·simp
 ·omega
def LE (e:Ex)(l:List PT):Prop:=OkL NmB NuB l → (prE e).length + 4 ≤ 40 * szE e
def LM (xs:List Ex)(l:List PT):Prop:=OkL NmB NuB l → (prM (prL xs)).length ≤ 40 * szL xs
theorem zQi {n:Nat}{t:List UInt8}{kind:Int}(h:(t,kind) ∈ signsOf n):t.length ≤ 2:=by
 have:=(zCO h).2.2.1
 have key:∀ t ∈ ops,t.length ≤ 2:=by decide
 exact key t this
theorem zSA {n:Nat}{t:List UInt8}{kind:Int}{x:Ex}{l:List PT}{y:Ex}{l2:List PT}{a:Int}(hs:(t,kind) ∈ signsOf n)(h:LE x l)(h2:LE y l2):LE (Ex.of kind 0 [] [] 0 [x,y] a) (l ++ (sg t :: l2)):=by
 intro hl
 have hx:=h hl.left
 have hy:=h2 hl.right.tail
 obtain ⟨f1,f2,f3,f4⟩:=zCO hs
 have ho:=zQi hs
 have hp:prOf kind 0 [] [] 0 (prL [x,y]) = prW (n + 1) (lvl (kindOf x),prE x) ++ 32 :: (t ++ 32 :: prW (n + 2) (lvl (kindOf y),prE y)):=by
  rw [zAC]
  unfold prOf
  rw [if_neg (by omega),if_neg (by omega),if_neg (by omega),if_neg (by omega),if_neg (by omega),if_neg (by omega),if_neg (by omega),if_neg (by omega),if_neg (by omega),if_neg (by omega),if_neg (by omega),if_neg (by omega),if_neg (by omega),f1,f2]
  rfl
 have w1:=zHT (n + 1) (lvl (kindOf x),prE x)
 have w2:=zHT (n + 2) (lvl (kindOf y),prE y)
 dsimp only at w1 w2
 rw [zAf,hp,zAN,zCL]
 simp only [List.length_append,List.length_cons]
 omega
theorem zQy {t:List UInt8}{a:Int}{x:Ex}{l:List PT}{xs:List Ex}{l2:List PT}(h:LE x l)(h2:LM xs l2):LE (Ex.of 7 0 t [] 0 (x :: xs) a) (nm t :: sg [40] :: (l ++ (l2 ++ [sg [41]]))):=by
 intro hl
 have hn:=zAJ hl.name
 have hx:=h hl.tail.tail.left
 have hm:=h2 hl.tail.tail.right.left
 rw [zAf,prL,zAN,szL]
 show (t ++ 40 :: ((prE x ++ prM (prL xs)) ++ [41])).length + 4 ≤ _
 simp only [List.length_append,List.length_cons,List.length_nil]
 omega
theorem zB3 {n:Nat}{e:Ex}{d:Nat}{l:List PT}(h:EW n e d l):LE e l:=
 EW.rec (motive_1:=fun e _ _ l _ => LE e l) (motive_2:=fun _ e _ l _ => LE e l) (motive_3:=fun xs _ l _ => LM xs l)
  (fun n a hl => by
   have:=zN7 ((hl _ (List.mem_singleton.2 rfl)).2 rfl)
   rw [zAf,prL,zAN,szL]
   show (decDigits n.toNat).length + 4 ≤ _
   have h2:(decDigits n.toNat).length ≤ 19:=this
   omega)
  (fun a _ => by rw [zAf,zAN]; show 4 + 4 ≤ _; omega)
  (fun a _ => by rw [zAf,zAN]; show 5 + 4 ≤ _; omega)
  (fun t d a hd hl => by
   have:=zEc hd hl.tail
   rw [zAf,zAN]
   show ([110,117,108,108] ++ 32 :: tyB t ((d:Nat):Int).toNat).length + 4 ≤ _
   rw [Int.toNat_natCast]
   simp only [List.length_append,List.length_cons,List.length_nil]
   omega)
  (fun t a hl => by
   have:=zAJ hl.name
   rw [zAf,zAN]
   show t.length + 4 ≤ _
   omega)
  (fun x d l t a _ h hl => by
   have hx:=h hl.left
   have hn:=zAJ hl.right.tail.name
   have w:=zHT 7 (lvl (kindOf x),prE x)
   rw [zAf,zG,zAN,zV]
   show (prW 7 (lvl (kindOf x),prE x) ++ 46 :: t).length + 4 ≤ _
   simp only [List.length_append,List.length_cons] at w ⊢
   omega)
  (fun x d l i d2 l2 a _ _ h h2 hl => by
   have hx:=h hl.left
   have hi:=h2 hl.right.tail.left
   have w:=zHT 7 (lvl (kindOf x),prE x)
   rw [zAf,zAC,zAN,zCL]
   show (prW 7 (lvl (kindOf x),prE x) ++ 91 :: (prE i ++ [93])).length + 4 ≤ _
   simp only [List.length_append,List.length_cons,List.length_nil] at w ⊢
   omega)
  (fun t a hl => by
   have:=zAJ hl.name
   rw [zAf,prL,zAN]
   show (t ++ 40 :: ([] ++ [41])).length + 4 ≤ _
   simp only [List.length_append,List.length_cons,List.length_nil]
   omega)
  (fun t a x d l xs d2 l2 _ _ h h2 => zQy h h2)
  (fun t a hl => by
   have:=zAJ hl.tail.name
   rw [zAf,zAN]
   show ([110,101,119] ++ 32 :: t).length + 4 ≤ _
   simp only [List.length_append,List.length_cons,List.length_nil]
   omega)
  (fun t d x dx l a hd _ h hl => by
   have hx:=h hl.tail.tail.right.tail.tail.left
   have ht:=zEc hd hl.tail.tail.left
   rw [zAf,zG,zAN,zV]
   show ([110,101,119] ++ 32 :: 91 :: (tyB t ((d:Nat):Int).toNat ++ 93 :: 40 :: (prE x ++ [41]))).length + 4 ≤ _
   rw [Int.toNat_natCast]
   simp only [List.length_append,List.length_cons,List.length_nil]
   omega)
  (fun x d l a _ h hl => by
   have hx:=h hl.tail.tail.left
   rw [zAf,zG,zAN,zV]
   show ([108,101,110] ++ 40 :: (prE x ++ [41])).length + 4 ≤ _
   simp only [List.length_append,List.length_cons,List.length_nil]
   omega)
  (fun a _ => by rw [zAf,zAN]; show 6 + 4 ≤ _; omega)
  (fun x d l a _ h hl => by
   have hx:=h hl.tail
   have w:=zHT 6 (lvl (kindOf x),prE x)
   rw [zAf,zG,zAN,zV]
   show (45 :: prW 6 (lvl (kindOf x),prE x)).length + 4 ≤ _
   rw [List.length_cons]
   dsimp only at w
   omega)
  (fun x d l a _ h hl => by
   have hx:=h hl.tail
   have w:=zHT 6 (lvl (kindOf x),prE x)
   rw [zAf,zG,zAN,zV]
   show (33 :: prW 6 (lvl (kindOf x),prE x)).length + 4 ≤ _
   rw [List.length_cons]
   dsimp only at w
   omega)
  (fun n t kind x d l y d2 l2 a hs _ _ h h2 => zSA hs h h2)
  (fun _ _ _ _ _ _ _ h => h) (fun _ _ _ _ _ _ _ h hl => h hl.tail.left)
  (fun _ => by rw [prL,szL]; exact Nat.le_refl _)
  (fun x d l xs d2 l2 _ _ h h2 hl => by
   have hx:=h hl.tail.left
   have hm:=h2 hl.tail.right
   rw [prL,szL]
   show (44 :: 32 :: (prE x ++ prM (prL xs))).length ≤ _
   simp only [List.length_append,List.length_cons]
   omega) h
end Rt
namespace Rt
open Go.RowKit
open Px (RT tokAt isT levelT signsOf)
open Qe (Q)
open Pe (Ex inc dec)
open Ps (Sm kindOf nameOf)
open Pg (Pm Rc Fc Gm)
def LS (M:Nat)(x:Sm)(d:Nat)(l:List PT):Prop:=OkL NmB NuB l → ∀ deep,deep + d ≤ M → (prS x deep).length ≤ (64 + 6 * M) * szS x
def LB (M:Nat)(b:List Sm)(d:Nat)(l:List PT):Prop:=OkL NmB NuB l → ∀ deep,deep + d ≤ M → (blT deep (prB b (deep + 1))).length ≤ 2 * deep + 4 + (64 + 6 * M) * szB b
def LL (M:Nat)(xs:List Sm)(d:Nat)(l:List PT):Prop:=OkL NmB NuB l → ∀ deep,deep + d ≤ M → (prB xs deep).length ≤ (64 + 6 * M) * szB xs
theorem pad_len (deep:Nat):(pad deep).length = 2 * deep:=by unfold pad; rw [List.length_replicate]
theorem zBb {k:Int}{n o:List UInt8}{d:Int}{es:List Ex}{b l:List Sm}{a z:Int}{deep:Nat}:(prS (.mk k n o d es b l a z) deep).length = 2 * deep + ((stOf deep k n o d (prL es) (prB b (deep + 1)) l.isEmpty (prB l (deep + 1))).length + 1):=by
 rw [prS,List.length_append,List.length_append,pad_len]
 rfl
theorem zAU {M deep n E B B2 t:Nat}(hd:deep ≤ M)(ht:t ≤ 40 * E + (2 * deep + 4 + (64 + 6 * M) * B) + (2 * deep + 4 + (64 + 6 * M) * B2) + 40)(hn:n = 1 + E + B + B2) : 2 * deep + (t + 1) ≤ (64 + 6 * M) * n:=by
 subst hn
 have h1 : 40 * E ≤ (64 + 6 * M) * E:=Nat.mul_le_mul_right _ (by omega)
 have h2 : 64 + 6 * deep ≤ 64 + 6 * M:=by omega
 rw [Nat.mul_add,Nat.mul_add,Nat.mul_add,Nat.mul_one]
 generalize 64 + 6 * M = K at *
 generalize K * E = a at *
 generalize K * B = b at *
 generalize K * B2 = c at *
 omega
theorem zQo {M:Nat}(t ty:List UInt8)(d:Nat)(a:Int)(e:Ex)(de:Nat)(l:List PT)(hd:d ≤ 3)(he:EW 1 e de l):LS M (.mk 2 t ty d [e] [] [] a 0) de (wd [108,101,116] :: nm t :: sg [58] :: (tyT ty d ++ (sg [61] :: (l ++ [sg [59]])))):=by
 intro hl deep hM
 have h1:=zAJ hl.tail.name
 have h2:=zEc hd hl.tail.tail.tail.left
 have h3:=zB3 he hl.tail.tail.tail.right.tail.left
 rw [zBb]
 refine zAU (E:=szE e) (B:=0) (B2:=0) (by omega) ?_ (by rw [zBh,zV,zAq])
 rw [zG]
 show ([108,101,116] ++ 32 :: (t ++ 58 :: 32 :: (tyB ty ((d:Nat):Int).toNat ++ 32 :: 61 :: 32 :: (prE e ++ [59])))).length ≤ _
 rw [Int.toNat_natCast]
 simp only [List.length_append,List.length_cons,List.length_nil]
 omega
theorem zQn {M:Nat}(x:Ex)(dx:Nat)(lx:List PT)(a:Int)(e:Ex)(de:Nat)(l:List PT)(hx:EW 1 x dx lx)(he:EW 1 e de l):LS M (.mk 4 [] [] 0 [x,e] [] [] a 0) (max dx de) (lx ++ (sg [61] :: (l ++ [sg [59]]))):=by
 intro hl deep hM
 have h1:=zB3 hx hl.left
 have h3:=zB3 he hl.right.tail.left
 rw [zBb]
 refine zAU (E:=szE x + szE e) (B:=0) (B2:=0) (by omega) ?_ (by rw [zBh,zCL,zAq])
 rw [zAC]
 show (prE x ++ 32 :: 61 :: 32 :: (prE e ++ [59])).length ≤ _
 simp only [List.length_append,List.length_cons,List.length_nil]
 omega
theorem zQq {M:Nat}(e:Ex)(de:Nat)(l:List PT)(b:List Sm)(db:Nat)(lb:List PT)(b2:List Sm)(db2:Nat)(lb2:List PT)(a:Int)(he:EW 1 e de l)(hb:LB M b db lb)(hb2:LB M b2 db2 lb2):LS M (.mk 5 [] [] 0 [e] b b2 a 0) (max de (max db db2)) (wd [105,102] :: (l ++ (lb ++ (wd [101,108,115,101] :: lb2)))):=by
 intro hl deep hM
 have h3:=zB3 he hl.tail.left
 have h4:=hb hl.tail.right.left deep (by omega)
 have h5:=hb2 hl.tail.right.right.tail deep (by omega)
 rw [zBb]
 refine zAU (E:=szE e) (B:=szB b) (B2:=szB b2) (by omega) ?_ (by rw [zBh,zV])
 rw [zG]
 show ([105,102] ++ 32 :: (prE e ++ 32 :: (blT deep (prB b (deep + 1)) ++ (if b2.isEmpty = true then [] else 32 :: ([101,108,115,101] ++ 32 :: blT deep (prB b2 (deep + 1))))))).length ≤ _
 generalize (64 + 6 * M) * szB b = u at *
 generalize (64 + 6 * M) * szB b2 = v at *
 split
 ·simp only [List.length_append,List.length_cons,List.length_nil]
  omega
 ·simp only [List.length_append,List.length_cons,List.length_nil]
  omega
theorem zQp {M:Nat}(e:Ex)(de:Nat)(l:List PT)(b:List Sm)(db:Nat)(lb:List PT)(a:Int)(he:EW 1 e de l)(hb:LB M b db lb):LS M (.mk 5 [] [] 0 [e] b [] a 0) (max de db) (wd [105,102] :: (l ++ lb)):=by
 intro hl deep hM
 have h3:=zB3 he hl.tail.left
 have h4:=hb hl.tail.right deep (by omega)
 rw [zBb]
 refine zAU (E:=szE e) (B:=szB b) (B2:=0) (by omega) ?_ (by rw [zBh,zV,zAq])
 rw [zG]
 show ([105,102] ++ 32 :: (prE e ++ 32 :: (blT deep (prB b (deep + 1)) ++ []))).length ≤ _
 generalize (64 + 6 * M) * szB b = u at *
 simp only [List.length_append,List.length_cons,List.length_nil]
 omega
theorem zLR {M:Nat}(e:Ex)(de:Nat)(l:List PT)(b:List Sm)(db:Nat)(lb:List PT)(a:Int)(he:EW 1 e de l)(hb:LB M b db lb):LS M (.mk 6 [] [] 0 [e] b [] a 0) (max de db) (wd [119,104,105,108,101] :: (l ++ lb)):=by
 intro hl deep hM
 have h3:=zB3 he hl.tail.left
 have h4:=hb hl.tail.right deep (by omega)
 rw [zBb]
 refine zAU (E:=szE e) (B:=szB b) (B2:=0) (by omega) ?_ (by rw [zBh,zV,zAq])
 rw [zG]
 show ([119,104,105,108,101] ++ 32 :: (prE e ++ 32 :: blT deep (prB b (deep + 1)))).length ≤ _
 generalize (64 + 6 * M) * szB b = u at *
 simp only [List.length_append,List.length_cons,List.length_nil]
 omega
theorem zRc (M:Nat){b:List Sm}{d:Nat}{l:List PT}(h:BP b d l):LB M b d l:=
 BP.rec (motive_1:=fun x d l _ => LS M x d l) (motive_2:=fun b d l _ => LB M b d l) (motive_3:=fun xs d l _ => LL M xs d l)
  (fun t ty d a hd hl deep hM => by
   have h1:=zAJ hl.tail.name
   have h2:=zEc hd hl.tail.tail.tail.left
   rw [zBb]
   refine zAU (E:=0) (B:=0) (B2:=0) (by omega) ?_ (by rw [zBh,zET,zAq])
   show ([118,97,114] ++ 32 :: (t ++ 58 :: 32 :: (tyB ty ((d:Nat):Int).toNat ++ [59]))).length ≤ _
   rw [Int.toNat_natCast]
   simp only [List.length_append,List.length_cons,List.length_nil]
   omega)
  (fun t ty d a e de l hd h => zQo t ty d a e de l hd h)
  (fun t a e de l he hl deep hM => by
   have h1:=zAJ hl.name
   have h3:=zB3 he hl.tail.tail.left
   rw [zBb]
   refine zAU (E:=szE e) (B:=0) (B2:=0) (by omega) ?_ (by rw [zBh,zV,zAq])
   rw [zG]
   show (t ++ 32 :: 61 :: 32 :: (prE e ++ [59])).length ≤ _
   simp only [List.length_append,List.length_cons,List.length_nil]
   omega)
  (fun x dx lx a e de l _ hx h => zQn x dx lx a e de l hx h)
  (fun e de l b db lb a h _ h2 => zQp e de l b db lb a h h2) (fun e de l b db lb b2 db2 lb2 a h _ _ h2 h3 => zQq e de l b db lb b2 db2 lb2 a h h2 h3) (fun e de l b db lb a h _ h2 => zLR e de l b db lb a h h2)
  (fun a hl deep hM => by
   rw [zBb]
   refine zAU (E:=0) (B:=0) (B2:=0) (by omega) ?_ (by rw [zBh,zET,zAq])
   rw [prL]
   show 7 ≤ _
   omega)
  (fun a e de l he hl deep hM => by
   have h3:=zB3 he hl.tail.left
   rw [zBb]
   refine zAU (E:=szE e) (B:=0) (B2:=0) (by omega) ?_ (by rw [zBh,zV,zAq])
   rw [zG]
   show ([114,101,116,117,114,110] ++ ((32 :: prE e) ++ [59])).length ≤ _
   simp only [List.length_append,List.length_cons,List.length_nil]
   omega)
  (fun a e de l he hl deep hM => by
   have h3:=zB3 he hl.tail.left
   rw [zBb]
   refine zAU (E:=szE e) (B:=0) (B2:=0) (by omega) ?_ (by rw [zBh,zV,zAq])
   rw [zG]
   show ([112,114,105,110,116] ++ 32 :: (prE e ++ [59])).length ≤ _
   simp only [List.length_append,List.length_cons,List.length_nil]
   omega)
  (fun a e de l hk he hl deep hM => by
   have h3:=zB3 he hl.left
   rw [zBb]
   refine zAU (E:=szE e) (B:=0) (B2:=0) (by omega) ?_ (by rw [zBh,zV,zAq])
   rw [zG]
   show (prE e ++ [59]).length ≤ _
   simp only [List.length_append,List.length_cons,List.length_nil]
   omega)
  (fun b d l _ h hl deep hM => by
   have h1:=h hl.tail.left (deep + 1) (by omega)
   unfold blT
   simp only [List.length_append,List.length_cons,List.length_nil]
   rw [pad_len]
   omega)
  (fun _ deep _ => by rw [prB,szB]; exact Nat.zero_le _)
  (fun x d l xs d2 l2 _ _ h h2 hl deep hM => by
   have h3:=h hl.left deep (by omega)
   have h4:=h2 hl.right deep (by omega)
   rw [prB,szB,List.length_append,Nat.mul_add]
   omega) h
theorem zHl {x:Pm}(hx:PmOk x)(h:OkL NmB NuB (pmT x)):(pmB x).length ≤ 24:=by
 have h1:=zAJ h.name
 have h2:=zEc (by have:=hx.2; omega) h.tail.tail
 unfold pmB
 simp only [List.length_append,List.length_cons]
 omega
theorem zM8:∀ {l:List Pm},(∀ p ∈ l,PmOk p) → OkL NmB NuB (fdT l) → (fdB l).length ≤ 28 * l.length
 | [],_,_ => Nat.le_refl _
 | x :: l,hp,h => by
   have h1:=zHl (hp x (List.mem_cons_self ..)) h.left
   have h2:=zM8 (fun p hp' => hp p (List.mem_cons_of_mem _ hp')) h.right.tail
   rw [fdB]
   simp only [List.length_append,List.length_cons]
   omega
theorem zPX {x:Rc}(h:RcOk x ∧ OkL NmB NuB (rcT x)):(rcB x).length ≤ 300:=by
 have h1:=zAJ h.2.tail.name
 have h2:=zM8 h.1.2 h.2.tail.tail.tail.left
 have h3:=h.1.1
 unfold rcB
 simp only [List.length_append,List.length_cons,List.length_nil]
 omega
theorem zQH {x:Pm}(h:PmOk x ∧ OkL NmB NuB (glT x)):(glB x).length ≤ 300:=by
 have h1:=zHl h.1 h.2.tail.left
 unfold glB
 simp only [List.length_append,List.length_cons,List.length_nil]
 omega
theorem zMZ:∀ {l:List Pm},(∀ p ∈ l,PmOk p) → OkL NmB NuB (paT l) → (paB l).length ≤ 26 * l.length
 | [],_,_ => Nat.le_refl _
 | [x],hp,h => by
   have h1:=zHl (hp x (List.mem_cons_self ..)) h
   show (pmB x).length ≤ 26
   omega
 | x :: y :: l,hp,h => by
   have h1:=zHl (hp x (List.mem_cons_self ..)) h.left
   have h2:=zMZ (l:=y :: l) (fun p hp' => hp p (List.mem_cons_of_mem _ hp')) h.right.tail
   rw [paB]
   simp only [List.length_append,List.length_cons] at h2 ⊢
   omega
theorem zQO {x:Fc}{d:Nat}{l:List PT}(hx:FP x d l)(hd:d ≤ 50)(h:OkL NmB NuB l):(fcB x).length ≤ 300 + 364 * szB x.body:=by
 cases hx with
 | mk name ps has rn rd body a d lb hl hp h0 hrd hb =>
   have h1:=zAJ h.tail.name
   have h2:=zMZ hp h.tail.tail.tail.left
   have h3:=zRc 50 hb h.tail.tail.tail.right.tail.right 0 (by omega)
   rw [Nat.zero_add] at h3
   have h4:(if has = true then 58 :: 32 :: tyB rn ((rd:Nat):Int).toNat else []).length ≤ 16:=by
    have h5:=h.tail.tail.tail.right.tail.left
    unfold resT at h5
    rw [Int.toNat_natCast]
    split
    ·rename_i hh
     rw [if_pos hh] at h5
     have:=zEc hrd h5.tail
     rw [List.length_cons,List.length_cons]
     omega
    ·exact Nat.zero_le _
   unfold fcB
   dsimp only
   simp only [List.length_append,List.length_cons,List.length_nil] at h3 h4 ⊢
   omega
theorem zI5 {α:Type}(f : α → Nat):∀ {l:List α}{x : α},x ∈ l → f x ≤ sum f l
 | [],_,h => by cases h
 | y :: l,x,h => by
   rw [sum]
   rcases List.mem_cons.1 h with rfl | h
   ·omega
   ·have:=zI5 f h; omega
section
variable {r:List UInt8}
theorem zNM (h:(answer r).2.1 = 0):∀ x ∈ (answer r).1.recs,(rcB x).length ≤ 3000000:=fun x hx => by
 have:=zPX ((zBF h).recs x hx)
 omega
theorem zOq (h:(answer r).2.1 = 0):∀ x ∈ (answer r).1.globals,(glB x).length ≤ 3000000:=fun x hx => by
 have:=zQH ((zBF h).globs x hx)
 omega
theorem zOD (h:(answer r).2.1 = 0):∀ x ∈ (answer r).1.funcs,(fcB x).length ≤ 3000000:=fun x hx => by
 obtain ⟨l,h1,h2⟩:=(zBF h).funcs
 obtain ⟨d,lx,h3,h4,h5⟩:=zGY h1 h2 x hx
 have h6:=zQO h3 h4 h5
 have h7:=zI5 szF hx
 have h8:=zKX h
 have h9:szF x = 1 + x.params.length + szB x.body:=rfl
 unfold szG at h8
 omega
theorem zDk {α:Type}{f : α → List UInt8}{n:Nat}:∀ {l:List α},(∀ x ∈ l,(f x).length ≤ n) → (l.flatMap f).length ≤ n * l.length
 | [],_ => Nat.zero_le _
 | x :: l,h => by
   have h1:=h x (List.mem_cons_self ..)
   have h2:=zDk (l:=l) fun y hy => h y (List.mem_cons_of_mem _ hy)
   rw [List.flatMap_cons,List.length_append,List.length_cons,Nat.mul_succ]
   omega
theorem zGD (h:(answer r).2.1 = 0):(prG (answer r).1).length ≤ 108000000:=by
 have h1:=zDk (zNM h)
 have h2:=zDk (zOq h)
 have h3:=zDk (zOD h)
 have H:=zBF h
 have h4:=H.nr
 have h5:=H.ng
 have h6:=H.nf
 unfold prG
 rw [List.length_append,List.length_append]
 omega
end
theorem zHD {r:List UInt8}{vs:List Ln.Lx.Tk}{K:Nat}(ht:Ln.Lx.toks r = (vs,0,K)){f:Nat}{e:Ex}{k F:Int}(h:Qe.expr (vs.map toRT) f 0 0 = some (e,k,0,F)):(prE e).length ≤ 240040:=by
 obtain ⟨d,l,h1,h2,-⟩:=zDS ht h
 have h3:=zB3 h1 h2
 have hu:=Ln.Lx.toks_len r
 rw [ht] at hu
 have hu:vs.length ≤ 6001:=hu
 have hl:(vs.map toRT).length ≤ 900000000:=by rw [List.length_map]; omega
 unfold Qe.expr at h
 split at h
 ·cases h
 rename_i e2 s h4
 have h5:=Option.some.inj h
 unfold Qe.exEnd at h5
 by_cases hE:s.E = 0
 ·rw [if_pos hE] at h5
  injection h5 with h5 _
  subst h5
  obtain ⟨-,h6,h7⟩:=run_up hl f 0 _ _ h4 hE
  rw [List.length_map] at h7
  dsimp only at h6 h7
  omega
 ·rw [if_neg hE] at h5
  injection h5 with _ h5
  injection h5 with _ h5
  injection h5 with h5 _
  exact absurd h5 hE
end Rt
namespace Rt
open Go.RowKit
open Px (RT tokAt isT levelT signsOf)
open Qe (Q)
open Pe (Ex inc dec)
open Ps (Sm kindOf nameOf)
open Pg (Pm Rc Fc Gm)
def shK (k n d:Int)(m:Nat):Prop:=(1 ≤ k ∧ k ≤ 24) ∧ (k = 1 → 0 ≤ n ∧ n ≤ 9223372036854775807) ∧ (k = 2 → n = 0 ∨ n = 1) ∧ (0 ≤ d ∧ d ≤ 3) ∧ (k = 8 → d = 0) ∧ (k = 5 ∨ k = 9 ∨ k = 10 ∨ k = 12 ∨ k = 13 → m = 1) ∧ (k = 6 ∨ 14 ≤ k → m = 2)
mutual
def shE:Ex → Prop
 | .mk k n _ _ d ks _ _ _ _ _ => shK k n d ks.length ∧ shL ks
def shL:List Ex → Prop
 | [] => True
 | e :: es => shE e ∧ shL es
end
theorem zCm {k n:Int}{a b:List UInt8}{d:Int}{ks:List Ex}{p:Int}(h:shK k n d ks.length)(h2:shL ks):shE (Ex.of k n a b d ks p):=by
 rw [Ex.of,shE]
 exact ⟨h,h2⟩
theorem zAw:∀ {l:List Ex}{e:Ex},shL l → e ∈ l → shE e
 | [],_,_,h => by cases h
 | x :: l,e,h,hm => by
   rw [shL] at h
   rcases List.mem_cons.1 hm with rfl | hm
   ·exact h.1
   ·exact zAw h.2 hm
theorem zA6:shL []:=by rw [shL]; trivial
theorem zAQ {e:Ex}(h:shE e):shL [e]:=by rw [shL]; exact ⟨h,zA6⟩
theorem zGk {e i:Ex}(h:shE e)(h2:shE i):shL [e,i]:=by rw [shL]; exact ⟨h,zAQ h2⟩
def SE (e:Ex)(l:List PT):Prop:=OkL NmB NuB l → shE e
def SM (xs:List Ex)(l:List PT):Prop:=OkL NmB NuB l → shL xs
theorem zNG {n:Nat}{t:List UInt8}{kind:Int}(h:(t,kind) ∈ signsOf n) : 14 ≤ kind ∧ kind ≤ 24:=by
 have key:∀ n,n < 5 → ∀ p ∈ signsOf n,14 ≤ p.2 ∧ p.2 ≤ 24:=by decide
 exact key n (zBK h).1 _ h
theorem zDf {n:Nat}{e:Ex}{d:Nat}{l:List PT}(h:EW n e d l):SE e l:=
 EW.rec (motive_1:=fun e _ _ l _ => SE e l) (motive_2:=fun _ e _ l _ => SE e l) (motive_3:=fun xs _ l _ => SM xs l)
  (fun n a hl => zCm (show shK 1 n 0 0 by have h:=(hl (nu n) (List.mem_singleton.2 rfl)).2 rfl; have h1 : 0 ≤ n:=h.1; have h2:n ≤ 9223372036854775807:=h.2; unfold shK; omega) zA6)
  (fun _ _ => zCm (show shK 2 1 0 0 by unfold shK; omega) zA6)
  (fun _ _ => zCm (show shK 2 0 0 0 by unfold shK; omega) zA6)
  (fun t d a hd _ => zCm (show shK 3 0 d 0 by unfold shK; omega) zA6)
  (fun _ _ _ => zCm (show shK 4 0 0 0 by unfold shK; omega) zA6)
  (fun x d l t a _ h hl => zCm (show shK 5 0 0 1 by unfold shK; omega) (zAQ (h hl.left)))
  (fun x d l i d2 l2 a _ _ h h2 hl => zCm (show shK 6 0 0 2 by unfold shK; omega) (zGk (h hl.left) (h2 hl.right.tail.left)))
  (fun _ _ _ => zCm (show shK 7 0 0 0 by unfold shK; omega) zA6)
  (fun t a x d l xs d2 l2 _ _ h h2 hl => zCm (show shK 7 0 0 (x :: xs).length by unfold shK; omega) (by rw [shL]; exact ⟨h hl.tail.tail.left,h2 hl.tail.tail.right.left⟩))
  (fun _ _ _ => zCm (show shK 8 0 0 0 by unfold shK; omega) zA6)
  (fun t d x dx l a hd _ h hl => zCm (show shK 9 0 d 1 by unfold shK; omega) (zAQ (h hl.tail.tail.right.tail.tail.left)))
  (fun x d l a _ h hl => zCm (show shK 10 0 0 1 by unfold shK; omega) (zAQ (h hl.tail.tail.left)))
  (fun _ _ => zCm (show shK 11 0 0 0 by unfold shK; omega) zA6)
  (fun x d l a _ h hl => zCm (show shK 12 0 0 1 by unfold shK; omega) (zAQ (h hl.tail)))
  (fun x d l a _ h hl => zCm (show shK 13 0 0 1 by unfold shK; omega) (zAQ (h hl.tail)))
  (fun n t kind x d l y d2 l2 a hs _ _ h h2 hl => zCm (show shK kind 0 0 2 by have:=zNG hs; unfold shK; omega) (zGk (h hl.left) (h2 hl.right.tail)))
  (fun n e lv d l _ hn h => h) (fun n e lv d l _ hn h hl => h hl.tail.left)
  (fun _ => zA6)
  (fun x d l xs d2 l2 _ _ h h2 hl => by rw [shL]; exact ⟨h hl.tail.left,h2 hl.tail.right⟩) h
def shSK (k d:Int)(m:Nat):Prop:=(1 ≤ k ∧ k ≤ 9) ∧ (0 ≤ d ∧ d ≤ 3) ∧ (k = 2 ∨ k = 3 ∨ k = 5 ∨ k = 6 ∨ k = 8 ∨ k = 9 → m = 1) ∧ (k = 4 → m = 2) ∧ (k = 7 → m ≤ 1)
mutual
def shS:Sm → Nat → Prop
 | .mk k _ _ d es b l _ _,n => shSK k d es.length ∧ shL es ∧ (b = [] ∨ 1 ≤ n) ∧ (l = [] ∨ 1 ≤ n) ∧ shB b (n - 1) ∧ shB l (n - 1)
def shB:List Sm → Nat → Prop
 | [],_ => True
 | x :: xs,n => shS x n ∧ shB xs n
end
theorem zBW {n:Nat}:shB [] n:=by rw [shB]; trivial
mutual
theorem zHc:∀ (x:Sm){n m:Nat},shS x n → n ≤ m → shS x m
 | .mk k _ _ d es b l _ _,n,m,h,hm => by
   rw [shS] at h ⊢
   exact ⟨h.1,h.2.1,h.2.2.1.imp id (by omega),h.2.2.2.1.imp id (by omega),zA9 b h.2.2.2.2.1 (by omega),zA9 l h.2.2.2.2.2 (by omega)⟩
theorem zA9:∀ (b:List Sm){n m:Nat},shB b n → n ≤ m → shB b m
 | [],_,_,_,_ => zBW
 | x :: xs,n,m,h,hm => by
   rw [shB] at h ⊢
   exact ⟨zHc x h.1 hm,zA9 xs h.2 hm⟩
end
def SS (x:Sm)(d:Nat)(l:List PT):Prop:=OkL NmB NuB l → shS x d
def SB (b:List Sm)(d:Nat)(l:List PT):Prop:=OkL NmB NuB l → 1 ≤ d ∧ shB b (d - 1)
def SL (b:List Sm)(d:Nat)(l:List PT):Prop:=OkL NmB NuB l → shB b d
theorem zBk {k:Int}{n o:List UInt8}{d:Int}{es:List Ex}{a z:Int}{m:Nat}(h:shSK k d es.length)(h2:shL es):shS (.mk k n o d es [] [] a z) m:=by
 rw [shS]
 exact ⟨h,h2,.inl rfl,.inl rfl,zBW,zBW⟩
theorem zTb {b:List Sm}{d:Nat}{l:List PT}(h:BP b d l):SB b d l:=
 BP.rec (motive_1:=fun x d l _ => SS x d l) (motive_2:=fun b d l _ => SB b d l) (motive_3:=fun xs d l _ => SL xs d l)
  (fun t ty d a hd _ => zBk (show shSK 1 d 0 by unfold shSK; omega) zA6)
  (fun t ty d a e de l hd h hl => zBk (show shSK 2 d 1 by unfold shSK; omega) (zAQ (zDf h hl.tail.tail.tail.right.tail.left)))
  (fun t a e de l h hl => zBk (show shSK 3 0 1 by unfold shSK; omega) (zAQ (zDf h hl.tail.tail.left)))
  (fun x dx lx a e de l hk hx h hl => zBk (show shSK 4 0 2 by unfold shSK; omega) (zGk (zDf hx hl.left) (zDf h hl.right.tail.left)))
  (fun e de l b db lb a h _ h2 hl => by
   obtain ⟨h3,h4⟩:=h2 hl.tail.right
   rw [shS]
   exact ⟨(show shSK 5 0 1 by unfold shSK; omega),zAQ (zDf h hl.tail.left),.inr (by omega),.inl rfl,zA9 b h4 (by omega),zBW⟩)
  (fun e de l b db lb b2 db2 lb2 a h _ _ h2 h3 hl => by
   obtain ⟨h4,h5⟩:=h2 hl.tail.right.left
   obtain ⟨h6,h7⟩:=h3 hl.tail.right.right.tail
   rw [shS]
   exact ⟨(show shSK 5 0 1 by unfold shSK; omega),zAQ (zDf h hl.tail.left),.inr (by omega),.inr (by omega),zA9 b h5 (by omega),zA9 b2 h7 (by omega)⟩)
  (fun e de l b db lb a h _ h2 hl => by
   obtain ⟨h3,h4⟩:=h2 hl.tail.right
   rw [shS]
   exact ⟨(show shSK 6 0 1 by unfold shSK; omega),zAQ (zDf h hl.tail.left),.inr (by omega),.inl rfl,zA9 b h4 (by omega),zBW⟩)
  (fun a _ => zBk (show shSK 7 0 0 by unfold shSK; omega) zA6)
  (fun a e de l h hl => zBk (show shSK 7 0 1 by unfold shSK; omega) (zAQ (zDf h hl.tail.left)))
  (fun a e de l h hl => zBk (show shSK 8 0 1 by unfold shSK; omega) (zAQ (zDf h hl.tail.left)))
  (fun a e de l hk h hl => zBk (show shSK 9 0 1 by unfold shSK; omega) (zAQ (zDf h hl.left)))
  (fun b d l _ h hl => ⟨by omega,h hl.tail.left⟩)
  (fun _ => zBW)
  (fun x d l xs d2 l2 _ _ h h2 hl => by rw [shB]; exact ⟨zHc x (h hl.left) (by omega),zA9 xs (h2 hl.right) (by omega)⟩) h
def shF (x:Fc):Prop:=(∀ p ∈ x.params,PmOk p) ∧ x.params.length ≤ 6 ∧ (0 ≤ x.rd ∧ x.rd ≤ 3) ∧ shB x.body 49
structure shG (p:Gm):Prop where
 recs:∀ x ∈ p.recs,RcOk x
 globs:∀ x ∈ p.globals,PmOk x
 funcs:∀ x ∈ p.funcs,shF x
 nr:p.recs.length ≤ 12
 ng:p.globals.length ≤ 8
 nf:p.funcs.length ≤ 16
theorem zSH {x:Fc}{d:Nat}{l:List PT}(h:FP x d l)(hd:d ≤ 50)(ho:OkL NmB NuB l):shF x:=by
 cases h with
 | mk name ps has rn rd body a d lb hl hp h0 h3 hb =>
   obtain ⟨h4,h5⟩:=zTb hb ho.tail.tail.tail.right.tail.right
   exact ⟨hp,hl,⟨by show 0 ≤ (rd:Int); omega,by show (rd:Int) ≤ 3; omega⟩,zA9 body h5 (by omega)⟩
theorem zSG {p:Gm}(h:GI NmB NuB p):shG p:=by
 obtain ⟨l,h1,h2⟩:=h.funcs
 refine ⟨fun x hx => (h.recs x hx).1,fun x hx => (h.globs x hx).1,fun x hx => ?_,h.nr,h.ng,h.nf⟩
 obtain ⟨d,lx,h3,h4,h5⟩:=zGY h1 h2 x hx
 exact zSH h3 h4 h5
theorem zB8 {r:List UInt8}(h:(answer r).2.1 = 0):shG (answer r).1:=zSG (zBF h)
end Rt
open Go.RowKit
open Pe (Ex)
open Rt (tyB lvl opT prW prE prL prOf)
theorem zAo (a b:List UInt8):cbs a ++ cbs b = cbs (a ++ b):=by
 apply ByteArray.ext
 simp [cbs]
theorem zAg (o:List UInt8)(d:Nat):(tyB o d).length = o.length + 2 * d:=by unfold tyB; simp; omega
theorem zNp (o:List UInt8)(k:Nat):(⟨#[91]⟩:ByteArray) ++ cbs (tyB o k) ++ ⟨#[93]⟩ = cbs (tyB o (k + 1)):=by
 show cbs [91] ++ cbs (tyB o k) ++ cbs [93] = _
 rw [zAo,zAo]
 unfold tyB
 congr 1
 rw [List.replicate_succ,List.replicate_succ' (n:=k) (a:=(93:UInt8))]
 simp
theorem zPR {a b:Int}(h:a = b):Ending.returned (.int .i64 a) = .returned (.int .i64 b):=by rw [h]
theorem zBV {a b:ByteArray}(h:a = b):Ending.returned (.string a) = .returned (.string b):=by rw [h]
theorem zBv (o:List UInt8)(d:Nat)(w:World)(hd:d ≤ 3)(ho:o.length ≤ 1000000000000) :
 Calls Tryd.prog 27 #[.agg #[.string (cbs o),.int .i64 (d:Int)]] w fun e w' => e = .returned (.string (cbs (tyB o d))) ∧ Below w.heap.size w w':=by
 have hB:Below w.heap.size w (w.alloc (.cells #[.string (cbs o),.int .i64 (d:Int)] 40)):=(Below.refl _ _).alloc (Nat.le_refl _) _
 have HB:=vH hB
 clear hB
 go_in
 go_wp2_with fail
 go_loop [3,4] (fun s i => ∃ k:Nat,k ≤ d ∧ i = .int .i64 (k:Int) ∧ s = .string (cbs (tyB o k))) (fun _ i => d - (intOf i).toNat)
 case atStart => exact ⟨0,Nat.zero_le _,rfl,by unfold tyB; simp⟩
 case round =>
  obtain ⟨k,hk,rfl,rfl⟩:=hrel
  by_cases hlt:k < d
  ·have hz1:(⟨#[91]⟩:ByteArray).size + (cbs (tyB o k)).size ≤ 9223372036854775807:=by rw [zB,zAg]; show 1 + _ ≤ _; omega
   have hz2:((⟨#[91]⟩:ByteArray) ++ cbs (tyB o k)).size + (⟨#[93]⟩:ByteArray).size ≤ 9223372036854775807:=by rw [ByteArray.size_append,zB,zAg]; show 1 + _ + 1 ≤ _; omega
   go_wp2_with fail
   go_round
   case rel => exact ⟨k + 1,by omega,by go_num,by rw [← zNp]⟩
   case measure => simp [intOf]; omega
  ·obtain rfl:k = d:=by omega
   go_wp2_with fail
   go_ret
   exact ⟨rfl,HB.out⟩
theorem zEm (w:World)(k n:Int)(a o:ByteArray)(d:Int)(v:Value)(p b r e f:Int) :
 Calls Tryd.prog 79 #[.agg #[.int .i64 k,.int .i64 n,.string a,.string o,.int .i64 d,v,.int .i64 p,.int .i64 b,.int .i64 r,.int .i64 e,.int .i64 f]] w fun x w' => x = .returned (.int .i64 ((lvl k:Nat):Int)) ∧ Below w.heap.size w w':=by
 have hB:Below w.heap.size w (w.alloc (.cells #[.int .i64 k,.int .i64 n,.string a,.string o,.int .i64 d,v,.int .i64 p,.int .i64 b,.int .i64 r,.int .i64 e,.int .i64 f] 45)):=(Below.refl _ _).alloc (Nat.le_refl _) _
 have HB:=vH hB
 clear hB
 go_in
 go_wp2_with fail
 all_goals
  go_ret
  refine ⟨zPR ?_,HB.out⟩
  unfold lvl
  simp_all
  try (split <;> first | omega | (split <;> first | omega | rfl))
theorem zJA (w:World)(k:Int)(h1 : 14 ≤ k)(h2:k ≤ 24) :
 Calls Tryd.prog 80 #[.int .i64 k] w fun x w' => x = .returned (.string (cbs (opT k))) ∧ Below w.heap.size w w':=by
 obtain ⟨j,rfl,hj⟩:∃ j:Nat,k = ((14 + j:Nat):Int) ∧ j < 11:=⟨(k - 14).toNat,by omega,by omega⟩
 have hB:=fun (A:Array Value) => (Below.refl w.heap.size w).alloc (Nat.le_refl _) (.cells A 9 (0,0))
 have HB:=vH hB
 clear hB
 have hcases:j = 0 ∨ j = 1 ∨ j = 2 ∨ j = 3 ∨ j = 4 ∨ j = 5 ∨ j = 6 ∨ j = 7 ∨ j = 8 ∨ j = 9 ∨ j = 10:=by omega
 clear h1 h2 hj
 rcases hcases with rfl | rfl | rfl | rfl | rfl | rfl | rfl | rfl | rfl | rfl | rfl
 all_goals
  go_in
  go_wp2_with fail
  go_ret
  exact ⟨rfl,HB.out _⟩
end Go.Proofs.YteadgahhchlgeaaDoor
namespace Go.Proofs.YteadgahhchlgeaaDoor
open Go.RowKit
open Go.Lib (decDigits)
open Rt (zFq)
def decP (q:Nat):List UInt8:=if q = 0 then [] else decDigits q
theorem zMy (q:Nat):decDigits q = decP (q / 10) ++ [UInt8.ofNat (48 + q % 10)]:=by
 by_cases h:q < 10
 ·rw [decDigits,dif_pos h,decP,if_pos (by omega),show q % 10 = q from by omega]; rfl
 ·rw [decDigits,dif_neg h,decP,if_neg (by omega)]
def NumAt (N q:Nat)(l:List UInt8):Prop:=decDigits N = decP q ++ l ∧ l.length ≤ 19
theorem zKd {N q:Nat}{l:List UInt8}(h:decDigits N = decP q ++ l)(hN:N ≤ 9223372036854775807):l.length ≤ 19:=by
 have h1:=congrArg List.length h
 rw [List.length_append] at h1
 have:=zFq 18 N (by omega)
 omega
theorem zIG {N q:Nat}{l:List UInt8}(h:NumAt N q l)(hq : 0 < q)(hN:N ≤ 9223372036854775807):NumAt N (q / 10) (UInt8.ofNat (48 + q % 10) :: l):=by
 have h1:decDigits N = decP (q / 10) ++ (UInt8.ofNat (48 + q % 10) :: l):=by
  rw [h.1]
  conv => lhs; rw [decP,if_neg (by omega),zMy q,List.append_assoc]
  rfl
 exact ⟨h1,zKd h1 hN⟩
theorem zMA (wr:World)(q:Nat):(convert 85 9 (.slice (some ⟨wr.heap.size,0,none⟩) 1 1)).run Tryd.prog (wr.alloc (.cells #[.int .u8 (48 + (q:Int) % 10)] 5)) = .ok (.string (cbs [UInt8.ofNat (48 + q % 10)])) (wr.alloc (.cells #[.int .u8 (48 + (q:Int) % 10)] 5)):=by
 rw [run_convert_bytes_arg (wr.alloc (.cells #[.int .u8 (48 + (q:Int) % 10)] 5)) 85 5 Tryd.underlying85 Tryd.underlying5 wr.heap.size 0 1 1 [48 + (q:Int) % 10] rfl (fun i hi => by
  obtain rfl:i = 0:=by omega
  rw [cell_of_row _ _ _ _ _ _ (heap_alloc_new wr _)]; rfl) 9 Tryd.underlying9]
 have:(48 + (q:Int) % 10).toNat = 48 + q % 10:=by omega
 rw [show strOfNums [48 + (q:Int) % 10] = cbs [UInt8.ofNat (48 + (q:Int) % 10).toNat] from rfl,this]
theorem zJz (N:Nat)(hN:N ≤ 9223372036854775807)(w:World) :
 Calls Tryd.prog 77 #[.int .i64 (N:Int)] w fun e w' => e = .returned (.string (cbs (decDigits N))) ∧ Below w.heap.size w w':=by
 by_cases h0:N = 0
 ·subst h0
  go_in
  go_wp2
  go_ret
  exact ⟨zBV (by rw [decDigits,dif_pos (by decide)]; rfl),Below.refl _ _⟩
 ·have hb0:((N:Int) == 0) = false:=beq_eq_false_iff_ne.2 (by omega)
  have HN:=vH hN
  have hnn:(0:Int) ≤ (N:Int):=by omega
  have hst:NumAt N N []:=by
   have h1:decDigits N = decP N ++ []:=by rw [decP,if_neg h0,List.append_nil]
   exact ⟨h1,by decide⟩
  have HS:=vH hst
  clear h0 hN hst
  go_in
  go_wp2
  go_loopw [3,4] (fun s n wr => ∃ (q:Nat) (l:List UInt8),q ≤ N ∧ n = .int .i64 (q:Int) ∧ s = .string (cbs l) ∧ NumAt N q l ∧ Below w.heap.size w wr) (fun _ n _ => (intOf n).toNat)
  case atStart => exact ⟨N,[],Nat.le_refl _,rfl,rfl,HS.out,Below.refl _ _⟩
  case round =>
   obtain ⟨q,l,hq,rfl,rfl,hT,hb⟩:=hrel
   have HT:=vH hT
   have hq9:(q:Int) ≤ 9223372036854775807:=by have:=HN.out; omega
   have hqi:(0:Int) ≤ (q:Int):=by omega
   have hm0:decide ((q:Int) % 10 < 0) = false:=decide_eq_false (by omega)
   obtain ⟨d,hd⟩:∃ d,UInt8.ofNat (48 + q % 10) = d:=⟨_,rfl⟩
   have hsz:(cbs [d]).size + (cbs l).size ≤ 9223372036854775807:=by rw [zB,zB]; have:=hT.2; simp; omega
   have HD:=vH hd
   have hconv:=zMA wr q
   rw [hd] at hconv
   clear hd hT
   by_cases hq0 : 0 < q
   ·have hq0i:((q:Int) != 0) = true:=bne_iff_ne.2 (by omega)
    go_wp2
    refine ⟨⟨q / 10,d :: l,by omega,by go_num,congrArg Value.string (zAo [d] l),by rw [← HD.out]; exact zIG HT.out hq0 HN.out,hb.alloc hb.size _⟩,?_⟩
    simp [intOf]
    omega
   ·have hq1:q = 0:=by omega
    subst hq1
    go_wp2
    go_ret
    exact ⟨zBV (by rw [HT.out.1]; rfl),hb⟩
end Go.Proofs.YteadgahhchlgeaaDoor
