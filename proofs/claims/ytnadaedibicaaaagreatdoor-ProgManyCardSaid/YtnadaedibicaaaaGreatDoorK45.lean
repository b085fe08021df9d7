/-
  Whether two expressions are alike, wherever they stand: plain; the contracts of Same and of SameExpr.
  Whether two expressions are alike, wherever they stand: the loop over two lists, and the recursion.
  What is read has no list that is too long. The answer's SameExpr and SameExprs: their contracts.
  Statements: whether two are alike, and that what is read fits (plain data).
-/
import Derived.Test.YtnadaedibicaaaaGreatDoorK10
import Derived.Test.YtnadaedibicaaaaGreatDoorK14
import Derived.Test.YtnadaedibicaaaaGreatDoorK42
import Derived.Test.YtnadaedibicaaaaGreatDoorK44
import Derived.Deep.RegionHeld3
import Derived.Deep.LoopGhost
import Derived.Laws.StructEq
import Derived.StillTailTactics
namespace Go.Proofs.YtnadaedibicaaaaGreatDoor
open Go.RowKit
open Px (RT tokAt)
open Pe

mutual
def sameE : Ex → Ex → Bool
  | .mk k n s o d ks _ b r e f, .mk k2 n2 s2 o2 d2 ks2 _ b2 r2 e2 f2 => k == k2 && n == n2 && s == s2 && (o == o2 && d == d2) && (b == b2 && r == r2 && e == e2) && f == f2 && sameL ks ks2
def sameL : List Ex → List Ex → Bool
  | [], [] => true
  | e :: es, e2 :: es2 => sameE e e2 && sameL es es2
  | _, _ => false
end
theorem beq_cbs (a b : List UInt8) : ((cbs a).toList == (cbs b).toList) = (a == b) := by rw [cbs_list, cbs_list]
theorem stoodOf : Tryz.prog.stoodInHeld 43 = false := by kernel_rfl
theorem stoodTy : Tryz.prog.stoodInHeld 104 = false := by kernel_rfl
set_option maxHeartbeats 1000000 in
theorem eq_of2 (a b : List UInt8) (d d2 : Int) (w : World) : (binOp .eql 43 (.agg #[.string (cbs a), .int .i64 d]) (.agg #[.string (cbs b), .int .i64 d2])).run Tryz.prog w = .ok (.bool (a == b && d == d2)) w := by
  rw [run_eql_struct, run_equalIn_agg w 9999 _ _ _ (by kernel_rfl) stoodOf]
  simp [go_sem, cbs_list]
  split <;> (try split) <;> simp_all
set_option maxHeartbeats 1000000 in
theorem eq_ty3 (a b c a2 b2 c2 : Int) (w : World) : (binOp .eql 104 (.agg #[.int .i64 a, .int .i64 b, .int .i64 c]) (.agg #[.int .i64 a2, .int .i64 b2, .int .i64 c2])).run Tryz.prog w = .ok (.bool (a == a2 && b == b2 && c == c2)) w := by
  rw [run_eql_struct, run_equalIn_agg w 9999 _ _ _ (by kernel_rfl) stoodTy]
  simp [go_sem]
  split <;> (try split) <;> (try split) <;> simp_all

set_option maxRecDepth 8000 in
set_option maxHeartbeats 2000000 in
theorem same_step (w : World) (_B : Nat) (_x _y : Ex) (xk : Int) (xn : Int) (xs : List UInt8) (xo : List UInt8) (xd : Int) (xp : Option Addr) (xl : Nat) (xc : Nat) (xa : Int) (xb : Int) (xr : Int) (xe : Int) (xf : Int) (yk : Int) (yn : Int) (ys : List UInt8) (yo : List UInt8) (yd : Int) (yp : Option Addr) (yl : Nat) (yc : Nat) (ya : Int) (yb : Int) (yr : Int) (ye : Int) (yf : Int)
    (v : Bool) (hk : ∀ w1, Below w.heap.size w w1 → Calls Tryz.prog 95 #[.slice xp xl xc, .slice yp yl yc, .func (.func 96) #[] #[]] w1 fun e w' => e = .returned (.bool v) ∧ Below w1.heap.size w1 w') :
    Calls Tryz.prog 96 #[.agg #[.int .i64 xk, .int .i64 xn, .string (cbs xs), .string (cbs xo), .int .i64 xd, .slice xp xl xc, .int .i64 xa, .int .i64 xb, .int .i64 xr, .int .i64 xe, .int .i64 xf], .agg #[.int .i64 yk, .int .i64 yn, .string (cbs ys), .string (cbs yo), .int .i64 yd, .slice yp yl yc, .int .i64 ya, .int .i64 yb, .int .i64 yr, .int .i64 ye, .int .i64 yf]] w fun e w' => e = .returned (.bool (xk == yk && xn == yn && xs == ys && (xo == yo && xd == yd) && (xb == yb && xr == yr && xe == ye) && xf == yf && v)) ∧ Below w.heap.size w w' := by
  have h1 := eq_of2 xo yo xd yd
  have h2 := eq_ty3 xb xr xe yb yr ye
  have hsx := beq_cbs xs ys
  have hbb : Below w.heap.size w ((w.alloc (.cells #[.int .i64 xk, .int .i64 xn, .string (cbs xs), .string (cbs xo), .int .i64 xd, .slice xp xl xc, .int .i64 xa, .int .i64 xb, .int .i64 xr, .int .i64 xe, .int .i64 xf] 106)).alloc (.cells #[.int .i64 yk, .int .i64 yn, .string (cbs ys), .string (cbs yo), .int .i64 yd, .slice yp yl yc, .int .i64 ya, .int .i64 yb, .int .i64 yr, .int .i64 ye, .int .i64 yf] 106)) := ((Below.refl _ _).alloc (Nat.le_refl _) _).alloc (by rw [size_alloc]; omega) _
  have HK := Lib.hid (hk _ hbb)
  have HBB := Lib.hid hbb
  clear hk hbb
  generalize (xo == yo && xd == yd) = g1 at h1 ⊢
  generalize (xb == yb && xr == yr && xe == ye) = g2 at h2 ⊢
  generalize (xs == ys) = g3 at hsx ⊢
  cases hc1 : (xk == yk) with
  | false =>
    go_enter Tryz.func96, Tryz.ntmps96
    go_wp2_with fail
    go_ret
    exact ⟨rfl, HBB.out⟩
  | true =>
    cases hc2 : (xn == yn) with
    | false =>
      go_enter Tryz.func96, Tryz.ntmps96
      go_wp2_with fail
      go_ret
      exact ⟨rfl, HBB.out⟩
    | true =>
      cases g3 with
      | false =>
        go_enter Tryz.func96, Tryz.ntmps96
        go_wp2_with fail
        go_ret
        exact ⟨rfl, HBB.out⟩
      | true =>
        cases g1 with
        | false =>
          go_enter Tryz.func96, Tryz.ntmps96
          go_wp2_with fail
          go_ret
          exact ⟨rfl, HBB.out⟩
        | true =>
          cases g2 with
          | false =>
            go_enter Tryz.func96, Tryz.ntmps96
            go_wp2_with fail
            go_ret
            exact ⟨rfl, HBB.out⟩
          | true =>
            cases hc6 : (xf == yf) with
            | false =>
              go_enter Tryz.func96, Tryz.ntmps96
              go_wp2_with fail
              go_ret
              exact ⟨rfl, HBB.out⟩
            | true =>
              go_enter Tryz.func96, Tryz.ntmps96
              go_wp2_with (go_at_call 95; refine (HK.out).mono ?_; rintro e w1 ⟨rfl, hb1⟩)
              go_ret
              exact ⟨rfl, below_seq HBB.out hb1 HBB.out.size⟩

end Go.Proofs.YtnadaedibicaaaaGreatDoor
namespace Go.Proofs.YtnadaedibicaaaaGreatDoor
open Go.RowKit
open Px (RT tokAt)
open Pe

/-! No list in it is too long for an index. -/
mutual
def fitE : Ex → Bool
  | .mk _ _ _ _ _ ks _ _ _ _ _ => decide (ks.length ≤ 9223372036854775807) && fitL ks
def fitL : List Ex → Bool
  | [] => true
  | e :: es => fitE e && fitL es
end
theorem fitL_mem : ∀ {es : List Ex} {e : Ex}, fitL es = true → e ∈ es → fitE e = true
  | [], _, _, h => by cases h
  | x :: es, e, hf, h => by
    rw [fitL, Bool.and_eq_true] at hf
    rcases List.mem_cons.1 h with rfl | h
    · exact hf.1
    · exact fitL_mem hf.2 h
theorem At.get {w : World} {B bl : Nat} : ∀ (es : List Ex) (off j : Nat) (e : Ex), At w B bl off es → es[j]? = some e → ∃ vs, Is w B e vs ∧ ∀ (i : Nat) (v : Value), vs[i]? = some v → w.cell? ⟨bl, off + j * 11 + i, none⟩ = some v
  | [], _, j, e, _, h => by simp at h
  | x :: es, off, 0, e, ha, h => by
    rw [At] at ha
    obtain ⟨⟨vs, hi, hc⟩, -⟩ := ha
    simp at h
    subst h
    exact ⟨vs, hi, fun i v hv => by have := hc i v hv; simpa using this⟩
  | x :: es, off, j + 1, e, ha, h => by
    rw [At] at ha
    obtain ⟨vs, hi, hc⟩ := At.get es (off + 11) j e ha.2 (by simpa using h)
    exact ⟨vs, hi, fun i v hv => by have := hc i v hv; rw [show off + (j + 1) * 11 + i = off + 11 + j * 11 + i by omega]; exact this⟩
theorem eleven_of {w : World} {b o : Nat} {kind num : Int} {name ofn : List UInt8} {dims : Int} {kv : Value} {at_ bb r d ref : Int} (h : ∀ (i : Nat) (v : Value), (exCells kind num name ofn dims kv at_ bb r d ref)[i]? = some v → w.cell? ⟨b, o + i, none⟩ = some v) :
    w.cell? ⟨b, o, none⟩ = some (.int .i64 kind) ∧ w.cell? ⟨b, o + 1, none⟩ = some (.int .i64 num) ∧ w.cell? ⟨b, o + 2, none⟩ = some (.string (cbs name)) ∧ w.cell? ⟨b, o + 3, none⟩ = some (.string (cbs ofn)) ∧ w.cell? ⟨b, o + 4, none⟩ = some (.int .i64 dims) ∧ w.cell? ⟨b, o + 5, none⟩ = some kv ∧ w.cell? ⟨b, o + 6, none⟩ = some (.int .i64 at_) ∧ w.cell? ⟨b, o + 7, none⟩ = some (.int .i64 bb) ∧ w.cell? ⟨b, o + 8, none⟩ = some (.int .i64 r) ∧ w.cell? ⟨b, o + 9, none⟩ = some (.int .i64 d) ∧ w.cell? ⟨b, o + 10, none⟩ = some (.int .i64 ref) :=
  ⟨h 0 _ rfl, h 1 _ rfl, h 2 _ rfl, h 3 _ rfl, h 4 _ rfl, h 5 _ rfl, h 6 _ rfl, h 7 _ rfl, h 8 _ rfl, h 9 _ rfl, h 10 _ rfl⟩
theorem sameL_len : ∀ (a b : List Ex), a.length ≠ b.length → sameL a b = false
  | [], [], h => absurd rfl h
  | [], _ :: _, _ => by rw [sameL]; all_goals simp
  | _ :: _, [], _ => by rw [sameL]; all_goals simp
  | x :: a, y :: b, h => by rw [sameL, sameL_len a b (by simpa using h), Bool.and_false]
theorem KidsAt.below {w w' : World} {B : Nat} {p : Option Addr} {l : List Ex} (h : KidsAt w B p l) (hb : Below w.heap.size w w') : KidsAt w' B p l := by
  rcases h with h | ⟨bl, off, h1, h2, h3, h4⟩
  · exact .inl h
  · exact .inr ⟨bl, off, h1, Nat.lt_of_lt_of_le h2 hb.size, h3, At.keep hb.size (fun bl _ h => hb.block bl h) l off h2 h3 h4⟩
theorem KidsAt.get {w : World} {B : Nat} {p : Option Addr} {l : List Ex} (h : KidsAt w B p l) {j : Nat} {e : Ex} (he : l[j]? = some e) : ∃ bl off vs, p = some ⟨bl, off, none⟩ ∧ bl < w.heap.size ∧ Is w B e vs ∧ ∀ (i : Nat) (v : Value), vs[i]? = some v → w.cell? ⟨bl, off + j * 11 + i, none⟩ = some v := by
  rcases h with h | ⟨bl, off, h1, h2, h3, h4⟩
  · rw [h] at he; simp at he
  · obtain ⟨vs, hi, hc⟩ := At.get l off j e h4 he
    exact ⟨bl, off, vs, h1, h2, hi, hc⟩
theorem Is.kids {w : World} {B : Nat} {kind num : Int} {name ofn : List UInt8} {dims : Int} {ks : List Ex} {at_ b r d ref : Int} {vs : List Value} (h : Is w B (.mk kind num name ofn dims ks at_ b r d ref) vs) : ∃ p c, vs = exCells kind num name ofn dims (.slice p ks.length c) at_ b r d ref ∧ KidsAt w B p ks := by
  rw [Is] at h
  exact h
/-- What a comparison of two expressions owes. -/
def SameOk (F : Nat) (w : World) (e e2 : Ex) : Prop := ∀ w1 vs vs2, Below w.heap.size w w1 → Is w1 0 e vs → Is w1 0 e2 vs2 → Calls Tryz.prog F #[.agg ⟨vs⟩, .agg ⟨vs2⟩] w1 fun en w' => en = .returned (.bool (sameE e e2)) ∧ Below w1.heap.size w1 w'

set_option maxRecDepth 8000 in
set_option maxHeartbeats 4000000 in
theorem equalFunc_any (w : World) (ks ls : List Ex) (p q : Option Addr) (c d : Nat) (hp : KidsAt w 0 p ks) (hq : KidsAt w 0 q ls) (hl : ks.length ≤ 9223372036854775807) (hel : ∀ e ∈ ks, ∀ e2, SameOk 96 w e e2) :
    Calls Tryz.prog 95 #[.slice p ks.length c, .slice q ls.length d, .func (.func 96) #[] #[]] w fun e w' => e = .returned (.bool (sameL ks ls)) ∧ Below w.heap.size w w' := by
  have HP := Lib.hid hp
  have HQ := Lib.hid hq
  have HEL := Lib.hid hel
  have HL := Lib.hid hl
  clear hp hq hel hl
  by_cases hlen : ks.length = ls.length
  · have hd0 : ((ks.length : Int) != (ls.length : Int)) = false := by rw [hlen]; exact bne_self_eq_false _
    have HLEN := Lib.hid hlen
    clear hlen
    go_enter Tryz.func95, Tryz.ntmps95
    go_wp2_with fail
    go_loopg [17] ks.length (fun n v wr => ∃ j : Nat, n + j = ks.length ∧ v = .int .i64 (j : Int) ∧ Below w.heap.size w wr ∧ sameL (ks.drop j) (ls.drop j) = sameL ks ls)
    case atStart => exact ⟨0, rfl, rfl, Below.refl _ _, rfl⟩
    case round =>
      obtain ⟨j, hj, rfl, hb, hs⟩ := hrel
      have HB := Lib.hid hb
      have HS := Lib.hid hs
      have HJ := Lib.hid hj
      clear hb hs hj
      cases gk with
      | zero =>
        obtain rfl : j = ks.length := by have := HJ.out; omega
        have hd1 : decide ((ks.length : Int) < (ks.length : Int)) = false := decide_eq_false (by omega)
        go_wp2_with fail
        go_ret
        refine ⟨cret_bool ?_, HB.out⟩
        rw [← HS.out, List.drop_of_length_le (Nat.le_refl _), List.drop_of_length_le (by rw [HLEN.out]; exact Nat.le_refl _), sameL]
      | succ m =>
        have hjl : j < ks.length := by have := HJ.out; omega
        have hjl2 : j < ls.length := by have := HLEN.out; omega
        have hd1 : decide ((j : Int) < (ks.length : Int)) = true := decide_eq_true (by omega)
        have hi1 : (j : Int) < (ks.length : Int) := by omega
        have hi2 : (j : Int) < (ls.length : Int) := by omega
        have hd2 : decide (ks.length ≤ j) = false := decide_eq_false (by omega)
        have hd3 : decide (ls.length ≤ j) = false := decide_eq_false (by omega)
        have hdw : wrap64 ((j : Int) + 1) = ((j + 1 : Nat) : Int) := by have := HL.out; simp [wrap64]; omega
        have he1 := List.getElem?_eq_getElem hjl
        have he2 := List.getElem?_eq_getElem hjl2
        have hd4 : ks.drop j = ks[j] :: ks.drop (j + 1) := List.drop_eq_getElem_cons hjl
        have hd5 : ls.drop j = ls[j] :: ls.drop (j + 1) := List.drop_eq_getElem_cons hjl2
        have HE := Lib.hid (HEL.out _ (List.getElem_mem hjl) (ls[j]))
        generalize ks[j] = e1 at he1 hd4 HE
        generalize ls[j] = e2 at he2 hd5 HE
        have HD4 := Lib.hid hd4
        have HD5 := Lib.hid hd5
        obtain ⟨bl, off, vs, rfl, hbl, hi, hc⟩ := (HP.out.below HB.out).get he1
        obtain ⟨bl2, off2, vs2, rfl, hbl2, hi', hc2⟩ := (HQ.out.below HB.out).get he2
        obtain ⟨xk, xn, xs, xo, xd, xp, xl, xc, xa, xb, xr, xe, xf, rfl⟩ := hi.out
        obtain ⟨yk, yn, ys, yo, yd, yp, yl, yc, ya, yb, yr, ye, yf, rfl⟩ := hi'.out
        obtain ⟨x0, x1, x2, x3, x4, x5, x6, x7, x8, x9, xX⟩ := eleven_of hc
        obtain ⟨y0, y1, y2, y3, y4, y5, y6, y7, y8, y9, yX⟩ := eleven_of hc2
        have HI := Lib.hid hi
        have HI2 := Lib.hid hi'
        clear hc hc2 hi hi' he1 he2 hd4 hd5
        have hne1 : bl ≠ wr.heap.size := Nat.ne_of_lt hbl
        have hne2 : bl2 ≠ wr.heap.size := Nat.ne_of_lt hbl2
        go_wp2_with fail
        have hb2 : Below wr.heap.size wr ((wr.alloc (.cells #[.int .i64 xk, .int .i64 xn, .string (cbs xs), .string (cbs xo), .int .i64 xd, .slice xp xl xc, .int .i64 xa, .int .i64 xb, .int .i64 xr, .int .i64 xe, .int .i64 xf] 106)).alloc (.cells #[.int .i64 yk, .int .i64 yn, .string (cbs ys), .string (cbs yo), .int .i64 yd, .slice yp yl yc, .int .i64 ya, .int .i64 yb, .int .i64 yr, .int .i64 ye, .int .i64 yf] 106)) := ((Below.refl _ _).alloc (Nat.le_refl _) _).alloc (by rw [size_alloc]; omega) _
        refine (HE.out _ _ _ (below_seq HB.out hb2 HB.out.size) ((HI.out.alloc _).alloc _) ((HI2.out.alloc _).alloc _)).mono ?_
        rintro e w2 ⟨rfl, hb3⟩
        have HB2 := Lib.hid (below_seq (below_seq HB.out hb2 HB.out.size) hb3 (below_seq HB.out hb2 HB.out.size).size)
        clear hb2 hb3
        cases hse : sameE e1 e2 with
        | false =>
          have HSE := Lib.hid hse
          try rw [hse]
          clear hse
          go_wp2_with fail
          go_ret
          refine ⟨cret_bool ?_, HB2.out⟩
          rw [← HS.out, HD4.out, HD5.out, sameL, HSE.out, Bool.false_and]
        | true =>
          have HSE := Lib.hid hse
          try rw [hse]
          clear hse
          go_wp2_with fail
          go_roundg m
          case measure => omega
          case rel => exact ⟨j + 1, by have := HJ.out; omega, by first | rfl | simp [hdw], HB2.out, by rw [← HS.out, HD4.out, HD5.out, sameL, HSE.out, Bool.true_and]⟩
  · have hd0 : ((ks.length : Int) != (ls.length : Int)) = true := bne_iff_ne.2 (by omega)
    rw [sameL_len _ _ hlen]
    clear hlen
    go_enter Tryz.func95, Tryz.ntmps95
    go_wp2_with fail
    go_ret
    exact ⟨rfl, Below.refl _ _⟩

theorem sizes_kid {ks : List Ex} {e : Ex} (h : e ∈ ks) (kind num : Int) (name ofn : List UInt8) (dims at_ b r d ref : Int) : SizeOf.sizeOf e < SizeOf.sizeOf (Ex.mk kind num name ofn dims ks at_ b r d ref) := by
  have := List.sizeOf_lt_of_mem h
  simp only [Ex.mk.sizeOf_spec]
  omega
theorem same_n : ∀ (n : Nat) (x y : Ex), SizeOf.sizeOf x ≤ n → fitE x = true → ∀ w, SameOk 96 w x y := by
  intro n
  induction n with
  | zero => intro x y h; cases x; simp at h
  | succ n ih =>
    intro x y hs hf w w1 vs vs2 _ hi hi2
    obtain ⟨xk, xn, xs, xo, xd, ks, xa, xb, xr, xe, xf⟩ := x
    obtain ⟨yk, yn, ys, yo, yd, ls, ya, yb, yr, ye, yf⟩ := y
    obtain ⟨p, c, rfl, hp⟩ := hi.kids
    obtain ⟨q, d, rfl, hq⟩ := hi2.kids
    rw [fitE, Bool.and_eq_true] at hf
    have hk : ∀ w2, Below w1.heap.size w1 w2 → _ := fun w2 hb => equalFunc_any w2 ks ls p q c d (hp.below hb) (hq.below hb) (of_decide_eq_true hf.1) (fun e he e2 => ih e e2 (by have := sizes_kid he xk xn xs xo xd xa xb xr xe xf; omega) (fitL_mem hf.2 he) w2)
    have hst := same_step w1 0 (.mk xk xn xs xo xd ks xa xb xr xe xf) (.mk yk yn ys yo yd ls ya yb yr ye yf) xk xn xs xo xd p ks.length c xa xb xr xe xf yk yn ys yo yd q ls.length d ya yb yr ye yf (sameL ks ls) hk
    rw [sameE]
    exact hst
end Go.Proofs.YtnadaedibicaaaaGreatDoor
namespace Go.Proofs.YtnadaedibicaaaaGreatDoor
namespace Sim
open Go.RowKit
open Px (RT tokAt isT)
open Pe (Ex)
open Qe (Q)

end Sim
end Go.Proofs.YtnadaedibicaaaaGreatDoor
namespace Go.Proofs.YtnadaedibicaaaaGreatDoor
open Go.RowKit
open Px (RT tokAt)
open Pe

end Go.Proofs.YtnadaedibicaaaaGreatDoor
namespace Go.Proofs.YtnadaedibicaaaaGreatDoor
open Go.RowKit
open Px (RT tokAt)
open Pe (Ex)
open Ps (Sm)
open Qe (Q)

mutual
def sameM : Sm → Sm → Bool
  | .mk k n o d es bs ls _ r, .mk k2 n2 o2 d2 es2 bs2 ls2 _ r2 => k == k2 && n == n2 && (o == o2 && d == d2) && r == r2 && sameL es es2 && sameML bs bs2 && sameML ls ls2
def sameML : List Sm → List Sm → Bool
  | [], [] => true
  | x :: xs, y :: ys => sameM x y && sameML xs ys
  | _, _ => false
end
mutual
def fitM : Sm → Bool
  | .mk _ _ _ _ es bs ls _ _ => fitL es && decide (es.length ≤ 9000000000) && fitML bs && decide (bs.length ≤ 9000000000) && fitML ls && decide (ls.length ≤ 9000000000)
def fitML : List Sm → Bool
  | [] => true
  | x :: xs => fitM x && fitML xs
end
theorem fitML_mem : ∀ {xs : List Sm} {x : Sm}, fitML xs = true → x ∈ xs → fitM x = true
  | [], _, _, hm => by cases hm
  | y :: ys, x, h, hm => by
    rw [fitML, Bool.and_eq_true] at h
    rcases List.mem_cons.1 hm with rfl | hm
    · exact h.1
    · exact fitML_mem h.2 hm
theorem sameML_len : ∀ (a b : List Sm), a.length ≠ b.length → sameML a b = false
  | [], [], h => absurd rfl h
  | [], _ :: _, _ => by rw [sameML]; all_goals simp
  | _ :: _, [], _ => by rw [sameML]; all_goals simp
  | x :: xs, y :: ys, h => by
    rw [sameML, sameML_len xs ys (by simpa using h), Bool.and_false]
namespace Sim
def FM (recQ : Q → Qs.Out) : Prop := ∀ q x, recQ q = some x → fitM x.1 = true
def FB (recQ : Q → Qs.OutB) : Prop := ∀ q x, recQ q = some x → fitML x.1 = true ∧ x.1.length ≤ 9000000000
end Sim
end Go.Proofs.YtnadaedibicaaaaGreatDoor
