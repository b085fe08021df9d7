/-
  Whether two expressions are alike, wherever they stand: plain; the contracts of Same and of SameExpr.
  Whether two expressions are alike, wherever they stand: the loop over two lists, and the recursion.
  What is read has no list that is too long.
  Statements: whether two are alike, and that what is read fits (plain data).
-/
import Derived.Test.YtnnbdidefgghjaaGreatDoorK05
import Derived.Test.YtnnbdidefgghjaaGreatDoorK09
import Derived.Test.YtnnbdidefgghjaaGreatDoorK36
import Derived.Test.YtnnbdidefgghjaaGreatDoorK38
import Derived.Deep.RegionHeld3
import Derived.Deep.LoopGhost
import Derived.Laws.StructEq
namespace Go.Proofs.YtnnbdidefgghjaaGreatDoor
open Go.RowKit
open Px (RT tokAt)
open Pe

mutual
def sameE : Ex → Ex → Bool
  | .mk k n s o d ks _ b r e f, .mk k2 n2 s2 o2 d2 ks2 _ b2 r2 e2 f2 => k == k2 && n == n2 && s == s2 && (o == o2 && d == d2) && (b == b2 && r == r2 && e == e2) && f == f2 && sameL ks ks2
def sameL : List Ex → List Ex → Bool
  | [], [] => true
  | e :: es, e2 :: es2 => sameE e e2 && sameL es es2
  | _, _ => false
end
theorem beq_cbs (a b : List UInt8) : ((cbs a).toList == (cbs b).toList) = (a == b) := by rw [cbs_list, cbs_list]
theorem stoodOf : Tryz.prog.stoodInHeld 35 = false := by kernel_rfl
theorem stoodTy : Tryz.prog.stoodInHeld 71 = false := by kernel_rfl
set_option maxHeartbeats 1000000 in
theorem eq_of2 (a b : List UInt8) (d d2 : Int) (w : World) : (binOp .eql 35 (.agg #[.string (cbs a), .int .i64 d]) (.agg #[.string (cbs b), .int .i64 d2])).run Tryz.prog w = .ok (.bool (a == b && d == d2)) w := by
  rw [run_eql_struct, run_equalIn_agg w 9999 _ _ _ (by kernel_rfl) stoodOf]
  simp [go_sem, cbs_list]
  split <;> (try split) <;> simp_all
set_option maxHeartbeats 1000000 in
theorem eq_ty3 (a b c a2 b2 c2 : Int) (w : World) : (binOp .eql 71 (.agg #[.int .i64 a, .int .i64 b, .int .i64 c]) (.agg #[.int .i64 a2, .int .i64 b2, .int .i64 c2])).run Tryz.prog w = .ok (.bool (a == a2 && b == b2 && c == c2)) w := by
  rw [run_eql_struct, run_equalIn_agg w 9999 _ _ _ (by kernel_rfl) stoodTy]
  simp [go_sem]
  split <;> (try split) <;> (try split) <;> simp_all

set_option maxRecDepth 8000 in
set_option maxHeartbeats 2000000 in
theorem same_step (w : World) (_B : Nat) (_x _y : Ex) (xk : Int) (xn : Int) (xs : List UInt8) (xo : List UInt8) (xd : Int) (xp : Option Addr) (xl : Nat) (xc : Nat) (xa : Int) (xb : Int) (xr : Int) (xe : Int) (xf : Int) (yk : Int) (yn : Int) (ys : List UInt8) (yo : List UInt8) (yd : Int) (yp : Option Addr) (yl : Nat) (yc : Nat) (ya : Int) (yb : Int) (yr : Int) (ye : Int) (yf : Int)
    (v : Bool) (hk : ∀ w1, Below w.heap.size w w1 → Calls Tryz.prog 26 #[.slice xp xl xc, .slice yp yl yc, .func (.func 27) #[] #[]] w1 fun e w' => e = .returned (.bool v) ∧ Below w1.heap.size w1 w') :
    Calls Tryz.prog 27 #[.agg #[.int .i64 xk, .int .i64 xn, .string (cbs xs), .string (cbs xo), .int .i64 xd, .slice xp xl xc, .int .i64 xa, .int .i64 xb, .int .i64 xr, .int .i64 xe, .int .i64 xf], .agg #[.int .i64 yk, .int .i64 yn, .string (cbs ys), .string (cbs yo), .int .i64 yd, .slice yp yl yc, .int .i64 ya, .int .i64 yb, .int .i64 yr, .int .i64 ye, .int .i64 yf]] w fun e w' => e = .returned (.bool (xk == yk && xn == yn && xs == ys && (xo == yo && xd == yd) && (xb == yb && xr == yr && xe == ye) && xf == yf && v)) ∧ Below w.heap.size w w' := by
  have h1 := eq_of2 xo yo xd yd
  have h2 := eq_ty3 xb xr xe yb yr ye
  have hsx := beq_cbs xs ys
  have hbb : Below w.heap.size w ((w.alloc (.cells #[.int .i64 xk, .int .i64 xn, .string (cbs xs), .string (cbs xo), .int .i64 xd, .slice xp xl xc, .int .i64 xa, .int .i64 xb, .int .i64 xr, .int .i64 xe, .int .i64 xf] 73)).alloc (.cells #[.int .i64 yk, .int .i64 yn, .string (cbs ys), .string (cbs yo), .int .i64 yd, .slice yp yl yc, .int .i64 ya, .int .i64 yb, .int .i64 yr, .int .i64 ye, .int .i64 yf] 73)) := ((Below.refl _ _).alloc (Nat.le_refl _) _).alloc (by rw [size_alloc]; omega) _
  have HK := Lib.hid (hk _ hbb)
  have HBB := Lib.hid hbb
  clear hk hbb
  generalize (xo == yo && xd == yd) = g1 at h1 ⊢
  generalize (xb == yb && xr == yr && xe == ye) = g2 at h2 ⊢
  generalize (xs == ys) = g3 at hsx ⊢
  cases hc1 : (xk == yk) with
  | false =>
    go_enter Tryz.func27, Tryz.ntmps27
    go_wp2_with fail
    go_ret
    exact ⟨rfl, HBB.out⟩
  | true =>
    cases hc2 : (xn == yn) with
    | false =>
      go_enter Tryz.func27, Tryz.ntmps27
      go_wp2_with fail
      go_ret
      exact ⟨rfl, HBB.out⟩
    | true =>
      cases g3 with
      | false =>
        go_enter Tryz.func27, Tryz.ntmps27
        go_wp2_with fail
        go_ret
        exact ⟨rfl, HBB.out⟩
      | true =>
        cases g1 with
        | false =>
          go_enter Tryz.func27, Tryz.ntmps27
          go_wp2_with fail
          go_ret
          exact ⟨rfl, HBB.out⟩
        | true =>
          cases g2 with
          | false =>
            go_enter Tryz.func27, Tryz.ntmps27
            go_wp2_with fail
            go_ret
            exact ⟨rfl, HBB.out⟩
          | true =>
            cases hc6 : (xf == yf) with
            | false =>
              go_enter Tryz.func27, Tryz.ntmps27
              go_wp2_with fail
              go_ret
              exact ⟨rfl, HBB.out⟩
            | true =>
              go_enter Tryz.func27, Tryz.ntmps27
              go_wp2_with (go_at_call 26; refine (HK.out).mono ?_; rintro e w1 ⟨rfl, hb1⟩)
              go_ret
              exact ⟨rfl, below_seq HBB.out hb1 HBB.out.size⟩

end Go.Proofs.YtnnbdidefgghjaaGreatDoor
namespace Go.Proofs.YtnnbdidefgghjaaGreatDoor
open Go.RowKit
open Px (RT tokAt)
open Pe

/-! No list in it is too long for an index. -/
mutual
def fitE : Ex → Bool
  | .mk _ _ _ _ _ ks _ _ _ _ _ => decide (ks.length ≤ 9223372036854775807) && fitL ks
def fitL : List Ex → Bool
  | [] => true
  | e :: es => fitE e && fitL es
end
theorem fitL_mem : ∀ {es : List Ex} {e : Ex}, fitL es = true → e ∈ es → fitE e = true
  | [], _, _, h => by cases h
  | x :: es, e, hf, h => by
    rw [fitL, Bool.and_eq_true] at hf
    rcases List.mem_cons.1 h with rfl | h
    · exact hf.1
    · exact fitL_mem hf.2 h
theorem At.get {w : World} {B bl : Nat} : ∀ (es : List Ex) (off j : Nat) (e : Ex), At w B bl off es → es[j]? = some e → ∃ vs, Is w B e vs ∧ ∀ (i : Nat) (v : Value), vs[i]? = some v → w.cell? ⟨bl, off + j * 11 + i, none⟩ = some v
  | [], _, j, e, _, h => by simp at h
  | x :: es, off, 0, e, ha, h => by
    rw [At] at ha
    obtain ⟨⟨vs, hi, hc⟩, -⟩ := ha
    simp at h
    subst h
    exact ⟨vs, hi, fun i v hv => by have := hc i v hv; simpa using this⟩
  | x :: es, off, j + 1, e, ha, h => by
    rw [At] at ha
    obtain ⟨vs, hi, hc⟩ := At.get es (off + 11) j e ha.2 (by simpa using h)
    exact ⟨vs, hi, fun i v hv => by have := hc i v hv; rw [show off + (j + 1) * 11 + i = off + 11 + j * 11 + i by omega]; exact this⟩
theorem eleven_of {w : World} {b o : Nat} {kind num : Int} {name ofn : List UInt8} {dims : Int} {kv : Value} {at_ bb r d ref : Int} (h : ∀ (i : Nat) (v : Value), (exCells kind num name ofn dims kv at_ bb r d ref)[i]? = some v → w.cell? ⟨b, o + i, none⟩ = some v) :
    w.cell? ⟨b, o, none⟩ = some (.int .i64 kind) ∧ w.cell? ⟨b, o + 1, none⟩ = some (.int .i64 num) ∧ w.cell? ⟨b, o + 2, none⟩ = some (.string (cbs name)) ∧ w.cell? ⟨b, o + 3, none⟩ = some (.string (cbs ofn)) ∧ w.cell? ⟨b, o + 4, none⟩ = some (.int .i64 dims) ∧ w.cell? ⟨b, o + 5, none⟩ = some kv ∧ w.cell? ⟨b, o + 6, none⟩ = some (.int .i64 at_) ∧ w.cell? ⟨b, o + 7, none⟩ = some (.int .i64 bb) ∧ w.cell? ⟨b, o + 8, none⟩ = some (.int .i64 r) ∧ w.cell? ⟨b, o + 9, none⟩ = some (.int .i64 d) ∧ w.cell? ⟨b, o + 10, none⟩ = some (.int .i64 ref) :=
  ⟨h 0 _ rfl, h 1 _ rfl, h 2 _ rfl, h 3 _ rfl, h 4 _ rfl, h 5 _ rfl, h 6 _ rfl, h 7 _ rfl, h 8 _ rfl, h 9 _ rfl, h 10 _ rfl⟩
theorem sameL_len : ∀ (a b : List Ex), a.length ≠ b.length → sameL a b = false
  | [], [], h => absurd rfl h
  | [], _ :: _, _ => by rw [sameL]; all_goals simp
  | _ :: _, [], _ => by rw [sameL]; all_goals simp
  | x :: a, y :: b, h => by rw [sameL, sameL_len a b (by simpa using h), Bool.and_false]
theorem KidsAt.below {w w' : World} {B : Nat} {p : Option Addr} {l : List Ex} (h : KidsAt w B p l) (hb : Below w.heap.size w w') : KidsAt w' B p l := by
  rcases h with h | ⟨bl, off, h1, h2, h3, h4⟩
  · exact .inl h
  · exact .inr ⟨bl, off, h1, Nat.lt_of_lt_of_le h2 hb.size, h3, At.keep hb.size (fun bl _ h => hb.block bl h) l off h2 h3 h4⟩
theorem KidsAt.get {w : World} {B : Nat} {p : Option Addr} {l : List Ex} (h : KidsAt w B p l) {j : Nat} {e : Ex} (he : l[j]? = some e) : ∃ bl off vs, p = some ⟨bl, off, none⟩ ∧ bl < w.heap.size ∧ Is w B e vs ∧ ∀ (i : Nat) (v : Value), vs[i]? = some v → w.cell? ⟨bl, off + j * 11 + i, none⟩ = some v := by
  rcases h with h | ⟨bl, off, h1, h2, h3, h4⟩
  · rw [h] at he; simp at he
  · obtain ⟨vs, hi, hc⟩ := At.get l off j e h4 he
    exact ⟨bl, off, vs, h1, h2, hi, hc⟩
theorem Is.kids {w : World} {B : Nat} {kind num : Int} {name ofn : List UInt8} {dims : Int} {ks : List Ex} {at_ b r d ref : Int} {vs : List Value} (h : Is w B (.mk kind num name ofn dims ks at_ b r d ref) vs) : ∃ p c, vs = exCells kind num name ofn dims (.slice p ks.length c) at_ b r d ref ∧ KidsAt w B p ks := by
  rw [Is] at h
  exact h
/-- What a comparison of two expressions owes. -/
def SameOk (F : Nat) (w : World) (e e2 : Ex) : Prop := ∀ w1 vs vs2, Below w.heap.size w w1 → Is w1 0 e vs → Is w1 0 e2 vs2 → Calls Tryz.prog F #[.agg ⟨vs⟩, .agg ⟨vs2⟩] w1 fun en w' => en = .returned (.bool (sameE e e2)) ∧ Below w1.heap.size w1 w'

set_option maxRecDepth 8000 in
set_option maxHeartbeats 4000000 in
theorem equalFunc_any (w : World) (ks ls : List Ex) (p q : Option Addr) (c d : Nat) (hp : KidsAt w 0 p ks) (hq : KidsAt w 0 q ls) (hl : ks.length ≤ 9223372036854775807) (hel : ∀ e ∈ ks, ∀ e2, SameOk 27 w e e2) :
    Calls Tryz.prog 26 #[.slice p ks.length c, .slice q ls.length d, .func (.func 27) #[] #[]] w fun e w' => e = .returned (.bool (sameL ks ls)) ∧ Below w.heap.size w w' := by
  have HP := Lib.hid hp
  have HQ := Lib.hid hq
  have HEL := Lib.hid hel
  have HL := Lib.hid hl
  clear hp hq hel hl
  by_cases hlen : ks.length = ls.length
  · have hd0 : ((ks.length : Int) != (ls.length : Int)) = false := by rw [hlen]; exact bne_self_eq_false _
    have HLEN := Lib.hid hlen
    clear hlen
    go_enter Tryz.func26, Tryz.ntmps26
    go_wp2_with fail
    go_loopg [17] ks.length (fun n v wr => ∃ j : Nat, n + j = ks.length ∧ v = .int .i64 (j : Int) ∧ Below w.heap.size w wr ∧ sameL (ks.drop j) (ls.drop j) = sameL ks ls)
    case atStart => exact ⟨0, rfl, rfl, Below.refl _ _, rfl⟩
    case round =>
      obtain ⟨j, hj, rfl, hb, hs⟩ := hrel
      have HB := Lib.hid hb
      have HS := Lib.hid hs
      have HJ := Lib.hid hj
      clear hb hs hj
      cases gk with
      | zero =>
        obtain rfl : j = ks.length := by have := HJ.out; omega
        have hd1 : decide ((ks.length : Int) < (ks.length : Int)) = false := decide_eq_false (by omega)
        go_wp2_with fail
        go_ret
        refine ⟨cret_bool ?_, HB.out⟩
        rw [← HS.out, List.drop_of_length_le (Nat.le_refl _), List.drop_of_length_le (by rw [HLEN.out]; exact Nat.le_refl _), sameL]
      | succ m =>
        have hjl : j < ks.length := by have := HJ.out; omega
        have hjl2 : j < ls.length := by have := HLEN.out; omega
        have hd1 : decide ((j : Int) < (ks.length : Int)) = true := decide_eq_true (by omega)
        have hi1 : (j : Int) < (ks.length : Int) := by omega
        have hi2 : (j : Int) < (ls.length : Int) := by omega
        have hd2 : decide (ks.length ≤ j) = false := decide_eq_false (by omega)
        have hd3 : decide (ls.length ≤ j) = false := decide_eq_false (by omega)
        have hdw : wrap64 ((j : Int) + 1) = ((j + 1 : Nat) : Int) := by have := HL.out; simp [wrap64]; omega
        have he1 := List.getElem?_eq_getElem hjl
        have he2 := List.getElem?_eq_getElem hjl2
        have hd4 : ks.drop j = ks[j] :: ks.drop (j + 1) := List.drop_eq_getElem_cons hjl
        have hd5 : ls.drop j = ls[j] :: ls.drop (j + 1) := List.drop_eq_getElem_cons hjl2
        have HE := Lib.hid (HEL.out _ (List.getElem_mem hjl) (ls[j]))
        generalize ks[j] = e1 at he1 hd4 HE
        generalize ls[j] = e2 at he2 hd5 HE
        have HD4 := Lib.hid hd4
        have HD5 := Lib.hid hd5
        obtain ⟨bl, off, vs, rfl, hbl, hi, hc⟩ := (HP.out.below HB.out).get he1
        obtain ⟨bl2, off2, vs2, rfl, hbl2, hi', hc2⟩ := (HQ.out.below HB.out).get he2
        obtain ⟨xk, xn, xs, xo, xd, xp, xl, xc, xa, xb, xr, xe, xf, rfl⟩ := hi.out
        obtain ⟨yk, yn, ys, yo, yd, yp, yl, yc, ya, yb, yr, ye, yf, rfl⟩ := hi'.out
        obtain ⟨x0, x1, x2, x3, x4, x5, x6, x7, x8, x9, xX⟩ := eleven_of hc
        obtain ⟨y0, y1, y2, y3, y4, y5, y6, y7, y8, y9, yX⟩ := eleven_of hc2
        have HI := Lib.hid hi
        have HI2 := Lib.hid hi'
        clear hc hc2 hi hi' he1 he2 hd4 hd5
        have hne1 : bl ≠ wr.heap.size := Nat.ne_of_lt hbl
        have hne2 : bl2 ≠ wr.heap.size := Nat.ne_of_lt hbl2
        go_wp2_with fail
        have hb2 : Below wr.heap.size wr ((wr.alloc (.cells #[.int .i64 xk, .int .i64 xn, .string (cbs xs), .string (cbs xo), .int .i64 xd, .slice xp xl xc, .int .i64 xa, .int .i64 xb, .int .i64 xr, .int .i64 xe, .int .i64 xf] 73)).alloc (.cells #[.int .i64 yk, .int .i64 yn, .string (cbs ys), .string (cbs yo), .int .i64 yd, .slice yp yl yc, .int .i64 ya, .int .i64 yb, .int .i64 yr, .int .i64 ye, .int .i64 yf] 73)) := ((Below.refl _ _).alloc (Nat.le_refl _) _).alloc (by rw [size_alloc]; omega) _
        refine (HE.out _ _ _ (below_seq HB.out hb2 HB.out.size) ((HI.out.alloc _).alloc _) ((HI2.out.alloc _).alloc _)).mono ?_
        rintro e w2 ⟨rfl, hb3⟩
        have HB2 := Lib.hid (below_seq (below_seq HB.out hb2 HB.out.size) hb3 (below_seq HB.out hb2 HB.out.size).size)
        clear hb2 hb3
        cases hse : sameE e1 e2 with
        | false =>
          have HSE := Lib.hid hse
          try rw [hse]
          clear hse
          go_wp2_with fail
          go_ret
          refine ⟨cret_bool ?_, HB2.out⟩
          rw [← HS.out, HD4.out, HD5.out, sameL, HSE.out, Bool.false_and]
        | true =>
          have HSE := Lib.hid hse
          try rw [hse]
          clear hse
          go_wp2_with fail
          go_roundg m
          case measure => omega
          case rel => exact ⟨j + 1, by have := HJ.out; omega, by first | rfl | simp [hdw], HB2.out, by rw [← HS.out, HD4.out, HD5.out, sameL, HSE.out, Bool.true_and]⟩
  · have hd0 : ((ks.length : Int) != (ls.length : Int)) = true := bne_iff_ne.2 (by omega)
    rw [sameL_len _ _ hlen]
    clear hlen
    go_enter Tryz.func26, Tryz.ntmps26
    go_wp2_with fail
    go_ret
    exact ⟨rfl, Below.refl _ _⟩

theorem sizes_kid {ks : List Ex} {e : Ex} (h : e ∈ ks) (kind num : Int) (name ofn : List UInt8) (dims at_ b r d ref : Int) : SizeOf.sizeOf e < SizeOf.sizeOf (Ex.mk kind num name ofn dims ks at_ b r d ref) := by
  have := List.sizeOf_lt_of_mem h
  simp only [Ex.mk.sizeOf_spec]
  omega
theorem same_n : ∀ (n : Nat) (x y : Ex), SizeOf.sizeOf x ≤ n → fitE x = true → ∀ w, SameOk 27 w x y := by
  intro n
  induction n with
  | zero => intro x y h; cases x; simp at h
  | succ n ih =>
    intro x y hs hf w w1 vs vs2 _ hi hi2
    obtain ⟨xk, xn, xs, xo, xd, ks, xa, xb, xr, xe, xf⟩ := x
    obtain ⟨yk, yn, ys, yo, yd, ls, ya, yb, yr, ye, yf⟩ := y
    obtain ⟨p, c, rfl, hp⟩ := hi.kids
    obtain ⟨q, d, rfl, hq⟩ := hi2.kids
    rw [fitE, Bool.and_eq_true] at hf
    have hk : ∀ w2, Below w1.heap.size w1 w2 → _ := fun w2 hb => equalFunc_any w2 ks ls p q c d (hp.below hb) (hq.below hb) (of_decide_eq_true hf.1) (fun e he e2 => ih e e2 (by have := sizes_kid he xk xn xs xo xd xa xb xr xe xf; omega) (fitL_mem hf.2 he) w2)
    have hst := same_step w1 0 (.mk xk xn xs xo xd ks xa xb xr xe xf) (.mk yk yn ys yo yd ls ya yb yr ye yf) xk xn xs xo xd p ks.length c xa xb xr xe xf yk yn ys yo yd q ls.length d ya yb yr ye yf (sameL ks ls) hk
    rw [sameE]
    exact hst
end Go.Proofs.YtnnbdidefgghjaaGreatDoor
namespace Go.Proofs.YtnnbdidefgghjaaGreatDoor
namespace Sim
open Go.RowKit
open Px (RT tokAt isT)
open Pe (Ex)
open Qe (Q)

theorem fit_of {kind num : Int} {name ofn : List UInt8} {dims : Int} {kids : List Ex} {at_ : Int} (h : fitL kids = true) (hl : kids.length ≤ 9000000000) : fitE (Ex.of kind num name ofn dims kids at_) = true := by
  rw [Ex.of, fitE, h, Bool.and_true]
  exact decide_eq_true (by omega)
theorem fit_nil : fitL [] = true := by rw [fitL]
theorem fit_one {e : Ex} (h : fitE e = true) : fitL [e] = true := by rw [fitL, h, fit_nil]; rfl
theorem fit_two {e e2 : Ex} (h : fitE e = true) (h2 : fitE e2 = true) : fitL [e, e2] = true := by rw [fitL, h, fit_one h2]; rfl
theorem fit_snoc : ∀ {l : List Ex} {e : Ex}, fitL l = true → fitE e = true → fitL (l ++ [e]) = true
  | [], e, _, h => fit_one h
  | x :: l, e, hl, h => by
    rw [fitL, Bool.and_eq_true] at hl
    rw [List.cons_append, fitL, hl.1, fit_snoc hl.2 h]; rfl
theorem fit1 {kind num : Int} {name ofn : List UInt8} {dims at_ : Int} {e : Ex} (h : fitE e = true) : fitE (Ex.of kind num name ofn dims [e] at_) = true := fit_of (fit_one h) (by show 1 ≤ 9000000000; decide)
theorem fit2 {kind num : Int} {name ofn : List UInt8} {dims at_ : Int} {e e2 : Ex} (h : fitE e = true) (h2 : fitE e2 = true) : fitE (Ex.of kind num name ofn dims [e, e2] at_) = true := fit_of (fit_two h h2) (by show 2 ≤ 9000000000; decide)
theorem fit0 {kind num : Int} {name ofn : List UInt8} {dims at_ : Int} : fitE (Ex.of kind num name ofn dims [] at_) = true := fit_of fit_nil (Nat.zero_le _)
def RF (recQ : Nat → Q → Qe.Out) : Prop := ∀ n q x, recQ n q = some x → fitE x.1 = true

theorem fit_argLoop {ts : List RT} {recQ : Nat → Q → Qe.Out} (hr : RF recQ) : ∀ (g : Nat) {l : List Ex} {q : Q} {x : List Ex × Q}, fitL l = true → Qe.argLoop ts recQ g l q = some x → fitL x.1 = true ∧ x.1.length ≤ l.length + g
  | 0, _, _, _, _, h => by rw [Qe.argLoop] at h; cases h
  | g + 1, l, q, x, hl, h => by
    rw [Qe.argLoop] at h
    split at h
    · split at h
      · cases h
      · rename_i e s2 he
        obtain ⟨a, b⟩ := fit_argLoop hr g (fit_snoc hl (hr _ _ _ he)) h
        refine ⟨a, ?_⟩
        rw [List.length_append, List.length_singleton] at b
        omega
    · injection h with h
      subst h
      exact ⟨hl, Nat.le_add_right _ _⟩
theorem fit_args {ts : List RT} {recQ : Nat → Q → Qe.Out} (hr : RF recQ) {g : Nat} {q : Q} {x : List Ex × Q} (h : Qe.args ts recQ g q = some x) : fitL x.1 = true ∧ x.1.length ≤ 1 + g := by
  unfold Qe.args at h
  split at h
  · injection h with h
    subst h
    exact ⟨fit_nil, Nat.zero_le _⟩
  · split at h
    · cases h
    · rename_i e s2 he
      split at h
      · cases h
      · rename_i l s3 hl
        injection h with h
        subst h
        exact fit_argLoop hr g (x := (l, s3)) (fit_one (hr _ _ (e, s2) he)) hl
theorem fit_inner {ts : List RT} {recQ : Nat → Q → Qe.Out} (hr : RF recQ) {q : Q} {x : Ex × Q} (h : Qe.inner ts recQ q = some x) : fitE x.1 = true := by
  unfold Qe.inner at h
  split at h
  · cases h
  · rename_i e s2 he
    injection h with h
    subst h
    exact hr _ _ (e, s2) he
theorem fit_fresh {ts : List RT} {recQ : Nat → Q → Qe.Out} (hr : RF recQ) {q : Q} {a : Int} {x : Ex × Q} (h : Qe.fresh ts recQ q a = some x) : fitE x.1 = true := by
  unfold Qe.fresh at h
  split at h
  · dsimp only at h
    split at h
    · cases h
    · rename_i e s2 he
      injection h with h
      subst h
      exact fit1 (fit_inner hr (x := (e, s2)) he)
  · injection h with h
    subst h
    exact fit0
theorem fit_first {ts : List RT} {recQ : Nat → Q → Qe.Out} (hr : RF recQ) {g : Nat} (hg : g ≤ 8999999999) {q : Q} {x : Ex × Q} (h : Qe.first ts recQ g q = some x) : fitE x.1 = true := by
  dsimp only [Qe.first] at h
  repeat' split at h
  all_goals first
    | (cases h; done)
    | exact fit_fresh hr h
    | exact fit_inner hr h
    | (injection h with h; subst h; exact fit0)
    | (rename_i e s2 he; injection h with h; subst h; exact fit1 (fit_inner hr (x := (e, s2)) he))
    | (rename_i l s2 he; injection h with h; subst h; have ha := fit_args hr (x := (l, s2)) he; exact fit_of ha.1 (by have := ha.2; dsimp only at this; omega))
theorem fit_behind {ts : List RT} {recQ : Nat → Q → Qe.Out} (hr : RF recQ) : ∀ (g : Nat) {e : Ex} {q : Q} {x : Ex × Q}, fitE e = true → Qe.behind ts recQ g e q = some x → fitE x.1 = true
  | 0, _, _, _, _, h => by rw [Qe.behind] at h; cases h
  | g + 1, e, q, x, he, h => by
    rw [Qe.behind] at h
    split at h
    · exact fit_behind hr g (fit1 he) h
    · split at h
      · split at h
        · cases h
        · rename_i i s2 hi
          exact fit_behind hr g (fit2 he (hr _ _ (i, s2) hi)) h
      · injection h with h
        subst h
        exact he
theorem fit_pre {ts : List RT} {recQ : Nat → Q → Qe.Out} (hr : RF recQ) {q : Q} {t : List UInt8} {kind : Int} {x : Ex × Q} (h : Qe.prefixed ts recQ q t kind = some x) : fitE x.1 = true := by
  unfold Qe.prefixed at h
  split at h
  · cases h
  · rename_i e s2 he
    injection h with h
    subst h
    exact fit1 (hr _ _ (e, s2) he)
theorem fit_unary {ts : List RT} {recQ : Nat → Q → Qe.Out} (hr : RF recQ) {g : Nat} (hg : g ≤ 8999999999) {q : Q} {x : Ex × Q} (h : Qe.unary ts recQ g q = some x) : fitE x.1 = true := by
  unfold Qe.unary at h
  split at h
  · exact fit_pre hr h
  · split at h
    · exact fit_pre hr h
    · split at h
      · cases h
      · rename_i e s2 he
        exact fit_behind hr g (fit_first hr hg (x := (e, s2)) he) h
theorem fit_bin {ts : List RT} {recQ : Nat → Q → Qe.Out} (hr : RF recQ) (n : Nat) : ∀ (g : Nat) {e : Ex} {q : Q} {x : Ex × Q}, fitE e = true → Qe.binLoop ts recQ n g e q = some x → fitE x.1 = true
  | 0, _, _, _, _, h => by rw [Qe.binLoop] at h; cases h
  | g + 1, e, q, x, he, h => by
    rw [Qe.binLoop] at h
    split at h
    · injection h with h
      subst h
      exact he
    · split at h
      · cases h
      · rename_i r s2 hrr
        exact fit_bin hr n g (fit2 he (hr _ _ (r, s2) hrr)) h
theorem fit_run (ts : List RT) : ∀ (f : Nat), f ≤ 8999999999 → RF (Qe.run ts f)
  | 0, _ => fun n q x h => by cases h
  | f + 1, hf => fun n q x h => by
    have hr := fit_run ts f (by omega)
    rw [qrun] at h
    split at h
    · exact fit_unary hr (by omega) h
    · split at h
      · cases h
      · rename_i l s1 hl
        exact fit_bin hr n f (hr _ _ (l, s1) hl) h
end Sim
end Go.Proofs.YtnnbdidefgghjaaGreatDoor
namespace Go.Proofs.YtnnbdidefgghjaaGreatDoor
open Go.RowKit
open Px (RT tokAt)
open Pe (Ex)
open Ps (Sm)
open Qe (Q)

mutual
def sameM : Sm → Sm → Bool
  | .mk k n o d es bs ls _ r, .mk k2 n2 o2 d2 es2 bs2 ls2 _ r2 => k == k2 && n == n2 && (o == o2 && d == d2) && r == r2 && sameL es es2 && sameML bs bs2 && sameML ls ls2
def sameML : List Sm → List Sm → Bool
  | [], [] => true
  | x :: xs, y :: ys => sameM x y && sameML xs ys
  | _, _ => false
end
mutual
def fitM : Sm → Bool
  | .mk _ _ _ _ es bs ls _ _ => fitL es && decide (es.length ≤ 9000000000) && fitML bs && decide (bs.length ≤ 9000000000) && fitML ls && decide (ls.length ≤ 9000000000)
def fitML : List Sm → Bool
  | [] => true
  | x :: xs => fitM x && fitML xs
end
theorem fitML_mem : ∀ {xs : List Sm} {x : Sm}, fitML xs = true → x ∈ xs → fitM x = true
  | [], _, _, hm => by cases hm
  | y :: ys, x, h, hm => by
    rw [fitML, Bool.and_eq_true] at h
    rcases List.mem_cons.1 hm with rfl | hm
    · exact h.1
    · exact fitML_mem h.2 hm
theorem fitML_snoc : ∀ {xs : List Sm} {x : Sm}, fitML xs = true → fitM x = true → fitML (xs ++ [x]) = true
  | [], x, _, hx => by rw [List.nil_append, fitML, hx, fitML]; rfl
  | y :: ys, x, h, hx => by
    rw [fitML, Bool.and_eq_true] at h
    rw [List.cons_append, fitML, h.1, fitML_snoc h.2 hx]
    rfl
theorem sameML_len : ∀ (a b : List Sm), a.length ≠ b.length → sameML a b = false
  | [], [], h => absurd rfl h
  | [], _ :: _, _ => by rw [sameML]; all_goals simp
  | _ :: _, [], _ => by rw [sameML]; all_goals simp
  | x :: xs, y :: ys, h => by
    rw [sameML, sameML_len xs ys (by simpa using h), Bool.and_false]
theorem fit_zero : fitM Sm.zero = true := by unfold Sm.zero; rw [fitM, Sim.fit_nil, fitML]; rfl

namespace Sim
def FM (recQ : Q → Qs.Out) : Prop := ∀ q x, recQ q = some x → fitM x.1 = true
def FB (recQ : Q → Qs.OutB) : Prop := ∀ q x, recQ q = some x → fitML x.1 = true ∧ x.1.length ≤ 9000000000
def FX (r : Qs.RX) : Prop := ∀ q x, r q = some x → fitE x.1 = true
theorem fitM_of {k : Int} {n o : List UInt8} {d : Int} {es : List Ex} {bs ls : List Sm} {a r : Int} (h1 : fitL es = true) (h2 : es.length ≤ 9000000000) (h3 : fitML bs = true) (h4 : bs.length ≤ 9000000000) (h5 : fitML ls = true) (h6 : ls.length ≤ 9000000000) : fitM (.mk k n o d es bs ls a r) = true := by
  rw [fitM, h1, h3, h5]
  simp [h2, h4, h6]
theorem fitM_nil : fitML [] = true := by rw [fitML]
theorem fitM0 {k : Int} {n o : List UInt8} {d a r : Int} : fitM (.mk k n o d [] [] [] a r) = true := fitM_of fit_nil (by show 0 ≤ 9000000000; decide) fitM_nil (by show 0 ≤ 9000000000; decide) fitM_nil (by show 0 ≤ 9000000000; decide)
theorem fitM1 {k : Int} {n o : List UInt8} {d a r : Int} {e : Ex} (h : fitE e = true) : fitM (.mk k n o d [e] [] [] a r) = true := fitM_of (fit_one h) (by show 1 ≤ 9000000000; decide) fitM_nil (by show 0 ≤ 9000000000; decide) fitM_nil (by show 0 ≤ 9000000000; decide)
theorem fitM2 {k : Int} {n o : List UInt8} {d a r : Int} {e e2 : Ex} (h : fitE e = true) (h2 : fitE e2 = true) : fitM (.mk k n o d [e, e2] [] [] a r) = true := fitM_of (fit_two h h2) (by show 2 ≤ 9000000000; decide) fitM_nil (by show 0 ≤ 9000000000; decide) fitM_nil (by show 0 ≤ 9000000000; decide)

theorem fit_stmt {ts : List RT} {r : Qs.RX} (hx : FX r) {recB : Q → Qs.OutB} (hb : FB recB) : FM (Qs.stmt ts r recB) := by
  intro q x h
  unfold Qs.stmt at h
  split at h
  · unfold Qs.declared at h
    dsimp only at h
    split at h
    · split at h
      · cases h
      · rename_i e s2 he
        obtain rfl := Option.some.inj h
        exact fitM1 (hx _ _ he)
    · obtain rfl := Option.some.inj h
      exact fitM0
  · split at h
    · unfold Qs.choice at h
      split at h
      · cases h
      · rename_i e s1 he
        split at h
        · cases h
        · rename_i b s2 hb2
          obtain ⟨f1, f2⟩ := hb _ _ hb2
          split at h
          · split at h
            · cases h
            · rename_i b3 s3 hb3
              obtain ⟨f3, f4⟩ := hb _ _ hb3
              obtain rfl := Option.some.inj h
              exact fitM_of (fit_one (hx _ _ he)) (by show 1 ≤ 9000000000; decide) f1 f2 f3 f4
          · obtain rfl := Option.some.inj h
            exact fitM_of (fit_one (hx _ _ he)) (by show 1 ≤ 9000000000; decide) f1 f2 fitM_nil (by show 0 ≤ 9000000000; decide)
    · split at h
      · unfold Qs.loop at h
        split at h
        · cases h
        · rename_i e s1 he
          split at h
          · cases h
          · rename_i b s2 hb2
            obtain ⟨f1, f2⟩ := hb _ _ hb2
            obtain rfl := Option.some.inj h
            exact fitM_of (fit_one (hx _ _ he)) (by show 1 ≤ 9000000000; decide) f1 f2 fitM_nil (by show 0 ≤ 9000000000; decide)
      · split at h
        · unfold Qs.result at h
          split at h
          · obtain rfl := Option.some.inj h
            exact fitM0
          · split at h
            · cases h
            · rename_i e s2 he
              obtain rfl := Option.some.inj h
              exact fitM1 (hx _ _ he)
        · split at h
          · unfold Qs.output at h
            split at h
            · cases h
            · rename_i e s2 he
              obtain rfl := Option.some.inj h
              exact fitM1 (hx _ _ he)
          · unfold Qs.plain at h
            split at h
            · cases h
            · rename_i e s1 he
              split at h
              · unfold Qs.plainPut at h
                split at h
                · cases h
                · rename_i b s2 hb2
                  obtain rfl := Option.some.inj h
                  show fitM (if Ps.kindOf e = 4 then _ else _) = true
                  split
                  · exact fitM1 (hx _ _ hb2)
                  · exact fitM2 (hx _ _ he) (hx _ _ hb2)
              · obtain rfl := Option.some.inj h
                exact fitM1 (hx _ _ he)
theorem fit_stLoop {ts : List RT} {recS : Q → Qs.Out} (hs : FM recS) : ∀ (g : Nat) {l : List Sm} {q : Q} {x : List Sm × Q}, fitML l = true → Qs.stLoop ts recS g l q = some x → fitML x.1 = true ∧ x.1.length ≤ l.length + g
  | 0, _, _, _, _, h => by cases h
  | g + 1, l, q, x, hl, h => by
    rw [Qs.stLoop] at h
    split at h
    · split at h
      · cases h
      · rename_i y s2 hy
        obtain ⟨a, b⟩ := fit_stLoop hs g (fitML_snoc hl (hs _ _ hy)) h
        exact ⟨a, by rw [List.length_append, List.length_singleton] at b; omega⟩
    · obtain rfl := Option.some.inj h
      exact ⟨hl, by dsimp only; omega⟩
theorem fit_block {ts : List RT} {recS : Q → Qs.Out} (hs : FM recS) {g : Nat} (hg : g ≤ 9000000000) : FB (Qs.block ts recS g) := by
  intro q x h
  unfold Qs.block at h
  split at h
  · cases h
  · rename_i l s2 hl
    obtain rfl := Option.some.inj h
    obtain ⟨a, b⟩ := fit_stLoop hs g fitM_nil hl
    exact ⟨a, by dsimp only at b; rw [List.length_nil] at b; dsimp only; omega⟩
theorem fit_runs {ts : List RT} {r : Qs.RX} (hx : FX r) : ∀ f, f ≤ 9000000000 → FM (Qs.run ts r f).1 ∧ FB (Qs.run ts r f).2
  | 0, _ => ⟨fun q x h => (by cases h), fun q x h => (by cases h)⟩
  | f + 1, hf => ⟨fit_stmt hx (fit_runs hx f (by omega)).2, fit_block (fit_runs hx f (by omega)).1 (by omega)⟩
theorem fit_rx {ts : List RT} (hl : ts.length ≤ 800000000) : FX (rx ts) := fun q x h => fit_run ts (enough ts) (by unfold enough; omega) 0 q x h
theorem fit_parse {ts : List RT} (hl : ts.length ≤ 800000000) {k o : Int} {x : Sm × Int × Int × Int} (h : Qs.parse ts (rx ts) (enough ts) k o = some x) : fitM x.1 = true := by
  unfold Qs.parse at h
  split at h
  · cases h
  · rename_i y s hy
    obtain rfl := Option.some.inj h
    unfold Qs.stEnd
    split
    · exact (fit_runs (fit_rx hl) (enough ts) (by unfold enough; omega)).1 _ _ hy
    · exact fit_zero
theorem fit_parseB {ts : List RT} (hl : ts.length ≤ 800000000) {k o : Int} {x : List Sm × Int × Int × Int} (h : Qs.parseB ts (rx ts) (enough ts) k o = some x) : fitML x.1 = true ∧ x.1.length ≤ 9000000000 := by
  unfold Qs.parseB at h
  split at h
  · cases h
  · rename_i y s hy
    obtain rfl := Option.some.inj h
    unfold Qs.blEnd
    split
    · exact (fit_runs (fit_rx hl) (enough ts) (by unfold enough; omega)).2 _ _ hy
    · exact ⟨fitM_nil, by show 0 ≤ 9000000000; decide⟩
end Sim
end Go.Proofs.YtnnbdidefgghjaaGreatDoor
