/-
  Whether two statements are alike, wherever they stand: the contracts of Same.
-/
import Derived.Test.YtnadaedibicaaaaGreatDoorK33
import Derived.Test.YtnadaedibicaaaaGreatDoorK45
namespace Go.Proofs.YtnadaedibicaaaaGreatDoor
open Go.RowKit
open Px (RT tokAt)
open Pe
open Ps (Sm PX)

theorem SAt.get {w : World} {B bl : Nat} : ∀ (es : List Sm) (off j : Nat) (e : Sm), SAt w B bl off es → es[j]? = some e → ∃ vs, SIs w B e vs ∧ ∀ (i : Nat) (v : Value), vs[i]? = some v → w.cell? ⟨bl, off + j * 9 + i, none⟩ = some v
  | [], _, j, e, _, h => by simp at h
  | x :: es, off, 0, e, ha, h => by
    rw [SAt] at ha
    obtain ⟨⟨vs, hi, hc⟩, -⟩ := ha
    simp at h
    subst h
    exact ⟨vs, hi, fun i v hv => by have := hc i v hv; simpa using this⟩
  | x :: es, off, j + 1, e, ha, h => by
    rw [SAt] at ha
    obtain ⟨vs, hi, hc⟩ := SAt.get es (off + 9) j e ha.2 (by simpa using h)
    exact ⟨vs, hi, fun i v hv => by have := hc i v hv; rw [show off + (j + 1) * 9 + i = off + 9 + j * 9 + i by omega]; exact this⟩
theorem nine_of {w : World} {b o : Nat} {kind : Int} {name ofn : List UInt8} {dims : Int} {ev bv lv : Value} {at_ ref : Int} (h : ∀ (i : Nat) (v : Value), (smCells kind name ofn dims ev bv lv at_ ref)[i]? = some v → w.cell? ⟨b, o + i, none⟩ = some v) :
    w.cell? ⟨b, o, none⟩ = some (.int .i64 kind) ∧ w.cell? ⟨b, o + 1, none⟩ = some (.string (cbs name)) ∧ w.cell? ⟨b, o + 2, none⟩ = some (.string (cbs ofn)) ∧ w.cell? ⟨b, o + 3, none⟩ = some (.int .i64 dims) ∧ w.cell? ⟨b, o + 4, none⟩ = some ev ∧ w.cell? ⟨b, o + 5, none⟩ = some bv ∧ w.cell? ⟨b, o + 6, none⟩ = some lv ∧ w.cell? ⟨b, o + 7, none⟩ = some (.int .i64 at_) ∧ w.cell? ⟨b, o + 8, none⟩ = some (.int .i64 ref) :=
  ⟨h 0 _ rfl, h 1 _ rfl, h 2 _ rfl, h 3 _ rfl, h 4 _ rfl, h 5 _ rfl, h 6 _ rfl, h 7 _ rfl, h 8 _ rfl⟩
theorem SsAt.below {w w' : World} {B : Nat} {p : Option Addr} {l : List Sm} (h : SsAt w B p l) (hb : Below w.heap.size w w') : SsAt w' B p l := h.ag (Ag.below hb)
theorem SIs.below {w w' : World} {B : Nat} {x : Sm} {vs : List Value} (h : SIs w B x vs) (hb : Below w.heap.size w w') : SIs w' B x vs := SIs.ag (Ag.below hb) _ h
theorem SIs.alloc {w : World} {B : Nat} {x : Sm} {vs : List Value} (h : SIs w B x vs) (o : Obj) : SIs (w.alloc o) B x vs := h.below ((Below.refl _ _).alloc (Nat.le_refl _) _)
theorem SsAt.get {w : World} {B : Nat} {p : Option Addr} {l : List Sm} (h : SsAt w B p l) {j : Nat} {e : Sm} (he : l[j]? = some e) : ∃ bl off vs, p = some ⟨bl, off, none⟩ ∧ bl < w.heap.size ∧ SIs w B e vs ∧ ∀ (i : Nat) (v : Value), vs[i]? = some v → w.cell? ⟨bl, off + j * 9 + i, none⟩ = some v := by
  rcases h with h | ⟨bl, off, h1, h2, h3, h4⟩
  · rw [h] at he; simp at he
  · obtain ⟨vs, hi, hc⟩ := SAt.get l off j e h4 he
    exact ⟨bl, off, vs, h1, h2, hi, hc⟩
theorem SIs.parts {w : World} {B : Nat} {kind : Int} {name ofn : List UInt8} {dims : Int} {es : List Ex} {bs ls : List Sm} {at_ ref : Int} {vs : List Value} (h : SIs w B (.mk kind name ofn dims es bs ls at_ ref) vs) :
    ∃ p c q d r f, vs = smCells kind name ofn dims (.slice p es.length c) (.slice q bs.length d) (.slice r ls.length f) at_ ref ∧ KidsAt w B p es ∧ SsAt w B q bs ∧ SsAt w B r ls := by
  rw [SIs] at h
  exact h
def SSameOk (F : Nat) (w : World) (e e2 : Sm) : Prop := ∀ w1 vs vs2, Below w.heap.size w w1 → SIs w1 0 e vs → SIs w1 0 e2 vs2 → Calls Tryz.prog F #[.agg ⟨vs⟩, .agg ⟨vs2⟩] w1 fun en w' => en = .returned (.bool (sameM e e2)) ∧ Below w1.heap.size w1 w'
set_option maxRecDepth 8000 in
set_option maxHeartbeats 4000000 in
theorem sEqualFunc_any (w : World) (ks ls : List Sm) (p q : Option Addr) (c d : Nat) (hp : SsAt w 0 p ks) (hq : SsAt w 0 q ls) (hl : ks.length ≤ 9223372036854775807) (hel : ∀ e ∈ ks, ∀ e2, SSameOk 59 w e e2) :
    Calls Tryz.prog 58 #[.slice p ks.length c, .slice q ls.length d, .func (.func 59) #[] #[]] w fun e w' => e = .returned (.bool (sameML ks ls)) ∧ Below w.heap.size w w' := by
  have HP := Lib.hid hp
  have HQ := Lib.hid hq
  have HEL := Lib.hid hel
  have HL := Lib.hid hl
  clear hp hq hel hl
  by_cases hlen : ks.length = ls.length
  · have hd0 : ((ks.length : Int) != (ls.length : Int)) = false := by rw [hlen]; exact bne_self_eq_false _
    have HLEN := Lib.hid hlen
    clear hlen
    go_enter Tryz.func58, Tryz.ntmps58
    go_wp2_with fail
    go_loopg [17] ks.length (fun n v wr => ∃ j : Nat, n + j = ks.length ∧ v = .int .i64 (j : Int) ∧ Below w.heap.size w wr ∧ sameML (ks.drop j) (ls.drop j) = sameML ks ls)
    case atStart => exact ⟨0, rfl, rfl, Below.refl _ _, rfl⟩
    case round =>
      obtain ⟨j, hj, rfl, hb, hs⟩ := hrel
      have HB := Lib.hid hb
      have HS := Lib.hid hs
      have HJ := Lib.hid hj
      clear hb hs hj
      cases gk with
      | zero =>
        obtain rfl : j = ks.length := by have := HJ.out; omega
        have hd1 : decide ((ks.length : Int) < (ks.length : Int)) = false := decide_eq_false (by omega)
        go_wp2_with fail
        go_ret
        refine ⟨cret_bool ?_, HB.out⟩
        rw [← HS.out, List.drop_of_length_le (Nat.le_refl _), List.drop_of_length_le (by rw [HLEN.out]; exact Nat.le_refl _), sameML]
      | succ m =>
        have hjl : j < ks.length := by have := HJ.out; omega
        have hjl2 : j < ls.length := by have := HLEN.out; omega
        have hd1 : decide ((j : Int) < (ks.length : Int)) = true := decide_eq_true (by omega)
        have hi1 : (j : Int) < (ks.length : Int) := by omega
        have hi2 : (j : Int) < (ls.length : Int) := by omega
        have hd2 : decide (ks.length ≤ j) = false := decide_eq_false (by omega)
        have hd3 : decide (ls.length ≤ j) = false := decide_eq_false (by omega)
        have hdw : wrap64 ((j : Int) + 1) = ((j + 1 : Nat) : Int) := by have := HL.out; simp [wrap64]; omega
        have he1 := List.getElem?_eq_getElem hjl
        have he2 := List.getElem?_eq_getElem hjl2
        have hd4 : ks.drop j = ks[j] :: ks.drop (j + 1) := List.drop_eq_getElem_cons hjl
        have hd5 : ls.drop j = ls[j] :: ls.drop (j + 1) := List.drop_eq_getElem_cons hjl2
        have HE := Lib.hid (HEL.out _ (List.getElem_mem hjl) (ls[j]))
        generalize ks[j] = e1 at he1 hd4 HE
        generalize ls[j] = e2 at he2 hd5 HE
        have HD4 := Lib.hid hd4
        have HD5 := Lib.hid hd5
        obtain ⟨bl, off, vs, rfl, hbl, hi, hc⟩ := (HP.out.below HB.out).get he1
        obtain ⟨bl2, off2, vs2, rfl, hbl2, hi', hc2⟩ := (HQ.out.below HB.out).get he2
        obtain ⟨xk, xs, xo, xd, xep, xel, xec, xbp, xbl, xbc, xlp, xll, xlc, xa, xr, rfl⟩ := hi.out
        obtain ⟨yk, ys, yo, yd, yep, yel, yec, ybp, ybl, ybc, ylp, yll, ylc, ya, yr, rfl⟩ := hi'.out
        obtain ⟨x0, x1, x2, x3, x4, x5, x6, x7, x8⟩ := nine_of hc
        obtain ⟨y0, y1, y2, y3, y4, y5, y6, y7, y8⟩ := nine_of hc2
        have HI := Lib.hid hi
        have HI2 := Lib.hid hi'
        clear hc hc2 hi hi' he1 he2 hd4 hd5
        have hne1 : bl ≠ wr.heap.size := Nat.ne_of_lt hbl
        have hne2 : bl2 ≠ wr.heap.size := Nat.ne_of_lt hbl2
        go_wp2_with fail
        have hb2 : Below wr.heap.size wr ((wr.alloc (.cells #[.int .i64 xk, .string (cbs xs), .string (cbs xo), .int .i64 xd, .slice xep xel xec, .slice xbp xbl xbc, .slice xlp xll xlc, .int .i64 xa, .int .i64 xr] 101)).alloc (.cells #[.int .i64 yk, .string (cbs ys), .string (cbs yo), .int .i64 yd, .slice yep yel yec, .slice ybp ybl ybc, .slice ylp yll ylc, .int .i64 ya, .int .i64 yr] 101)) := ((Below.refl _ _).alloc (Nat.le_refl _) _).alloc (by rw [size_alloc]; omega) _
        refine (HE.out _ _ _ (below_seq HB.out hb2 HB.out.size) ((HI.out.alloc _).alloc _) ((HI2.out.alloc _).alloc _)).mono ?_
        rintro e w2 ⟨rfl, hb3⟩
        have HB2 := Lib.hid (below_seq (below_seq HB.out hb2 HB.out.size) hb3 (below_seq HB.out hb2 HB.out.size).size)
        clear hb2 hb3
        cases hse : sameM e1 e2 with
        | false =>
          have HSE := Lib.hid hse
          try rw [hse]
          clear hse
          go_wp2_with fail
          go_ret
          refine ⟨cret_bool ?_, HB2.out⟩
          rw [← HS.out, HD4.out, HD5.out, sameML, HSE.out, Bool.false_and]
        | true =>
          have HSE := Lib.hid hse
          try rw [hse]
          clear hse
          go_wp2_with fail
          go_roundg m
          case measure => omega
          case rel => exact ⟨j + 1, by have := HJ.out; omega, by first | rfl | simp [hdw], HB2.out, by rw [← HS.out, HD4.out, HD5.out, sameML, HSE.out, Bool.true_and]⟩
  · have hd0 : ((ks.length : Int) != (ls.length : Int)) = true := bne_iff_ne.2 (by omega)
    rw [sameML_len _ _ hlen]
    clear hlen
    go_enter Tryz.func58, Tryz.ntmps58
    go_wp2_with fail
    go_ret
    exact ⟨rfl, Below.refl _ _⟩


set_option maxRecDepth 8000 in
set_option maxHeartbeats 4000000 in
theorem ssame_step (w : World) (xk : Int) (xs xo : List UInt8) (xd : Int) (xep : Option Addr) (xel xec : Nat) (xbp : Option Addr) (xbl xbc : Nat) (xlp : Option Addr) (xll xlc : Nat) (xa xr : Int) (yk : Int) (ys yo : List UInt8) (yd : Int) (yep : Option Addr) (yel yec : Nat) (ybp : Option Addr) (ybl ybc : Nat) (ylp : Option Addr) (yll ylc : Nat) (ya yr : Int) (v1 v2 v3 : Bool)
    (hk1 : ∀ w1, Below w.heap.size w w1 → Calls Tryz.prog 95 #[.slice xep xel xec, .slice yep yel yec, .func (.func 96) #[] #[]] w1 fun e w' => e = .returned (.bool v1) ∧ Below w1.heap.size w1 w')
    (hk2 : ∀ w1, Below w.heap.size w w1 → Calls Tryz.prog 58 #[.slice xbp xbl xbc, .slice ybp ybl ybc, .func (.func 59) #[] #[]] w1 fun e w' => e = .returned (.bool v2) ∧ Below w1.heap.size w1 w')
    (hk3 : ∀ w1, Below w.heap.size w w1 → Calls Tryz.prog 58 #[.slice xlp xll xlc, .slice ylp yll ylc, .func (.func 59) #[] #[]] w1 fun e w' => e = .returned (.bool v3) ∧ Below w1.heap.size w1 w') :
    Calls Tryz.prog 59 #[.agg #[.int .i64 xk, .string (cbs xs), .string (cbs xo), .int .i64 xd, .slice xep xel xec, .slice xbp xbl xbc, .slice xlp xll xlc, .int .i64 xa, .int .i64 xr], .agg #[.int .i64 yk, .string (cbs ys), .string (cbs yo), .int .i64 yd, .slice yep yel yec, .slice ybp ybl ybc, .slice ylp yll ylc, .int .i64 ya, .int .i64 yr]] w fun e w' => e = .returned (.bool (xk == yk && xs == ys && (xo == yo && xd == yd) && xr == yr && v1 && v2 && v3)) ∧ Below w.heap.size w w' := by
  have h1 := eq_of2 xo yo xd yd
  have hsx := beq_cbs xs ys
  have hbb : Below w.heap.size w ((w.alloc (.cells #[.int .i64 xk, .string (cbs xs), .string (cbs xo), .int .i64 xd, .slice xep xel xec, .slice xbp xbl xbc, .slice xlp xll xlc, .int .i64 xa, .int .i64 xr] 101)).alloc (.cells #[.int .i64 yk, .string (cbs ys), .string (cbs yo), .int .i64 yd, .slice yep yel yec, .slice ybp ybl ybc, .slice ylp yll ylc, .int .i64 ya, .int .i64 yr] 101)) := ((Below.refl _ _).alloc (Nat.le_refl _) _).alloc (by rw [size_alloc]; omega) _
  obtain ⟨wa, hwa⟩ : ∃ wa, wa = (w.alloc (.cells #[.int .i64 xk, .string (cbs xs), .string (cbs xo), .int .i64 xd, .slice xep xel xec, .slice xbp xbl xbc, .slice xlp xll xlc, .int .i64 xa, .int .i64 xr] 101)).alloc (.cells #[.int .i64 yk, .string (cbs ys), .string (cbs yo), .int .i64 yd, .slice yep yel yec, .slice ybp ybl ybc, .slice ylp yll ylc, .int .i64 ya, .int .i64 yr] 101) := ⟨_, rfl⟩
  have hk1x : wa.heap[w.heap.size]? = some (.cells #[.int .i64 xk, .string (cbs xs), .string (cbs xo), .int .i64 xd, .slice xep xel xec, .slice xbp xbl xbc, .slice xlp xll xlc, .int .i64 xa, .int .i64 xr] 101 (0, 0)) := by rw [hwa]; exact alloc_box _ (heap_alloc_new w _)
  have hk1y : wa.heap[w.heap.size + 1]? = some (.cells #[.int .i64 yk, .string (cbs ys), .string (cbs yo), .int .i64 yd, .slice yep yel yec, .slice ybp ybl ybc, .slice ylp yll ylc, .int .i64 ya, .int .i64 yr] 101 (0, 0)) := by rw [hwa]; have := heap_alloc_new (w.alloc (.cells #[.int .i64 xk, .string (cbs xs), .string (cbs xo), .int .i64 xd, .slice xep xel xec, .slice xbp xbl xbc, .slice xlp xll xlc, .int .i64 xa, .int .i64 xr] 101)) (.cells #[.int .i64 yk, .string (cbs ys), .string (cbs yo), .int .i64 yd, .slice yep yel yec, .slice ybp ybl ybc, .slice ylp yll ylc, .int .i64 ya, .int .i64 yr] 101); rw [size_alloc] at this; exact this
  rw [← hwa] at hbb
  have HKX := Lib.hid hk1x
  have HKY := Lib.hid hk1y
  have HBB := Lib.hid hbb
  have HK1 := Lib.hid hk1
  have HK2 := Lib.hid hk2
  have HK3 := Lib.hid hk3
  clear hk1 hk2 hk3 hbb hk1x hk1y
  generalize (xo == yo && xd == yd) = g1 at h1 ⊢
  generalize (xs == ys) = g3 at hsx ⊢
  cases hc1 : (xk == yk) with
  | false =>
    go_enter Tryz.func59, Tryz.ntmps59
    go_wp2_with fail
    go_ret
    exact ⟨rfl, by rw [← hwa]; exact HBB.out⟩
  | true =>
    cases g3 with
    | false =>
      go_enter Tryz.func59, Tryz.ntmps59
      go_wp2_with fail
      go_ret
      exact ⟨rfl, by rw [← hwa]; exact HBB.out⟩
    | true =>
      cases g1 with
      | false =>
        go_enter Tryz.func59, Tryz.ntmps59
        go_wp2_with fail
        go_ret
        exact ⟨rfl, by rw [← hwa]; exact HBB.out⟩
      | true =>
        cases hc6 : (xr == yr) with
        | false =>
          go_enter Tryz.func59, Tryz.ntmps59
          go_wp2_with fail
          go_ret
          exact ⟨rfl, by rw [← hwa]; exact HBB.out⟩
        | true =>
          go_enter Tryz.func59, Tryz.ntmps59
          go_wp2_with fail
          rw [← hwa]
          clear hwa
          refine (HK1.out _ HBB.out).mono ?_
          rintro e w1 ⟨rfl, hb⟩
          have HB1 := Lib.hid (below_seq HBB.out hb HBB.out.size)
          have HX1 := Lib.hid ((hb.block _ (heap_lt' HKX.out)).trans HKX.out)
          have HY1 := Lib.hid ((hb.block _ (heap_lt' HKY.out)).trans HKY.out)
          clear hb
          cases v1 with
          | false =>
            go_wp2_with fail
            go_ret
            exact ⟨rfl, HB1.out⟩
          | true =>
            obtain ⟨⟨x0, x1, x2, x3, x4, x5, x6, x7, x8⟩, p0, p1, p2, p3, p4, p5, p6, p7, p8⟩ := nen (HX1.out)
            have hlx := heap_lt' (HX1.out)
            obtain ⟨⟨y0, y1, y2, y3, y4, y5, y6, y7, y8⟩, q0, q1, q2, q3, q4, q5, q6, q7, q8⟩ := nen (HY1.out)
            have hly := heap_lt' (HY1.out)
            go_wp2_with fail
            clear x0 x1 x2 x3 x4 x5 x6 x7 x8 y0 y1 y2 y3 y4 y5 y6 y7 y8 p0 p1 p2 p3 p4 p5 p6 p7 p8 q0 q1 q2 q3 q4 q5 q6 q7 q8 hlx hly
            refine (HK2.out _ HB1.out).mono ?_
            rintro e w2 ⟨rfl, hb⟩
            have HB2 := Lib.hid (below_seq HB1.out hb HB1.out.size)
            have HX2 := Lib.hid ((hb.block _ (heap_lt' HX1.out)).trans HX1.out)
            have HY2 := Lib.hid ((hb.block _ (heap_lt' HY1.out)).trans HY1.out)
            clear hb
            cases v2 with
            | false =>
              go_wp2_with fail
              go_ret
              exact ⟨rfl, HB2.out⟩
            | true =>
              obtain ⟨⟨x0, x1, x2, x3, x4, x5, x6, x7, x8⟩, p0, p1, p2, p3, p4, p5, p6, p7, p8⟩ := nen (HX2.out)
              have hlx := heap_lt' (HX2.out)
              obtain ⟨⟨y0, y1, y2, y3, y4, y5, y6, y7, y8⟩, q0, q1, q2, q3, q4, q5, q6, q7, q8⟩ := nen (HY2.out)
              have hly := heap_lt' (HY2.out)
              go_wp2_with fail
              clear x0 x1 x2 x3 x4 x5 x6 x7 x8 y0 y1 y2 y3 y4 y5 y6 y7 y8 p0 p1 p2 p3 p4 p5 p6 p7 p8 q0 q1 q2 q3 q4 q5 q6 q7 q8 hlx hly
              refine (HK3.out _ HB2.out).mono ?_
              rintro e w3 ⟨rfl, hb⟩
              have HB3 := Lib.hid (below_seq HB2.out hb HB2.out.size)
              have HX3 := Lib.hid ((hb.block _ (heap_lt' HX2.out)).trans HX2.out)
              have HY3 := Lib.hid ((hb.block _ (heap_lt' HY2.out)).trans HY2.out)
              clear hb
              go_wp2_with fail
              go_ret
              exact ⟨rfl, HB3.out⟩

theorem sizes_b {xs : List Sm} {x : Sm} (h : x ∈ xs) (kind : Int) (name ofn : List UInt8) (dims : Int) (es : List Ex) (ls : List Sm) (at_ r : Int) : SizeOf.sizeOf x < SizeOf.sizeOf (Sm.mk kind name ofn dims es xs ls at_ r) := by
  have := List.sizeOf_lt_of_mem h
  simp only [Sm.mk.sizeOf_spec]
  omega
theorem sizes_l {xs : List Sm} {x : Sm} (h : x ∈ xs) (kind : Int) (name ofn : List UInt8) (dims : Int) (es : List Ex) (bs : List Sm) (at_ r : Int) : SizeOf.sizeOf x < SizeOf.sizeOf (Sm.mk kind name ofn dims es bs xs at_ r) := by
  have := List.sizeOf_lt_of_mem h
  simp only [Sm.mk.sizeOf_spec]
  omega
theorem fitM_out {k : Int} {n o : List UInt8} {d : Int} {es : List Ex} {bs ls : List Sm} {a r : Int} (h : fitM (.mk k n o d es bs ls a r) = true) : fitL es = true ∧ es.length ≤ 9000000000 ∧ fitML bs = true ∧ bs.length ≤ 9000000000 ∧ fitML ls = true ∧ ls.length ≤ 9000000000 := by
  rw [fitM] at h
  simp only [Bool.and_eq_true, decide_eq_true_eq] at h
  obtain ⟨⟨⟨⟨⟨h1, h2⟩, h3⟩, h4⟩, h5⟩, h6⟩ := h
  exact ⟨h1, h2, h3, h4, h5, h6⟩
theorem ssame_n : ∀ (n : Nat) (x y : Sm), SizeOf.sizeOf x ≤ n → fitM x = true → ∀ w, SSameOk 59 w x y := by
  intro n
  induction n with
  | zero => intro x y h; cases x; simp at h
  | succ n ih =>
    intro x y hs hf w w1 vs vs2 _ hi hi2
    obtain ⟨xk, xs, xo, xd, es, bs, ls, xa, xr⟩ := x
    obtain ⟨yk, ys, yo, yd, es2, bs2, ls2, ya, yr⟩ := y
    obtain ⟨p, c, q, d, r, f, rfl, he, hb, hl⟩ := hi.parts
    obtain ⟨p2, c2, q2, d2, r2, f2, rfl, he2, hb2, hl2⟩ := hi2.parts
    obtain ⟨f1, f3, f4, f5, f6, f7⟩ := fitM_out hf
    have k1 : ∀ w2, Below w1.heap.size w1 w2 → _ := fun w2 hw => equalFunc_any w2 es es2 p p2 c c2 (he.below hw) (he2.below hw) (by omega) (fun e hm e2 => same_n _ e e2 (Nat.le_refl _) (fitL_mem f1 hm) w2)
    have k2 : ∀ w2, Below w1.heap.size w1 w2 → _ := fun w2 hw => sEqualFunc_any w2 bs bs2 q q2 d d2 (hb.below hw) (hb2.below hw) (by omega) (fun e hm e2 => ih e e2 (by have := sizes_b hm xk xs xo xd es ls xa xr; omega) (fitML_mem f4 hm) w2)
    have k3 : ∀ w2, Below w1.heap.size w1 w2 → _ := fun w2 hw => sEqualFunc_any w2 ls ls2 r r2 f f2 (hl.below hw) (hl2.below hw) (by omega) (fun e hm e2 => ih e e2 (by have := sizes_l hm xk xs xo xd es bs xa xr; omega) (fitML_mem f6 hm) w2)
    have hst := ssame_step w1 xk xs xo xd p es.length c q bs.length d r ls.length f xa xr yk ys yo yd p2 es2.length c2 q2 bs2.length d2 r2 ls2.length f2 ya yr (sameL es es2) (sameML bs bs2) (sameML ls ls2) k1 k2 k3
    rw [sameM]
    exact hst
end Go.Proofs.YtnadaedibicaaaaGreatDoor
