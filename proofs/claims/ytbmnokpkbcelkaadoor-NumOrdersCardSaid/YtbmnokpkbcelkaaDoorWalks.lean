/-
  The walks of the five laws of num: each returns true, at every int64, and writes nothing that was there.
-/
import Derived.Test.YtbmnokpkbcelkaaDoorBase
namespace Go.Proofs.YtbmnokpkbcelkaaDoor
open Go.RowKit

theorem bin_at (op a b v t : Int) (hv : binV op a b = v) (ht : binT op b = t) (w : World) : Calls Tryd.prog 8 #[.int .i64 op, .int .i64 a, .int .i64 b] w fun e w' => e = .returned (.tuple #[.int .i64 v, .int .i64 t]) ∧ w = w' := by
  rw [← hv, ← ht]; exact bin_any op a b w
theorem un_at (op a v : Int) (hv : unV op a = v) (w : World) : Calls Tryd.prog 10 #[.int .i64 op, .int .i64 a] w fun e w' => e = .returned (.int .i64 v) ∧ w = w' := by
  rw [← hv]; exact un_any op a w

def I64 (n : Int) : Prop := -9223372036854775808 ≤ n ∧ n ≤ 9223372036854775807
theorem w64 {n : Int} (h : I64 n) : wrap64 n = n := IntWalk.wrap64_in n h

theorem t0 (op b : Int) (h17 : op ≠ 17) (h18 : op ≠ 18) : binT op b = 0 := by simp [binT, h17, h18]

set_option maxHeartbeats 400000 in
theorem numBins_walk (op a b : Int) (_ : I64 op) (_ : I64 a) (_ : I64 b) (w : World) (he : Env w) :
    Calls Tryd.prog 3 #[.int .i64 op, .int .i64 a, .int .i64 b] w fun e w' => e = .returned (.bool true) ∧ Below w.heap.size w w' := by
  go_enter Tryd.func3, Tryd.ntmps3
  go_wp2_with (first
    | (go_at_call 8; refine (bin_any _ _ _ _).mono ?_; rintro e w' ⟨rfl, rfl⟩)
    | (go_at_call 9; refine (refBin_any _ _ _ _).mono ?_; rintro e w' ⟨rfl, rfl⟩)
    | (go_at_call 10; refine (un_any _ _ _).mono ?_; rintro e w' ⟨rfl, rfl⟩)
    | (go_at_call 11; refine (refUn_any _ _ _).mono ?_; rintro e w' ⟨rfl, rfl⟩)
    | (go_at_call 12; refine (known_true _ he).mono ?_; rintro e w' ⟨rfl, hb⟩))
  go_ret
  exact ⟨rfl, hb⟩

/-! NumRounds -/
theorem wrap_sub (a b : Int) (ha : I64 a) : wrap64 (wrap64 (a + b) - b) = a := by
  unfold I64 at ha; unfold wrap64; omega
theorem r1 (a b : Int) : binV 14 a b = wrap64 (a + b) := by simp [binV]
theorem r2 (a b : Int) (ha : I64 a) : binV 15 (wrap64 (a + b)) b = a := by
  have : binV 15 (wrap64 (a + b)) b = wrap64 (wrap64 (a + b) - b) := by simp [binV]
  rw [this, wrap_sub a b ha]
theorem r3 (a : Int) : unV 12 a = wrap64 (-a) := by simp [unV]
theorem r4 (a : Int) (ha : I64 a) : unV 12 (wrap64 (-a)) = a := by
  rw [r3]; unfold I64 at ha; unfold wrap64; omega
theorem r5 (a : Int) : binV 16 a (-1) = wrap64 (-a) := by simp [binV]

set_option maxHeartbeats 400000 in
theorem numRounds_walk (a b : Int) (ha : I64 a) (_ : I64 b) (w : World) (he : Env w) :
    Calls Tryd.prog 7 #[.int .i64 a, .int .i64 b] w fun e w' => e = .returned (.bool true) ∧ Below w.heap.size w w' := by
  have Ha := Lib.hid ha
  clear ha
  go_enter Tryd.func7, Tryd.ntmps7
  go_wp2_with fail
  refine (bin_at _ _ _ _ _ (r1 a b) (t0 _ _ (by decide) (by decide)) _).mono ?_; rintro e w' ⟨rfl, rfl⟩
  go_wp2_with fail
  refine (bin_at _ _ _ _ _ (r2 a b Ha.out) (t0 _ _ (by decide) (by decide)) _).mono ?_; rintro e w' ⟨rfl, rfl⟩
  go_wp2_with fail
  refine (un_at _ _ _ (r3 a) _).mono ?_; rintro e w' ⟨rfl, rfl⟩
  go_wp2_with fail
  refine (un_at _ _ _ (r4 a Ha.out) _).mono ?_; rintro e w' ⟨rfl, rfl⟩
  go_wp2_with fail
  refine (bin_at _ _ _ _ _ (r5 a) (t0 _ _ (by decide) (by decide)) _).mono ?_; rintro e w' ⟨rfl, rfl⟩
  go_wp2_with fail
  refine (un_at _ _ _ (r3 a) _).mono ?_; rintro e w' ⟨rfl, rfl⟩
  go_wp2_with fail
  refine (known_true _ he).mono ?_; rintro e w' ⟨rfl, hb⟩
  go_wp2_with fail
  go_ret
  exact ⟨rfl, hb⟩

/-! NumOrders: with the four answers as 0 or 1 -/
theorem o19 (a b v : Int) (h : truthV (decide (a < b)) = v) : binV 19 a b = v := by rw [← h]; simp [binV]
theorem o20 (a b v : Int) (h : truthV (decide (a ≤ b)) = v) : binV 20 a b = v := by rw [← h]; simp [binV]
theorem o21 (a b v : Int) (h : truthV (a == b) = v) : binV 21 a b = v := by rw [← h]; simp [binV]
theorem o22 (a b v : Int) (h : truthV (a != b) = v) : binV 22 a b = v := by rw [← h]; simp [binV]
theorem tT {p : Bool} (h : p = true) : truthV p = 1 := by rw [h]; rfl
theorem tF {p : Bool} (h : p = false) : truthV p = 0 := by rw [h]; rfl

structure Ord (a b l m s d q : Int) : Prop where
  less : binV 19 a b = l
  more : binV 19 b a = m
  same : binV 21 a b = s
  diff : binV 22 a b = d
  leq : binV 20 a b = q
theorem ord_lt (a b : Int) (h : a < b) : Ord a b 1 0 0 1 1 :=
  ⟨o19 _ _ _ (tT (by simp; omega)), o19 _ _ _ (tF (by simp; omega)), o21 _ _ _ (tF (by simp; omega)), o22 _ _ _ (tT (by simp; omega)), o20 _ _ _ (tT (by simp; omega))⟩
theorem ord_gt (a b : Int) (h : b < a) : Ord a b 0 1 0 1 0 :=
  ⟨o19 _ _ _ (tF (by simp; omega)), o19 _ _ _ (tT (by simp; omega)), o21 _ _ _ (tF (by simp; omega)), o22 _ _ _ (tT (by simp; omega)), o20 _ _ _ (tF (by simp; omega))⟩
theorem ord_eq (a : Int) : Ord a a 0 0 1 0 1 :=
  ⟨o19 _ _ _ (tF (by simp)), o19 _ _ _ (tF (by simp)), o21 _ _ _ (tT (by simp)), o22 _ _ _ (tF (by simp)), o20 _ _ _ (tT (by simp))⟩

set_option maxHeartbeats 1000000 in
theorem numOrders_at (a b l m s d q : Int) (ho : Ord a b l m s d q) (hc : (l = 1 ∧ m = 0 ∧ s = 0 ∧ d = 1 ∧ q = 1) ∨ (l = 0 ∧ m = 1 ∧ s = 0 ∧ d = 1 ∧ q = 0) ∨ (l = 0 ∧ m = 0 ∧ s = 1 ∧ d = 0 ∧ q = 1)) (w : World) (he : Env w) :
    Calls Tryd.prog 6 #[.int .i64 a, .int .i64 b] w fun e w' => e = .returned (.bool true) ∧ Below w.heap.size w w' := by
  have Ho := Lib.hid ho
  clear ho
  rcases hc with ⟨rfl, rfl, rfl, rfl, rfl⟩ | ⟨rfl, rfl, rfl, rfl, rfl⟩ | ⟨rfl, rfl, rfl, rfl, rfl⟩
  all_goals
    go_enter Tryd.func6, Tryd.ntmps6
    go_wp2_with fail
    refine (bin_at _ _ _ _ _ Ho.out.less (t0 _ _ (by decide) (by decide)) _).mono ?_; rintro e w' ⟨rfl, rfl⟩
    go_wp2_with fail
    refine (bin_at _ _ _ _ _ Ho.out.more (t0 _ _ (by decide) (by decide)) _).mono ?_; rintro e w' ⟨rfl, rfl⟩
    go_wp2_with fail
    refine (bin_at _ _ _ _ _ Ho.out.same (t0 _ _ (by decide) (by decide)) _).mono ?_; rintro e w' ⟨rfl, rfl⟩
    go_wp2_with fail
    refine (bin_at _ _ _ _ _ Ho.out.diff (t0 _ _ (by decide) (by decide)) _).mono ?_; rintro e w' ⟨rfl, rfl⟩
    go_wp2_with fail
    refine (bin_at _ _ _ _ _ Ho.out.leq (t0 _ _ (by decide) (by decide)) _).mono ?_; rintro e w' ⟨rfl, rfl⟩
    go_wp2_with fail
  · refine (bin_at _ _ _ 1 0 (by simp [binV, truthV]) (t0 _ _ (by decide) (by decide)) _).mono ?_; rintro e w' ⟨rfl, rfl⟩
    go_wp2_with fail
    refine (un_at _ _ 1 (by simp [unV, truthV]) _).mono ?_; rintro e w' ⟨rfl, rfl⟩
    go_wp2_with fail
    refine (bin_at _ _ _ 1 0 (by simp [binV, truthV]) (t0 _ _ (by decide) (by decide)) _).mono ?_; rintro e w' ⟨rfl, rfl⟩
    go_wp2_with fail
    refine (known_true _ he).mono ?_; rintro e w' ⟨rfl, hb⟩
    go_wp2_with fail
    go_ret
    exact ⟨rfl, hb⟩
  · refine (bin_at _ _ _ 0 0 (by simp [binV, truthV]) (t0 _ _ (by decide) (by decide)) _).mono ?_; rintro e w' ⟨rfl, rfl⟩
    go_wp2_with fail
    refine (un_at _ _ 0 (by simp [unV, truthV]) _).mono ?_; rintro e w' ⟨rfl, rfl⟩
    go_wp2_with fail
    refine (bin_at _ _ _ 0 0 (by simp [binV, truthV]) (t0 _ _ (by decide) (by decide)) _).mono ?_; rintro e w' ⟨rfl, rfl⟩
    go_wp2_with fail
    refine (known_true _ he).mono ?_; rintro e w' ⟨rfl, hb⟩
    go_wp2_with fail
    go_ret
    exact ⟨rfl, hb⟩
  · refine (bin_at _ _ _ 1 0 (by simp [binV, truthV]) (t0 _ _ (by decide) (by decide)) _).mono ?_; rintro e w' ⟨rfl, rfl⟩
    go_wp2_with fail
    refine (un_at _ _ 1 (by simp [unV, truthV]) _).mono ?_; rintro e w' ⟨rfl, rfl⟩
    go_wp2_with fail
    refine (bin_at _ _ _ 1 0 (by simp [binV, truthV]) (t0 _ _ (by decide) (by decide)) _).mono ?_; rintro e w' ⟨rfl, rfl⟩
    go_wp2_with fail
    refine (known_true _ he).mono ?_; rintro e w' ⟨rfl, hb⟩
    go_wp2_with fail
    go_ret
    exact ⟨rfl, hb⟩
theorem numOrders_walk (a b : Int) (_ : I64 a) (_ : I64 b) (w : World) (he : Env w) :
    Calls Tryd.prog 6 #[.int .i64 a, .int .i64 b] w fun e w' => e = .returned (.bool true) ∧ Below w.heap.size w w' := by
  by_cases h : a < b
  · exact numOrders_at a b _ _ _ _ _ (ord_lt a b h) (by simp) w he
  · by_cases h2 : b < a
    · exact numOrders_at a b _ _ _ _ _ (ord_gt a b h2) (by simp) w he
    · obtain rfl : a = b := by omega
      exact numOrders_at a a _ _ _ _ _ (ord_eq a) (by simp) w he

/-! NumBack -/
theorem cat (l m : List UInt8) : (bs l ++ bs m) = bs (l ++ m) := by
  apply ByteArray.ext
  rw [ByteArray.data_append]
  simp [bs]
theorem cat_head (c : UInt8) (l : List UInt8) : ({ data := #[c] } : ByteArray) ++ bs l = bs (c :: l) := cat [c] l
theorem cat_tail (c : UInt8) (l : List UInt8) : bs l ++ ({ data := #[c] } : ByteArray) = bs (l ++ [c]) := cat l [c]
set_option maxHeartbeats 1000000 in
theorem numBack_walk (n : Int) (hn : I64 n) (w : World) (he : Env w) :
    Calls Tryd.prog 4 #[.int .i64 n] w fun e w' => e = .returned (.bool true) ∧ Below w.heap.size w w' := by
  have h0 := hn.1
  have h1 := hn.2
  clear hn
  have hs := Nums.itoa_size n h0 h1
  have hsz : (bs (Lib.itoa n)).size ≤ 20 := hs
  go_enter Tryd.func4, Tryd.ntmps4
  go_wp2_with fail
  refine (text_any n h0 h1 _ he).mono ?_; rintro e w1 ⟨rfl, b1⟩
  go_wp2_with fail
  refine (parse_yes n h0 h1 _ (he.below b1)).mono ?_; rintro e w2 ⟨rfl, b2⟩
  have c2 := b1.trans (b2.mono b1.size)
  go_wp2_with fail
  rw [cat_head]
  refine (parse_no (48 :: Lib.itoa n) (by rw [List.length_cons]; omega) (fun v => Nums.nought v n) _ (he.below c2)).mono ?_; rintro e w3 ⟨rfl, b3⟩
  have c3 := c2.trans (b3.mono c2.size)
  go_wp2_with fail
  rw [cat_head]
  refine (parse_no (43 :: Lib.itoa n) (by rw [List.length_cons]; omega) (fun v => Nums.plus v _) _ (he.below c3)).mono ?_; rintro e w4 ⟨rfl, b4⟩
  have c4 := c3.trans (b4.mono c3.size)
  go_wp2_with fail
  rw [cat_tail]
  refine (parse_no (Lib.itoa n ++ [32]) (by rw [List.length_append]; simp; omega) (fun v => Nums.behind v _) _ (he.below c4)).mono ?_; rintro e w5 ⟨rfl, b5⟩
  have c5 := c4.trans (b5.mono c4.size)
  go_wp2_with fail
  refine (known_true _ (he.below c5)).mono ?_; rintro e w6 ⟨rfl, b6⟩
  have c6 := c5.trans (b6.mono c5.size)
  go_wp2_with fail
  go_ret
  exact ⟨rfl, c6⟩
end Go.Proofs.YtbmnokpkbcelkaaDoor
