/-
  The contracts of num.Text and num.Parse, at every int and at every text, and of the laws' example (known).
-/
import Derived.Test.YtbmnokpkbcelkaaDoorLaid
import Derived.Test.YtbmnokpkbcelkaaDoorShelf
import Derived.Test.YtbmnokpkbcelkaaDoorNums
import Derived.Test.YtbmnokpkbcelkaaDoorOps
import Derived.WalkKit
import Derived.BigCall
import Derived.Lib.AtoiErrMem
import Derived.Lib.Hide
import Derived.Lib.Strings
import Derived.Outline
namespace Go.Proofs.YtbmnokpkbcelkaaDoor
open Go.RowKit

def bs (l : List UInt8) : ByteArray := ⟨l.toArray⟩
theorem bs_list (l : List UInt8) : (bs l).data.toList = l := rfl
theorem bs_size (l : List UInt8) : (bs l).size = l.length := rfl
theorem bs_of (s : ByteArray) : bs s.data.toList = s := rfl

theorem itoa_call (n : Int) (h0 : -9223372036854775808 ≤ n) (h1 : n ≤ 9223372036854775807) (w : World) (he : Env w) :
    Calls Tryd.prog 19 #[.int .i64 n] w fun e w' => e = .returned (.string (bs (Lib.itoa n))) ∧ Below w.heap.size w w' :=
  (Any.strconv_Itoa Tryd.laysM171 n h0 h1 w he.tab).mono fun _ _ ⟨h, _, _, hw⟩ => ⟨h, hw ▸ Lib.below_grow _ _ (Nat.le_refl _) _ _⟩

set_option maxHeartbeats 400000 in
theorem text_any (n : Int) (h0 : -9223372036854775808 ≤ n) (h1 : n ≤ 9223372036854775807) (w : World) (he : Env w) :
    Calls Tryd.prog 13 #[.int .i64 n] w fun e w' => e = .returned (.string (bs (Lib.itoa n))) ∧ Below w.heap.size w w' := by
  go_enter Tryd.func13, Tryd.ntmps13
  go_wp2_with (go_at_call 19; refine (itoa_call _ h0 h1 _ he).mono ?_; rintro e w' ⟨rfl, hb⟩)
  go_ret
  exact ⟨rfl, hb⟩

theorem atoi_ok (l : List UInt8) (hl : l.length ≤ 281474976710656) (v : Int) (h : Lib.atoiAll l = .ok v) (w : World) :
    Calls Tryd.prog 20 #[.string (bs l)] w fun e w' => e = .returned (.tuple #[.int .i64 v, .nilIface]) ∧ Below w.heap.size w w' :=
  (Any.strconv_Atoi_ok Tryd.laysC172 (bs l) (by rw [bs_size]; omega) v h w).mono fun _ _ ⟨h, hw⟩ => ⟨h, by
    rcases hw with rfl | ⟨t, rfl⟩
    · exact Below.refl _ _
    · exact Lib.bytesWorld_below _ _ _⟩

set_option maxHeartbeats 400000 in
theorem parse_yes (n : Int) (h0 : -9223372036854775808 ≤ n) (h1 : n ≤ 9223372036854775807) (w : World) (he : Env w) :
    Calls Tryd.prog 14 #[.string (bs (Lib.itoa n))] w fun e w' => e = .returned (.tuple #[.int .i64 n, .bool true]) ∧ Below w.heap.size w w' := by
  have hs := Nums.itoa_size n h0 h1
  have ha := Nums.atoi_itoa n h0 h1
  have Ha := Lib.hid ha
  clear ha
  have hsz : (bs (Lib.itoa n)).size ≤ 20 := hs
  go_enter Tryd.func14, Tryd.ntmps14
  go_wp2_with (go_at_call 20; refine (atoi_ok _ (by omega) n Ha.out _).mono ?_; rintro e w' ⟨rfl, hb⟩)
  refine (text_any n h0 h1 _ (he.below hb)).mono ?_
  rintro e2 w2 ⟨rfl, hb2⟩
  go_wp2
  go_ret2
  exact ⟨rfl, hb.trans (hb2.mono hb.size)⟩

/-- A text that is no int's numeral. -/
theorem parse_no (l : List UInt8) (hs : l.length ≤ 281474976710656) (hno : ∀ v : Int, Lib.itoa v ≠ l) (w : World) (he : Env w) :
    Calls Tryd.prog 14 #[.string (bs l)] w fun e w' => e = .returned (.tuple #[.int .i64 0, .bool false]) ∧ Below w.heap.size w w' := by
  have hN : Hid (∀ v : Int, Lib.itoa v ≠ l) := Lib.hid hno
  clear hno
  have hsz : (bs l).size = l.length := rfl
  have hS := Lib.hid hsz
  by_cases hlong : 20 < (bs l).size
  · clear hsz
    go_enter Tryd.func14, Tryd.ntmps14
    go_wp2_with fail
    go_ret2
    exact ⟨rfl, Below.refl _ _⟩
  have hshort : (bs l).size ≤ 20 := by omega
  clear hlong hsz
  cases h : Lib.atoiAll l
  · rename_i v
    have hbd := Lib.atoiAll_bounds h
    have h0 := hbd.1
    have h1 := hbd.2
    have H := Lib.hid h
    clear h hbd
    go_enter Tryd.func14, Tryd.ntmps14
    go_wp2_with (go_at_call 20; refine (atoi_ok l hs v H.out _).mono ?_; rintro e w' ⟨rfl, hb⟩)
    refine (text_any v h0 h1 _ (he.below hb)).mono ?_
    rintro e2 w2 ⟨rfl, hb2⟩
    have hx : ((bs (Lib.itoa v)).toList == (bs l).toList) = false := by
      rw [Lib.toList_data, Lib.toList_data]
      exact beq_eq_false_iff_ne.2 (hN.out v)
    go_wp2
    go_ret2
    exact ⟨rfl, hb.trans (hb2.mono hb.size)⟩
  · obtain ⟨a, ha⟩ := he.syn
    go_enter Tryd.func14, Tryd.ntmps14
    go_wp2_with (go_at_call 20; refine (Any.strconv_Atoi_syntax Tryd.laysC172 (bs l) hs h _ _ ha (Or.inr ⟨_, _, rfl⟩)).mono ?_; rintro e w' ⟨N, rfl, -, -, hb⟩)
    go_ret2
    exact ⟨rfl, hb⟩
  · obtain ⟨a, ha⟩ := he.ran
    go_enter Tryd.func14, Tryd.ntmps14
    go_wp2_with (go_at_call 20; refine (Any.strconv_Atoi_range Tryd.laysC172 (bs l) hs h _ _ ha (Or.inr ⟨_, _, rfl⟩)).mono ?_; rintro e w' ⟨N, rfl, -, -, hb⟩)
    go_ret2
    exact ⟨rfl, hb⟩

set_option maxHeartbeats 400000 in
theorem known_true (w : World) (he : Env w) : Calls Tryd.prog 12 #[] w fun e w' => e = .returned (.bool true) ∧ Below w.heap.size w w' := by
  have d1 : binV 17 (-7) 2 = -3 := by simp [binV, divV, wrap64]
  have d2 : binT 17 2 = 0 := by simp [binT, divT]
  have d3 : unV 12 4 = -4 := by simp [unV, wrap64]
  have e1 : bs (Lib.itoa (-12)) = ⟨#[45, 49, 50]⟩ := by decide +kernel
  have e2 : bs (Lib.itoa 105) = ⟨#[49, 48, 53]⟩ := by decide +kernel
  have b := bin_any 17 (-7) 2
  rw [d1, d2] at b
  have u := un_any 12 4
  rw [d3] at u
  have p := parse_yes (-12) (by decide) (by decide)
  rw [e1] at p
  have t := text_any 105 (by decide) (by decide)
  rw [e2] at t
  have B := Lib.hid b
  have U := Lib.hid u
  have P := Lib.hid p
  have T := Lib.hid t
  clear d1 d2 d3 e1 e2 b u p t
  go_enter Tryd.func12, Tryd.ntmps12
  go_wp2_with (go_at_call 8; refine (B.out _).mono ?_; rintro e w' ⟨rfl, rfl⟩)
  refine (P.out _ he).mono ?_
  rintro e w1 ⟨rfl, hb1⟩
  go_wp2_with fail
  refine (T.out _ (he.below hb1)).mono ?_
  rintro e w2 ⟨rfl, hb2⟩
  go_wp2_with (go_at_call 10; refine (U.out _).mono ?_; rintro e w' ⟨rfl, rfl⟩)
  go_ret
  exact ⟨rfl, hb1.trans (hb2.mono hb1.size)⟩
end Go.Proofs.YtbmnokpkbcelkaaDoor
