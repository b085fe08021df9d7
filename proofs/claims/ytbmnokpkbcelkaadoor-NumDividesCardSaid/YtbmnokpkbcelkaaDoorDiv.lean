/-
  The walk of NumDivides: it returns true at every two int64, and writes nothing that was there.
-/
import Derived.Test.YtbmnokpkbcelkaaDoorWalks
namespace Go.Proofs.YtbmnokpkbcelkaaDoor
open Go.RowKit

theorem wrap_k (q : Int) : ∃ k : Int, wrap64 q = q - 18446744073709551616 * k :=
  ⟨(q + 9223372036854775808) / 18446744073709551616, by unfold wrap64; omega⟩
theorem whole (a b : Int) (ha : I64 a) : wrap64 (wrap64 (wrap64 (a.tdiv b) * b) + a.tmod b) = a := by
  obtain ⟨k, hk⟩ := wrap_k (a.tdiv b)
  rw [hk, Int.sub_mul, Int.mul_assoc]
  have h := Int.tdiv_mul_add_tmod a b
  generalize a.tdiv b * b = x at *
  generalize a.tmod b = r at *
  generalize k * b = y at *
  unfold I64 at ha
  unfold wrap64
  omega
theorem rest_lt (a b : Int) (hb : b ≠ 0) (hm : b ≠ -9223372036854775808) : ∃ m : Int, (m = b ∨ m = -b) ∧ 0 < m ∧ a.tmod b < m ∧ -m < a.tmod b := by
  by_cases h : 0 < b
  · exact ⟨b, Or.inl rfl, h, Int.tmod_lt_of_pos a h, Int.lt_tmod_of_pos a h⟩
  · have h' : 0 < -b := by omega
    have h1 := Int.tmod_lt_of_pos a h'
    have h2 := Int.lt_tmod_of_pos a h'
    rw [Int.tmod_neg] at h1 h2
    exact ⟨-b, Or.inr rfl, h', h1, h2⟩

theorem dq (a b : Int) (hb : b ≠ 0) : binV 17 a b = wrap64 (a.tdiv b) := by simp [binV, divV, hb]
theorem dr (a b : Int) (hb : b ≠ 0) : binV 18 a b = a.tmod b := by simp [binV, divV, hb]
theorem dt (op b : Int) (hb : b ≠ 0) : binT op b = 0 := by simp [binT, divT, hb]
theorem dp (a b : Int) : binV 16 (wrap64 (a.tdiv b)) b = wrap64 (wrap64 (a.tdiv b) * b) := by simp [binV]
theorem ds (a b : Int) (ha : I64 a) : binV 14 (wrap64 (wrap64 (a.tdiv b) * b)) (a.tmod b) = a := by
  rw [← whole a b ha]; simp [binV, whole a b ha]

set_option maxHeartbeats 400000 in
theorem numDivides_zero (a : Int) (w : World) (he : Env w) :
    Calls Tryd.prog 5 #[.int .i64 a, .int .i64 0] w fun e w' => e = .returned (.bool true) ∧ Below w.heap.size w w' := by
  go_enter Tryd.func5, Tryd.ntmps5
  go_wp2_with fail
  refine (bin_at 17 a 0 0 3 (by simp [binV, divV]) (by simp [binT, divT]) _).mono ?_; rintro e w' ⟨rfl, rfl⟩
  go_wp2_with fail
  refine (bin_at 18 a 0 0 3 (by simp [binV, divV]) (by simp [binT, divT]) _).mono ?_; rintro e w' ⟨rfl, rfl⟩
  go_wp2_with fail
  refine (known_true _ he).mono ?_; rintro e w' ⟨rfl, hb⟩
  go_wp2_with fail
  go_ret
  exact ⟨rfl, hb⟩

def Q (a b : Int) : Int := wrap64 (a.tdiv b)
def Pr (a b : Int) : Int := wrap64 (wrap64 (a.tdiv b) * b)

set_option maxHeartbeats 400000 in
theorem numDivides_at (a b r : Int) (hb : b ≠ 0) (ha : I64 a) (hb2 : I64 b) (hr : a.tmod b = r) (w : World) (he : Env w)  :
    Calls Tryd.prog 5 #[.int .i64 a, .int .i64 b] w fun e w' => e = .returned (.bool true) ∧ Below w.heap.size w w' := by
  have Hb := Lib.hid hb
  have Ha := Lib.hid ha
  have Hr := Lib.hid hr
  have hB : (b == 0) = false := by simpa using hb
  have b0 := hb2.1
  have b1 := hb2.2
  clear hb ha hr hb2
  go_enter Tryd.func5, Tryd.ntmps5
  go_wp2_with fail
  refine (bin_at 17 a b (Q a b) 0 (dq a b Hb.out) (dt _ _ Hb.out) _).mono ?_; rintro e w' ⟨rfl, rfl⟩
  go_wp2_with fail
  refine (bin_at 18 a b r 0 ((dr a b Hb.out).trans Hr.out) (dt _ _ Hb.out) _).mono ?_; rintro e w' ⟨rfl, rfl⟩
  go_wp2_with fail
  refine (bin_at 16 (Q a b) b (Pr a b) 0 (dp a b) (dt _ _ Hb.out) _).mono ?_; rintro e w' ⟨rfl, rfl⟩
  go_wp2_with fail
  refine (bin_at 14 (Pr a b) r a 0 (Hr.out ▸ ds a b Ha.out) (t0 _ _ (by decide) (by decide)) _).mono ?_; rintro e w' ⟨rfl, rfl⟩
  go_wp2_with fail
  iterate 3
    · refine (known_true _ he).mono ?_
      rintro e w' ⟨rfl, hk⟩
      go_wp2_with fail
      go_ret
      exact ⟨rfl, hk⟩
  all_goals
    exfalso
    have hm : b ≠ -9223372036854775808 := by assumption
    obtain ⟨m, h1, h2, h3, h4⟩ := rest_lt a b Hb.out hm
    rw [Hr.out] at h3 h4
    omega

theorem numDivides_walk (a b : Int) (ha : I64 a) (hb : I64 b) (w : World) (he : Env w) :
    Calls Tryd.prog 5 #[.int .i64 a, .int .i64 b] w fun e w' => e = .returned (.bool true) ∧ Below w.heap.size w w' := by
  by_cases h : b = 0
  · rw [h]; exact numDivides_zero a w he
  · exact numDivides_at a b _ h ha hb rfl w he
end Go.Proofs.YtbmnokpkbcelkaaDoor
