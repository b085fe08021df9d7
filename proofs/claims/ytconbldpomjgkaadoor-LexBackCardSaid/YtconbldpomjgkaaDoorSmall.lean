/-
  The contracts of the small functions of lex and of the document's answer: letters, digits, white space, runs of bytes.
-/
import Derived.Test.YtconbldpomjgkaaDoorChecked
import Derived.Test.YtconbldpomjgkaaDoorLex
import Derived.ProofKit
import Derived.WalkKit
import Derived.BigCall
import Derived.Lib.Hide
import Derived.Lib.Strings
import Derived.Outline
import Derived.Shelf.Abstract
namespace Go.Proofs.YtconbldpomjgkaaDoor
open Go.RowKit

def bs (l : List UInt8) : ByteArray := ⟨l.toArray⟩
theorem bs_list (l : List UInt8) : (bs l).data.toList = l := rfl
theorem bs_size (l : List UInt8) : (bs l).size = l.length := rfl
theorem bs_of (s : ByteArray) : bs s.data.toList = s := rfl

theorem ret_bool {a b : Bool} (h : a = b) : Ending.returned (.bool a) = .returned (.bool b) := by rw [h]
theorem ret_int {k : IntKind} {a b : Int} (h : a = b) : Ending.returned (.int k a) = .returned (.int k b) := by rw [h]

set_option maxHeartbeats 400000 in
theorem letter_any (c : Int) (w : World) : Calls Tryd.prog 23 #[.int .u8 c] w fun e w' => e = .returned (.bool (Lx.letB c)) ∧ w = w' := by
  go_enter Tryd.func23, Tryd.ntmps23
  go_wp2
  all_goals
    go_ret
    refine ⟨ret_bool ?_, rfl⟩
    rw [Bool.eq_iff_iff]
    simp [Lx.letB]
    try omega
set_option maxHeartbeats 400000 in
theorem digit_any (c : Int) (w : World) : Calls Tryd.prog 32 #[.int .u8 c] w fun e w' => e = .returned (.bool (Lx.digB c)) ∧ w = w' := by
  go_enter Tryd.func32, Tryd.ntmps32
  go_wp2
  all_goals
    go_ret
    refine ⟨ret_bool ?_, rfl⟩
    rw [Bool.eq_iff_iff]
    simp [Lx.digB]
    try omega
set_option maxHeartbeats 400000 in
theorem space_any (c : Int) (w : World) : Calls Tryd.prog 28 #[.int .u8 c] w fun e w' => e = .returned (.bool (Lx.spcB c)) ∧ w = w' := by
  go_enter Tryd.func28, Tryd.ntmps28
  go_wp2
  all_goals
    go_ret
    refine ⟨ret_bool ?_, rfl⟩
    rw [Bool.eq_iff_iff]
    simp [Lx.spcB]
    try omega
set_option maxHeartbeats 400000 in
theorem line_any (c : Int) (w : World) : Calls Tryd.prog 30 #[.int .u8 c] w fun e w' => e = .returned (.bool (Lx.linB c)) ∧ w = w' := by
  go_enter Tryd.func30, Tryd.ntmps30
  go_wp2
  all_goals
    go_ret
    refine ⟨ret_bool ?_, rfl⟩
    rw [Bool.eq_iff_iff]
    simp [Lx.linB]
    try omega
set_option maxHeartbeats 400000 in
theorem refLetter_any (c : Int) (w : World) : Calls Tryd.prog 26 #[.int .u8 c] w fun e w' => e = .returned (.bool (Lx.letB c)) ∧ w = w' := by
  go_enter Tryd.func26, Tryd.ntmps26
  go_wp2
  all_goals
    go_ret
    refine ⟨ret_bool ?_, rfl⟩
    rw [Bool.eq_iff_iff]
    simp [Lx.letB]
    try omega
set_option maxHeartbeats 400000 in
theorem refDigit_any (c : Int) (w : World) : Calls Tryd.prog 27 #[.int .u8 c] w fun e w' => e = .returned (.bool (Lx.digB c)) ∧ w = w' := by
  go_enter Tryd.func27, Tryd.ntmps27
  go_wp2
  all_goals
    go_ret
    refine ⟨ret_bool ?_, rfl⟩
    rw [Bool.eq_iff_iff]
    simp [Lx.digB]
    try omega
set_option maxHeartbeats 400000 in
theorem alnum_any (c : Int) (w : World) : Calls Tryd.prog 25 #[.int .u8 c] w fun e w' => e = .returned (.bool (Lx.alnB c)) ∧ w = w' := by
  cases h : Lx.letB c
  · have hl := letter_any c
    have hd := digit_any c
    rw [h] at hl
    have h2 : Lx.alnB c = Lx.digB c := by simp [Lx.alnB, h]
    have HL := Lib.hid hl
    have HD := Lib.hid hd
    rw [h2]
    clear hl hd h h2
    go_enter Tryd.func25, Tryd.ntmps25
    go_wp2_with (first | (go_at_call 23; refine (HL.out _).mono ?_; rintro e w' ⟨rfl, rfl⟩) | (go_at_call 32; refine (HD.out _).mono ?_; rintro e w' ⟨rfl, rfl⟩))
    go_ret
    exact ⟨rfl, rfl⟩
  · have hl := letter_any c
    rw [h] at hl
    have h2 : Lx.alnB c = true := by simp [Lx.alnB, h]
    have HL := Lib.hid hl
    rw [h2]
    clear hl h h2
    go_enter Tryd.func25, Tryd.ntmps25
    go_wp2_with (go_at_call 23; refine (HL.out _).mono ?_; rintro e w' ⟨rfl, rfl⟩)
    go_ret
    exact ⟨rfl, rfl⟩

/-- A function of the program that answers whether a byte belongs. -/
structure Belongs (F : FuncId) (p : Int → Bool) : Prop where
  enter : ∀ (args : Array Value) (w : World), (callFunc F args).run Tryd.prog w = .ok (.enter F args) w
  ans : ∀ (c : Int) (w : World), Calls Tryd.prog F #[.int .u8 c] w fun e w' => e = .returned (.bool (p c)) ∧ w = w'
theorem alnum_is : Belongs 25 Lx.alnB := ⟨enters_of Tryd.func25 (by kernel_rfl) rfl, alnum_any⟩
theorem digit_is : Belongs 32 Lx.digB := ⟨enters_of Tryd.func32 (by kernel_rfl) rfl, digit_any⟩
theorem space_is : Belongs 28 Lx.spcB := ⟨enters_of Tryd.func28 (by kernel_rfl) rfl, space_any⟩
theorem line_is : Belongs 30 Lx.linB := ⟨enters_of Tryd.func30 (by kernel_rfl) rfl, line_any⟩

theorem drop_at (s : ByteArray) (j : Nat) (h : j < s.size) : s.data.toList.drop j = s[j] :: s.data.toList.drop (j + 1) := List.drop_eq_getElem_cons (by simpa using h)
theorem run_at (s : ByteArray) (p : Int → Bool) (j : Nat) (h : j < s.size) : Lx.runN p (s.data.toList.drop j) = if p (s[j].toNat : Int) then Lx.runN p (s.data.toList.drop (j + 1)) + 1 else 0 := by
  rw [drop_at s j h, Lx.runN]
theorem drop_out (s : ByteArray) (j : Nat) (h : s.size ≤ j) : s.data.toList.drop j = [] := List.drop_eq_nil_of_le (by simpa using h)
theorem len_of (s : ByteArray) : s.data.toList.length = s.size := by simp

set_option maxHeartbeats 400000 in
theorem run_any (F : FuncId) (p : Int → Bool) (hF : Belongs F p) (s : ByteArray) (hs : s.size ≤ maxLen) (a : Int) (k : Nat) (ha : a = k) (hk : k ≤ s.size) (w : World) :
    Calls Tryd.prog 24 #[.string s, .int .i64 a, .func (.func F) #[] #[]] w fun e w' => e = .returned (.int .i64 (k + Lx.runN p (s.data.toList.drop k) : Nat)) ∧ w = w' := by
  subst ha
  unfold maxLen at hs
  have hR := Lx.runN_le p (s.data.toList.drop k)
  rw [List.length_drop] at hR
  have hz : s.data.toList.length = s.size := by simp
  generalize hG : k + Lx.runN p (s.data.toList.drop k) = G
  have HG := Lib.hid hG
  have hGb : G ≤ s.size := by omega
  have hE := hF.enter
  have HF := Lib.hid hF.ans
  clear hG hz hR hF
  go_enter Tryd.func24, Tryd.ntmps24
  go_wp2
  go_loop [1] (fun i => ∃ j : Nat, j ≤ s.size ∧ i = .int .i64 j ∧ j + Lx.runN p (s.data.toList.drop j) = G) (fun i => s.size - (intOf i).toNat)
  case atStart => exact ⟨k, hk, rfl, HG.out⟩
  case round =>
    obtain ⟨j, hj, rfl, hJ⟩ := hrel
    have HJ := Lib.hid hJ
    clear hJ
    by_cases hlt : j < s.size
    · cases hp : p (s[j].toNat : Int)
      · have hc := HF.out (s[j].toNat : Int)
        rw [hp] at hc
        have HC := Lib.hid hc
        clear hc
        have HP := Lib.hid hp
        clear hp
        go_wp2_with (go_at_fn F; refine (HC.out _).mono ?_; rintro e w' ⟨rfl, rfl⟩)
        go_ret
        have hJ := HJ.out
        rw [run_at s p j hlt, if_neg (by rw [HP.out]; decide)] at hJ
        exact ⟨ret_int (by omega), rfl⟩
      · have hc := HF.out (s[j].toNat : Int)
        rw [hp] at hc
        have HC := Lib.hid hc
        clear hc
        have HP := Lib.hid hp
        clear hp
        go_wp2_with (go_at_fn F; refine (HC.out _).mono ?_; rintro e w' ⟨rfl, rfl⟩)
        go_round
        case rel =>
          have hJ := HJ.out
          rw [run_at s p j hlt, if_pos HP.out] at hJ
          exact ⟨j + 1, by omega, by go_num, by omega⟩
        case measure => simp [intOf]; omega
    · go_wp2
      go_ret
      have hJ := HJ.out
      rw [List.drop_eq_nil_of_le (by simp; omega), Lx.runN] at hJ
      exact ⟨ret_int (by omega), rfl⟩
end Go.Proofs.YtconbldpomjgkaaDoor
