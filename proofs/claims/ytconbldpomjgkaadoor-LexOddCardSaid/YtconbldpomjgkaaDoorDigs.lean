/-
  Digits: their value, what strconv.Atoi answers at them (plain); the contracts of run and whole (the document's answer).
-/
import Derived.Test.YtconbldpomjgkaaDoorName
namespace Go.Proofs.YtconbldpomjgkaaDoor
namespace Lx
open Go.Lib

theorem runN_all (p : Int → Bool) : ∀ l : List UInt8, ∀ c ∈ l.take (runN p l), p (c.toNat : Int) = true
  | [], c, h => by simp at h
  | d :: l, c, h => by
    cases hd : p (d.toNat : Int)
    · rw [runN_no _ _ _ hd] at h; simp at h
    · rw [runN_yes _ _ _ hd, List.take_succ_cons, List.mem_cons] at h
      rcases h with rfl | h
      · exact hd
      · exact runN_all p l c h

theorem dig_bounds {c : UInt8} (h : digB (c.toNat : Int) = true) : 48 ≤ c.toNat ∧ c.toNat ≤ 57 := by
  simp [digB] at h; omega

theorem parse_cons (acc : Nat) (c : UInt8) (l : List UInt8) (hc : 48 ≤ c.toNat ∧ c.toNat ≤ 57) : parseUint10 acc (c :: l) =
      if 1844674407370955162 ≤ acc then .range
      else if 18446744073709551616 ≤ acc * 10 + (c.toNat - 48) then .range
      else parseUint10 (acc * 10 + (c.toNat - 48)) l := by rw [parseUint10, if_pos hc]
theorem parse_nil (acc : Nat) : parseUint10 acc [] = .ok acc := by rw [parseUint10]
theorem parse_digits : ∀ (l : List UInt8) (acc : Nat), (∀ c ∈ l, digB (c.toNat : Int) = true) → acc < 18446744073709551616 →
    parseUint10 acc l = if valN acc l < 18446744073709551616 then .ok (valN acc l) else .range
  | [], acc, _, ha => by rw [parse_nil, valN_nil, if_pos ha]
  | c :: l, acc, hl, ha => by
    have hc := dig_bounds (hl c List.mem_cons_self)
    have hg := valN_ge l (10 * acc + (c.toNat - 48))
    rw [parse_cons acc c l hc, valN_cons]
    rw [show acc * 10 + (c.toNat - 48) = 10 * acc + (c.toNat - 48) from by omega]
    by_cases h1 : 1844674407370955162 ≤ acc
    · rw [if_pos h1, if_neg (by omega)]
    · rw [if_neg h1]
      by_cases h2 : 18446744073709551616 ≤ 10 * acc + (c.toNat - 48)
      · rw [if_pos h2, if_neg (by omega)]
      · rw [if_neg h2]
        exact parse_digits l _ (fun d hd => hl d (List.mem_cons_of_mem _ hd)) (by omega)

theorem atoi_digits (l : List UInt8) (hne : l ≠ []) (hl : ∀ c ∈ l, digB (c.toNat : Int) = true) :
    atoiAll l = if valN 0 l ≤ 9223372036854775807 then .ok (valN 0 l : Int) else .range := by
  match l, hne with
  | c :: r, _ =>
    have hc := dig_bounds (hl c List.mem_cons_self)
    rw [atoiAll_plain c r (by omega) (by omega), parseMag, if_neg (by simp), parse_digits _ 0 hl (by omega)]
    by_cases h1 : valN 0 (c :: r) < 18446744073709551616
    · rw [if_pos h1, signless]
      by_cases h2 : valN 0 (c :: r) ≤ 9223372036854775807
      · rw [if_neg (by omega), if_pos h2]
      · rw [if_pos (by omega), if_neg h2]
    · rw [if_neg h1, signless, if_neg (by omega)]
end Lx
open Go.RowKit

theorem ret_whole {v : Int} {b : Bool} {a : Int} {c : Bool} (h : a = v) (h2 : c = b) : Ending.returned (.tuple #[.int .i64 a, .bool c]) = .returned (.tuple #[.int .i64 v, .bool b]) := by rw [h, h2]

def wholeV (V : Nat) : Nat := if V ≤ 9223372036854775807 then V else 0
def wholeB (V : Nat) : Bool := decide (V ≤ 9223372036854775807)
theorem wholeV_yes {V : Nat} (h : V ≤ 9223372036854775807) : wholeV V = V := if_pos h
theorem wholeV_no {V : Nat} (h : ¬ V ≤ 9223372036854775807) : wholeV V = 0 := if_neg h
theorem wholeB_yes {V : Nat} (h : V ≤ 9223372036854775807) : wholeB V = true := decide_eq_true h
theorem wholeB_no {V : Nat} (h : ¬ V ≤ 9223372036854775807) : wholeB V = false := decide_eq_false h
set_option maxHeartbeats 1000000 in
theorem whole_any (s : ByteArray) (hs : s.size ≤ maxLen) (hd : ∀ c ∈ s.data.toList, Lx.digB (c.toNat : Int) = true) (V : Nat) (hV : Lx.valN 0 s.data.toList = V) (w : World) :
    Calls Tryd.prog 36 #[.string s] w fun e w' => e = .returned (.tuple #[.int .i64 (wholeV V), .bool (wholeB V)]) ∧ w = w' := by
  unfold maxLen at hs
  have HD := Lib.hid hd
  have HV := Lib.hid hV
  clear hd hV
  go_enter Tryd.func36, Tryd.ntmps36
  go_wp2
  go_loop [4, 5] (fun n i => ∃ j n' : Nat, j ≤ s.size ∧ i = .int .i64 j ∧ n = .int .i64 n' ∧ n' ≤ 9223372036854775807 ∧ Lx.valN n' (s.data.toList.drop j) = V) (fun _ i => s.size - (intOf i).toNat)
  case atStart => exact ⟨0, 0, by omega, rfl, rfl, by omega, HV.out⟩
  case round =>
    obtain ⟨j, n, hj, rfl, rfl, hn, hJ⟩ := hrel
    have HJ := Lib.hid hJ
    clear hJ
    by_cases hlt : j < s.size
    · have hb := Lx.dig_bounds (HD.out s[j] (by have h := drop_at s j hlt; exact List.mem_of_mem_drop (by rw [h]; exact List.mem_cons_self)))
      have h1 := hb.1
      have h2 := hb.2
      clear hb
      have hJ := HJ.out
      rw [drop_at s j hlt, Lx.valN_cons] at hJ
      have hg := Lx.valN_ge (s.data.toList.drop (j + 1)) (10 * n + (s[j].toNat - 48))
      rw [hJ] at hg
      have HJ2 := Lib.hid hJ
      clear hJ HJ
      by_cases hov : 9223372036854775807 < 10 * n + (s[j].toNat - 48)
      · have h3 : ((9223372036854775807 : Int) - ((s[j].toNat : Int) - 48)) / 10 < (n : Int) := by omega
        go_wp2
        go_ret2
        exact ⟨ret_whole (by rw [wholeV_no (by omega)]; rfl) (wholeB_no (by omega)).symm, rfl⟩
      · have h3 : (n : Int) ≤ ((9223372036854775807 : Int) - ((s[j].toNat : Int) - 48)) / 10 := by omega
        go_wp2
        go_round
        case rel => exact ⟨j + 1, 10 * n + (s[j].toNat - 48), by omega, by go_num, congrArg (Value.int .i64) (by omega), by omega, HJ2.out⟩
        case measure => simp [intOf]; omega
    · go_wp2
      go_ret2
      have h := HJ.out
      rw [drop_out s j (by omega), Lx.valN_nil] at h
      exact ⟨ret_whole (by rw [wholeV_yes (by omega), h]) (wholeB_yes (by omega)).symm, rfl⟩

theorem run_step {s : ByteArray} {p : Int → Bool} {k q m : Nat} (hlt : k + q < s.size) (ha : p (s[k + q].toNat : Int) = true) (h : q + Lx.runN p (s.data.toList.drop (k + q)) = m) : q + 1 + Lx.runN p (s.data.toList.drop (k + (q + 1))) = m := by
  rw [run_at s _ (k + q) hlt, if_pos ha] at h
  rw [show k + (q + 1) = k + q + 1 from rfl]
  omega
theorem run_stop {s : ByteArray} {p : Int → Bool} {k q m : Nat} (hlt : k + q < s.size) (ha : p (s[k + q].toNat : Int) = false) (h : q + Lx.runN p (s.data.toList.drop (k + q)) = m) : q = m := by
  rw [run_at s _ (k + q) hlt, if_neg (by rw [ha]; decide)] at h
  omega
theorem run_out {s : ByteArray} {p : Int → Bool} {k q m : Nat} (hlt : s.size ≤ k + q) (h : q + Lx.runN p (s.data.toList.drop (k + q)) = m) : q = m := by
  rw [drop_out s _ hlt, Lx.runN] at h
  omega

set_option maxHeartbeats 1000000 in
/-- run over digits alone. -/
theorem refRunD_any (s : ByteArray) (hs : s.size ≤ maxLen) (a : Int) (k m : Nat) (ha : a = k) (hk : k ≤ s.size) (hm : Lx.runN Lx.digB (s.data.toList.drop k) = m) (w : World) :
    Calls Tryd.prog 35 #[.string s, .int .i64 a, .bool true] w fun e w' => e = .returned (.int .i64 m) ∧ w = w' := by
  subst ha
  unfold maxLen at hs
  have HM := Lib.hid hm
  clear hm
  go_enter Tryd.func35, Tryd.ntmps35
  go_wp2
  go_loop [7] (fun i => ∃ q : Nat, k + q ≤ s.size ∧ i = .int .i64 q ∧ q + Lx.runN Lx.digB (s.data.toList.drop (k + q)) = m) (fun i => s.size - k - (intOf i).toNat)
  case atStart => exact ⟨0, hk, rfl, by rw [Nat.add_zero, HM.out]; omega⟩
  case round =>
    obtain ⟨q, hq, rfl, hJ⟩ := hrel
    have HJ := Lib.hid hJ
    clear hJ
    by_cases hlt : k + q < s.size
    · have hlt2 : (k : Int) + (q : Int) < (s.size : Int) := by omega
      have hd := refDigit_any (s[k + q].toNat : Int)
      cases hcd : Lx.digB (s[k + q].toNat : Int)
      · rw [hcd] at hd
        have HD := Lib.hid hd
        have HC := Lib.hid hcd
        clear hd hcd
        go_wp2_with (go_at_call 27; refine (HD.out _).mono ?_; rintro e w' ⟨rfl, rfl⟩)
        go_ret
        exact ⟨ret_int (by rw [run_stop hlt HC.out HJ.out]), rfl⟩
      · rw [hcd] at hd
        have HD := Lib.hid hd
        have HC := Lib.hid hcd
        clear hd hcd
        go_wp2_with (go_at_call 27; refine (HD.out _).mono ?_; rintro e w' ⟨rfl, rfl⟩)
        go_round
        case rel => exact ⟨q + 1, by omega, by go_num, run_step hlt HC.out HJ.out⟩
        case measure => simp [intOf]; omega
    · have hlt2 : (s.size : Int) ≤ (k : Int) + (q : Int) := by omega
      go_wp2
      go_ret
      exact ⟨ret_int (by rw [run_out (by omega) HJ.out]), rfl⟩

set_option maxHeartbeats 1000000 in
/-- run over letters and digits. -/
theorem refRunA_any (s : ByteArray) (hs : s.size ≤ maxLen) (a : Int) (k m : Nat) (ha : a = k) (hk : k ≤ s.size) (hm : Lx.runN Lx.alnB (s.data.toList.drop k) = m) (w : World) :
    Calls Tryd.prog 35 #[.string s, .int .i64 a, .bool false] w fun e w' => e = .returned (.int .i64 m) ∧ w = w' := by
  subst ha
  unfold maxLen at hs
  have HM := Lib.hid hm
  clear hm
  go_enter Tryd.func35, Tryd.ntmps35
  go_wp2
  go_loop [7] (fun i => ∃ q : Nat, k + q ≤ s.size ∧ i = .int .i64 q ∧ q + Lx.runN Lx.alnB (s.data.toList.drop (k + q)) = m) (fun i => s.size - k - (intOf i).toNat)
  case atStart => exact ⟨0, hk, rfl, by rw [Nat.add_zero, HM.out]; omega⟩
  case round =>
    obtain ⟨q, hq, rfl, hJ⟩ := hrel
    have HJ := Lib.hid hJ
    clear hJ
    by_cases hlt : k + q < s.size
    · have hlt2 : (k : Int) + (q : Int) < (s.size : Int) := by omega
      have hd := refDigit_any (s[k + q].toNat : Int)
      have hl := refLetter_any (s[k + q].toNat : Int)
      cases hcd : Lx.digB (s[k + q].toNat : Int)
      · rw [hcd] at hd
        cases hcl : Lx.letB (s[k + q].toNat : Int)
        · rw [hcl] at hl
          have HC : Hid (Lx.alnB (s[k + q].toNat : Int) = false) := by show _ = _; simp [Lx.alnB, hcl, hcd]
          have HD := Lib.hid hd
          have HL := Lib.hid hl
          clear hd hcd hl hcl
          go_wp2_with (first
            | (go_at_call 27; refine (HD.out _).mono ?_; rintro e w' ⟨rfl, rfl⟩)
            | (go_at_call 26; refine (HL.out _).mono ?_; rintro e w' ⟨rfl, rfl⟩))
          go_ret
          exact ⟨ret_int (by rw [run_stop hlt HC.out HJ.out]), rfl⟩
        · rw [hcl] at hl
          have HC : Hid (Lx.alnB (s[k + q].toNat : Int) = true) := by show _ = _; simp [Lx.alnB, hcl]
          have HD := Lib.hid hd
          have HL := Lib.hid hl
          clear hd hcd hl hcl
          go_wp2_with (first
            | (go_at_call 27; refine (HD.out _).mono ?_; rintro e w' ⟨rfl, rfl⟩)
            | (go_at_call 26; refine (HL.out _).mono ?_; rintro e w' ⟨rfl, rfl⟩))
          go_round
          case rel => exact ⟨q + 1, by omega, by go_num, run_step hlt HC.out HJ.out⟩
          case measure => simp [intOf]; omega
      · rw [hcd] at hd
        have HC : Hid (Lx.alnB (s[k + q].toNat : Int) = true) := by show _ = _; simp [Lx.alnB, hcd]
        have HD := Lib.hid hd
        clear hd hcd hl
        go_wp2_with (go_at_call 27; refine (HD.out _).mono ?_; rintro e w' ⟨rfl, rfl⟩)
        go_round
        case rel => exact ⟨q + 1, by omega, by go_num, run_step hlt HC.out HJ.out⟩
        case measure => simp [intOf]; omega
    · have hlt2 : (s.size : Int) ≤ (k : Int) + (q : Int) := by omega
      go_wp2
      go_ret
      exact ⟨ret_int (by rw [run_out (by omega) HJ.out]), rfl⟩
end Go.Proofs.YtconbldpomjgkaaDoor
