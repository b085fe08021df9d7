/-
  The contracts of Name: lex's and the document's answer.
-/
import Derived.Test.YtconbldpomjgkaaDoorBlank
namespace Go.Proofs.YtconbldpomjgkaaDoor
open Go.RowKit

theorem isName_nil : Lx.isName [] = false := rfl
theorem isName_at (s : ByteArray) (h : 0 < s.size) : Lx.isName s.data.toList = (decide (s.size ≤ 8) && Lx.letB (s[0].toNat : Int) && decide (Lx.runN Lx.alnB s.data.toList = s.size) && !Lx.isWord s.data.toList) := by
  have hd := drop_at s 0 h
  rw [List.drop_zero] at hd
  have hl := len_of s
  generalize s[0] = c at hd ⊢
  generalize s.data.toList = l at hd hl ⊢
  obtain ⟨r, rfl⟩ : ∃ r, l = c :: r := ⟨_, hd⟩
  rw [← hl]
  rfl
theorem ne_list (s : ByteArray) (h : 0 < s.size) : s.toList ≠ [] := by
  rw [Lib.toList_data]
  intro h2
  have := congrArg List.length h2
  rw [len_of] at this
  have h3 : s.size = 0 := this
  omega
theorem ne_beq (s : ByteArray) (h : 0 < s.size) : (s.toList == []) = false := beq_eq_false_iff_ne.2 (ne_list s h)
theorem ne_empty (s : ByteArray) (h : 0 < s.size) : s.toList.isEmpty = false := by
  cases h2 : s.toList.isEmpty
  · rfl
  · exact absurd (List.isEmpty_iff.1 h2) (ne_list s h)
theorem empty_of (s : ByteArray) (h : s.size = 0) : s = ⟨#[]⟩ := by
  apply ByteArray.ext
  exact Array.eq_empty_of_size_eq_zero h

set_option maxHeartbeats 1000000 in
theorem name_any (s : ByteArray) (hs : s.size ≤ maxLen) (w : World) : Calls Tryd.prog 15 #[.string s] w fun e w' => e = .returned (.bool (Lx.isName s.data.toList)) ∧ w = w' := by
  rcases Nat.eq_zero_or_pos s.size with h0 | h0
  · have := empty_of s h0
    subst this
    clear h0
    go_enter Tryd.func15, Tryd.ntmps15
    go_wp2
    go_ret
    exact ⟨rfl, rfl⟩
  · have n1 := ne_beq s h0
    have n2 := ne_empty s h0
    have hN := isName_at s h0
    by_cases h8 : s.size ≤ 8
    · have hi : (0 : Int) < (s.size : Int) := by omega
      cases hc : Lx.letB (s[0].toNat : Int)
      · have hl := letter_any (s[0].toNat : Int)
        rw [hc] at hl hN
        have hN2 : Lx.isName s.data.toList = false := by rw [hN]; simp
        have HL := Lib.hid hl
        rw [hN2]
        clear hl hN hN2 hc
        go_enter Tryd.func15, Tryd.ntmps15
        go_wp2_with (go_at_call 23; refine (HL.out _).mono ?_; rintro e w' ⟨rfl, rfl⟩)
        go_ret
        exact ⟨rfl, rfl⟩
      · have hl := letter_any (s[0].toNat : Int)
        rw [hc] at hl hN
        have HL := Lib.hid hl
        have hb := run_bound Lx.alnB s 0 (by omega)
        generalize hm : 0 + Lx.runN Lx.alnB (s.data.toList.drop 0) = m at hb
        have hm2 : Lx.runN Lx.alnB s.data.toList = m := by rw [← hm]; simp
        rw [hm2] at hN
        have HM := Lib.hid hm
        by_cases he : m = s.size
        · have hN2 : Lx.isName s.data.toList = !Lx.isWord s.data.toList := by rw [hN, he]; simp [h8]
          rw [hN2]
          have e1 : ((m : Int) == (s.size : Int)) = true := beq_iff_eq.2 (by omega)
          have e2 : (m == s.size) = true := beq_iff_eq.2 he
          clear hl hN hN2 hc hm hm2 he
          go_enter Tryd.func15, Tryd.ntmps15
          go_wp2_with (first
            | (go_at_call 23; refine (HL.out _).mono ?_; rintro e w' ⟨rfl, rfl⟩)
            | (go_at_call 24; refine (run_to _ _ alnum_is s hs _ 0 m rfl (by omega) HM.out _).mono ?_; rintro e w' ⟨rfl, rfl⟩)
            | (go_at_call 13; refine (word_any s _).mono ?_; rintro e w' ⟨rfl, rfl⟩))
          go_ret
          exact ⟨rfl, rfl⟩
        · have hN2 : Lx.isName s.data.toList = false := by rw [hN]; simp [he]
          rw [hN2]
          have e1 : ((m : Int) == (s.size : Int)) = false := beqF (by omega)
          have e2 : (m == s.size) = false := beq_eq_false_iff_ne.2 he
          clear hl hN hN2 hc hm hm2 he
          go_enter Tryd.func15, Tryd.ntmps15
          go_wp2_with (first
            | (go_at_call 23; refine (HL.out _).mono ?_; rintro e w' ⟨rfl, rfl⟩)
            | (go_at_call 24; refine (run_to _ _ alnum_is s hs _ 0 m rfl (by omega) HM.out _).mono ?_; rintro e w' ⟨rfl, rfl⟩))
          go_ret
          exact ⟨rfl, rfl⟩
    · have hN2 : Lx.isName s.data.toList = false := by rw [hN]; simp [h8]
      rw [hN2]
      have h9 : 8 < s.size := by omega
      clear hN hN2 h8
      go_enter Tryd.func15, Tryd.ntmps15
      go_wp2
      go_ret
      exact ⟨rfl, rfl⟩

/-- The loop over a name's bytes. -/
theorem aln_step {s : ByteArray} {j m : Nat} (hlt : j < s.size) (ha : Lx.alnB (s[j].toNat : Int) = true) (h : j + Lx.runN Lx.alnB (s.data.toList.drop j) = m) : j + 1 + Lx.runN Lx.alnB (s.data.toList.drop (j + 1)) = m := by
  rw [run_at s _ j hlt, if_pos ha] at h
  omega
theorem aln_stop {s : ByteArray} {j m : Nat} (hlt : j < s.size) (ha : Lx.alnB (s[j].toNat : Int) = false) (h : j + Lx.runN Lx.alnB (s.data.toList.drop j) = m) : m = j := by
  rw [run_at s _ j hlt, if_neg (by rw [ha]; decide)] at h
  omega

set_option maxHeartbeats 1000000 in
theorem refName_any (s : ByteArray) (hs : s.size ≤ maxLen) (w : World) : Calls Tryd.prog 16 #[.string s] w fun e w' => e = .returned (.bool (Lx.isName s.data.toList)) ∧ Below w.heap.size w w' := by
  rcases Nat.eq_zero_or_pos s.size with h0 | h0
  · have := empty_of s h0
    subst this
    clear h0
    go_enter Tryd.func16, Tryd.ntmps16
    go_wp2
    go_ret
    exact ⟨rfl, Below.refl _ _⟩
  · have hN := isName_at s h0
    by_cases h8 : s.size ≤ 8
    · have hi : (0 : Int) < (s.size : Int) := by omega
      have h1 : 1 ≤ s.size := h0
      cases hc : Lx.letB (s[0].toNat : Int)
      · have hl := refLetter_any (s[0].toNat : Int)
        rw [hc] at hl hN
        have hN2 : Lx.isName s.data.toList = false := by rw [hN]; simp
        have HL := Lib.hid hl
        rw [hN2]
        clear hl hN hN2 hc
        go_enter Tryd.func16, Tryd.ntmps16
        go_wp2_with (go_at_call 26; refine (HL.out _).mono ?_; rintro e w' ⟨rfl, rfl⟩)
        go_ret
        exact ⟨rfl, Below.refl _ _⟩
      · have hl := refLetter_any (s[0].toNat : Int)
        rw [hc] at hl hN
        have HL := Lib.hid hl
        have hw := refWord_any s
        cases hwd : Lx.isWord s.data.toList
        · rw [hwd] at hw hN
          have HW := Lib.hid hw
          have hb := run_bound Lx.alnB s 0 (by omega)
          generalize hm : 0 + Lx.runN Lx.alnB (s.data.toList.drop 0) = m at hb
          have hm2 : Lx.runN Lx.alnB s.data.toList = m := by rw [← hm]; simp
          rw [hm2] at hN
          have HM := Lib.hid hm
          have hN2 : Lx.isName s.data.toList = decide (m = s.size) := by rw [hN]; simp [h8]
          rw [hN2]
          clear hl hN hN2 hc hm hm2 hw hwd
          go_enter Tryd.func16, Tryd.ntmps16
          go_wp2_with (first
            | (go_at_call 26; refine (HL.out _).mono ?_; rintro e w' ⟨rfl, rfl⟩)
            | (go_at_call 14; refine (HW.out _).mono ?_; rintro e w1 ⟨rfl, hb1⟩))
          go_loop [3] (fun i => ∃ j : Nat, j ≤ s.size ∧ i = .int .i64 j ∧ j + Lx.runN Lx.alnB (s.data.toList.drop j) = m) (fun i => s.size - (intOf i).toNat)
          case atStart => exact ⟨0, by omega, rfl, HM.out⟩
          case round =>
            obtain ⟨j, hj, rfl, hJ⟩ := hrel
            have HJ := Lib.hid hJ
            clear hJ
            by_cases hlt : j < s.size
            · have hl := refLetter_any (s[j].toNat : Int)
              have hd := refDigit_any (s[j].toNat : Int)
              cases hcl : Lx.letB (s[j].toNat : Int)
              · rw [hcl] at hl
                cases hcd : Lx.digB (s[j].toNat : Int)
                · rw [hcd] at hd
                  have HA : Hid (Lx.alnB (s[j].toNat : Int) = false) := by show _ = _; simp [Lx.alnB, hcl, hcd]
                  have HL := Lib.hid hl
                  have HD := Lib.hid hd
                  clear hl hd hcl hcd
                  go_wp2_with (first
                    | (go_at_call 26; refine (HL.out _).mono ?_; rintro e w' ⟨rfl, rfl⟩)
                    | (go_at_call 27; refine (HD.out _).mono ?_; rintro e w' ⟨rfl, rfl⟩))
                  go_ret
                  refine ⟨ret_bool ?_, hb1⟩
                  have := aln_stop hlt HA.out HJ.out
                  exact (decide_eq_false (by omega)).symm
                · rw [hcd] at hd
                  have HA : Hid (Lx.alnB (s[j].toNat : Int) = true) := by show _ = _; simp [Lx.alnB, hcd]
                  have HL := Lib.hid hl
                  have HD := Lib.hid hd
                  clear hl hd hcl hcd
                  go_wp2_with (first
                    | (go_at_call 26; refine (HL.out _).mono ?_; rintro e w' ⟨rfl, rfl⟩)
                    | (go_at_call 27; refine (HD.out _).mono ?_; rintro e w' ⟨rfl, rfl⟩))
                  go_round
                  case rel => exact ⟨j + 1, by omega, by go_num, aln_step hlt HA.out HJ.out⟩
                  case measure => simp [intOf]; omega
              · rw [hcl] at hl
                have HA : Hid (Lx.alnB (s[j].toNat : Int) = true) := by show _ = _; simp [Lx.alnB, hcl]
                have HL := Lib.hid hl
                clear hl hd hcl
                go_wp2_with (go_at_call 26; refine (HL.out _).mono ?_; rintro e w' ⟨rfl, rfl⟩)
                go_round
                case rel => exact ⟨j + 1, by omega, by go_num, aln_step hlt HA.out HJ.out⟩
                case measure => simp [intOf]; omega
            · go_wp2
              go_ret
              refine ⟨ret_bool ?_, hb1⟩
              have h := HJ.out
              rw [drop_out s j (by omega), Lx.runN] at h
              exact (decide_eq_true (by omega)).symm
        · rw [hwd] at hw hN
          have HW := Lib.hid hw
          have hN2 : Lx.isName s.data.toList = false := by rw [hN]; simp
          rw [hN2]
          clear hl hN hN2 hc hw hwd
          go_enter Tryd.func16, Tryd.ntmps16
          go_wp2_with (first
            | (go_at_call 26; refine (HL.out _).mono ?_; rintro e w' ⟨rfl, rfl⟩)
            | (go_at_call 14; refine (HW.out _).mono ?_; rintro e w1 ⟨rfl, hb1⟩))
          go_ret
          exact ⟨rfl, hb1⟩
    · have hN2 : Lx.isName s.data.toList = false := by rw [hN]; simp [h8]
      rw [hN2]
      have h9 : 8 < s.size := by omega
      have h1 : 1 ≤ s.size := h0
      clear hN hN2 h8
      go_enter Tryd.func16, Tryd.ntmps16
      go_wp2
      go_ret
      exact ⟨rfl, Below.refl _ _⟩
end Go.Proofs.YtconbldpomjgkaaDoor
