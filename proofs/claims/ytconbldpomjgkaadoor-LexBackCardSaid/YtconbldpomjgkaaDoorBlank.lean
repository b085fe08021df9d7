/-
  The contracts of skipBlanks (lex) and of blank and run (the document's answer).
-/
import Derived.Test.YtconbldpomjgkaaDoorWord
import Derived.Test.YtconbldpomjgkaaDoorShelf
import Derived.Laws.DeepStrings4
namespace Go.Proofs.YtconbldpomjgkaaDoor
open Go.RowKit

theorem run_to (F : FuncId) (p : Int → Bool) (hF : Belongs F p) (s : ByteArray) (hs : s.size ≤ maxLen) (a : Int) (k m : Nat) (ha : a = k) (hk : k ≤ s.size) (hm : k + Lx.runN p (s.data.toList.drop k) = m) (w : World) :
    Calls Tryd.prog 24 #[.string s, .int .i64 a, .func (.func F) #[] #[]] w fun e w' => e = .returned (.int .i64 m) ∧ w = w' := by
  subst hm
  exact run_any F p hF s hs a k ha hk w

theorem run_bound (p : Int → Bool) (s : ByteArray) (k : Nat) (hk : k ≤ s.size) : k + Lx.runN p (s.data.toList.drop k) ≤ s.size := by
  have := Lx.runN_le p (s.data.toList.drop k)
  rw [List.length_drop, len_of] at this
  omega

theorem hasPrefix_any (s p : ByteArray) (b : Bool) (h : p.data.toList.isPrefixOf s.data.toList = b) (w : World) :
    Calls Tryd.prog 29 #[.string s, .string p] w fun e w' => e = .returned (.bool b) ∧ w = w' :=
  (Any.strings_HasPrefix Tryd.lays99 s p w).mono fun _ _ ⟨he, hw⟩ => ⟨by rw [he, Lib.hasPrefix, h], hw.symm⟩

theorem tail_list (s : ByteArray) (k : Nat) : (s.extract k s.size).data.toList = s.data.toList.drop k := by
  rw [Lib.extract_data]
  rw [List.take_of_length_le (by simp)]

/-- Two slashes stand in front. -/
def slashes (l : List UInt8) : Bool := [47, 47].isPrefixOf l
theorem slashes_yes {l : List UInt8} (h : slashes l = true) : ∃ r, l = 47 :: 47 :: r := by
  match l with
  | [] => simp [slashes, List.isPrefixOf] at h
  | [a] => simp [slashes, List.isPrefixOf] at h
  | a :: b :: r => simp [slashes, List.isPrefixOf] at h; exact ⟨r, by rw [← h.1, ← h.2]⟩
theorem slashes_skip {l : List UInt8} (h : slashes l = true) : Lx.skipS false l = Lx.runN Lx.linB l + Lx.skipS false (l.drop (Lx.runN Lx.linB l)) := by
  obtain ⟨r, rfl⟩ := slashes_yes h
  rw [Lx.skip_slash, Lx.skip_line]
theorem slashes_run {l : List UInt8} (h : slashes l = true) : 2 ≤ Lx.runN Lx.linB l := by
  obtain ⟨r, rfl⟩ := slashes_yes h
  have : Lx.linB ((47 : UInt8).toNat : Int) = true := by decide
  rw [Lx.runN_yes _ _ _ this, Lx.runN_yes _ _ _ this]
  omega
theorem slashes_no {l : List UInt8} (h : slashes l = false) (h2 : ∀ c r, l = c :: r → Lx.spcB (c.toNat : Int) = false) : Lx.skipS false l = 0 := by
  match l with
  | [] => rfl
  | c :: r =>
    refine Lx.skip_none c r (h2 c r rfl) fun ⟨hc, hr⟩ => ?_
    match r, hr with
    | d :: r, hr =>
      simp at hr
      rw [hc, hr] at h
      simp [slashes, List.isPrefixOf] at h

set_option maxHeartbeats 1000000 in
theorem skip_any (s : ByteArray) (hs : s.size ≤ maxLen) (a : Int) (k m : Nat) (ha : a = k) (hk : k ≤ s.size) (hm : k + Lx.skipS false (s.data.toList.drop k) = m) (w : World) :
    Calls Tryd.prog 18 #[.string s, .int .i64 a] w fun e w' => e = .returned (.int .i64 m) ∧ w = w' := by
  subst ha
  have hs' := hs
  unfold maxLen at hs
  have HM := Lib.hid hm
  clear hm
  go_enter Tryd.func18, Tryd.ntmps18
  go_wp2
  go_loop [1] (fun i => ∃ j : Nat, j ≤ s.size ∧ i = .int .i64 j ∧ j + Lx.skipS false (s.data.toList.drop j) = m) (fun i => s.size - (intOf i).toNat)
  case atStart => exact ⟨k, hk, rfl, HM.out⟩
  case round =>
    obtain ⟨j, hj, rfl, hJ⟩ := hrel
    have hb1 := run_bound Lx.spcB s j hj
    generalize hn : j + Lx.runN Lx.spcB (s.data.toList.drop j) = n at hb1
    have hle : j ≤ n := by omega
    have HN := Lib.hid hn
    have hJ2 : n + Lx.skipS false (s.data.toList.drop n) = m := by
      rw [← hJ, Lx.skip_space (s.data.toList.drop j), List.drop_drop, hn]; omega
    have HJ := Lib.hid hJ2
    have HS : Hid (∀ c r, s.data.toList.drop n = c :: r → Lx.spcB (c.toNat : Int) = false) := fun c r h => Lx.runN_stop Lx.spcB (s.data.toList.drop j) c r (by rw [List.drop_drop, hn]; exact h)
    clear hn hJ hJ2
    cases hsl : slashes (s.data.toList.drop n)
    · have HP := Lib.hid hsl
      clear hsl
      go_wp2_with (first
        | (go_at_call 24; refine (run_to _ _ space_is s hs' _ j n rfl hj HN.out _).mono ?_; rintro e w' ⟨rfl, rfl⟩)
        | (go_at_call 29; refine (hasPrefix_any _ _ false ((congrArg (List.isPrefixOf [47, 47]) (tail_list s n)).trans HP.out) _).mono ?_; rintro e w' ⟨rfl, rfl⟩))
      go_ret
      refine ⟨ret_int ?_, rfl⟩
      have h := HJ.out
      rw [slashes_no HP.out HS.out] at h
      omega
    · have HP := Lib.hid hsl
      have hb2 := run_bound Lx.linB s n hb1
      have h2 := slashes_run hsl
      have hJ3 := HJ.out
      rw [slashes_skip hsl, List.drop_drop] at hJ3
      generalize hq : n + Lx.runN Lx.linB (s.data.toList.drop n) = q at hb2 hJ3
      have hlt : n < q := by omega
      have HQ := Lib.hid hq
      have hJ4 : q + Lx.skipS false (s.data.toList.drop q) = m := by omega
      have HJ3 := Lib.hid hJ4
      clear hsl hJ3 hJ4 hq h2
      go_wp2_with fail
      refine (run_to _ _ space_is s hs' _ j n rfl hj HN.out _).mono ?_
      rintro e w' ⟨rfl, rfl⟩
      go_wp2_with (go_at_call 29; refine (hasPrefix_any _ _ true ((congrArg (List.isPrefixOf [47, 47]) (tail_list s n)).trans HP.out) _).mono ?_; rintro e w' ⟨rfl, rfl⟩)
      refine (run_to _ _ line_is s hs' _ n q rfl hb1 HQ.out _).mono ?_
      rintro e w' ⟨rfl, rfl⟩
      go_wp2
      go_round
      case rel => exact ⟨q, hb2, rfl, HJ3.out⟩
      case measure => simp [intOf]; omega

theorem skip_slash_line {l : List UInt8} (h : slashes l = true) : Lx.skipS false l = Lx.skipS true l := by
  obtain ⟨r, rfl⟩ := slashes_yes h
  exact Lx.skip_slash r
theorem space_skip {s : ByteArray} {j m : Nat} (hlt : j < s.size) (hsp : Lx.spcB (s[j].toNat : Int) = true) (h : j + Lx.skipS false (s.data.toList.drop j) = m) : j + 1 + Lx.skipS false (s.data.toList.drop (j + 1)) = m := by
  rw [drop_at s j hlt, Lx.skipS, if_pos hsp] at h
  omega

/-- The comment's loop: what is left to skip. -/
theorem line_skip {s : ByteArray} {j m : Nat} (hlt : j < s.size) (hln : Lx.linB (s[j].toNat : Int) = true) (h : j + Lx.skipS true (s.data.toList.drop j) = m) : j + 1 + Lx.skipS true (s.data.toList.drop (j + 1)) = m := by
  rw [drop_at s j hlt] at h
  rw [show Lx.skipS true (s[j] :: s.data.toList.drop (j + 1)) = Lx.skipS (Lx.linB (s[j].toNat : Int)) (s.data.toList.drop (j + 1)) + 1 from rfl, hln] at h
  omega
theorem line_done {s : ByteArray} {j m : Nat} (h : j + Lx.skipS true (s.data.toList.drop j) = m) (hd : j = s.size ∨ ∃ hlt : j < s.size, Lx.linB (s[j].toNat : Int) = false) : j + Lx.skipS false (s.data.toList.drop j) = m := by
  rw [Lx.skip_line] at h
  rcases hd with rfl | ⟨hlt, hl⟩
  · rw [drop_out s _ (Nat.le_refl _)] at h ⊢
    exact h
  · rw [run_at s _ j hlt, hl] at h
    simpa using h

theorem spc_false {c : Int} (h : Lx.spcB c = false) : c ≠ 32 ∧ c ≠ 9 ∧ c ≠ 10 ∧ c ≠ 13 := by
  simpa [Lx.spcB] using h
theorem beqF {a b : Int} (h : a ≠ b) : (a == b) = false := beq_eq_false_iff_ne.2 h

theorem two_at (s : ByteArray) (j : Nat) (h : j + 2 ≤ s.size) : ((s.extract j (j + 2)).toList == [47, 47]) = slashes (s.data.toList.drop j) := by
  rw [Lib.toList_data, Lib.extract_data]
  rw [drop_at s j (by omega), drop_at s (j + 1) (by omega)]
  rw [Bool.eq_iff_iff]
  simp [slashes, List.isPrefixOf]
  exact ⟨fun ⟨a, b⟩ => ⟨a.symm, b.symm⟩, fun ⟨a, b⟩ => ⟨a.symm, b.symm⟩⟩
theorem lin_false {c : Int} (h : Lx.linB c = false) : (c != 10) = false := by simpa [Lx.linB] using h
theorem lin_true {c : Int} (h : Lx.linB c = true) : (c != 10) = true := by simpa [Lx.linB] using h
theorem lin_ten {c : Int} (h : (c == 10) = false) : Lx.linB c = true := by simpa [Lx.linB] using h

set_option maxHeartbeats 1000000 in
theorem refBlank_any (s : ByteArray) (hs : s.size ≤ maxLen) (a : Int) (k m : Nat) (ha : a = k) (hk : k ≤ s.size) (hm : k + Lx.skipS false (s.data.toList.drop k) = m) (w : World) :
    Calls Tryd.prog 20 #[.string s, .int .i64 a] w fun e w' => e = .returned (.int .i64 m) ∧ w = w' := by
  subst ha
  unfold maxLen at hs
  have HM := Lib.hid hm
  clear hm
  go_enter Tryd.func20, Tryd.ntmps20
  go_wp2
  go_loop [1] (fun i => ∃ j : Nat, j ≤ s.size ∧ i = .int .i64 j ∧ j + Lx.skipS false (s.data.toList.drop j) = m) (fun i => s.size - (intOf i).toNat)
  case atStart => exact ⟨k, hk, rfl, HM.out⟩
  case round =>
    obtain ⟨j, hj, rfl, hJ⟩ := hrel
    have HJ := Lib.hid hJ
    clear hJ
    by_cases hlt : j < s.size
    · cases hsp : Lx.spcB (s[j].toNat : Int)
      · have HP := Lib.hid hsp
        have hc := spc_false hsp
        have c1 := beqF hc.1
        have c2 := beqF hc.2.1
        have c3 := beqF hc.2.2.1
        have c4 := beqF hc.2.2.2
        clear hsp hc
        by_cases h2 : j + 2 ≤ s.size
        · have h2' : (2 : Int) ≤ (s.size : Int) - (j : Int) := by omega
          have h3 : (j : Int) + 2 ≤ (s.size : Int) := by omega
          have h4 := two_at s j h2
          cases hsl : slashes (s.data.toList.drop j)
          · rw [hsl] at h4
            have HNO := Lib.hid hsl
            clear hsl
            go_wp2
            go_ret
            have h := HJ.out
            rw [slashes_no HNO.out (fun c r e => by rw [drop_at s j hlt] at e; injection e with e _; rw [← e]; exact HP.out)] at h
            exact ⟨ret_int (by omega), rfl⟩
          · rw [hsl] at h4
            have hJ5 := HJ.out
            rw [skip_slash_line hsl] at hJ5
            have HJ5 := Lib.hid hJ5
            clear hsl hJ5
            go_wp2
            go_loop [1] (fun i => ∃ q : Nat, j ≤ q ∧ q ≤ s.size ∧ i = .int .i64 q ∧ q + Lx.skipS true (s.data.toList.drop q) = m) (fun i => s.size - (intOf i).toNat)
            case atStart => exact ⟨j, Nat.le_refl _, hj, rfl, HJ5.out⟩
            case round =>
              obtain ⟨q, hq1, hq2, rfl, hQ⟩ := hrel
              have HQ := Lib.hid hQ
              clear hQ
              by_cases hqs : q < s.size
              · cases hln : Lx.linB (s[q].toNat : Int)
                · have hl := lin_false hln
                  have hne : j < q := by
                    rcases Nat.lt_or_eq_of_le hq1 with h | rfl
                    · exact h
                    · rw [lin_ten c3] at hln; cases hln
                  have HL := Lib.hid hln
                  clear hln
                  go_wp2
                  go_round
                  case rel => exact ⟨q, hq2, rfl, line_done HQ.out (Or.inr ⟨hqs, HL.out⟩)⟩
                  case measure => simp [intOf]; omega
                · have hl := lin_true hln
                  have HL := Lib.hid hln
                  clear hln
                  go_wp2
                  go_round
                  case rel => exact ⟨q + 1, by omega, by omega, by go_num, line_skip hqs HL.out HQ.out⟩
                  case measure => simp [intOf]; omega
              · have he : q = s.size := by omega
                have HE := Lib.hid he
                clear he
                go_wp2
                go_round
                case rel => exact ⟨q, hq2, rfl, line_done HQ.out (Or.inl HE.out)⟩
                case measure => simp [intOf]; omega
        · have hno : slashes (s.data.toList.drop j) = false := by
            cases h : slashes (s.data.toList.drop j)
            · rfl
            · obtain ⟨r, hr⟩ := slashes_yes h
              have := congrArg List.length hr
              rw [List.length_drop, len_of] at this
              simp at this
              omega
          have HNO := Lib.hid hno
          clear hno
          go_wp2
          go_ret
          have h := HJ.out
          rw [slashes_no HNO.out (fun c r e => by rw [drop_at s j hlt] at e; injection e with e _; rw [← e]; exact HP.out)] at h
          exact ⟨ret_int (by omega), rfl⟩
      · have HP := Lib.hid hsp
        have hor : s[j].toNat = 32 ∨ s[j].toNat = 9 ∨ s[j].toNat = 10 ∨ s[j].toNat = 13 := by
          have := hsp
          simp [Lx.spcB] at this
          omega
        clear hsp
        rcases hor with h | h | h | h
        · have c1 : ((s[j].toNat : Int) == 32) = true := beq_iff_eq.2 (by omega)
          clear h
          go_wp2
          go_round
          case rel => exact ⟨j + 1, by omega, by go_num, space_skip hlt HP.out HJ.out⟩
          case measure => simp [intOf]; omega
        · have c1 : ((s[j].toNat : Int) == 32) = false := beqF (by omega)
          have c2 : ((s[j].toNat : Int) == 9) = true := beq_iff_eq.2 (by omega)
          clear h
          go_wp2
          go_round
          case rel => exact ⟨j + 1, by omega, by go_num, space_skip hlt HP.out HJ.out⟩
          case measure => simp [intOf]; omega
        · have c1 : ((s[j].toNat : Int) == 32) = false := beqF (by omega)
          have c2 : ((s[j].toNat : Int) == 9) = false := beqF (by omega)
          have c3 : ((s[j].toNat : Int) == 10) = true := beq_iff_eq.2 (by omega)
          clear h
          go_wp2
          go_round
          case rel => exact ⟨j + 1, by omega, by go_num, space_skip hlt HP.out HJ.out⟩
          case measure => simp [intOf]; omega
        · have c1 : ((s[j].toNat : Int) == 32) = false := beqF (by omega)
          have c2 : ((s[j].toNat : Int) == 9) = false := beqF (by omega)
          have c3 : ((s[j].toNat : Int) == 10) = false := beqF (by omega)
          have c4 : ((s[j].toNat : Int) == 13) = true := beq_iff_eq.2 (by omega)
          clear h
          go_wp2
          go_round
          case rel => exact ⟨j + 1, by omega, by go_num, space_skip hlt HP.out HJ.out⟩
          case measure => simp [intOf]; omega
    · go_wp2
      go_ret
      have h := HJ.out
      rw [drop_out s j (by omega)] at h
      exact ⟨ret_int (by simp [Lx.skipS] at h; omega), rfl⟩
end Go.Proofs.YtconbldpomjgkaaDoor
