/-
  The contracts of Word and Name: lex's and the document's answer.
  The contracts of skipBlanks (lex) and of blank and run (the document's answer).
  The contracts of Name: lex's and the document's answer.
  Digits: their value, what strconv.Atoi answers at them (plain); the contracts of run and whole (the document's answer).
  The token in front, by its kinds (plain); the contract of lex.scanSign.
-/
import Derived.Test.YtnadaedibicaaaaGreatDoorK01
import Derived.Test.YtnadaedibicaaaaGreatDoorShelf
import Derived.Laws.DeepStrings4
namespace Go.Proofs.YtnadaedibicaaaaGreatDoor.Ln
open Go.RowKit

theorem isWord_def (l : List UInt8) : Lx.isWord l = (l == [114, 101, 99, 111, 114, 100] || (l == [103, 108, 111, 98, 97, 108] || (l == [102, 117, 110, 99] || (l == [118, 97, 114] || (l == [108, 101, 116] || (l == [105, 102] || (l == [101, 108, 115, 101] || (l == [119, 104, 105, 108, 101] || (l == [114, 101, 116, 117, 114, 110] || (l == [112, 114, 105, 110, 116] || (l == [110, 117, 108, 108] || (l == [110, 101, 119] || (l == [108, 101, 110] || (l == [114, 101, 97, 100] || (l == [116, 114, 117, 101] || (l == [102, 97, 108, 115, 101] || (l == [105, 110, 116] || (l == [98, 111, 111, 108] || false)))))))))))))))))) := rfl

set_option maxRecDepth 8000 in
set_option maxHeartbeats 1000000 in
theorem word_any (s : ByteArray) (w : World) : Calls Tryz.prog 99 #[.string s] w fun e w' => e = .returned (.bool (Lx.isWord s.data.toList)) ∧ w = w' := by
  rw [← Lib.toList_data, isWord_def]
  generalize hb : (s.toList == [114, 101, 99, 111, 114, 100] || _) = b
  have HB := Lib.hid hb
  clear hb
  go_enter Tryz.func99, Tryz.ntmps99
  go_wp2
  all_goals
    go_ret
    refine ⟨ret_bool ?_, rfl⟩
    have hb := HB.out
    clear HB
    simp only [*, Bool.true_or, Bool.or_true, Bool.or_false] at hb ⊢
    try (first | exact hb | (rw [← hb]; done) | simp_all)

end Go.Proofs.YtnadaedibicaaaaGreatDoor.Ln
namespace Go.Proofs.YtnadaedibicaaaaGreatDoor.Ln
open Go.RowKit

theorem run_to (F : FuncId) (p : Int → Bool) (hF : Belongs F p) (s : ByteArray) (hs : s.size ≤ maxLen) (a : Int) (k m : Nat) (ha : a = k) (hk : k ≤ s.size) (hm : k + Lx.runN p (s.data.toList.drop k) = m) (w : World) :
    Calls Tryz.prog 60 #[.string s, .int .i64 a, .func (.func F) #[] #[]] w fun e w' => e = .returned (.int .i64 m) ∧ w = w' := by
  subst hm
  exact run_any F p hF s hs a k ha hk w

theorem run_bound (p : Int → Bool) (s : ByteArray) (k : Nat) (hk : k ≤ s.size) : k + Lx.runN p (s.data.toList.drop k) ≤ s.size := by
  have := Lx.runN_le p (s.data.toList.drop k)
  rw [List.length_drop, len_of] at this
  omega

theorem hasPrefix_any (s p : ByteArray) (b : Bool) (h : p.data.toList.isPrefixOf s.data.toList = b) (w : World) :
    Calls Tryz.prog 62 #[.string s, .string p] w fun e w' => e = .returned (.bool b) ∧ w = w' :=
  (Any.strings_HasPrefix Tryz.lays99 s p w).mono fun _ _ ⟨he, hw⟩ => ⟨by rw [he, Lib.hasPrefix, h], hw.symm⟩

theorem tail_list (s : ByteArray) (k : Nat) : (s.extract k s.size).data.toList = s.data.toList.drop k := by
  rw [Lib.extract_data]
  rw [List.take_of_length_le (by simp)]

/-- Two slashes stand in front. -/
def slashes (l : List UInt8) : Bool := [47, 47].isPrefixOf l
theorem slashes_yes {l : List UInt8} (h : slashes l = true) : ∃ r, l = 47 :: 47 :: r := by
  match l with
  | [] => simp [slashes, List.isPrefixOf] at h
  | [a] => simp [slashes, List.isPrefixOf] at h
  | a :: b :: r => simp [slashes, List.isPrefixOf] at h; exact ⟨r, by rw [← h.1, ← h.2]⟩
theorem slashes_skip {l : List UInt8} (h : slashes l = true) : Lx.skipS false l = Lx.runN Lx.linB l + Lx.skipS false (l.drop (Lx.runN Lx.linB l)) := by
  obtain ⟨r, rfl⟩ := slashes_yes h
  rw [Lx.skip_slash, Lx.skip_line]
theorem slashes_run {l : List UInt8} (h : slashes l = true) : 2 ≤ Lx.runN Lx.linB l := by
  obtain ⟨r, rfl⟩ := slashes_yes h
  have : Lx.linB ((47 : UInt8).toNat : Int) = true := by decide
  rw [Lx.runN_yes _ _ _ this, Lx.runN_yes _ _ _ this]
  omega
theorem slashes_no {l : List UInt8} (h : slashes l = false) (h2 : ∀ c r, l = c :: r → Lx.spcB (c.toNat : Int) = false) : Lx.skipS false l = 0 := by
  match l with
  | [] => rfl
  | c :: r =>
    refine Lx.skip_none c r (h2 c r rfl) fun ⟨hc, hr⟩ => ?_
    match r, hr with
    | d :: r, hr =>
      simp at hr
      rw [hc, hr] at h
      simp [slashes, List.isPrefixOf] at h

set_option maxRecDepth 8000 in
set_option maxHeartbeats 1000000 in
theorem skip_any (s : ByteArray) (hs : s.size ≤ maxLen) (a : Int) (k m : Nat) (ha : a = k) (hk : k ≤ s.size) (hm : k + Lx.skipS false (s.data.toList.drop k) = m) (w : World) :
    Calls Tryz.prog 42 #[.string s, .int .i64 a] w fun e w' => e = .returned (.int .i64 m) ∧ w = w' := by
  subst ha
  have hs' := hs
  unfold maxLen at hs
  have HM := Lib.hid hm
  clear hm
  go_enter Tryz.func42, Tryz.ntmps42
  go_wp2
  go_loop [1] (fun i => ∃ j : Nat, j ≤ s.size ∧ i = .int .i64 j ∧ j + Lx.skipS false (s.data.toList.drop j) = m) (fun i => s.size - (intOf i).toNat)
  case atStart => exact ⟨k, hk, rfl, HM.out⟩
  case round =>
    obtain ⟨j, hj, rfl, hJ⟩ := hrel
    have hb1 := run_bound Lx.spcB s j hj
    generalize hn : j + Lx.runN Lx.spcB (s.data.toList.drop j) = n at hb1
    have hle : j ≤ n := by omega
    have HN := Lib.hid hn
    have hJ2 : n + Lx.skipS false (s.data.toList.drop n) = m := by
      rw [← hJ, Lx.skip_space (s.data.toList.drop j), List.drop_drop, hn]; omega
    have HJ := Lib.hid hJ2
    have HS : Hid (∀ c r, s.data.toList.drop n = c :: r → Lx.spcB (c.toNat : Int) = false) := fun c r h => Lx.runN_stop Lx.spcB (s.data.toList.drop j) c r (by rw [List.drop_drop, hn]; exact h)
    clear hn hJ hJ2
    cases hsl : slashes (s.data.toList.drop n)
    · have HP := Lib.hid hsl
      clear hsl
      go_wp2_with (first
        | (go_at_call 60; refine (run_to _ _ space_is s hs' _ j n rfl hj HN.out _).mono ?_; rintro e w' ⟨rfl, rfl⟩)
        | (go_at_call 62; refine (hasPrefix_any _ _ false ((congrArg (List.isPrefixOf [47, 47]) (tail_list s n)).trans HP.out) _).mono ?_; rintro e w' ⟨rfl, rfl⟩))
      go_ret
      refine ⟨ret_int ?_, rfl⟩
      have h := HJ.out
      rw [slashes_no HP.out HS.out] at h
      omega
    · have HP := Lib.hid hsl
      have hb2 := run_bound Lx.linB s n hb1
      have h2 := slashes_run hsl
      have hJ3 := HJ.out
      rw [slashes_skip hsl, List.drop_drop] at hJ3
      generalize hq : n + Lx.runN Lx.linB (s.data.toList.drop n) = q at hb2 hJ3
      have hlt : n < q := by omega
      have HQ := Lib.hid hq
      have hJ4 : q + Lx.skipS false (s.data.toList.drop q) = m := by omega
      have HJ3 := Lib.hid hJ4
      clear hsl hJ3 hJ4 hq h2
      go_wp2_with fail
      refine (run_to _ _ space_is s hs' _ j n rfl hj HN.out _).mono ?_
      rintro e w' ⟨rfl, rfl⟩
      go_wp2_with (go_at_call 62; refine (hasPrefix_any _ _ true ((congrArg (List.isPrefixOf [47, 47]) (tail_list s n)).trans HP.out) _).mono ?_; rintro e w' ⟨rfl, rfl⟩)
      refine (run_to _ _ line_is s hs' _ n q rfl hb1 HQ.out _).mono ?_
      rintro e w' ⟨rfl, rfl⟩
      go_wp2
      go_round
      case rel => exact ⟨q, hb2, rfl, HJ3.out⟩
      case measure => simp [intOf]; omega

theorem beqF {a b : Int} (h : a ≠ b) : (a == b) = false := beq_eq_false_iff_ne.2 h

end Go.Proofs.YtnadaedibicaaaaGreatDoor.Ln
namespace Go.Proofs.YtnadaedibicaaaaGreatDoor.Ln
open Go.RowKit

theorem isName_at (s : ByteArray) (h : 0 < s.size) : Lx.isName s.data.toList = (decide (s.size ≤ 8) && Lx.letB (s[0].toNat : Int) && decide (Lx.runN Lx.alnB s.data.toList = s.size) && !Lx.isWord s.data.toList) := by
  have hd := drop_at s 0 h
  rw [List.drop_zero] at hd
  have hl := len_of s
  generalize s[0] = c at hd ⊢
  generalize s.data.toList = l at hd hl ⊢
  obtain ⟨r, rfl⟩ : ∃ r, l = c :: r := ⟨_, hd⟩
  rw [← hl]
  rfl
theorem ne_list (s : ByteArray) (h : 0 < s.size) : s.toList ≠ [] := by
  rw [Lib.toList_data]
  intro h2
  have := congrArg List.length h2
  rw [len_of] at this
  have h3 : s.size = 0 := this
  omega
theorem ne_beq (s : ByteArray) (h : 0 < s.size) : (s.toList == []) = false := beq_eq_false_iff_ne.2 (ne_list s h)
theorem ne_empty (s : ByteArray) (h : 0 < s.size) : s.toList.isEmpty = false := by
  cases h2 : s.toList.isEmpty
  · rfl
  · exact absurd (List.isEmpty_iff.1 h2) (ne_list s h)
theorem empty_of (s : ByteArray) (h : s.size = 0) : s = ⟨#[]⟩ := by
  apply ByteArray.ext
  exact Array.eq_empty_of_size_eq_zero h

set_option maxRecDepth 8000 in
set_option maxHeartbeats 1000000 in
theorem name_any (s : ByteArray) (hs : s.size ≤ maxLen) (w : World) : Calls Tryz.prog 100 #[.string s] w fun e w' => e = .returned (.bool (Lx.isName s.data.toList)) ∧ w = w' := by
  rcases Nat.eq_zero_or_pos s.size with h0 | h0
  · have := empty_of s h0
    subst this
    clear h0
    go_enter Tryz.func100, Tryz.ntmps100
    go_wp2
    go_ret
    exact ⟨rfl, rfl⟩
  · have n1 := ne_beq s h0
    have n2 := ne_empty s h0
    have hN := isName_at s h0
    by_cases h8 : s.size ≤ 8
    · have hi : (0 : Int) < (s.size : Int) := by omega
      cases hc : Lx.letB (s[0].toNat : Int)
      · have hl := letter_any (s[0].toNat : Int)
        rw [hc] at hl hN
        have hN2 : Lx.isName s.data.toList = false := by rw [hN]; simp
        have HL := Lib.hid hl
        rw [hN2]
        clear hl hN hN2 hc
        go_enter Tryz.func100, Tryz.ntmps100
        go_wp2_with (go_at_call 64; refine (HL.out _).mono ?_; rintro e w' ⟨rfl, rfl⟩)
        go_ret
        exact ⟨rfl, rfl⟩
      · have hl := letter_any (s[0].toNat : Int)
        rw [hc] at hl hN
        have HL := Lib.hid hl
        have hb := run_bound Lx.alnB s 0 (by omega)
        generalize hm : 0 + Lx.runN Lx.alnB (s.data.toList.drop 0) = m at hb
        have hm2 : Lx.runN Lx.alnB s.data.toList = m := by rw [← hm]; simp
        rw [hm2] at hN
        have HM := Lib.hid hm
        by_cases he : m = s.size
        · have hN2 : Lx.isName s.data.toList = !Lx.isWord s.data.toList := by rw [hN, he]; simp [h8]
          rw [hN2]
          have e1 : ((m : Int) == (s.size : Int)) = true := beq_iff_eq.2 (by omega)
          have e2 : (m == s.size) = true := beq_iff_eq.2 he
          clear hl hN hN2 hc hm hm2 he
          go_enter Tryz.func100, Tryz.ntmps100
          go_wp2_with (first
            | (go_at_call 64; refine (HL.out _).mono ?_; rintro e w' ⟨rfl, rfl⟩)
            | (go_at_call 60; refine (run_to _ _ alnum_is s hs _ 0 m rfl (by omega) HM.out _).mono ?_; rintro e w' ⟨rfl, rfl⟩)
            | (go_at_call 99; refine (word_any s _).mono ?_; rintro e w' ⟨rfl, rfl⟩))
          go_ret
          exact ⟨rfl, rfl⟩
        · have hN2 : Lx.isName s.data.toList = false := by rw [hN]; simp [he]
          rw [hN2]
          have e1 : ((m : Int) == (s.size : Int)) = false := beqF (by omega)
          have e2 : (m == s.size) = false := beq_eq_false_iff_ne.2 he
          clear hl hN hN2 hc hm hm2 he
          go_enter Tryz.func100, Tryz.ntmps100
          go_wp2_with (first
            | (go_at_call 64; refine (HL.out _).mono ?_; rintro e w' ⟨rfl, rfl⟩)
            | (go_at_call 60; refine (run_to _ _ alnum_is s hs _ 0 m rfl (by omega) HM.out _).mono ?_; rintro e w' ⟨rfl, rfl⟩))
          go_ret
          exact ⟨rfl, rfl⟩
    · have hN2 : Lx.isName s.data.toList = false := by rw [hN]; simp [h8]
      rw [hN2]
      have h9 : 8 < s.size := by omega
      clear hN hN2 h8
      go_enter Tryz.func100, Tryz.ntmps100
      go_wp2
      go_ret
      exact ⟨rfl, rfl⟩

end Go.Proofs.YtnadaedibicaaaaGreatDoor.Ln
namespace Go.Proofs.YtnadaedibicaaaaGreatDoor.Ln
namespace Lx
open Go.Lib

theorem runN_all (p : Int → Bool) : ∀ l : List UInt8, ∀ c ∈ l.take (runN p l), p (c.toNat : Int) = true
  | [], c, h => by simp at h
  | d :: l, c, h => by
    cases hd : p (d.toNat : Int)
    · rw [runN_no _ _ _ hd] at h; simp at h
    · rw [runN_yes _ _ _ hd, List.take_succ_cons, List.mem_cons] at h
      rcases h with rfl | h
      · exact hd
      · exact runN_all p l c h

theorem dig_bounds {c : UInt8} (h : digB (c.toNat : Int) = true) : 48 ≤ c.toNat ∧ c.toNat ≤ 57 := by
  simp [digB] at h; omega

theorem parse_cons (acc : Nat) (c : UInt8) (l : List UInt8) (hc : 48 ≤ c.toNat ∧ c.toNat ≤ 57) : parseUint10 acc (c :: l) =
      if 1844674407370955162 ≤ acc then .range
      else if 18446744073709551616 ≤ acc * 10 + (c.toNat - 48) then .range
      else parseUint10 (acc * 10 + (c.toNat - 48)) l := by rw [parseUint10, if_pos hc]
theorem parse_nil (acc : Nat) : parseUint10 acc [] = .ok acc := by rw [parseUint10]
theorem parse_digits : ∀ (l : List UInt8) (acc : Nat), (∀ c ∈ l, digB (c.toNat : Int) = true) → acc < 18446744073709551616 →
    parseUint10 acc l = if valN acc l < 18446744073709551616 then .ok (valN acc l) else .range
  | [], acc, _, ha => by rw [parse_nil, valN_nil, if_pos ha]
  | c :: l, acc, hl, ha => by
    have hc := dig_bounds (hl c List.mem_cons_self)
    have hg := valN_ge l (10 * acc + (c.toNat - 48))
    rw [parse_cons acc c l hc, valN_cons]
    rw [show acc * 10 + (c.toNat - 48) = 10 * acc + (c.toNat - 48) from by omega]
    by_cases h1 : 1844674407370955162 ≤ acc
    · rw [if_pos h1, if_neg (by omega)]
    · rw [if_neg h1]
      by_cases h2 : 18446744073709551616 ≤ 10 * acc + (c.toNat - 48)
      · rw [if_pos h2, if_neg (by omega)]
      · rw [if_neg h2]
        exact parse_digits l _ (fun d hd => hl d (List.mem_cons_of_mem _ hd)) (by omega)

theorem atoi_digits (l : List UInt8) (hne : l ≠ []) (hl : ∀ c ∈ l, digB (c.toNat : Int) = true) :
    atoiAll l = if valN 0 l ≤ 9223372036854775807 then .ok (valN 0 l : Int) else .range := by
  match l, hne with
  | c :: r, _ =>
    have hc := dig_bounds (hl c List.mem_cons_self)
    rw [atoiAll_plain c r (by omega) (by omega), parseMag, if_neg (by simp), parse_digits _ 0 hl (by omega)]
    by_cases h1 : valN 0 (c :: r) < 18446744073709551616
    · rw [if_pos h1, signless]
      by_cases h2 : valN 0 (c :: r) ≤ 9223372036854775807
      · rw [if_neg (by omega), if_pos h2]
      · rw [if_pos (by omega), if_neg h2]
    · rw [if_neg h1, signless, if_neg (by omega)]
end Lx
open Go.RowKit

end Go.Proofs.YtnadaedibicaaaaGreatDoor.Ln
namespace Go.Proofs.YtnadaedibicaaaaGreatDoor.Ln
namespace Lx
def oneWord (r : List UInt8) : Option (Nat × List UInt8 × Nat × Nat) :=
  if isWord (r.take (runN alnB r)) then some (3, r.take (runN alnB r), 0, runN alnB r)
  else if isName (r.take (runN alnB r)) then some (1, r.take (runN alnB r), 0, runN alnB r)
  else none
def oneNum (r : List UInt8) : Option (Nat × List UInt8 × Nat × Nat) :=
  if numBad r then none else some (2, [], valN 0 (r.take (runN digB r)), runN digB r)
def oneSign (r : List UInt8) : Option (Nat × List UInt8 × Nat × Nat) :=
  match signAt r with
  | none => none
  | some g => some (4, g, 0, g.length)
theorem one_word (c : UInt8) (r : List UInt8) (h : letB (c.toNat : Int) = true) : one (c :: r) = oneWord (c :: r) := by
  rw [one, if_pos h, oneWord]
theorem one_num (c : UInt8) (r : List UInt8) (h : letB (c.toNat : Int) = false) (h2 : digB (c.toNat : Int) = true) : one (c :: r) = oneNum (c :: r) := by
  rw [one, if_neg (by rw [h]; decide), if_pos h2, oneNum]
theorem one_sign (c : UInt8) (r : List UInt8) (h : letB (c.toNat : Int) = false) (h2 : digB (c.toNat : Int) = false) : one (c :: r) = oneSign (c :: r) := by
  rw [one, if_neg (by rw [h]; decide), if_neg (by rw [h2]; decide), oneSign]
  cases signAt (c :: r) <;> rfl
end Lx
open Go.RowKit

/-- What scan and its parts answer. -/
def scanV (k : Nat) : Option (Nat × List UInt8 × Nat × Nat) → Value
  | none => .tuple #[.agg #[.int .i64 0, .string ⟨#[]⟩, .int .i64 0, .int .i64 0], .int .i64 0, .bool false]
  | some (kind, text, num, m) => .tuple #[.agg #[.int .i64 kind, .string (bs text), .int .i64 num, .int .i64 k], .int .i64 (k + m : Nat), .bool true]

theorem info34 : (Tryz.prog.info? 133).map (·.size) = some signsV.size := by rw [signsV_size]; kernel_rfl

theorem infoS_some : ∃ i, Tryz.prog.info? 9 = some i ∧ i.size = 1 := by
  have h : (Tryz.prog.info? 9).map (·.size) = some 1 := by kernel_rfl
  cases hi : Tryz.prog.info? 9 with
  | none => rw [hi] at h; cases h
  | some i => rw [hi] at h; exact ⟨i, rfl, by simpa using h⟩

theorem index_texts {P : Program} (t e : TypeId) (n : Nat) (i : TypeInfo) (cs : Array Value) (j : Nat) (g : List UInt8) (ht : P.underlying t = some (.array n e)) (he : P.underlying e = some .string) (hi : P.info? e = some i) (hs : i.size = 1) (hj : j < n) (hc : cs[j]? = some (.string (bs g))) (w : World) :
    (Instr.index t (.agg cs) (.int .i64 (j : Int))).run P w = .ok (.string (bs g)) w := by
  have h1 : (0 : Int) ≤ (j : Int) ∧ (j : Int) < (n : Int) := ⟨by omega, by omega⟩
  simp [Instr.index, asIntOf, run_underlying ht, h1, sizeOf, typeInfo, hi, hs, part, hc, run_isAgg_plain he rfl]
  intro h; omega

theorem ret_scan {k m kind num : Nat} {text : List UInt8} {E : Int} (h : E = ((k + m : Nat) : Int)) :
    Ending.returned (.tuple #[.agg #[.int .i64 kind, .string (bs text), .int .i64 num, .int .i64 k], .int .i64 E, .bool true]) = .returned (scanV k (some (kind, text, num, m))) := by rw [h]; rfl
theorem ret_none {k : Nat} : Ending.returned (.tuple #[.agg #[.int .i64 0, .string ⟨#[]⟩, .int .i64 0, .int .i64 0], .int .i64 0, .bool false]) = .returned (scanV k none) := rfl

theorem signs_len : Lx.signs.length = 23 := by decide
theorem signAt_none {r : List UInt8} (h : ∀ g ∈ Lx.signs, g.isPrefixOf r = false) : Lx.signAt r = none := by
  rw [Lx.signAt, List.find?_eq_none]
  intro g hg
  rw [h g hg]; decide
theorem find_first : ∀ (l : List (List UInt8)) (p : List UInt8 → Bool) (j : Nat) (g : List UInt8), l[j]? = some g → (∀ x ∈ l.take j, p x = false) → p g = true → l.find? p = some g
  | [], _, _, _, h, _, _ => by simp at h
  | x :: l, p, 0, g, h, _, hp => by
    simp at h
    subst h
    simp [hp]
  | x :: l, p, j + 1, g, h, hn, hp => by
    have hx := hn x (by simp)
    rw [List.find?_cons_of_neg (by rw [hx]; decide)]
    exact find_first l p j g (by simpa using h) (fun y hy => hn y (by simp [hy])) hp
theorem signAt_first {r g : List UInt8} {j : Nat} (hg : Lx.signs[j]? = some g) (hn : ∀ x ∈ Lx.signs.take j, x.isPrefixOf r = false) (hp : g.isPrefixOf r = true) : Lx.signAt r = some g :=
  find_first Lx.signs _ j g hg hn hp
theorem signs_step {r g : List UInt8} {j : Nat} (hg : Lx.signs[j]? = some g) (hn : ∀ x ∈ Lx.signs.take j, x.isPrefixOf r = false) (hp : g.isPrefixOf r = false) : ∀ x ∈ Lx.signs.take (j + 1), x.isPrefixOf r = false := by
  intro x hx
  rw [List.take_add_one, hg] at hx
  simp only [Option.toList, List.mem_append, List.mem_singleton] at hx
  rcases hx with hx | rfl
  · exact hn x hx
  · exact hp

set_option maxRecDepth 8000 in
set_option maxHeartbeats 1000000 in
theorem scanSign_any (s : ByteArray) (hs : s.size ≤ maxLen) (a : Int) (k : Nat) (ha : a = k) (hk : k < s.size) (w : World) (he : Env w) :
    Calls Tryz.prog 68 #[.string s, .int .i64 a] w fun e w' => e = .returned (scanV k (Lx.oneSign (s.data.toList.drop k))) ∧ Below w.heap.size w w' := by
  subst ha
  unfold maxLen at hs
  have hk2 : k ≤ s.size := by omega
  obtain ⟨gt, gfr, hg⟩ := he.sig
  obtain ⟨iS, hiS, hsS⟩ := infoS_some
  have hlt := heap_lt hg
  clear he
  go_enter Tryz.func68, Tryz.ntmps68
  go_wp2_with (with_reducible refine wpList_load_row rfl 133 (.global 0) rfl 0 rfl gt signsV gfr _ ?c1 Tryz.underlying133 rfl info34 ?_)
  case c1 => rw [heap_alloc_old _ _ hlt]; exact hg
  clear hg
  go_loop [10] (fun i => ∃ j : Nat, j ≤ 23 ∧ i = .int .i64 j ∧ ∀ x ∈ Lx.signs.take j, x.isPrefixOf (s.data.toList.drop k) = false) (fun i => 23 - (intOf i).toNat)
  case atStart => exact ⟨0, by omega, rfl, by simp⟩
  case round =>
    obtain ⟨j, hj, rfl, hn⟩ := hrel
    have HN := Lib.hid hn
    clear hn
    by_cases hlt : j < 23
    · obtain ⟨g, hgj⟩ : ∃ g, Lx.signs[j]? = some g := ⟨_, List.getElem?_eq_getElem (by rw [signs_len]; exact hlt)⟩
      have hix := index_texts 133 9 23 iS signsV j g Tryz.underlying133 Tryz.underlying9 hiS hsS hlt (signsV_at hgj)
      cases hp : g.isPrefixOf (s.data.toList.drop k)
      · have HP := Lib.hid hp
        have HG := Lib.hid hgj
        clear hp hgj
        go_wp2_with (go_at_call 62; refine (hasPrefix_any _ _ false ((congrArg (List.isPrefixOf g) (tail_list s k)).trans HP.out) _).mono ?_; rintro e w' ⟨rfl, rfl⟩)
        go_round
        case rel => exact ⟨j + 1, by omega, by go_num, signs_step HG.out HN.out HP.out⟩
        case measure => simp [intOf]; omega
      · have HP := Lib.hid hp
        have HG := Lib.hid hgj
        have hle : k + g.length ≤ s.size := by
          have h := List.isPrefixOf_iff_prefix.1 hp
          have := h.length_le
          rw [List.length_drop, len_of] at this
          omega
        have hle2 : k + (bs g).size ≤ s.size := hle
        clear hp hgj
        go_wp2_with (go_at_call 62; refine (hasPrefix_any _ _ true ((congrArg (List.isPrefixOf g) (tail_list s k)).trans HP.out) _).mono ?_; rintro e w' ⟨rfl, rfl⟩)
        refine bodyPost_ret (v := .tuple #[.agg #[.int .i64 4, .string (bs g), .int .i64 0, .int .i64 k], .int .i64 (k + (bs g).size), .bool true]) (by simp [results, Tryz.results68, go_sem]) rfl ⟨?_, ?_⟩
        · rw [Lx.oneSign, signAt_first HG.out HN.out HP.out]
          exact ret_scan (by simp [bs_size])
        · exact (Below.refl _ _).alloc (Nat.le_refl _) _
    · have HS : Hid (Lx.signAt (s.data.toList.drop k) = none) := signAt_none (fun x hx => HN.out x (by rw [List.take_of_length_le (by rw [signs_len]; omega)]; exact hx))
      go_wp2
      refine bodyPost_ret (v := .tuple #[.agg #[.int .i64 0, .string ⟨#[]⟩, .int .i64 0, .int .i64 0], .int .i64 0, .bool false]) (by simp [results, Tryz.results68, go_sem]) rfl ⟨?_, (Below.refl _ _).alloc (Nat.le_refl _) _⟩
      rw [Lx.oneSign, HS.out]
      rfl
end Go.Proofs.YtnadaedibicaaaaGreatDoor.Ln
