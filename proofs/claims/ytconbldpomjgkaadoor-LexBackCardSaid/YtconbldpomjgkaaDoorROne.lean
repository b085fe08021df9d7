/-
  The contract of one (the document's answer), for texts of at most 6000 bytes.
-/
import Derived.Test.YtconbldpomjgkaaDoorRSign
namespace Go.Proofs.YtconbldpomjgkaaDoor
open Go.RowKit

/-- What one answers. -/
def oneV (k : Nat) : Option (Nat × List UInt8 × Nat × Nat) → Value
  | none => .tuple #[.agg #[.int .i64 0, .string ⟨#[]⟩, .int .i64 0, .int .i64 0], .int .i64 0]
  | some (kind, text, num, m) => .tuple #[.agg #[.int .i64 kind, .string (bs text), .int .i64 num, .int .i64 k], .int .i64 m]
theorem oneV_none (k : Nat) : oneV k none = .tuple #[.agg #[.int .i64 0, .string ⟨#[]⟩, .int .i64 0, .int .i64 0], .int .i64 0] := rfl
theorem oneV_some (k kind num m : Nat) (text : List UInt8) : oneV k (some (kind, text, num, m)) = .tuple #[.agg #[.int .i64 kind, .string (bs text), .int .i64 num, .int .i64 k], .int .i64 m] := rfl
theorem ret_oneN {k : Nat} : Ending.returned (.tuple #[.agg #[.int .i64 0, .string ⟨#[]⟩, .int .i64 0, .int .i64 0], .int .i64 0]) = .returned (oneV k none) := rfl
theorem ret_one {k kind num m : Nat} {text : List UInt8} {t : ByteArray} {E : Int} (ht : t = bs text) (h : E = m) : Ending.returned (.tuple #[.agg #[.int .i64 kind, .string t, .int .i64 num, .int .i64 k], .int .i64 E]) = .returned (oneV k (some (kind, text, num, m))) := by rw [h, ht]; rfl

theorem box_go {w1 w2 : World} {B : Nat} {o : Obj} (h : w1.heap[B]? = some o) (hb : Below w1.heap.size w1 w2) : w2.heap[B]? = some o := (hb.block _ (heap_lt h)).trans h

set_option maxHeartbeats 2000000 in
theorem refOneWord_any (s : ByteArray) (hs : s.size ≤ 6000) (k : Nat) (hk : k < s.size) (hc : Lx.letB (s[k].toNat : Int) = true) (w : World) :
    Calls Tryd.prog 21 #[.string s, .int .i64 k] w fun e w' => e = .returned (oneV k (Lx.oneWord (s.data.toList.drop k))) ∧ Below w.heap.size w w' := by
  have hk2 : k ≤ s.size := by omega
  have hmax := small_max hs
  have hl := refLetter_any (s[k].toNat : Int)
  rw [hc] at hl
  have hb := run_bound Lx.alnB s k hk2
  generalize hm : Lx.runN Lx.alnB (s.data.toList.drop k) = m at hb
  have hx := ext_bs s k m (k + m) rfl
  have hls := ext_list s k m
  have hone : Lx.oneWord (s.data.toList.drop k) = if Lx.isWord ((s.data.toList.drop k).take m) then some (3, (s.data.toList.drop k).take m, 0, m) else if Lx.isName ((s.data.toList.drop k).take m) then some (1, (s.data.toList.drop k).take m, 0, m) else none := by rw [Lx.oneWord, hm]
  have hw := refWord_any (s.extract k (k + m))
  have hnm := refName_any (s.extract k (k + m)) (ext_max k (k + m) hs)
  rw [hls] at hw hnm
  have h3 : (k : Int) + (m : Int) ≤ (s.size : Int) := by omega
  have HX := Lib.hid hx
  have HM := Lib.hid hm
  have HL := Lib.hid hl
  cases hcw : Lx.isWord ((s.data.toList.drop k).take m)
  · rw [hcw] at hw hone
    rw [if_neg (by decide)] at hone
    have HW := Lib.hid hw
    cases hcn : Lx.isName ((s.data.toList.drop k).take m)
    · rw [hcn] at hnm hone
      rw [if_neg (by decide)] at hone
      have HNM := Lib.hid hnm
      rw [hone]
      clear hone hw hnm hx hls hm hcw hcn hl hc
      go_enter Tryd.func21, Tryd.ntmps21
      go_wp2_with (first
        | (go_at_call 26; refine (HL.out _).mono ?_; rintro e w' ⟨rfl, rfl⟩)
        | (go_at_call 35; refine (refRunA_any s hmax _ k m rfl hk2 HM.out _).mono ?_; rintro e w' ⟨rfl, rfl⟩)
        | (go_at_call 14; refine (HW.out _).mono ?_; rintro e w1 ⟨rfl, hb1⟩)
        | (go_at_call 16; refine (HNM.out _).mono ?_; rintro e w2 ⟨rfl, hb2⟩; obtain ⟨⟨c0, c1, c2, c3⟩, f0, f1, f2, f3⟩ := box4 (box_go (box_at hb1) hb2)))
      refine bodyPost_ret (v := .tuple #[.agg #[.int .i64 0, .string ⟨#[]⟩, .int .i64 0, .int .i64 0], .int .i64 0]) (by simp [results, Tryd.results21, go_sem, c0, c1, c2, c3]) rfl ⟨ret_oneN, ?_⟩
      exact ((((below_go (below_box hb1) hb2).setCell (Nat.le_refl _) _).setCell (Nat.le_refl _) _).setCell (Nat.le_refl _) _).setCell (Nat.le_refl _) _
    · rw [hcn] at hnm hone
      rw [if_pos rfl] at hone
      have HNM := Lib.hid hnm
      rw [hone]
      clear hone hw hnm hx hls hm hcw hcn hl hc
      go_enter Tryd.func21, Tryd.ntmps21
      go_wp2_with (first
        | (go_at_call 26; refine (HL.out _).mono ?_; rintro e w' ⟨rfl, rfl⟩)
        | (go_at_call 35; refine (refRunA_any s hmax _ k m rfl hk2 HM.out _).mono ?_; rintro e w' ⟨rfl, rfl⟩)
        | (go_at_call 14; refine (HW.out _).mono ?_; rintro e w1 ⟨rfl, hb1⟩)
        | (go_at_call 16; refine (HNM.out _).mono ?_; rintro e w2 ⟨rfl, hb2⟩; obtain ⟨⟨c0, c1, c2, c3⟩, f0, f1, f2, f3⟩ := box4 (box_go (box_at hb1) hb2)))
      refine bodyPost_ret (v := .tuple #[.agg #[.int .i64 1, .string (s.extract k (k + m)), .int .i64 0, .int .i64 k], .int .i64 m]) (by simp [results, Tryd.results21, go_sem, c0, c1, c2, c3]) rfl ⟨ret_one HX.out rfl, ?_⟩
      exact ((((below_go (below_box hb1) hb2).setCell (Nat.le_refl _) _).setCell (Nat.le_refl _) _).setCell (Nat.le_refl _) _).setCell (Nat.le_refl _) _
  · rw [hcw] at hw hone
    rw [if_pos rfl] at hone
    have HW := Lib.hid hw
    rw [hone]
    clear hone hw hnm hx hls hm hcw hl hc
    go_enter Tryd.func21, Tryd.ntmps21
    go_wp2_with (first
      | (go_at_call 26; refine (HL.out _).mono ?_; rintro e w' ⟨rfl, rfl⟩)
      | (go_at_call 35; refine (refRunA_any s hmax _ k m rfl hk2 HM.out _).mono ?_; rintro e w' ⟨rfl, rfl⟩)
      | (go_at_call 14; refine (HW.out _).mono ?_; rintro e w1 ⟨rfl, hb1⟩; obtain ⟨⟨c0, c1, c2, c3⟩, f0, f1, f2, f3⟩ := box4 (box_at hb1)))
    refine bodyPost_ret (v := .tuple #[.agg #[.int .i64 3, .string (s.extract k (k + m)), .int .i64 0, .int .i64 k], .int .i64 m]) (by simp [results, Tryd.results21, go_sem, c0, c1, c2, c3]) rfl ⟨ret_one HX.out rfl, ?_⟩
    exact ((((below_box hb1).setCell (Nat.le_refl _) _).setCell (Nat.le_refl _) _).setCell (Nat.le_refl _) _).setCell (Nat.le_refl _) _

theorem signText_none {r : List UInt8} (h : Lx.signAt r = none) : signText r = [] := by rw [signText, h]; rfl
theorem signText_some {r g : List UInt8} (h : Lx.signAt r = some g) : signText r = g := by rw [signText, h]; rfl

set_option maxHeartbeats 2000000 in
theorem refOneSign_any (s : ByteArray) (hs : s.size ≤ 6000) (k : Nat) (hk : k < s.size) (hc : Lx.letB (s[k].toNat : Int) = false) (hd : Lx.digB (s[k].toNat : Int) = false) (w : World) :
    Calls Tryd.prog 21 #[.string s, .int .i64 k] w fun e w' => e = .returned (oneV k (Lx.oneSign (s.data.toList.drop k))) ∧ Below w.heap.size w w' := by
  have hl := refLetter_any (s[k].toNat : Int)
  have hg := refDigit_any (s[k].toNat : Int)
  rw [hc] at hl
  rw [hd] at hg
  have hsg := refSign_any s hs k k rfl hk
  have HL := Lib.hid hl
  have HD := Lib.hid hg
  cases hat : Lx.signAt (s.data.toList.drop k)
  · have hone : Lx.oneSign (s.data.toList.drop k) = none := by rw [Lx.oneSign, hat]
    rw [signText_none hat, show bs [] = ⟨#[]⟩ from rfl] at hsg
    rw [hone]
    have HS := Lib.hid hsg
    clear hone hsg hl hg hc hd hat
    go_enter Tryd.func21, Tryd.ntmps21
    go_wp2_with (first
      | (go_at_call 26; refine (HL.out _).mono ?_; rintro e w' ⟨rfl, rfl⟩)
      | (go_at_call 27; refine (HD.out _).mono ?_; rintro e w' ⟨rfl, rfl⟩)
      | (go_at_call 37; refine (HS.out _).mono ?_; rintro e w1 ⟨rfl, hb1⟩; obtain ⟨⟨c0, c1, c2, c3⟩, f0, f1, f2, f3⟩ := box4 (box_at hb1)))
    refine bodyPost_ret (v := .tuple #[.agg #[.int .i64 0, .string ⟨#[]⟩, .int .i64 0, .int .i64 0], .int .i64 0]) (by simp [results, Tryd.results21, go_sem, c0, c1, c2, c3]) rfl ⟨ret_oneN, ?_⟩
    exact ((((below_box hb1).setCell (Nat.le_refl _) _).setCell (Nat.le_refl _) _).setCell (Nat.le_refl _) _).setCell (Nat.le_refl _) _
  · rename_i g
    have hone : Lx.oneSign (s.data.toList.drop k) = some (4, g, 0, g.length) := by rw [Lx.oneSign, hat]
    have hpos := Lx.signAt_pos hat
    rw [signText_some hat] at hsg
    rw [hone]
    have e1 : ((bs g).toList == []) = false := ne_beq _ hpos
    have e2 : (bs g).toList.isEmpty = false := ne_empty _ hpos
    have HS := Lib.hid hsg
    clear hone hsg hl hg hc hd hat
    go_enter Tryd.func21, Tryd.ntmps21
    go_wp2_with (first
      | (go_at_call 26; refine (HL.out _).mono ?_; rintro e w' ⟨rfl, rfl⟩)
      | (go_at_call 27; refine (HD.out _).mono ?_; rintro e w' ⟨rfl, rfl⟩)
      | (go_at_call 37; refine (HS.out _).mono ?_; rintro e w1 ⟨rfl, hb1⟩; obtain ⟨⟨c0, c1, c2, c3⟩, f0, f1, f2, f3⟩ := box4 (box_at hb1)))
    refine bodyPost_ret (v := .tuple #[.agg #[.int .i64 4, .string (bs g), .int .i64 0, .int .i64 k], .int .i64 (bs g).size]) (by simp [results, Tryd.results21, go_sem, c0, c1, c2, c3]) rfl ⟨ret_one rfl rfl, ?_⟩
    exact ((((below_box hb1).setCell (Nat.le_refl _) _).setCell (Nat.le_refl _) _).setCell (Nat.le_refl _) _).setCell (Nat.le_refl _) _
/-- The tests ahead of a number, as the answer asks them. -/
structure RefTests (s : ByteArray) (k m : Nat) (hk : k < s.size) (padded runsOn : Bool) : Prop where
  pad : (((s[k].toNat : Int) == 48) = true ∧ 1 < m ∧ padded = true) ∨ (((s[k].toNat : Int) == 48) = false ∧ 1 < m ∧ padded = false) ∨ (m ≤ 1 ∧ padded = false)
  run : (∃ hn : k + m < s.size, (∀ w, Calls Tryd.prog 26 #[.int .u8 (s[k + m].toNat : Int)] w fun e w' => e = .returned (.bool runsOn) ∧ w = w')) ∨ (s.size ≤ k + m ∧ runsOn = false)
theorem refTests (s : ByteArray) (k m : Nat) (hk : k < s.size) : ∃ padded runsOn, RefTests s k m hk padded runsOn ∧ padded = decide (s[k] = 48 ∧ 1 < m) ∧ runsOn = Lx.nextLet (s.data.toList.drop (k + m)) := by
  refine ⟨_, _, ⟨?_, ?_⟩, rfl, rfl⟩
  · by_cases h2 : 1 < m
    · cases h : ((s[k].toNat : Int) == 48)
      · exact Or.inr (Or.inl ⟨rfl, h2, decide_eq_false fun ⟨h2, _⟩ => byte48n h h2⟩)
      · exact Or.inl ⟨rfl, h2, decide_eq_true ⟨byte48 h, h2⟩⟩
    · exact Or.inr (Or.inr ⟨by omega, decide_eq_false fun ⟨_, h3⟩ => h2 h3⟩)
  · by_cases h : k + m < s.size
    · refine Or.inl ⟨h, fun w => ?_⟩
      rw [nextLet_at h]
      exact refLetter_any _ w
    · exact Or.inr ⟨by omega, nextLet_out (by omega)⟩

/-- What the answer's number comes to. -/
def refNumV (padded runsOn : Bool) (m V : Nat) : Option (Nat × List UInt8 × Nat × Nat) := if V ≤ 9223372036854775807 ∧ padded = false ∧ runsOn = false then some (2, [], V, m) else none

set_option maxHeartbeats 1000000 in
theorem refOneNum_at (s : ByteArray) (hs : s.size ≤ 6000) (k m : Nat) (hk : k < s.size) (hm : Lx.runN Lx.digB (s.data.toList.drop k) = m) (hc : Lx.letB (s[k].toNat : Int) = false) (hd : Lx.digB (s[k].toNat : Int) = true)
    (padded runsOn : Bool) (ht : RefTests s k m hk padded runsOn) (V : Nat) (hV : Lx.valN 0 (s.extract k (k + m)).data.toList = V) (w : World) :
    Calls Tryd.prog 21 #[.string s, .int .i64 k] w fun e w' => e = .returned (oneV k (refNumV padded runsOn m V)) ∧ Below w.heap.size w w' := by
  have hk2 : k ≤ s.size := by omega
  have hmax := small_max hs
  have hl := refLetter_any (s[k].toNat : Int)
  have hg := refDigit_any (s[k].toNat : Int)
  rw [hc] at hl
  rw [hd] at hg
  have hb := run_bound Lx.digB s k hk2
  rw [hm] at hb
  have h3 : (k : Int) + (m : Int) ≤ (s.size : Int) := by omega
  have hall : ∀ c ∈ (s.extract k (k + m)).data.toList, Lx.digB (c.toNat : Int) = true := by
    rw [ext_list, ← hm]
    exact Lx.runN_all _ _
  have hw := whole_any (s.extract k (k + m)) (ext_max k (k + m) hs) hall V hV
  have HL := Lib.hid hl
  have HD := Lib.hid hg
  have HM := Lib.hid hm
  obtain ⟨hp, hr⟩ := ht
  clear hall hV hl hg hm hc hd
  by_cases hle : V ≤ 9223372036854775807
  · rw [wholeV_yes hle, wholeB_yes hle] at hw
    have HW := Lib.hid hw
    clear hw
    rcases hp with ⟨p1, p2, rfl⟩ | ⟨p1, p2, rfl⟩ | ⟨p1, rfl⟩
    · rw [show refNumV true runsOn m V = none from if_neg (fun h => by cases h.2.1)]
      have p3 : (1 : Int) < (m : Int) := by omega
      clear hr
      go_enter Tryd.func21, Tryd.ntmps21
      go_wp2_with fail
      refine (HL.out _).mono ?_
      rintro e w' ⟨rfl, rfl⟩
      go_wp2_with (first
        | (go_at_call 27; refine (HD.out _).mono ?_; rintro e w' ⟨rfl, rfl⟩)
        | (go_at_call 35; refine (refRunD_any s hmax _ k m rfl hk2 HM.out _).mono ?_; rintro e w' ⟨rfl, rfl⟩)
        | (go_at_call 36; refine (HW.out _).mono ?_; rintro e w' ⟨rfl, rfl⟩))
      exact bodyPost_ret (v := .tuple #[.agg #[.int .i64 0, .string ⟨#[]⟩, .int .i64 0, .int .i64 0], .int .i64 0]) (by simp [results, Tryd.results21, go_sem]) rfl ⟨ret_oneN, (Below.refl _ _).alloc (Nat.le_refl _) _⟩
    all_goals
      rcases hr with ⟨r1, r2⟩ | ⟨r1, rfl⟩
      · have r3 : (k : Int) + (m : Int) < (s.size : Int) := by omega
        cases runsOn
        · rw [show refNumV false false m V = some (2, [], V, m) from if_pos ⟨hle, rfl, rfl⟩]
          have HR := Lib.hid r2
          clear r2
          go_enter Tryd.func21, Tryd.ntmps21
          go_wp2_with fail
          refine (HL.out _).mono ?_
          rintro e w' ⟨rfl, rfl⟩
          go_wp2_with (first
            | (go_at_call 27; refine (HD.out _).mono ?_; rintro e w' ⟨rfl, rfl⟩)
            | (go_at_call 35; refine (refRunD_any s hmax _ k m rfl hk2 HM.out _).mono ?_; rintro e w' ⟨rfl, rfl⟩)
            | (go_at_call 36; refine (HW.out _).mono ?_; rintro e w' ⟨rfl, rfl⟩)
            | (go_at_call 26; refine (HR.out _).mono ?_; rintro e w' ⟨rfl, rfl⟩))
          exact bodyPost_ret (v := .tuple #[.agg #[.int .i64 2, .string ⟨#[]⟩, .int .i64 V, .int .i64 k], .int .i64 m]) (by simp [results, Tryd.results21, go_sem]) rfl ⟨ret_one rfl rfl, (Below.refl _ _).alloc (Nat.le_refl _) _⟩
        · rw [show refNumV false true m V = none from if_neg (fun h => by cases h.2.2)]
          have HR := Lib.hid r2
          clear r2
          go_enter Tryd.func21, Tryd.ntmps21
          go_wp2_with fail
          refine (HL.out _).mono ?_
          rintro e w' ⟨rfl, rfl⟩
          go_wp2_with (first
            | (go_at_call 27; refine (HD.out _).mono ?_; rintro e w' ⟨rfl, rfl⟩)
            | (go_at_call 35; refine (refRunD_any s hmax _ k m rfl hk2 HM.out _).mono ?_; rintro e w' ⟨rfl, rfl⟩)
            | (go_at_call 36; refine (HW.out _).mono ?_; rintro e w' ⟨rfl, rfl⟩)
            | (go_at_call 26; refine (HR.out _).mono ?_; rintro e w' ⟨rfl, rfl⟩))
          exact bodyPost_ret (v := .tuple #[.agg #[.int .i64 0, .string ⟨#[]⟩, .int .i64 0, .int .i64 0], .int .i64 0]) (by simp [results, Tryd.results21, go_sem]) rfl ⟨ret_oneN, (Below.refl _ _).alloc (Nat.le_refl _) _⟩
      · have r3 : (s.size : Int) ≤ (k : Int) + (m : Int) := by omega
        rw [show refNumV false false m V = some (2, [], V, m) from if_pos ⟨hle, rfl, rfl⟩]
        go_enter Tryd.func21, Tryd.ntmps21
        go_wp2_with fail
        refine (HL.out _).mono ?_
        rintro e w' ⟨rfl, rfl⟩
        go_wp2_with (first
          | (go_at_call 27; refine (HD.out _).mono ?_; rintro e w' ⟨rfl, rfl⟩)
          | (go_at_call 35; refine (refRunD_any s hmax _ k m rfl hk2 HM.out _).mono ?_; rintro e w' ⟨rfl, rfl⟩)
          | (go_at_call 36; refine (HW.out _).mono ?_; rintro e w' ⟨rfl, rfl⟩))
        exact bodyPost_ret (v := .tuple #[.agg #[.int .i64 2, .string ⟨#[]⟩, .int .i64 V, .int .i64 k], .int .i64 m]) (by simp [results, Tryd.results21, go_sem]) rfl ⟨ret_one rfl rfl, (Below.refl _ _).alloc (Nat.le_refl _) _⟩
  · rw [wholeV_no hle, wholeB_no hle] at hw
    have HW := Lib.hid hw
    rw [show refNumV padded runsOn m V = none from if_neg (fun h => hle h.1)]
    clear hw hp hr
    go_enter Tryd.func21, Tryd.ntmps21
    go_wp2_with fail
    refine (HL.out _).mono ?_
    rintro e w' ⟨rfl, rfl⟩
    go_wp2_with (first
      | (go_at_call 27; refine (HD.out _).mono ?_; rintro e w' ⟨rfl, rfl⟩)
      | (go_at_call 35; refine (refRunD_any s hmax _ k m rfl hk2 HM.out _).mono ?_; rintro e w' ⟨rfl, rfl⟩)
      | (go_at_call 36; refine (HW.out _).mono ?_; rintro e w' ⟨rfl, rfl⟩))
    exact bodyPost_ret (v := .tuple #[.agg #[.int .i64 0, .string ⟨#[]⟩, .int .i64 0, .int .i64 0], .int .i64 0]) (by simp [results, Tryd.results21, go_sem]) rfl ⟨ret_oneN, (Below.refl _ _).alloc (Nat.le_refl _) _⟩

theorem refOneNum_any (s : ByteArray) (hs : s.size ≤ 6000) (k : Nat) (hk : k < s.size) (hc : Lx.letB (s[k].toNat : Int) = false) (hd : Lx.digB (s[k].toNat : Int) = true) (w : World) :
    Calls Tryd.prog 21 #[.string s, .int .i64 k] w fun e w' => e = .returned (oneV k (Lx.oneNum (s.data.toList.drop k))) ∧ Below w.heap.size w w' := by
  obtain ⟨m, hm⟩ : ∃ m, Lx.runN Lx.digB (s.data.toList.drop k) = m := ⟨_, rfl⟩
  obtain ⟨V, hV⟩ : ∃ V, Lx.valN 0 ((s.data.toList.drop k).take m) = V := ⟨_, rfl⟩
  obtain ⟨padded, runsOn, ht, hp, hr⟩ := refTests s k m hk
  have hbad := numBad_at hk hm rfl hV
  rw [← hp, ← hr] at hbad
  have hone : Lx.oneNum (s.data.toList.drop k) = refNumV padded runsOn m V := by
    rw [Lx.oneNum, hm, hV, hbad, refNumV]
    by_cases hle : V ≤ 9223372036854775807
    · cases padded <;> cases runsOn
      · rw [if_neg (by simp; omega), if_pos ⟨hle, rfl, rfl⟩]
      · rw [if_pos (by simp), if_neg (by simp)]
      · rw [if_pos (by simp), if_neg (by simp)]
      · rw [if_pos (by simp), if_neg (by simp)]
    · rw [if_pos (by simp; omega), if_neg (fun h => hle h.1)]
  rw [hone]
  exact refOneNum_at s hs k m hk hm hc hd padded runsOn ht V (by rw [ext_list]; exact hV) w

theorem refOne_any (s : ByteArray) (hs : s.size ≤ 6000) (a : Int) (k : Nat) (ha : a = k) (hk : k < s.size) (w : World) :
    Calls Tryd.prog 21 #[.string s, .int .i64 a] w fun e w' => e = .returned (oneV k (Lx.one (s.data.toList.drop k))) ∧ Below w.heap.size w w' := by
  subst ha
  cases hcl : Lx.letB (s[k].toNat : Int)
  · cases hcd : Lx.digB (s[k].toNat : Int)
    · rw [one_sign_at hk hcl hcd]; exact refOneSign_any s hs k hk hcl hcd w
    · rw [one_num_at hk hcl hcd]; exact refOneNum_any s hs k hk hcl hcd w
  · rw [one_word_at hk hcl]; exact refOneWord_any s hs k hk hcl w
end Go.Proofs.YtconbldpomjgkaaDoor
