/-
  The contracts of lex's scan and of its parts, for texts of at most 6000 bytes.
-/
import Derived.Test.YtnadaedibicaaaaGreatDoorK02
import Derived.Lib.AtoiErrMem
namespace Go.Proofs.YtnadaedibicaaaaGreatDoor.Ln
open Go.RowKit

theorem ext_list (s : ByteArray) (k m : Nat) : (s.extract k (k + m)).data.toList = (s.data.toList.drop k).take m := by
  rw [Lib.extract_data]
  congr 1
  omega
theorem ext_bs (s : ByteArray) (k m n : Nat) (h : k + m = n) : s.extract k n = bs ((s.data.toList.drop k).take m) := by
  rw [← h, ← bs_of (s.extract k (k + m)), ext_list]
theorem ext_size (s : ByteArray) (k n : Nat) : (s.extract k n).size ≤ s.size := by
  rw [ByteArray.size_extract]; omega
theorem small_max {s : ByteArray} (h : s.size ≤ 6000) : s.size ≤ maxLen := by unfold maxLen; omega
theorem ext_max {s : ByteArray} (k n : Nat) (h : s.size ≤ 6000) : (s.extract k n).size ≤ maxLen := by
  have := ext_size s k n
  unfold maxLen; omega

theorem clone_any (s : ByteArray) (hs : s.size ≤ 281474976710656) (w : World) : Calls Tryz.prog 101 #[.string s] w fun e w' => e = .returned (.string s) ∧ Below w.heap.size w w' := by
  go_enter Tryz.func101, Tryz.ntmps101
  go_wp2_with (go_at_call 111; refine (Any.stringslite_Clone Tryz.laysM316 s _ hs).mono ?_; rintro e w1 ⟨rfl, hb⟩)
  go_ret
  exact ⟨rfl, hb⟩

theorem atoi_ok (s : ByteArray) (hs : s.size ≤ 281474976710656) (v : Int) (h : Lib.atoiAll s.data.toList = .ok v) (w : World) :
    Calls Tryz.prog 102 #[.string s] w fun e w' => e = .returned (.tuple #[.int .i64 v, .nilIface]) ∧ Below w.heap.size w w' :=
  (Any.strconv_Atoi_ok Tryz.laysC172 s (by omega) v h w).mono fun _ _ ⟨h, hw⟩ => ⟨h, by
    rcases hw with rfl | ⟨t, rfl⟩
    · exact Below.refl _ _
    · exact Lib.bytesWorld_below _ _ _⟩
theorem atoi_range (s : ByteArray) (hs : s.size ≤ 281474976710656) (h : Lib.atoiAll s.data.toList = .range) (w : World) (he : Env w) :
    Calls Tryz.prog 102 #[.string s] w fun e w' => ∃ (v : Int) (N : Nat), e = .returned (.tuple #[.int .i64 v, .iface 158 (.pointer (some ⟨N, 0, none⟩))]) ∧ Below w.heap.size w w' := by
  obtain ⟨a, ha⟩ := he.ran
  exact (Any.strconv_Atoi_range Tryz.laysC172 s hs h _ w ha (Or.inr ⟨_, _, rfl⟩)).mono fun _ _ ⟨N, h, _, _, hb⟩ => ⟨_, N, h, hb⟩

/-! A struct of four cells in a block of the call's own, behind a call that makes memory. -/
theorem box_at {w w1 : World} {cs : Array Value} {T : TypeId} (hb : Below (w.alloc (.cells cs T)).heap.size (w.alloc (.cells cs T)) w1) : w1.heap[w.heap.size]? = some (.cells cs T (0, 0)) := by
  rw [hb.block _ (by simp)]; exact heap_alloc_new w _
theorem box4 {w1 : World} {B : Nat} {T : TypeId} {a b c d : Value} (h : w1.heap[B]? = some (.cells #[a, b, c, d] T (0, 0))) :
    (w1.cell? ⟨B, 0, none⟩ = some a ∧ w1.cell? ⟨B, 1, none⟩ = some b ∧ w1.cell? ⟨B, 2, none⟩ = some c ∧ w1.cell? ⟨B, 3, none⟩ = some d) ∧
    (w1.frozen? ⟨B, 0, none⟩ = false ∧ w1.frozen? ⟨B, 1, none⟩ = false ∧ w1.frozen? ⟨B, 2, none⟩ = false ∧ w1.frozen? ⟨B, 3, none⟩ = false) :=
  ⟨⟨by rw [cell_of_row _ _ _ _ _ _ h]; rfl, by rw [cell_of_row _ _ _ _ _ _ h]; rfl, by rw [cell_of_row _ _ _ _ _ _ h]; rfl, by rw [cell_of_row _ _ _ _ _ _ h]; rfl⟩,
    frozen_of_row _ _ _ _ _ h, frozen_of_row _ _ _ _ _ h, frozen_of_row _ _ _ _ _ h, frozen_of_row _ _ _ _ _ h⟩
theorem below_box {w w1 : World} {o : Obj} (hb : Below (w.alloc o).heap.size (w.alloc o) w1) : Below w.heap.size w w1 :=
  ((Below.refl _ _).alloc (Nat.le_refl _) o).trans (hb.mono (by simp))

/-! What one says, by the places of a text. -/
theorem one_word_at {s : ByteArray} {k : Nat} (hk : k < s.size) (h : Lx.letB (s[k].toNat : Int) = true) : Lx.one (s.data.toList.drop k) = Lx.oneWord (s.data.toList.drop k) := by
  rw [drop_at s k hk]; exact Lx.one_word _ _ h
theorem one_num_at {s : ByteArray} {k : Nat} (hk : k < s.size) (h : Lx.letB (s[k].toNat : Int) = false) (h2 : Lx.digB (s[k].toNat : Int) = true) : Lx.one (s.data.toList.drop k) = Lx.oneNum (s.data.toList.drop k) := by
  rw [drop_at s k hk]; exact Lx.one_num _ _ h h2
theorem one_sign_at {s : ByteArray} {k : Nat} (hk : k < s.size) (h : Lx.letB (s[k].toNat : Int) = false) (h2 : Lx.digB (s[k].toNat : Int) = false) : Lx.one (s.data.toList.drop k) = Lx.oneSign (s.data.toList.drop k) := by
  rw [drop_at s k hk]; exact Lx.one_sign _ _ h h2

set_option maxRecDepth 8000 in
set_option maxHeartbeats 1000000 in
theorem scanWord_any (s : ByteArray) (hs : s.size ≤ 6000) (a : Int) (k : Nat) (ha : a = k) (hk : k < s.size) (w : World) :
    Calls Tryz.prog 65 #[.string s, .int .i64 a] w fun e w' => e = .returned (scanV k (Lx.oneWord (s.data.toList.drop k))) ∧ Below w.heap.size w w' := by
  subst ha
  have hk2 : k ≤ s.size := by omega
  have hmax := small_max hs
  have hb := run_bound Lx.alnB s k hk2
  generalize hm : Lx.runN Lx.alnB (s.data.toList.drop k) = m at hb
  generalize hn : k + m = n at hb
  have hkn : k ≤ n := by omega
  have hx := ext_bs s k m n hn
  have hl := ext_list s k m
  rw [hn] at hl
  have HM : Hid (k + Lx.runN Lx.alnB (s.data.toList.drop k) = n) := by show _ = _; rw [hm, hn]
  have hone : Lx.oneWord (s.data.toList.drop k) = if Lx.isWord ((s.data.toList.drop k).take m) then some (3, (s.data.toList.drop k).take m, 0, m) else if Lx.isName ((s.data.toList.drop k).take m) then some (1, (s.data.toList.drop k).take m, 0, m) else none := by rw [Lx.oneWord, hm]
  have hw := word_any (s.extract k n)
  have hnm := name_any (s.extract k n) (ext_max k n hs)
  have hc := clone_any (s.extract k n) (by have := ext_size s k n; omega)
  rw [hl] at hw hnm
  have HX := Lib.hid hx
  have HN := Lib.hid hn
  have HC := Lib.hid hc
  cases hcw : Lx.isWord ((s.data.toList.drop k).take m)
  · rw [hcw] at hw hone
    rw [if_neg (by decide)] at hone
    have HW := Lib.hid hw
    cases hcn : Lx.isName ((s.data.toList.drop k).take m)
    · rw [hcn] at hnm hone
      rw [if_neg (by decide)] at hone
      have HNM := Lib.hid hnm
      rw [hone]
      clear hone hw hnm hc hx hl hm hn hcw hcn
      go_enter Tryz.func65, Tryz.ntmps65
      go_wp2_with (first
        | (go_at_call 60; refine (run_to _ _ alnum_is s hmax _ k n rfl hk2 HM.out _).mono ?_; rintro e w' ⟨rfl, rfl⟩)
        | (go_at_call 99; refine (HW.out _).mono ?_; rintro e w' ⟨rfl, rfl⟩)
        | (go_at_call 100; refine (HNM.out _).mono ?_; rintro e w' ⟨rfl, rfl⟩))
      exact bodyPost_ret (v := .tuple #[.agg #[.int .i64 0, .string ⟨#[]⟩, .int .i64 0, .int .i64 0], .int .i64 0, .bool false]) (by simp [results, Tryz.results65, go_sem]) rfl ⟨ret_none, (Below.refl _ _).alloc (Nat.le_refl _) _⟩
    · rw [hcn] at hnm hone
      rw [if_pos rfl] at hone
      have HNM := Lib.hid hnm
      rw [hone]
      clear hone hw hnm hc hx hl hm hn hcw hcn
      go_enter Tryz.func65, Tryz.ntmps65
      go_wp2_with (first
        | (go_at_call 60; refine (run_to _ _ alnum_is s hmax _ k n rfl hk2 HM.out _).mono ?_; rintro e w' ⟨rfl, rfl⟩)
        | (go_at_call 99; refine (HW.out _).mono ?_; rintro e w' ⟨rfl, rfl⟩)
        | (go_at_call 100; refine (HNM.out _).mono ?_; rintro e w' ⟨rfl, rfl⟩)
        | (go_at_call 101; refine (HC.out _).mono ?_; rintro e w1 ⟨rfl, hb1⟩; obtain ⟨⟨c0, c1, c2, c3⟩, f0, f1, f2, f3⟩ := box4 (box_at hb1)))
      refine bodyPost_ret (v := .tuple #[.agg #[.int .i64 1, .string (s.extract k n), .int .i64 0, .int .i64 k], .int .i64 n, .bool true]) (by simp [results, Tryz.results65, go_sem, c0, c1, c2, c3]) rfl ⟨?_, ?_⟩
      · rw [HX.out]
        exact ret_scan (by have := HN.out; omega)
      · exact ((((below_box hb1).setCell (Nat.le_refl _) _).setCell (Nat.le_refl _) _).setCell (Nat.le_refl _) _).setCell (Nat.le_refl _) _
  · rw [hcw] at hw hone
    rw [if_pos rfl] at hone
    have HW := Lib.hid hw
    rw [hone]
    clear hone hw hnm hc hx hl hm hn hcw
    go_enter Tryz.func65, Tryz.ntmps65
    go_wp2_with (first
      | (go_at_call 60; refine (run_to _ _ alnum_is s hmax _ k n rfl hk2 HM.out _).mono ?_; rintro e w' ⟨rfl, rfl⟩)
      | (go_at_call 99; refine (HW.out _).mono ?_; rintro e w' ⟨rfl, rfl⟩)
      | (go_at_call 101; refine (HC.out _).mono ?_; rintro e w1 ⟨rfl, hb1⟩; obtain ⟨⟨c0, c1, c2, c3⟩, f0, f1, f2, f3⟩ := box4 (box_at hb1)))
    refine bodyPost_ret (v := .tuple #[.agg #[.int .i64 3, .string (s.extract k n), .int .i64 0, .int .i64 k], .int .i64 n, .bool true]) (by simp [results, Tryz.results65, go_sem, c0, c1, c2, c3]) rfl ⟨?_, ?_⟩
    · rw [HX.out]
      exact ret_scan (by have := HN.out; omega)
    · exact ((((below_box hb1).setCell (Nat.le_refl _) _).setCell (Nat.le_refl _) _).setCell (Nat.le_refl _) _).setCell (Nat.le_refl _) _

/-! Numbers. -/
theorem head_at {s : ByteArray} {k : Nat} (hk : k < s.size) : (s.data.toList.drop k).head? = some s[k] := by rw [drop_at s k hk]; rfl
theorem nextLet_at {s : ByteArray} {n : Nat} (hn : n < s.size) : Lx.nextLet (s.data.toList.drop n) = Lx.letB (s[n].toNat : Int) := by rw [drop_at s n hn]; rfl
theorem nextLet_out {s : ByteArray} {n : Nat} (hn : s.size ≤ n) : Lx.nextLet (s.data.toList.drop n) = false := by rw [drop_out s n hn]; rfl
theorem numBad_at {s : ByteArray} {k m n V : Nat} (hk : k < s.size) (hm : Lx.runN Lx.digB (s.data.toList.drop k) = m) (hn : k + m = n) (hV : Lx.valN 0 ((s.data.toList.drop k).take m) = V) :
    Lx.numBad (s.data.toList.drop k) = (decide (s[k] = 48 ∧ 1 < m) || decide (9223372036854775807 < V) || Lx.nextLet (s.data.toList.drop n)) := by
  rw [Lx.numBad, hm, hV, List.drop_drop, hn, head_at hk]
  simp
theorem byte48 {c : UInt8} (h : ((c.toNat : Int) == 48) = true) : c = 48 := by
  have h1 := beq_iff_eq.1 h
  exact UInt8.toNat_inj.1 (by show c.toNat = 48; omega)
theorem byte48n {c : UInt8} (h : ((c.toNat : Int) == 48) = false) : c ≠ 48 := by
  rintro rfl
  exact absurd h (by decide)

/-- The three tests ahead of a number: a nought that pads; a letter that runs on. -/
structure NumTests (s : ByteArray) (k n : Nat) (hk : k < s.size) (padded runsOn : Bool) : Prop where
  pad : (((s[k].toNat : Int) == 48) = true ∧ k + 1 < n ∧ padded = true) ∨ (((s[k].toNat : Int) == 48) = true ∧ n ≤ k + 1 ∧ padded = false) ∨ (((s[k].toNat : Int) == 48) = false ∧ padded = false)
  run : (∃ hn : n < s.size, (∀ w, Calls Tryz.prog 64 #[.int .u8 (s[n].toNat : Int)] w fun e w' => e = .returned (.bool runsOn) ∧ w = w')) ∨ (s.size ≤ n ∧ runsOn = false)

theorem numTests (s : ByteArray) (k n : Nat) (hk : k < s.size) : ∃ padded runsOn, NumTests s k n hk padded runsOn ∧ padded = decide (s[k] = 48 ∧ k + 1 < n) ∧ runsOn = Lx.nextLet (s.data.toList.drop n) := by
  refine ⟨_, _, ⟨?_, ?_⟩, rfl, rfl⟩
  · cases h : ((s[k].toNat : Int) == 48)
    · exact Or.inr (Or.inr ⟨rfl, decide_eq_false fun ⟨h2, _⟩ => byte48n h h2⟩)
    · by_cases h2 : k + 1 < n
      · exact Or.inl ⟨rfl, h2, decide_eq_true ⟨byte48 h, h2⟩⟩
      · exact Or.inr (Or.inl ⟨rfl, by omega, decide_eq_false fun ⟨_, h3⟩ => h2 h3⟩)
  · by_cases h : n < s.size
    · refine Or.inl ⟨h, fun w => ?_⟩
      rw [nextLet_at h]
      exact letter_any _ w
    · exact Or.inr ⟨by omega, nextLet_out (by omega)⟩

set_option maxRecDepth 8000 in
set_option maxHeartbeats 2000000 in
theorem scanNumber_bad (s : ByteArray) (hs : s.size ≤ 6000) (k n : Nat) (hk : k < s.size) (hkn : k < n) (hns : n ≤ s.size) (hrun : k + Lx.runN Lx.digB (s.data.toList.drop k) = n)
    (padded runsOn : Bool) (ht : NumTests s k n hk padded runsOn) (hbad : (padded || runsOn) = true) (w : World) :
    Calls Tryz.prog 67 #[.string s, .int .i64 k] w fun e w' => e = .returned (scanV k none) ∧ Below w.heap.size w w' := by
  have hmax := small_max hs
  have hk2 : k ≤ s.size := by omega
  have HR := Lib.hid hrun
  clear hrun
  obtain ⟨hp, hr⟩ := ht
  rcases hp with ⟨p1, p2, rfl⟩ | ⟨p1, p2, rfl⟩ | ⟨p1, rfl⟩ <;> rcases hr with ⟨r1, r2⟩ | ⟨r1, rfl⟩ <;> try (simp at hbad; done)
  · clear hbad
    have HL := Lib.hid r2
    clear r2
    have p3 : (k : Int) + 1 < (n : Int) := by omega
    cases runsOn
    all_goals
      go_enter Tryz.func67, Tryz.ntmps67
      go_wp2_with (first
        | (go_at_call 60; refine (run_to _ _ digit_is s hmax _ k n rfl hk2 HR.out _).mono ?_; rintro e w' ⟨rfl, rfl⟩)
        | (go_at_call 64; refine (HL.out _).mono ?_; rintro e w' ⟨rfl, rfl⟩))
      exact bodyPost_ret (v := .tuple #[.agg #[.int .i64 0, .string ⟨#[]⟩, .int .i64 0, .int .i64 0], .int .i64 0, .bool false]) (by simp [results, Tryz.results67, go_sem]) rfl ⟨ret_none, (Below.refl _ _).alloc (Nat.le_refl _) _⟩
  · have p3 : (k : Int) + 1 < (n : Int) := by omega
    have r3 : (s.size : Int) ≤ (n : Int) := by omega
    clear hbad
    go_enter Tryz.func67, Tryz.ntmps67
    go_wp2_with (go_at_call 60; refine (run_to _ _ digit_is s hmax _ k n rfl hk2 HR.out _).mono ?_; rintro e w' ⟨rfl, rfl⟩)
    exact bodyPost_ret (v := .tuple #[.agg #[.int .i64 0, .string ⟨#[]⟩, .int .i64 0, .int .i64 0], .int .i64 0, .bool false]) (by simp [results, Tryz.results67, go_sem]) rfl ⟨ret_none, (Below.refl _ _).alloc (Nat.le_refl _) _⟩
  · obtain rfl : runsOn = true := by simpa using hbad
    have p3 : (n : Int) ≤ (k : Int) + 1 := by omega
    have HL := Lib.hid r2
    clear r2 hbad
    go_enter Tryz.func67, Tryz.ntmps67
    go_wp2_with (first
      | (go_at_call 60; refine (run_to _ _ digit_is s hmax _ k n rfl hk2 HR.out _).mono ?_; rintro e w' ⟨rfl, rfl⟩)
      | (go_at_call 64; refine (HL.out _).mono ?_; rintro e w' ⟨rfl, rfl⟩))
    exact bodyPost_ret (v := .tuple #[.agg #[.int .i64 0, .string ⟨#[]⟩, .int .i64 0, .int .i64 0], .int .i64 0, .bool false]) (by simp [results, Tryz.results67, go_sem]) rfl ⟨ret_none, (Below.refl _ _).alloc (Nat.le_refl _) _⟩
  · obtain rfl : runsOn = true := by simpa using hbad
    have HL := Lib.hid r2
    clear r2 hbad
    go_enter Tryz.func67, Tryz.ntmps67
    go_wp2_with (first
      | (go_at_call 60; refine (run_to _ _ digit_is s hmax _ k n rfl hk2 HR.out _).mono ?_; rintro e w' ⟨rfl, rfl⟩)
      | (go_at_call 64; refine (HL.out _).mono ?_; rintro e w' ⟨rfl, rfl⟩))
    exact bodyPost_ret (v := .tuple #[.agg #[.int .i64 0, .string ⟨#[]⟩, .int .i64 0, .int .i64 0], .int .i64 0, .bool false]) (by simp [results, Tryz.results67, go_sem]) rfl ⟨ret_none, (Below.refl _ _).alloc (Nat.le_refl _) _⟩

/-- What Atoi answers: a number, or none. -/
def AtoiSays (x : ByteArray) (w : World) (V : Nat) : Prop :=
  if V ≤ 9223372036854775807 then Calls Tryz.prog 102 #[.string x] w fun e w' => e = .returned (.tuple #[.int .i64 V, .nilIface]) ∧ Below w.heap.size w w'
  else Calls Tryz.prog 102 #[.string x] w fun e w' => ∃ (v : Int) (N : Nat), e = .returned (.tuple #[.int .i64 v, .iface 158 (.pointer (some ⟨N, 0, none⟩))]) ∧ Below w.heap.size w w'
def numV (m V : Nat) : Option (Nat × List UInt8 × Nat × Nat) := if V ≤ 9223372036854775807 then some (2, [], V, m) else none

set_option maxRecDepth 8000 in
set_option maxHeartbeats 4000000 in
theorem scanNumber_good (s : ByteArray) (hs : s.size ≤ 6000) (k m n : Nat) (hk : k < s.size) (hkn : k < n) (hmn : k + m = n) (hns : n ≤ s.size) (hrun : k + Lx.runN Lx.digB (s.data.toList.drop k) = n)
    (ht : NumTests s k n hk false false) (V : Nat) (hA : ∀ w, Env w → AtoiSays (s.extract k n) w V) (w : World) (he : Env w) :
    Calls Tryz.prog 67 #[.string s, .int .i64 k] w fun e w' => e = .returned (scanV k (numV m V)) ∧ Below w.heap.size w w' := by
  have hmax := small_max hs
  have hk2 : k ≤ s.size := by omega
  have hkn2 : k ≤ n := by omega
  have HR := Lib.hid hrun
  have HM := Lib.hid hmn
  have he2 := he.below ((Below.refl _ _).alloc (Nat.le_refl _) (.cells #[.int .i64 0, .string ⟨#[]⟩, .int .i64 0, .int .i64 0] 66))
  have hA2 := hA _ he2
  clear hrun hmn hA he he2
  obtain ⟨hp, hr⟩ := ht
  by_cases hV : V ≤ 9223372036854775807
  · have hn : numV m V = some (2, [], V, m) := if_pos hV
    rw [hn]
    rw [AtoiSays, if_pos hV] at hA2
    have HA := Lib.hid hA2
    clear hA2 hn
    rcases hp with ⟨_, _, h⟩ | ⟨p1, p2, _⟩ | ⟨p1, _⟩
    · cases h
    all_goals
      rcases hr with ⟨r1, r2⟩ | ⟨r1, _⟩
      · have HL := Lib.hid r2
        clear r2
        try have p3 : (n : Int) ≤ (k : Int) + 1 := by omega
        go_enter Tryz.func67, Tryz.ntmps67
        go_wp2_with (first
          | (go_at_call 60; refine (run_to _ _ digit_is s hmax _ k n rfl hk2 HR.out _).mono ?_; rintro e w' ⟨rfl, rfl⟩)
          | (go_at_call 64; refine (HL.out _).mono ?_; rintro e w' ⟨rfl, rfl⟩)
          | (go_at_call 102; refine HA.out.mono ?_; rintro e w1 ⟨rfl, hb1⟩; obtain ⟨⟨c0, c1, c2, c3⟩, f0, f1, f2, f3⟩ := box4 (box_at hb1)))
        refine bodyPost_ret (v := .tuple #[.agg #[.int .i64 2, .string ⟨#[]⟩, .int .i64 V, .int .i64 k], .int .i64 n, .bool true]) (by simp [results, Tryz.results67, go_sem, c0, c1, c2, c3]) rfl ⟨?_, ?_⟩
        · exact ret_scan (by have := HM.out; omega)
        · exact ((((below_box hb1).setCell (Nat.le_refl _) _).setCell (Nat.le_refl _) _).setCell (Nat.le_refl _) _).setCell (Nat.le_refl _) _
      · try have p3 : (n : Int) ≤ (k : Int) + 1 := by omega
        have r3 : (s.size : Int) ≤ (n : Int) := by omega
        go_enter Tryz.func67, Tryz.ntmps67
        go_wp2_with (first
          | (go_at_call 60; refine (run_to _ _ digit_is s hmax _ k n rfl hk2 HR.out _).mono ?_; rintro e w' ⟨rfl, rfl⟩)
          | (go_at_call 102; refine HA.out.mono ?_; rintro e w1 ⟨rfl, hb1⟩; obtain ⟨⟨c0, c1, c2, c3⟩, f0, f1, f2, f3⟩ := box4 (box_at hb1)))
        refine bodyPost_ret (v := .tuple #[.agg #[.int .i64 2, .string ⟨#[]⟩, .int .i64 V, .int .i64 k], .int .i64 n, .bool true]) (by simp [results, Tryz.results67, go_sem, c0, c1, c2, c3]) rfl ⟨?_, ?_⟩
        · exact ret_scan (by have := HM.out; omega)
        · exact ((((below_box hb1).setCell (Nat.le_refl _) _).setCell (Nat.le_refl _) _).setCell (Nat.le_refl _) _).setCell (Nat.le_refl _) _
  · have hn : numV m V = none := if_neg hV
    rw [hn]
    rw [AtoiSays, if_neg hV] at hA2
    have HA := Lib.hid hA2
    clear hA2 hn
    rcases hp with ⟨_, _, h⟩ | ⟨p1, p2, _⟩ | ⟨p1, _⟩
    · cases h
    all_goals
      rcases hr with ⟨r1, r2⟩ | ⟨r1, _⟩
      · have HL := Lib.hid r2
        clear r2
        try have p3 : (n : Int) ≤ (k : Int) + 1 := by omega
        go_enter Tryz.func67, Tryz.ntmps67
        go_wp2_with (first
          | (go_at_call 60; refine (run_to _ _ digit_is s hmax _ k n rfl hk2 HR.out _).mono ?_; rintro e w' ⟨rfl, rfl⟩)
          | (go_at_call 64; refine (HL.out _).mono ?_; rintro e w' ⟨rfl, rfl⟩)
          | (go_at_call 102; refine HA.out.mono ?_; rintro e w1 ⟨v1, N1, rfl, hb1⟩; obtain ⟨⟨c0, c1, c2, c3⟩, f0, f1, f2, f3⟩ := box4 (box_at hb1)))
        refine bodyPost_ret (v := .tuple #[.agg #[.int .i64 0, .string ⟨#[]⟩, .int .i64 0, .int .i64 0], .int .i64 0, .bool false]) (by simp [results, Tryz.results67, go_sem, c0, c1, c2, c3]) rfl ⟨ret_none, ?_⟩
        exact ((((below_box hb1).setCell (Nat.le_refl _) _).setCell (Nat.le_refl _) _).setCell (Nat.le_refl _) _).setCell (Nat.le_refl _) _
      · try have p3 : (n : Int) ≤ (k : Int) + 1 := by omega
        have r3 : (s.size : Int) ≤ (n : Int) := by omega
        go_enter Tryz.func67, Tryz.ntmps67
        go_wp2_with (first
          | (go_at_call 60; refine (run_to _ _ digit_is s hmax _ k n rfl hk2 HR.out _).mono ?_; rintro e w' ⟨rfl, rfl⟩)
          | (go_at_call 102; refine HA.out.mono ?_; rintro e w1 ⟨v1, N1, rfl, hb1⟩; obtain ⟨⟨c0, c1, c2, c3⟩, f0, f1, f2, f3⟩ := box4 (box_at hb1)))
        refine bodyPost_ret (v := .tuple #[.agg #[.int .i64 0, .string ⟨#[]⟩, .int .i64 0, .int .i64 0], .int .i64 0, .bool false]) (by simp [results, Tryz.results67, go_sem, c0, c1, c2, c3]) rfl ⟨ret_none, ?_⟩
        exact ((((below_box hb1).setCell (Nat.le_refl _) _).setCell (Nat.le_refl _) _).setCell (Nat.le_refl _) _).setCell (Nat.le_refl _) _
end Go.Proofs.YtnadaedibicaaaaGreatDoor.Ln
