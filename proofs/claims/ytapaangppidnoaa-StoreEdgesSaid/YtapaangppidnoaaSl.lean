/-
  The laws on a nil store, on sizes and on edges.
-/
import Derived.Test.YtapaangppidnoaaSk
namespace Go.Proofs.Ytapaangppidnoaa
open Go.RowKit

/-- An int of 64 bits. -/
abbrev I64 (n : Int) : Prop := -9223372036854775808 ≤ n ∧ n ≤ 9223372036854775807
theorem storeNil_walk (a b c : Int) (_ : I64 a) (_ : I64 b) (_ : I64 c) (w : World) : Calls Try.prog 5 #[.int .i64 a, .int .i64 b, .int .i64 c] w (LawP w) := by
  go_enter Try.func5, Try.ntmps5
  go_wp2_with fail
  refine (arr_nil w _).mono ?_
  rintro e w0 ⟨rfl, rfl⟩
  go_wp2_with fail
  refine (len_nil w _).mono ?_
  rintro e w0 ⟨rfl, rfl⟩
  go_wp2_with fail
  refine (load_nil w _ _).mono ?_
  rintro e w0 ⟨rfl, rfl⟩
  go_wp2_with fail
  refine (rec_nil w _).mono ?_
  rintro e w0 ⟨rfl, rfl⟩
  go_wp2_with fail
  refine (put_nil w _ _ _).mono ?_
  rintro e w0 ⟨rfl, rfl⟩
  go_wp2_with fail
  refine (many_nil w).mono ?_
  rintro e w0 ⟨rfl, rfl⟩
  go_wp2_with fail
  refine (known_any w).mono ?_
  rintro e w1 ⟨rfl, h⟩
  go_wp2
  go_ret
  exact ⟨rfl, h⟩
section
variable {w : World} {L : List (List Int)}
theorem at_last (L : List (List Int)) (l : List Int) (r : Int) (hr : r = (L.length : Int) + 1) : atP (L ++ [l]) r = some l := by
  rw [atP, if_pos (by omega), hr, show ((L.length : Int) + 1 - 1).toNat = L.length by omega]
  simp
end
theorem storeSizes_walk (n m : Int) (_ : I64 n) (_ : I64 m) (w : World) : Calls Try.prog 6 #[.int .i64 n, .int .i64 m] w (LawP w) := by
  obtain ⟨a, ha⟩ : ∃ a : Int, (if 8 < n then (8 : Int) else n) = a := ⟨_, rfl⟩
  obtain ⟨c, hc⟩ : ∃ c : Int, (if 0 < a then a else 0) = c := ⟨_, rfl⟩
  have hc2 : c = (recN n : Int) := by
    rw [← hc, ← ha]
    unfold recN
    (repeat' split) <;> omega
  have HL1 := Lib.hid (show lenP [List.replicate (recN n) 0] 1 = (c, 0) by rw [lenP_some (show atP [List.replicate (recN n) 0] 1 = some (List.replicate (recN n) 0) from at_last [] _ 1 rfl), List.length_replicate, hc2])
  clear hc2
  by_cases hm : m < 0 ∨ 0 ≤ m ∧ 50 < m
  · have HA := fun (p : Nat) (w : World) => arr_no (p := p) w m hm
    replace HA := Lib.hid HA
    have hd : (decide (m < 0) = true) ∨ (decide (m < 0) = false ∧ decide (50 < m) = true) := by
      rcases hm with h | ⟨h1, h2⟩
      · exact .inl (decide_eq_true h)
      · exact .inr ⟨decide_eq_false (by omega), decide_eq_true h2⟩
    clear hm
    rcases hd with hd | ⟨hd, hd2⟩
    all_goals
      go_enter Try.func6, Try.ntmps6
      go_wp2_with fail
      refine (new1 w).mono ?_
      rintro e w0 ⟨rfl, h⟩
      have H0 := Lib.hid h
      clear h
      go_wp2_with fail
      refine (rec1 H0.out n (by decide)).mono ?_
      rintro e w1 ⟨rfl, h⟩
      have H1 := Lib.hid h
      clear h
      go_wp2_with fail
      refine (len1 H1.out 1 c 0 HL1.out).mono ?_
      rintro e w2 ⟨rfl, rfl⟩
      go_wp2_with fail
      refine (HA.out _ _).mono ?_
      rintro e w2 ⟨rfl, rfl⟩
      go_wp2_with fail
      refine (many1 H1.out 1 rfl).mono ?_
      rintro e w2 ⟨rfl, rfl⟩
      go_wp2_with fail
      refine (known_any _).mono ?_
      rintro e w2 ⟨rfl, h⟩
      have HK := Lib.hid h
      clear h
      go_wp2
      go_ret
      exact ⟨rfl, H1.out.below.trans (HK.out.mono H1.out.below.size)⟩
  · obtain ⟨k, hk⟩ : ∃ k : Nat, m = (k : Int) := ⟨m.toNat, by omega⟩
    have hd : decide (m < 0) = false := decide_eq_false (by omega)
    have hd2 : decide (50 < m) = false := decide_eq_false (by omega)
    have HK50 := Lib.hid (show k ≤ 50 by omega)
    have HMK := Lib.hid hk
    have HL2 := Lib.hid (show lenP ([List.replicate (recN n) 0] ++ [List.replicate k 0]) 2 = (m, 0) by rw [lenP_some (at_last [List.replicate (recN n) 0] (List.replicate k 0) 2 rfl), List.length_replicate, hk])
    clear hm hk
    go_enter Try.func6, Try.ntmps6
    go_wp2_with fail
    refine (new1 w).mono ?_
    rintro e w0 ⟨rfl, h⟩
    have H0 := Lib.hid h
    clear h
    go_wp2_with fail
    refine (rec1 H0.out n (by decide)).mono ?_
    rintro e w1 ⟨rfl, h⟩
    have H1 := Lib.hid h
    clear h
    go_wp2_with fail
    refine (len1 H1.out 1 c 0 HL1.out).mono ?_
    rintro e w2 ⟨rfl, rfl⟩
    go_wp2_with fail
    refine (arr1 H1.out m k HMK.out HK50.out (by simp)).mono ?_
    rintro e w2 ⟨rfl, h⟩
    have H2 := Lib.hid h
    clear h
    go_wp2_with fail
    refine (len1 H2.out 2 m 0 HL2.out).mono ?_
    rintro e w3 ⟨rfl, rfl⟩
    go_wp2_with fail
    refine (many1 H2.out 2 rfl).mono ?_
    rintro e w3 ⟨rfl, rfl⟩
    go_wp2_with fail
    refine (known_any _).mono ?_
    rintro e w3 ⟨rfl, h⟩
    have HK := Lib.hid h
    clear h
    go_wp2
    go_ret
    exact ⟨rfl, H2.out.below.trans (HK.out.mono H2.out.below.size)⟩
theorem storeEdges_walk (n i : Int) (_ : I64 n) (_ : I64 i) (w : World) : Calls Try.prog 7 #[.int .i64 n, .int .i64 i] w (LawP w) := by
  by_cases hn : n < 0 ∨ 0 ≤ n ∧ 50 < n
  · have hd : (decide (n < 0) = true) ∨ (decide (n < 0) = false ∧ decide (50 < n) = true) := by
      rcases hn with h | ⟨h1, h2⟩
      · exact .inl (decide_eq_true h)
      · exact .inr ⟨decide_eq_false (by omega), decide_eq_true h2⟩
    clear hn
    rcases hd with hd | ⟨hd, hd2⟩
    all_goals
      go_enter Try.func7, Try.ntmps7
      go_wp2
      go_ret
      exact ⟨rfl, Below.refl _ _⟩
  · obtain ⟨k, hk⟩ : ∃ k : Nat, n = (k : Int) := ⟨n.toNat, by omega⟩
    have hd : decide (n < 0) = false := decide_eq_false (by omega)
    have hd2 : decide (50 < n) = false := decide_eq_false (by omega)
    have HK50 := Lib.hid (show k ≤ 50 by omega)
    have HNK := Lib.hid hk
    have h1 : atP [List.replicate k 0] 1 = some (List.replicate k 0) := at_last [] _ 1 rfl
    have hp : ∀ x, (atP (putP [List.replicate k 0] 1 i x) 2 = none ∧ atP (putP [List.replicate k 0] 1 i x) 0 = none) ∧ atP (putP [List.replicate k 0] 1 i x) (-1) = none := by
      intro x
      obtain ⟨l, hl⟩ : ∃ l, putP [List.replicate k 0] 1 i x = [l] := by
        rw [putP, h1]
        show ∃ l, (if 0 ≤ i then _ else _) = [l]
        split
        · exact ⟨_, rfl⟩
        · exact ⟨_, rfl⟩
      rw [hl]
      exact ⟨⟨rfl, rfl⟩, rfl⟩
    obtain ⟨t, x, ht, hw⟩ : ∃ t x : Int, loadP [List.replicate k 0] 1 i = (x, t) ∧ ((decide (0 ≤ i) = true ∧ decide (i < n) = true ∧ t = 0) ∨ (decide (0 ≤ i) = true ∧ decide (i < n) = false ∧ t = 2) ∨ (decide (0 ≤ i) = false ∧ t = 2)) := by
      rcases idx_cases (List.replicate k 0) i with ⟨g1, g2, -⟩ | ⟨j, x, rfl, hj, hx⟩
      · rw [List.length_replicate] at g1
        refine ⟨2, 0, loadP_out h1 g2, ?_⟩
        rcases g1 with g1 | ⟨g1, g3⟩
        · exact .inr (.inr ⟨decide_eq_false (by omega), rfl⟩)
        · exact .inr (.inl ⟨decide_eq_true g1, decide_eq_false (by omega), rfl⟩)
      · rw [List.length_replicate] at hj
        exact ⟨0, x, loadP_in h1 hx, .inl ⟨decide_eq_true (by omega), decide_eq_true (by omega), rfl⟩⟩
    have HP := Lib.hid hp
    have HT := Lib.hid ht
    clear hk h1 hp hn ht
    rcases hw with ⟨d1, d2, rfl⟩ | ⟨d1, d2, rfl⟩ | ⟨d1, rfl⟩
    all_goals
      go_enter Try.func7, Try.ntmps7
      go_wp2_with fail
      refine (new1 w).mono ?_
      rintro e w0 ⟨rfl, h⟩
      have H0 := Lib.hid h
      clear h
      go_wp2_with fail
      refine (arr1 H0.out n k HNK.out HK50.out (by decide)).mono ?_
      rintro e w1 ⟨rfl, h⟩
      have H1 := Lib.hid h
      clear h
      go_wp2_with fail
      refine (load1 H1.out 1 i _ _ HT.out).mono ?_
      rintro e w2 ⟨rfl, rfl⟩
      go_wp2_with fail
      refine (put1 H1.out 1 i 5 _ (by rw [show ([] ++ [List.replicate k 0] : List (List Int)) = [List.replicate k 0] from rfl, HT.out])).mono ?_
      rintro e w2 ⟨rfl, h⟩
      have H2 := Lib.hid h
      clear h
      go_wp2_with fail
      refine (load1 H2.out 0 i 0 1 (loadP_none (HP.out 5).1.2 i)).mono ?_
      rintro e w3 ⟨rfl, rfl⟩
      go_wp2_with fail
      refine (load1 H2.out 2 i 0 1 (loadP_none (HP.out 5).1.1 i)).mono ?_
      rintro e w3 ⟨rfl, rfl⟩
      go_wp2_with fail
      refine (put1 H2.out (-1) i 1 1 (by have := loadP_none (HP.out 5).2 i; simp only [List.nil_append]; rw [this])).mono ?_
      rintro e w3 ⟨rfl, h⟩
      have H3 := Lib.hid h
      clear h
      go_wp2_with fail
      refine (known_any _).mono ?_
      rintro e w4 ⟨rfl, h⟩
      have HK := Lib.hid h
      clear h
      go_wp2
      go_ret
      exact ⟨rfl, H3.out.below.trans (HK.out.mono H3.out.below.size)⟩
end Go.Proofs.Ytapaangppidnoaa
