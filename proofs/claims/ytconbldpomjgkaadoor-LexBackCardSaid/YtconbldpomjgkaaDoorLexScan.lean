/-
  The contract of lex's scan, for texts of at most 6000 bytes.
-/
import Derived.Test.YtconbldpomjgkaaDoorScan
namespace Go.Proofs.YtconbldpomjgkaaDoor
open Go.RowKit

theorem atoi_says (x : ByteArray) (hx : x.size ≤ 281474976710656) (hne : x.data.toList ≠ []) (hd : ∀ c ∈ x.data.toList, Lx.digB (c.toNat : Int) = true) (V : Nat) (hV : Lx.valN 0 x.data.toList = V) (w : World) (he : Env w) : AtoiSays x w V := by
  have h := Lx.atoi_digits x.data.toList hne hd
  rw [hV] at h
  unfold AtoiSays
  by_cases hle : V ≤ 9223372036854775807
  · rw [if_pos hle] at h ⊢
    exact atoi_ok x hx V h w
  · rw [if_neg hle] at h ⊢
    exact atoi_range x hx h w he

theorem scanNumber_any (s : ByteArray) (hs : s.size ≤ 6000) (a : Int) (k : Nat) (ha : a = k) (hk : k < s.size) (hc : Lx.digB (s[k].toNat : Int) = true) (w : World) (he : Env w) :
    Calls Tryd.prog 33 #[.string s, .int .i64 a] w fun e w' => e = .returned (scanV k (Lx.oneNum (s.data.toList.drop k))) ∧ Below w.heap.size w w' := by
  subst ha
  obtain ⟨m, hm⟩ : ∃ m, Lx.runN Lx.digB (s.data.toList.drop k) = m := ⟨_, rfl⟩
  obtain ⟨n, hn⟩ : ∃ n, k + m = n := ⟨_, rfl⟩
  obtain ⟨V, hV⟩ : ∃ V, Lx.valN 0 ((s.data.toList.drop k).take m) = V := ⟨_, rfl⟩
  have hb := run_bound Lx.digB s k (by omega)
  have hm0 : 0 < m := by
    rw [← hm, run_at s _ k hk, if_pos hc]; omega
  obtain ⟨padded, runsOn, ht, hp, hr⟩ := numTests s k n hk
  have hbad := numBad_at hk hm hn hV
  have hone : Lx.oneNum (s.data.toList.drop k) = if Lx.numBad (s.data.toList.drop k) then none else some (2, [], V, m) := by rw [Lx.oneNum, hm, hV]
  have hp2 : padded = decide (s[k] = 48 ∧ 1 < m) := by
    rw [hp]
    congr 1
    rw [eq_iff_iff]
    exact ⟨fun ⟨x, y⟩ => ⟨x, by omega⟩, fun ⟨x, y⟩ => ⟨x, by omega⟩⟩
  rw [← hp2, ← hr] at hbad
  have hlist : (s.extract k n).data.toList = (s.data.toList.drop k).take m := by rw [← hn, ext_list]
  by_cases hpr : (padded || runsOn) = true
  · have : Lx.oneNum (s.data.toList.drop k) = none := by
      rw [hone, hbad]
      cases padded <;> cases runsOn <;> simp at hpr ⊢
    rw [this]
    exact scanNumber_bad s hs k n hk (by omega) (by omega) (by omega) padded runsOn ht hpr w
  · have h1 : padded = false ∧ runsOn = false := by cases padded <;> cases runsOn <;> simp at hpr ⊢
    rw [h1.1, h1.2] at ht hbad
    have : Lx.oneNum (s.data.toList.drop k) = numV m V := by
      rw [hone, hbad, numV]
      by_cases hle : V ≤ 9223372036854775807
      · rw [if_pos hle, if_neg (by simp; omega)]
      · rw [if_neg hle, if_pos (by simp; omega)]
    rw [this]
    refine scanNumber_good s hs k m n hk (by omega) hn (by omega) (by omega) ht V (fun w he => atoi_says _ (by have := ext_size s k n; omega) ?_ ?_ V (by rw [hlist]; exact hV) w he) w he
    · rw [hlist, drop_at s k hk]
      obtain ⟨m, rfl⟩ : ∃ j, m = j + 1 := ⟨m - 1, by omega⟩
      simp
    · rw [hlist, ← hm]
      exact Lx.runN_all _ _

theorem scanV_form (k : Nat) (o : Option (Nat × List UInt8 × Nat × Nat)) : ∃ (a : Int) (b : ByteArray) (c d e : Int) (f : Bool), scanV k o = .tuple #[.agg #[.int .i64 a, .string b, .int .i64 c, .int .i64 d], .int .i64 e, .bool f] := by
  rcases o with _ | ⟨kind, text, num, m⟩
  · exact ⟨_, _, _, _, _, _, rfl⟩
  · exact ⟨_, _, _, _, _, _, rfl⟩

set_option maxHeartbeats 2000000 in
theorem scan_any (s : ByteArray) (hs : s.size ≤ 6000) (a : Int) (k : Nat) (ha : a = k) (hk : k < s.size) (w : World) (he : Env w) :
    Calls Tryd.prog 19 #[.string s, .int .i64 a] w fun e w' => e = .returned (scanV k (Lx.one (s.data.toList.drop k))) ∧ Below w.heap.size w w' := by
  subst ha
  have he2 := he.below ((Below.refl _ _).alloc (Nat.le_refl _) (.cells #[.int .i64 0, .string ⟨#[]⟩, .int .i64 0, .int .i64 0] 34))
  have hl := letter_any (s[k].toNat : Int)
  have hd := digit_any (s[k].toNat : Int)
  cases hcl : Lx.letB (s[k].toNat : Int)
  · rw [hcl] at hl
    have HL := Lib.hid hl
    cases hcd : Lx.digB (s[k].toNat : Int)
    · rw [hcd] at hd
      have HD := Lib.hid hd
      rw [one_sign_at hk hcl hcd]
      have hcall := scanSign_any s (small_max hs) k k rfl hk _ he2
      obtain ⟨x0, x1, x2, x3, x4, x5, hf⟩ := scanV_form k (Lx.oneSign (s.data.toList.drop k))
      rw [hf] at hcall ⊢
      have HC := Lib.hid hcall
      clear hl hd hcl hcd he he2 hcall hf
      go_enter Tryd.func19, Tryd.ntmps19
      go_wp2_with (first
        | (go_at_call 23; refine (HL.out _).mono ?_; rintro e w' ⟨rfl, rfl⟩)
        | (go_at_call 32; refine (HD.out _).mono ?_; rintro e w' ⟨rfl, rfl⟩)
        | (go_at_call 34; refine HC.out.mono ?_; rintro e w1 ⟨rfl, hb1⟩; obtain ⟨⟨c0, c1, c2, c3⟩, f0, f1, f2, f3⟩ := box4 (box_at hb1)))
      refine bodyPost_ret (v := .tuple #[.agg #[.int .i64 x0, .string x1, .int .i64 x2, .int .i64 x3], .int .i64 x4, .bool x5]) (by simp [results, Tryd.results19, go_sem, c0, c1, c2, c3]) rfl ⟨rfl, ?_⟩
      exact ((((below_box hb1).setCell (Nat.le_refl _) _).setCell (Nat.le_refl _) _).setCell (Nat.le_refl _) _).setCell (Nat.le_refl _) _
    · rw [hcd] at hd
      have HD := Lib.hid hd
      rw [one_num_at hk hcl hcd]
      have hcall := scanNumber_any s hs k k rfl hk hcd _ he2
      obtain ⟨x0, x1, x2, x3, x4, x5, hf⟩ := scanV_form k (Lx.oneNum (s.data.toList.drop k))
      rw [hf] at hcall ⊢
      have HC := Lib.hid hcall
      clear hl hd hcl hcd he he2 hcall hf
      go_enter Tryd.func19, Tryd.ntmps19
      go_wp2_with (first
        | (go_at_call 23; refine (HL.out _).mono ?_; rintro e w' ⟨rfl, rfl⟩)
        | (go_at_call 32; refine (HD.out _).mono ?_; rintro e w' ⟨rfl, rfl⟩)
        | (go_at_call 33; refine HC.out.mono ?_; rintro e w1 ⟨rfl, hb1⟩; obtain ⟨⟨c0, c1, c2, c3⟩, f0, f1, f2, f3⟩ := box4 (box_at hb1)))
      refine bodyPost_ret (v := .tuple #[.agg #[.int .i64 x0, .string x1, .int .i64 x2, .int .i64 x3], .int .i64 x4, .bool x5]) (by simp [results, Tryd.results19, go_sem, c0, c1, c2, c3]) rfl ⟨rfl, ?_⟩
      exact ((((below_box hb1).setCell (Nat.le_refl _) _).setCell (Nat.le_refl _) _).setCell (Nat.le_refl _) _).setCell (Nat.le_refl _) _
  · rw [hcl] at hl
    have HL := Lib.hid hl
    rw [one_word_at hk hcl]
    have hcall := scanWord_any s hs k k rfl hk (w.alloc (.cells #[.int .i64 0, .string ⟨#[]⟩, .int .i64 0, .int .i64 0] 34))
    obtain ⟨x0, x1, x2, x3, x4, x5, hf⟩ := scanV_form k (Lx.oneWord (s.data.toList.drop k))
    rw [hf] at hcall ⊢
    have HC := Lib.hid hcall
    clear hl hd hcl he he2 hcall hf
    go_enter Tryd.func19, Tryd.ntmps19
    go_wp2_with (first
      | (go_at_call 23; refine (HL.out _).mono ?_; rintro e w' ⟨rfl, rfl⟩)
      | (go_at_call 32; refine (HD.out _).mono ?_; rintro e w' ⟨rfl, rfl⟩)
      | (go_at_call 31; refine HC.out.mono ?_; rintro e w1 ⟨rfl, hb1⟩; obtain ⟨⟨c0, c1, c2, c3⟩, f0, f1, f2, f3⟩ := box4 (box_at hb1)))
    refine bodyPost_ret (v := .tuple #[.agg #[.int .i64 x0, .string x1, .int .i64 x2, .int .i64 x3], .int .i64 x4, .bool x5]) (by simp [results, Tryd.results19, go_sem, c0, c1, c2, c3]) rfl ⟨rfl, ?_⟩
    exact ((((below_box hb1).setCell (Nat.le_refl _) _).setCell (Nat.le_refl _) _).setCell (Nat.le_refl _) _).setCell (Nat.le_refl _) _
end Go.Proofs.YtconbldpomjgkaaDoor
