/-
  The walks of the laws of lex: LexTokens, LexWords.
-/
import Derived.Test.YtconbldpomjgkaaDoorKnown
namespace Go.Proofs.YtconbldpomjgkaaDoor
open Go.RowKit

theorem tokens_at (s : ByteArray) (hs : s.size ≤ maxLen) (ts : List Lx.Tk) (E K : Nat) (h : Lx.toks s.data.toList = (ts, E, K)) (w : World) (he : Env w) :
    Calls Tryd.prog 9 #[.string s] w fun e w' => ∃ (A : Option Addr) (c : Nat), e = .returned (.tuple #[.slice A ts.length c, .agg #[.int .i64 E, .int .i64 K]]) ∧ Lies w' w'.heap.size A (cellsOf ts) ∧ Below w.heap.size w w' :=
  (tokens_any s hs w he).mono fun _ _ hT => by
    unfold TokRes at hT
    rw [h] at hT
    exact hT
theorem refTokens_at (s : ByteArray) (hs : s.size ≤ maxLen) (ts : List Lx.Tk) (E K : Nat) (h : Lx.toks s.data.toList = (ts, E, K)) (w : World) :
    Calls Tryd.prog 10 #[.string s] w fun e w' => ∃ (A : Option Addr) (c : Nat), e = .returned (.tuple #[.slice A ts.length c, .agg #[.int .i64 E, .int .i64 K]]) ∧ Lies w' w'.heap.size A (cellsOf ts) ∧ Below w.heap.size w w' :=
  (refTokens_any s hs w).mono fun _ _ hT => by
    unfold TokRes at hT
    rw [h] at hT
    exact hT
theorem same_true (w : World) (A B : Option Addr) (c d : Nat) (ts : List Lx.Tk) (ha : Lies w w.heap.size A (cellsOf ts)) (hb : Lies w w.heap.size B (cellsOf ts)) (hl : ts.length ≤ 6001) :
    Calls Tryd.prog 11 #[.slice A ts.length c, .slice B ts.length d] w fun e w' => e = .returned (.bool true) ∧ ∃ n, w' = w.drewN n :=
  (same_any w A B c d ts ts w.heap.size ha hb (by omega)).mono fun _ _ ⟨he, hw⟩ => ⟨by rw [he, decide_eq_true rfl], hw⟩

theorem eqGuardFault : Tryd.prog.eqGuardType Tryd.prog.depth 25 = false := by kernel_rfl
theorem stoodFault : Tryd.prog.stoodInHeld 25 = false := by kernel_rfl
theorem run_eql_fault (a b c d : Int) (v : Bool) (h : (a == c && b == d) = v) (w : World) : (binOp .eql 25 (.agg #[.int .i64 a, .int .i64 b]) (.agg #[.int .i64 c, .int .i64 d])).run Tryd.prog w = .ok (.bool v) w := by
  rw [run_eql_struct, run_equalIn_agg w 9999 _ _ _ (by kernel_rfl) stoodFault, ← h]
  by_cases h1 : a = c <;> by_cases h2 : b = d <;> simp [go_sem, h1, h2]

set_option maxHeartbeats 1000000 in
theorem lexTokens_walk (s : ByteArray) (hs : s.size ≤ maxLen) (w : World) (he : Env w) :
    Calls Tryd.prog 3 #[.string s] w fun e w' => e = .returned (.bool true) ∧ Below w.heap.size w w' := by
  by_cases h7 : 7000 < s.size
  · go_enter Tryd.func3, Tryd.ntmps3
    go_wp2
    go_ret
    exact ⟨rfl, Below.refl _ _⟩
  · have h7' : s.size ≤ 7000 := by omega
    obtain ⟨ts, E, K, htk⟩ : ∃ ts E K, Lx.toks s.data.toList = (ts, E, K) := ⟨_, _, _, rfl⟩
    have hlen : ts.length ≤ 6001 := by have := Lx.toks_len s.data.toList; rw [htk] at this; exact this
    have HTK := Lib.hid htk
    have HE := Lib.hid he
    clear htk he
    go_enter Tryd.func3, Tryd.ntmps3
    go_wp2_with fail
    refine (tokens_at s hs ts E K HTK.out w HE.out).mono ?_
    rintro e w1 ⟨A, c, rfl, hl1, hb1⟩
    have HL1 := Lib.hid hl1
    clear hl1
    go_wp2_with fail
    refine (refTokens_at s hs ts E K HTK.out _).mono ?_
    rintro e w2 ⟨B, d, rfl, hl2, hb2⟩
    have HL2 := Lib.hid hl2
    clear hl2
    obtain ⟨⟨d0, d1⟩, ⟨g0, g1⟩, hz⟩ := box2 (box_at hb2)
    go_wp2_with fail
    refine (same_true _ A B c d ts ?_ ?_ hlen).mono ?_
    · exact ((HL1.out.below (below_box hb2)).below ((Below.refl _ _).alloc (below_box hb2).size _)).mono (by have := (below_box hb2).size; simp; omega)
    · exact (HL2.out.below ((Below.refl _ _).alloc (Nat.le_refl _) _)).mono (by simp)
    rintro e w3 ⟨rfl, n, rfl⟩
    have hbel : Below w.heap.size w ((w2.alloc (.cells #[.int .i64 E, .int .i64 K] 25)).drewN n) :=
      below_drawn ((below_go hb1 (below_box hb2)).alloc (below_go hb1 (below_box hb2)).size _) n
    have hG := eqGuardFault
    have hE := run_eql_fault E K E K true (by simp)
    go_wp2_with fail
    refine (known_true _ (HE.out.below hbel)).mono ?_
    rintro e w4 ⟨rfl, hb4⟩
    go_wp2_with fail
    go_ret
    exact ⟨rfl, below_go hbel hb4⟩

set_option maxHeartbeats 1000000 in
theorem lexWords_walk (s : ByteArray) (hs : s.size ≤ maxLen) (w : World) (he : Env w) :
    Calls Tryd.prog 4 #[.string s] w fun e w' => e = .returned (.bool true) ∧ Below w.heap.size w w' := by
  have HE := Lib.hid he
  clear he
  by_cases h3 : 300 < s.size
  · go_enter Tryd.func4, Tryd.ntmps4
    go_wp2
    go_ret
    exact ⟨rfl, Below.refl _ _⟩
  · have h3' : s.size ≤ 300 := by omega
    have h1 := word_any s
    have h2 := refWord_any s
    have h4 := name_any s hs
    have h5 := refName_any s hs
    generalize Lx.isWord s.data.toList = b1 at h1 h2
    generalize Lx.isName s.data.toList = b2 at h4 h5
    have H1 := Lib.hid h1
    have H2 := Lib.hid h2
    have H4 := Lib.hid h4
    have H5 := Lib.hid h5
    clear h1 h2 h4 h5
    go_enter Tryd.func4, Tryd.ntmps4
    go_wp2_with (first
      | (go_at_call 13; refine (H1.out _).mono ?_; rintro e w' ⟨rfl, rfl⟩)
      | (go_at_call 14; refine (H2.out _).mono ?_; rintro e w1 ⟨rfl, hb1⟩)
      | (go_at_call 15; refine (H4.out _).mono ?_; rintro e w' ⟨rfl, rfl⟩)
      | (go_at_call 16; refine (H5.out _).mono ?_; rintro e w2 ⟨rfl, hb2⟩)
      | (go_at_call 12; refine (known_true _ (HE.out.below (below_go hb1 hb2))).mono ?_; rintro e w3 ⟨rfl, hb3⟩))
    go_ret
    exact ⟨rfl, below_go (below_go hb1 hb2) hb3⟩
end Go.Proofs.YtconbldpomjgkaaDoor
