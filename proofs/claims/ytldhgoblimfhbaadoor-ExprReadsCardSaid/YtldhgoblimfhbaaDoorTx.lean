/-
  A token's text is no longer than the text; the walk of ExprReads.
-/
import Derived.Test.YtldhgoblimfhbaaDoorHd
import Derived.Test.YtldhgoblimfhbaaDoorKn
import Derived.Test.YtldhgoblimfhbaaDoorLaidE
namespace Go.Proofs.YtldhgoblimfhbaaDoor
open Go.RowKit
open Px (RT tokAt)
open Pe

theorem one_text {r : List UInt8} {kind : Nat} {text : List UInt8} {num m : Nat} (h : Ln.Lx.one r = some (kind, text, num, m)) : text.length ≤ r.length := by
  unfold Ln.Lx.one at h
  split at h
  · cases h
  · rename_i c r'
    split at h
    · split at h
      · simp only [Option.some.injEq, Prod.mk.injEq] at h
        rw [← h.2.1, List.length_take]; omega
      · split at h
        · simp only [Option.some.injEq, Prod.mk.injEq] at h
          rw [← h.2.1, List.length_take]; omega
        · cases h
    · split at h
      · split at h
        · cases h
        · simp only [Option.some.injEq, Prod.mk.injEq] at h
          rw [← h.2.1]; exact Nat.zero_le _
      · split at h
        · cases h
        · rename_i g hg
          simp only [Option.some.injEq, Prod.mk.injEq] at h
          have := Ln.Lx.signAt_le hg
          rw [← h.2.1]; exact this
theorem lexF_text : ∀ (f k : Nat) (r : List UInt8) (ts : List Ln.Lx.Tk), Ln.Lx.lexF f k r = .ok ts → ∀ t ∈ ts, t.text.length ≤ r.length
  | 0, _, _, _, h => by simp [Ln.Lx.lexF] at h
  | f + 1, k, [], ts, h => by
    simp only [Ln.Lx.lexF] at h
    injection h with h
    rw [← h]; intro t ht; cases ht
  | f + 1, k, c :: r, ts, h => by
    rw [Ln.Lx.lexF] at h
    split at h
    · cases h
    · rename_i kind text num m h1
      have hm := one_text h1
      split at h
      · cases h
      · rename_i us hu
        have := lexF_text f _ _ us hu
        injection h with h
        rw [← h]
        intro t ht
        rcases List.mem_cons.1 ht with rfl | ht
        · exact hm
        · have := this t ht
          rw [List.length_drop] at this
          omega
theorem toks_text (l : List UInt8) : ∀ t ∈ (Ln.Lx.toks l).1, t.text.length ≤ 281474976710656 := by
  unfold Ln.Lx.toks
  by_cases h : 6000 < l.length
  · rw [if_pos h]; intro t ht; cases ht
  · rw [if_neg h]
    cases h2 : Ln.Lx.lexAll l with
    | error k => intro t ht; cases ht
    | ok ts =>
      intro t ht
      rcases List.mem_append.1 ht with ht | ht
      · have := lexF_text _ _ _ ts h2 t ht
        rw [List.length_drop] at this
        omega
      · rw [List.mem_singleton] at ht
        subst ht
        exact Nat.zero_le _

set_option maxRecDepth 8000 in
set_option maxHeartbeats 4000000 in
theorem exprReads_walk (s : ByteArray) (k o : Int) (hs : s.size ≤ maxLen) (_ : -9223372036854775808 ≤ k ∧ k ≤ 9223372036854775807) (_ : -9223372036854775808 ≤ o ∧ o ≤ 9223372036854775807) (w : World) (hops : OpsIn w) :
    Calls Tryd.prog 3 #[.string s, .int .i64 k, .int .i64 o] w fun e w' => e = .returned (.bool true) ∧ Below w.heap.size w w' := by
  obtain ⟨us, E, K, htk⟩ : ∃ us E K, Ln.Lx.toks s.data.toList = (us, E, K) := ⟨_, _, _, rfl⟩
  have hlen : us.length ≤ 6001 := by have := Ln.Lx.toks_len s.data.toList; rw [htk] at this; exact this
  have hsh : ∀ t ∈ us, t.text.length ≤ 281474976710656 := by have := toks_text s.data.toList; rw [htk] at this; exact this
  have HTK := Lib.hid (tokens_are s hs us E K htk w)
  have HOP := Lib.hid hops
  have HLEN := Lib.hid hlen
  have HSH := Lib.hid hsh
  clear htk hlen hsh hops
  by_cases h1 : 2000 < s.size
  · go_enter Tryd.func3, Tryd.ntmps3
    go_wp2_with fail
    refine HTK.out.mono ?_
    rintro e w1 ⟨A, c, rfl, hl1, hb1⟩
    clear hl1
    go_wp2_with fail
    go_ret
    exact ⟨rfl, bl_alloc hb1⟩
  · have h1' : s.size ≤ 2000 := by omega
    clear h1
    by_cases hE : E = 0
    · subst hE
      go_enter Tryd.func3, Tryd.ntmps3
      go_wp2_with fail
      refine HTK.out.mono ?_
      rintro e w1 ⟨A, c, rfl, hl1, hb1⟩
      have HT := Lib.hid (((toks_of (c := c) hl1 HSH.out).below ((Below.refl w1.heap.size w1).alloc (Nat.le_refl _) (.cells #[.int .i64 ((0 : Nat) : Int), .int .i64 (K : Int)] 25))).re (Nat.le_refl _))
      have HB := Lib.hid (bl_alloc (o := .cells #[.int .i64 ((0 : Nat) : Int), .int .i64 (K : Int)] 25) hb1)
      clear hl1 hb1
      go_wp2_with fail
      refine (held_any _ _ _ _ k o HT.out (HOP.out.below HB.out) (by rw [List.length_map]; have := HLEN.out; omega)).mono ?_
      rintro e w2 ⟨rfl, hb2⟩
      have HB2 := Lib.hid (below_seq HB.out hb2 HB.out.size)
      clear hb2
      go_wp2_with fail
      refine (known_any _ (HOP.out.below HB2.out)).mono ?_
      rintro e w3 ⟨rfl, hb3⟩
      go_wp2_with fail
      go_ret
      exact ⟨rfl, below_seq HB2.out hb3 HB2.out.size⟩
    · have hE2 : ((E : Int) != 0) = true := by rw [bne_iff_ne]; omega
      have hE3 : (E != 0) = true := by rw [bne_iff_ne]; exact hE
      go_enter Tryd.func3, Tryd.ntmps3
      go_wp2_with fail
      refine HTK.out.mono ?_
      rintro e w1 ⟨A, c, rfl, hl1, hb1⟩
      clear hl1
      go_wp2_with fail
      go_ret
      exact ⟨rfl, bl_alloc hb1⟩
end Go.Proofs.YtldhgoblimfhbaaDoor
