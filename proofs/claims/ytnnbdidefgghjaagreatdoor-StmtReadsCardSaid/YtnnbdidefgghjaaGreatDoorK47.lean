/-
  The walks of StmtReads and StmtRaw.
-/
import Derived.Test.YtnnbdidefgghjaaGreatDoorK43
import Derived.Test.YtnnbdidefgghjaaGreatDoorK45
import Derived.Test.YtnnbdidefgghjaaGreatDoorK46
namespace Go.Proofs.YtnnbdidefgghjaaGreatDoor
open Go.RowKit
open Px (RT tokAt)
open Pe
open Ps (Sm PX)

set_option maxRecDepth 8000 in
set_option maxHeartbeats 4000000 in
theorem stmtReads_walk (s : ByteArray) (k o : Int) (hs : s.size ≤ maxLen) (_ : -9223372036854775808 ≤ k ∧ k ≤ 9223372036854775807) (_ : -9223372036854775808 ≤ o ∧ o ≤ 9223372036854775807) (w : World) (hops : OpsIn w) :
    Calls Tryz.prog 3 #[.string s, .int .i64 k, .int .i64 o] w fun e w' => e = .returned (.bool true) ∧ Below w.heap.size w w' := by
  obtain ⟨us, E, K, htk⟩ : ∃ us E K, Ln.Lx.toks s.data.toList = (us, E, K) := ⟨_, _, _, rfl⟩
  have hlen : us.length ≤ 6001 := by have := Ln.Lx.toks_len s.data.toList; rw [htk] at this; exact this
  have hsh : ∀ t ∈ us, t.text.length ≤ 281474976710656 := by have := toks_text s.data.toList; rw [htk] at this; exact this
  have HTK := Lib.hid (tokens_are s hs us E K htk w)
  have HOP := Lib.hid hops
  have HLEN := Lib.hid hlen
  have HSH := Lib.hid hsh
  clear htk hlen hsh hops
  by_cases h1 : 2000 < s.size
  · go_enter Tryz.func3, Tryz.ntmps3
    go_wp2_with fail
    refine HTK.out.mono ?_
    rintro e w1 ⟨A, c, rfl, hl1, hb1⟩
    clear hl1
    go_wp2_with fail
    go_ret
    exact ⟨rfl, bl_alloc hb1⟩
  · have h1' : s.size ≤ 2000 := by omega
    clear h1
    by_cases hE : E = 0
    · subst hE
      go_enter Tryz.func3, Tryz.ntmps3
      go_wp2_with fail
      refine HTK.out.mono ?_
      rintro e w1 ⟨A, c, rfl, hl1, hb1⟩
      have HT := Lib.hid (((toks_of (c := c) hl1 HSH.out).below ((Below.refl w1.heap.size w1).alloc (Nat.le_refl _) (.cells #[.int .i64 ((0 : Nat) : Int), .int .i64 (K : Int)] 25))).re (Nat.le_refl _))
      have HB := Lib.hid (bl_alloc (o := .cells #[.int .i64 ((0 : Nat) : Int), .int .i64 (K : Int)] 25) hb1)
      clear hl1 hb1
      go_wp2_with fail
      refine (held4_any _ _ _ _ k o HT.out (ops_below HOP.out HB.out) (by rw [List.length_map]; have := HLEN.out; omega)).mono ?_
      rintro e w2 ⟨rfl, hb2⟩
      have HB2 := Lib.hid (below_seq HB.out hb2 HB.out.size)
      clear hb2
      go_wp2_with fail
      refine (known4_any _ (ops_below HOP.out HB2.out)).mono ?_
      rintro e w3 ⟨rfl, hb3⟩
      go_wp2_with fail
      go_ret
      exact ⟨rfl, below_seq HB2.out hb3 HB2.out.size⟩
    · have hE2 : ((E : Int) != 0) = true := by rw [bne_iff_ne]; omega
      have hE3 : (E != 0) = true := by rw [bne_iff_ne]; exact hE
      go_enter Tryz.func3, Tryz.ntmps3
      go_wp2_with fail
      refine HTK.out.mono ?_
      rintro e w1 ⟨A, c, rfl, hl1, hb1⟩
      clear hl1
      go_wp2_with fail
      go_ret
      exact ⟨rfl, bl_alloc hb1⟩

set_option maxRecDepth 8000 in
set_option maxHeartbeats 4000000 in
theorem stmtRaw_walk (S : Value) (k o : Int) (_ : -9223372036854775808 ≤ k ∧ k ≤ 9223372036854775807) (_ : -9223372036854775808 ≤ o ∧ o ≤ 9223372036854775807) (w : World) (hops : OpsIn w) (ts : List RT) (h : Toks w w.heap.size S ts) :
    Calls Tryz.prog 4 #[S, .int .i64 k, .int .i64 o] w fun e w' => e = .returned (.bool true) ∧ Below w.heap.size w w' := by
  obtain ⟨p, n, c, hS, hn, -⟩ := h.val
  have HN := Lib.hid hn
  have HD := Lib.hid (fun (hl : ts.length ≤ 90000000) => held4_any w w.heap.size S ts k o h hops hl)
  have HK := Lib.hid (fun w1 (hb : Below w.heap.size w w1) => known4_any w1 (ops_below hops hb))
  subst hS
  clear h hops hn
  by_cases h1 : 60 < n
  · go_enter Tryz.func4, Tryz.ntmps4
    go_wp2_with fail
    go_ret
    exact ⟨rfl, Below.refl _ _⟩
  · have h1' : n ≤ 60 := by omega
    clear h1
    go_enter Tryz.func4, Tryz.ntmps4
    go_wp2_with fail
    refine (HD.out (by rw [HN.out]; omega)).mono ?_
    rintro en w3 ⟨rfl, hb4⟩
    have HB4 := Lib.hid hb4
    clear hb4
    go_wp2_with fail
    refine (HK.out _ HB4.out).mono ?_
    rintro en w4 ⟨rfl, hb5⟩
    go_wp2_with fail
    go_ret
    exact ⟨rfl, below_seq HB4.out hb5 HB4.out.size⟩
end Go.Proofs.YtnnbdidefgghjaaGreatDoor
