/-
  The walk of LexLong.
-/
import Derived.Test.YtconbldpomjgkaaDoorWalksL
import Derived.Laws.DeepStrings4
namespace Go.Proofs.YtconbldpomjgkaaDoor
open Go.RowKit

theorem cat2 (l m : List UInt8) : bs l ++ bs m = bs (l ++ m) := by
  apply ByteArray.ext
  rw [ByteArray.data_append]
  simp [bs]
def reps (n : Nat) (c : UInt8) : ByteArray := bs (List.replicate n c)
theorem reps_size (n : Nat) (c : UInt8) : (reps n c).size = n := by rw [reps, bs_size, List.length_replicate]
theorem reps_snoc (n : Nat) (c : UInt8) : reps n c ++ bs [c] = reps (n + 1) c := by
  rw [reps, cat2, reps, List.replicate_succ']
theorem reps_cat (n m : Nat) (c : UInt8) : reps n c ++ reps m c = reps (n + m) c := by
  rw [reps, reps, cat2, reps, List.replicate_append_replicate]
theorem reps_cut (n m : Nat) (c : UInt8) (h : m ≤ n) : (reps n c).extract 0 m = reps m c := by
  rw [← bs_of ((reps n c).extract 0 m), show (reps n c).extract 0 m = (reps n c).extract 0 (0 + m) by rw [Nat.zero_add], ext_list]
  rw [reps, bs_list, List.drop_zero, List.take_replicate, Nat.min_eq_left h, reps]

theorem skip_spaces : ∀ n : Nat, Lx.skipS false (List.replicate n 32) = n
  | 0 => rfl
  | n + 1 => by
    rw [List.replicate_succ, Lx.skipS, if_pos (by decide), skip_spaces n]
theorem toks_spaces (n : Nat) (h : n ≤ 6000) : Lx.toks (List.replicate n 32) = ([⟨0, [], 0, n⟩], 0, 0) := by
  have hl : Lx.lexAll (List.replicate n 32) = .ok [] := by
    rw [Lx.lexAll, skip_spaces, List.drop_eq_nil_of_le (by simp), Lx.lexF]
  rw [toks_ok (by simpa using h) hl]
  simp
theorem toks_more (n : Nat) (h : 6000 < n) : Lx.toks (List.replicate n 32) = ([], 4, 0) := toks_long (by simpa using h)

/-- What a blank and n letters, or digits, come to. -/
structure LongSays (n : Nat) (c : UInt8) (most : Nat) (ts : List Lx.Tk) (E K : Nat) : Prop where
  toks : Lx.toks (32 :: List.replicate n c) = (ts, E, K)
  long : most < n → ts = [] ∧ E = 1 ∧ K = 1
  short : n ≤ most → E = 0 ∧ ∃ t u, ts = [t, u] ∧ t.at_ = 1 ∧ u.at_ = n + 1
def longB (n : Nat) (c : UInt8) (most : Nat) : Bool :=
  match Lx.toks (32 :: List.replicate n c) with
  | ([], E, K) => decide (most < n ∧ E = 1 ∧ K = 1)
  | ([t, u], E, _) => decide (n ≤ most ∧ E = 0 ∧ t.at_ = 1 ∧ u.at_ = n + 1)
  | _ => false
theorem longSays (n : Nat) (c : UInt8) (most : Nat) (h : longB n c most = true) : ∃ ts E K, LongSays n c most ts E K := by
  unfold longB at h
  split at h
  · rename_i E K hq
    have h2 := of_decide_eq_true h
    exact ⟨_, _, _, hq, fun _ => ⟨rfl, h2.2⟩, fun h3 => by omega⟩
  · rename_i t u E K hq
    have h2 := of_decide_eq_true h
    exact ⟨_, _, _, hq, fun h3 => by omega, fun _ => ⟨h2.2.1, t, u, rfl, h2.2.2⟩⟩
  · cases h
theorem long_q : ∀ n : Fin 31, 1 ≤ n.val → longB n.val 113 8 = true := by decide +kernel
theorem long_1 : ∀ n : Fin 31, 1 ≤ n.val → longB n.val 49 19 = true := by decide +kernel

theorem box_cells2 {w w1 : World} {a b : Value} {T : TypeId} (hb : Below (w.alloc (.cells #[a, b] T)).heap.size (w.alloc (.cells #[a, b] T)) w1) : (w1.cell? ⟨w.heap.size, 0, none⟩ = some a ∧ w1.cell? ⟨w.heap.size, 1, none⟩ = some b) ∧ w.heap.size < w1.heap.size :=
  ⟨(box2 (box_at hb)).1, (box2 (box_at hb)).2.2⟩

theorem run_neq_fault (a b c d : Int) (v : Bool) (h : (a == c && b == d) = v) (w : World) : (binOp .neq 25 (.agg #[.int .i64 a, .int .i64 b]) (.agg #[.int .i64 c, .int .i64 d])).run Tryd.prog w = .ok (.bool (!v)) w := by
  rw [run_neq_struct, run_equalIn_agg w 9999 _ _ _ (by kernel_rfl) stoodFault, ← h]
  by_cases h1 : a = c <;> by_cases h2 : b = d <;> simp [go_sem, h1, h2]

theorem long_tokens (n : Nat) (c : UInt8) (ts : List Lx.Tk) (E K : Nat) (h : Lx.toks (32 :: List.replicate n c) = (ts, E, K)) (w : World) (he : Env w) (hn : n ≤ 30) :
    Calls Tryd.prog 9 #[.string ({ data := #[32] } ++ reps n c)] w fun e w' => ∃ (A : Option Addr) (cp : Nat), e = .returned (.tuple #[.slice A ts.length cp, .agg #[.int .i64 E, .int .i64 K]]) ∧ Lies w' w'.heap.size A (cellsOf ts) ∧ Below w.heap.size w w' := by
  have e1 : ({ data := #[32] } : ByteArray) ++ reps n c = bs (32 :: List.replicate n c) := cat2 [32] (List.replicate n c)
  rw [e1]
  exact tokens_at _ (by rw [bs_size]; unfold maxLen; simp; omega) ts E K h w he

theorem reps_ten (q : Nat) : reps (10 * q) 32 ++ ({ data := #[32, 32, 32, 32, 32, 32, 32, 32, 32, 32] } : ByteArray) = reps (10 * (q + 1)) 32 := by
  have e : ({ data := #[32, 32, 32, 32, 32, 32, 32, 32, 32, 32] } : ByteArray) = reps 10 32 := rfl
  rw [e, reps_cat]
  congr 1
def strLen (v : Value) : Nat := match v with | .string b => b.size | _ => 0
theorem reps_list (m : Nat) (c : UInt8) : (reps m c).data.toList = List.replicate m c := by rw [reps, bs_list]
theorem cut_ok (q m : Nat) (hq : m ≤ q) (hm : m ≤ 6000) (w : World) (he : Env w) : Calls Tryd.prog 9 #[.string ((reps q 32).extract 0 m)] w fun e w' => ∃ (A : Option Addr) (c : Nat), e = .returned (.tuple #[.slice A 1 c, .agg #[.int .i64 0, .int .i64 0]]) ∧ Below w.heap.size w w' := by
  rw [reps_cut q m 32 hq]
  have hz : (reps m 32).size ≤ maxLen := by rw [reps_size]; unfold maxLen; omega
  exact (tokens_at _ hz [⟨0, [], 0, m⟩] 0 0 (by rw [reps_list]; exact toks_spaces m hm) w he).mono fun _ _ ⟨A, c, h, _, hb⟩ => ⟨A, c, h, hb⟩
theorem cut_more (q m : Nat) (hq : m ≤ q) (hm : 6000 < m) (hm2 : m ≤ 100000) (w : World) (he : Env w) : Calls Tryd.prog 9 #[.string ((reps q 32).extract 0 m)] w fun e w' => ∃ (A : Option Addr) (c : Nat), e = .returned (.tuple #[.slice A 0 c, .agg #[.int .i64 4, .int .i64 0]]) ∧ Below w.heap.size w w' := by
  rw [reps_cut q m 32 hq]
  have hz : (reps m 32).size ≤ maxLen := by rw [reps_size]; unfold maxLen; omega
  exact (tokens_at _ hz [] 4 0 (by rw [reps_list]; exact toks_more m hm) w he).mono fun _ _ ⟨A, c, h, _, hb⟩ => ⟨A, c, h, hb⟩
theorem cell_go {w2 w3 : World} {o : Obj} {a : Addr} {v : Value} (hb : Below (w2.alloc o).heap.size (w2.alloc o) w3) (h : w2.cell? a = some v) : w3.cell? a = some v := by
  have hlt : a.block < w2.heap.size := World.block_lt_of_cell? w2 a h
  rw [(below_box hb).cell hlt]; exact h

set_option maxHeartbeats 2000000 in
theorem long_at (n : Nat) (b : Bool) (c : UInt8) (most : Nat) (hb : c = if b then 49 else 113) (hmost : most = if b then 19 else 8) (hn1 : 1 ≤ n) (hn : n ≤ 30) (ts : List Lx.Tk) (E K : Nat) (hS : LongSays n c most ts E K) (w : World) (he : Env w) :
    Calls Tryd.prog 6 #[.int .i64 n, .bool b] w fun e w' => e = .returned (.bool true) ∧ Below w.heap.size w w' := by
  have HE := Lib.hid he
  have HS := Lib.hid hS
  have hni : (1 : Int) ≤ (n : Int) := by omega
  have hni2 : (n : Int) ≤ 30 := by omega
  clear he hS
  cases b
  · obtain rfl : c = 113 := hb
    obtain rfl : most = 8 := hmost
    go_enter Tryd.func6, Tryd.ntmps6
    go_wp2
    go_loop [5, 6] (fun s i => ∃ j : Nat, j ≤ n ∧ i = .int .i64 j ∧ s = .string (reps j 113)) (fun _ i => n - (intOf i).toNat)
    case atStart => exact ⟨0, by omega, rfl, rfl⟩
    case round =>
      obtain ⟨j, hj, rfl, rfl⟩ := hrel
      have hs1 : (reps j 113).size + 1 ≤ 9223372036854775807 := by rw [reps_size]; omega
      have hs2 : 1 + (reps j 113).size ≤ 9223372036854775807 := by rw [reps_size]; omega
      by_cases hlt : j < n
      · have hli : (j : Int) < (n : Int) := by omega
        go_wp2
        refine ⟨⟨j + 1, by omega, by go_num, congrArg Value.string (reps_snoc j 113)⟩, ?_⟩
        simp [intOf]
        omega
      · obtain rfl : j = n := by omega
        go_wp2_with fail
        refine (long_tokens j 113 ts E K HS.out.toks w HE.out hn).mono ?_
        rintro e w1 ⟨A, cp, rfl, hl1, hb1⟩
        have HL1 := Lib.hid hl1
        clear hl1
        go_wp2
        go_loop [10, 11] (fun s i => ∃ q : Nat, q ≤ 11 ∧ i = .int .i64 q ∧ s = .string (reps (10 * q) 32)) (fun _ i => 11 - (intOf i).toNat)
        case atStart => exact ⟨0, by omega, rfl, rfl⟩
        case round =>
          obtain ⟨q, hq, rfl, rfl⟩ := hrel
          have hs3 : (reps (10 * q) 32).size + 10 ≤ 9223372036854775807 := by rw [reps_size]; omega
          by_cases hlq : q < 11
          · have hlqi : (q : Int) < 11 := by omega
            go_wp2
            refine ⟨⟨q + 1, by omega, by go_num, congrArg Value.string (reps_ten q)⟩, ?_⟩
            simp [intOf]
            omega
          · obtain rfl : q = 11 := by omega
            clear hs3
            go_wp2
            go_loop [10] (fun s => ∃ q : Nat, (q = 110 ∨ q = 220 ∨ q = 440 ∨ q = 880 ∨ q = 1760 ∨ q = 3520 ∨ q = 7040) ∧ s = .string (reps q 32)) (fun s => 7040 - strLen s)
            case atStart => exact ⟨110, by omega, rfl⟩
            case round =>
              obtain ⟨q, hq, rfl⟩ := hrel
              by_cases hq7 : q = 7040
              · have HQ7 := Lib.hid hq7
                have hs4 : 6000 < (reps q 32).size := by rw [reps_size]; omega
                have hs5 : (6000 : Int) ≤ ((reps q 32).size : Int) := by rw [reps_size]; omega
                have hs6 : (6001 : Int) ≤ ((reps q 32).size : Int) := by rw [reps_size]; omega
                have hw1 : Below w.heap.size w (w1.alloc (.cells #[.int .i64 E, .int .i64 K] 25)) := hb1.alloc hb1.size _
                clear hq hq7
                go_wp2_with fail
                refine (cut_ok q 6000 (by have := HQ7.out; omega) (by omega) _ (HE.out.below hw1)).mono ?_
                rintro e w2 ⟨A2, cp2, rfl, hb2⟩
                have hw2 : Below w.heap.size w (w2.alloc (.cells #[.int .i64 0, .int .i64 0] 25)) := (below_go hw1 hb2).alloc (below_go hw1 hb2).size _
                go_wp2_with fail
                refine (cut_more q 6001 (by have := HQ7.out; omega) (by omega) (by omega) _ (HE.out.below hw2)).mono ?_
                rintro e w3 ⟨A3, cp3, rfl, hb3⟩
                have hw3 : Below w.heap.size w (w3.alloc (.cells #[.int .i64 4, .int .i64 0] 25)) := (below_go hw2 hb3).alloc (below_go hw2 hb3).size _
                obtain ⟨⟨f0, f1⟩, fz⟩ := box_cells2 hb2
                obtain ⟨⟨g0, g1⟩, gz⟩ := box_cells2 hb3
                have f0' := cell_go hb3 f0
                have f1' := cell_go hb3 f1
                have fz' : w1.heap.size < w3.heap.size := by omega
                have hG := eqGuardFault
                have hN := run_neq_fault 4 0 4 0 true (by simp)
                by_cases hlm : 8 < j
                · obtain ⟨rfl, rfl, rfl⟩ := HS.out.long hlm
                  have hlmi : (8 : Int) < (j : Int) := by omega
                  have hE := run_eql_fault 1 1 1 1 true (by simp)
                  clear f0 f1
                  go_wp2_with (go_at_call 12; refine (known_true _ (HE.out.below hw3)).mono ?_; rintro e w4 ⟨rfl, hb4⟩)
                  go_ret
                  exact ⟨rfl, below_go hw3 hb4⟩
                · obtain ⟨rfl, t, u, rfl, ht, hu⟩ := HS.out.short (by omega)
                  obtain ⟨g, rfl, hg, hc⟩ := HL1.out (by simp [cellsOf, tokCells])
                  have t0 := hc 3 _ rfl
                  have u0 := hc 7 _ rfl
                  rw [ht] at t0
                  rw [hu] at u0
                  have t1 := cell_go hb3 (cell_go hb2 t0)
                  have u1 := cell_go hb3 (cell_go hb2 u0)
                  have gz1 : g < w3.heap.size := by omega
                  have hlmi : (j : Int) ≤ 8 := by omega
                  have hji : (((j + 1 : Nat) : Int) == (j : Int) + 1) = true := beq_iff_eq.2 (by omega)
                  clear f0 f1 hc t0 u0 ht hu
                  go_wp2_with (go_at_call 12; refine (known_true _ (HE.out.below hw3)).mono ?_; rintro e w4 ⟨rfl, hb4⟩)
                  go_ret
                  exact ⟨rfl, below_go hw3 hb4⟩
              · have hs4 : (reps q 32).size ≤ 6000 := by rw [reps_size]; omega
                have hs7 : (reps q 32).size + (reps q 32).size ≤ 9223372036854775807 := by rw [reps_size]; omega
                have hq' : q = 110 ∨ q = 220 ∨ q = 440 ∨ q = 880 ∨ q = 1760 ∨ q = 3520 := by omega
                have HQ := Lib.hid hq'
                clear hq hq7 hq'
                go_wp2
                refine ⟨⟨q + q, by have := HQ.out; omega, congrArg Value.string (reps_cat q q 32)⟩, ?_⟩
                have := HQ.out
                simp [strLen, reps_cat, reps_size]
                omega
  · obtain rfl : c = 49 := hb
    obtain rfl : most = 19 := hmost
    go_enter Tryd.func6, Tryd.ntmps6
    go_wp2
    go_loop [5, 6] (fun s i => ∃ j : Nat, j ≤ n ∧ i = .int .i64 j ∧ s = .string (reps j 49)) (fun _ i => n - (intOf i).toNat)
    case atStart => exact ⟨0, by omega, rfl, rfl⟩
    case round =>
      obtain ⟨j, hj, rfl, rfl⟩ := hrel
      have hs1 : (reps j 49).size + 1 ≤ 9223372036854775807 := by rw [reps_size]; omega
      have hs2 : 1 + (reps j 49).size ≤ 9223372036854775807 := by rw [reps_size]; omega
      by_cases hlt : j < n
      · have hli : (j : Int) < (n : Int) := by omega
        go_wp2
        refine ⟨⟨j + 1, by omega, by go_num, congrArg Value.string (reps_snoc j 49)⟩, ?_⟩
        simp [intOf]
        omega
      · obtain rfl : j = n := by omega
        go_wp2_with fail
        refine (long_tokens j 49 ts E K HS.out.toks w HE.out hn).mono ?_
        rintro e w1 ⟨A, cp, rfl, hl1, hb1⟩
        have HL1 := Lib.hid hl1
        clear hl1
        go_wp2
        go_loop [10, 11] (fun s i => ∃ q : Nat, q ≤ 11 ∧ i = .int .i64 q ∧ s = .string (reps (10 * q) 32)) (fun _ i => 11 - (intOf i).toNat)
        case atStart => exact ⟨0, by omega, rfl, rfl⟩
        case round =>
          obtain ⟨q, hq, rfl, rfl⟩ := hrel
          have hs3 : (reps (10 * q) 32).size + 10 ≤ 9223372036854775807 := by rw [reps_size]; omega
          by_cases hlq : q < 11
          · have hlqi : (q : Int) < 11 := by omega
            go_wp2
            refine ⟨⟨q + 1, by omega, by go_num, congrArg Value.string (reps_ten q)⟩, ?_⟩
            simp [intOf]
            omega
          · obtain rfl : q = 11 := by omega
            clear hs3
            go_wp2
            go_loop [10] (fun s => ∃ q : Nat, (q = 110 ∨ q = 220 ∨ q = 440 ∨ q = 880 ∨ q = 1760 ∨ q = 3520 ∨ q = 7040) ∧ s = .string (reps q 32)) (fun s => 7040 - strLen s)
            case atStart => exact ⟨110, by omega, rfl⟩
            case round =>
              obtain ⟨q, hq, rfl⟩ := hrel
              by_cases hq7 : q = 7040
              · have HQ7 := Lib.hid hq7
                have hs4 : 6000 < (reps q 32).size := by rw [reps_size]; omega
                have hs5 : (6000 : Int) ≤ ((reps q 32).size : Int) := by rw [reps_size]; omega
                have hs6 : (6001 : Int) ≤ ((reps q 32).size : Int) := by rw [reps_size]; omega
                have hw1 : Below w.heap.size w (w1.alloc (.cells #[.int .i64 E, .int .i64 K] 25)) := hb1.alloc hb1.size _
                clear hq hq7
                go_wp2_with fail
                refine (cut_ok q 6000 (by have := HQ7.out; omega) (by omega) _ (HE.out.below hw1)).mono ?_
                rintro e w2 ⟨A2, cp2, rfl, hb2⟩
                have hw2 : Below w.heap.size w (w2.alloc (.cells #[.int .i64 0, .int .i64 0] 25)) := (below_go hw1 hb2).alloc (below_go hw1 hb2).size _
                go_wp2_with fail
                refine (cut_more q 6001 (by have := HQ7.out; omega) (by omega) (by omega) _ (HE.out.below hw2)).mono ?_
                rintro e w3 ⟨A3, cp3, rfl, hb3⟩
                have hw3 : Below w.heap.size w (w3.alloc (.cells #[.int .i64 4, .int .i64 0] 25)) := (below_go hw2 hb3).alloc (below_go hw2 hb3).size _
                obtain ⟨⟨f0, f1⟩, fz⟩ := box_cells2 hb2
                obtain ⟨⟨g0, g1⟩, gz⟩ := box_cells2 hb3
                have f0' := cell_go hb3 f0
                have f1' := cell_go hb3 f1
                have fz' : w1.heap.size < w3.heap.size := by omega
                have hG := eqGuardFault
                have hN := run_neq_fault 4 0 4 0 true (by simp)
                by_cases hlm : 19 < j
                · obtain ⟨rfl, rfl, rfl⟩ := HS.out.long hlm
                  have hlmi : (19 : Int) < (j : Int) := by omega
                  have hE := run_eql_fault 1 1 1 1 true (by simp)
                  clear f0 f1
                  go_wp2_with (go_at_call 12; refine (known_true _ (HE.out.below hw3)).mono ?_; rintro e w4 ⟨rfl, hb4⟩)
                  go_ret
                  exact ⟨rfl, below_go hw3 hb4⟩
                · obtain ⟨rfl, t, u, rfl, ht, hu⟩ := HS.out.short (by omega)
                  obtain ⟨g, rfl, hg, hc⟩ := HL1.out (by simp [cellsOf, tokCells])
                  have t0 := hc 3 _ rfl
                  have u0 := hc 7 _ rfl
                  rw [ht] at t0
                  rw [hu] at u0
                  have t1 := cell_go hb3 (cell_go hb2 t0)
                  have u1 := cell_go hb3 (cell_go hb2 u0)
                  have gz1 : g < w3.heap.size := by omega
                  have hlmi : (j : Int) ≤ 19 := by omega
                  have hji : (((j + 1 : Nat) : Int) == (j : Int) + 1) = true := beq_iff_eq.2 (by omega)
                  clear f0 f1 hc t0 u0 ht hu
                  go_wp2_with (go_at_call 12; refine (known_true _ (HE.out.below hw3)).mono ?_; rintro e w4 ⟨rfl, hb4⟩)
                  go_ret
                  exact ⟨rfl, below_go hw3 hb4⟩
              · have hs4 : (reps q 32).size ≤ 6000 := by rw [reps_size]; omega
                have hs7 : (reps q 32).size + (reps q 32).size ≤ 9223372036854775807 := by rw [reps_size]; omega
                have hq' : q = 110 ∨ q = 220 ∨ q = 440 ∨ q = 880 ∨ q = 1760 ∨ q = 3520 := by omega
                have HQ := Lib.hid hq'
                clear hq hq7 hq'
                go_wp2
                refine ⟨⟨q + q, by have := HQ.out; omega, congrArg Value.string (reps_cat q q 32)⟩, ?_⟩
                have := HQ.out
                simp [strLen, reps_cat, reps_size]
                omega

set_option maxHeartbeats 1000000 in
theorem lexLong_walk (n : Int) (b : Bool) (_ : -9223372036854775808 ≤ n ∧ n ≤ 9223372036854775807) (w : World) (he : Env w) :
    Calls Tryd.prog 6 #[.int .i64 n, .bool b] w fun e w' => e = .returned (.bool true) ∧ Below w.heap.size w w' := by
  by_cases h : 1 ≤ n ∧ n ≤ 30
  · obtain ⟨m, rfl⟩ : ∃ m : Nat, n = m := ⟨n.toNat, by omega⟩
    cases b
    · obtain ⟨ts, E, K, hS⟩ := longSays m 113 8 (long_q ⟨m, by omega⟩ (by show 1 ≤ m; omega))
      exact long_at m false 113 8 rfl rfl (by omega) (by omega) ts E K hS w he
    · obtain ⟨ts, E, K, hS⟩ := longSays m 49 19 (long_1 ⟨m, by omega⟩ (by show 1 ≤ m; omega))
      exact long_at m true 49 19 rfl rfl (by omega) (by omega) ts E K hS w he
  · clear he
    by_cases h1 : n < 1
    · clear h
      go_enter Tryd.func6, Tryd.ntmps6
      go_wp2
      go_ret
      exact ⟨rfl, Below.refl _ _⟩
    · have h2 : 30 < n := by omega
      have h3 : 1 ≤ n := by omega
      clear h h1
      go_enter Tryd.func6, Tryd.ntmps6
      go_wp2
      go_ret
      exact ⟨rfl, Below.refl _ _⟩
end Go.Proofs.YtconbldpomjgkaaDoor
