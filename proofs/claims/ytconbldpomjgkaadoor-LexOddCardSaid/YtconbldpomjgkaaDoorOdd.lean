/-
  The walk of LexOdd.
-/
import Derived.Test.YtconbldpomjgkaaDoorWalksL
import Derived.StillTailTactics
namespace Go.Proofs.YtconbldpomjgkaaDoor
open Go.RowKit

theorem odd_cell {w w1 : World} {L A : Array Value} {S I : TypeId} (hb : Below ((w.alloc (.cells L S)).alloc (.cells A I)).heap.size ((w.alloc (.cells L S)).alloc (.cells A I)) w1) (j : Nat) : w1.cell? ⟨w.heap.size + 1, j, none⟩ = A[j]? := by
  have h : w1.heap[w.heap.size + 1]? = some (.cells A I (0, 0)) := by
    rw [hb.block _ (by simp)]
    have := heap_alloc_new (w.alloc (.cells L S)) (.cells A I)
    simpa using this
  exact cell_of_row _ _ j _ _ _ h

set_option maxHeartbeats 1000000 in
theorem odd_0 (w : World) (he : Env w) :
    Calls Tryd.prog 7 #[.int .i64 0] w fun e w' => e = .returned (.bool true) ∧ Below w.heap.size w w' := by
  have ht : Lx.toks [48, 48, 55] = ([], 1, 0) := by decide +kernel
  have HE := Lib.hid he
  have HT : Hid (Lx.toks (bs [48, 48, 55]).data.toList = ([], 1, 0)) := ht
  clear ht he
  go_enter Tryd.func7, Tryd.ntmps7
  go_wp2_with fail
  refine (tokens_at (bs [48, 48, 55]) (by decide) [] 1 0 HT.out _ (HE.out.below ?_)).mono ?_
  · exact ((Below.refl _ _).alloc (Nat.le_refl _) _).alloc (by simp) _
  rintro e w1 ⟨A, c, rfl, hl1, hb1⟩
  clear hl1
  have c0 := odd_cell hb1 0
  have hz : w.heap.size + 1 < w1.heap.size := by have := hb1.size; simp at this; omega
  simp at c0
  have hG := eqGuardFault
  have hE := run_eql_fault 1 0 1 0 true (by simp)
  go_wp2
  obtain ⟨wq, hwq⟩ : ∃ wq, wq = w1.alloc (.cells #[.int .i64 1, .int .i64 0] 25) := ⟨_, rfl⟩
  rw [← hwq]
  obtain ⟨e0, e1⟩ : wq.cell? ⟨w1.heap.size, 0, none⟩ = some (.int .i64 1) ∧ wq.cell? ⟨w1.heap.size, 1, none⟩ = some (.int .i64 0) := by rw [hwq]; exact ⟨by simp, by simp⟩
  have e2 : wq.cell? ⟨w.heap.size + 1, 0, none⟩ = some (.int .i64 0) := by rw [hwq, World.cell?_alloc_lt _ _ _ hz]; exact c0
  have hbel : Below w.heap.size w wq := by rw [hwq]; exact (below_go ((Below.refl _ _).alloc (Nat.le_refl _) _) (below_go ((Below.refl _ _).alloc (Nat.le_refl _) _) hb1)).alloc (by omega) _
  clear hwq c0
  refine wp_region_still_tail 13 (by kernel_rfl) (by kernel_rfl) ?_
  simp only [List.take_succ_cons, List.take_zero, List.drop_succ_cons, List.drop_zero]
  change wpStill _ _ wq.drew _ _ _
  repeat still_step
  refine wpStill_nil ?_
  change wpList _ _ _ _ _ wq.drew
  go_wp2_with (go_at_call 12; refine (known_true _ (HE.out.below (below_drawn hbel 1))).mono ?_; rintro e w3 ⟨rfl, hb3⟩)
  go_ret
  exact ⟨rfl, below_go (below_drawn hbel 1) hb3⟩

set_option maxHeartbeats 1000000 in
theorem odd_1 (w : World) (he : Env w) :
    Calls Tryd.prog 7 #[.int .i64 1] w fun e w' => e = .returned (.bool true) ∧ Below w.heap.size w w' := by
  have ht : Lx.toks [97, 32, 38, 32, 98] = ([], 1, 2) := by decide +kernel
  have HE := Lib.hid he
  have HT : Hid (Lx.toks (bs [97, 32, 38, 32, 98]).data.toList = ([], 1, 2)) := ht
  clear ht he
  go_enter Tryd.func7, Tryd.ntmps7
  go_wp2_with fail
  refine (tokens_at (bs [97, 32, 38, 32, 98]) (by decide) [] 1 2 HT.out _ (HE.out.below ?_)).mono ?_
  · exact ((Below.refl _ _).alloc (Nat.le_refl _) _).alloc (by simp) _
  rintro e w1 ⟨A, c, rfl, hl1, hb1⟩
  clear hl1
  have c0 := odd_cell hb1 1
  have hz : w.heap.size + 1 < w1.heap.size := by have := hb1.size; simp at this; omega
  simp at c0
  have hG := eqGuardFault
  have hE := run_eql_fault 1 2 1 2 true (by simp)
  go_wp2
  obtain ⟨wq, hwq⟩ : ∃ wq, wq = w1.alloc (.cells #[.int .i64 1, .int .i64 2] 25) := ⟨_, rfl⟩
  rw [← hwq]
  obtain ⟨e0, e1⟩ : wq.cell? ⟨w1.heap.size, 0, none⟩ = some (.int .i64 1) ∧ wq.cell? ⟨w1.heap.size, 1, none⟩ = some (.int .i64 2) := by rw [hwq]; exact ⟨by simp, by simp⟩
  have e2 : wq.cell? ⟨w.heap.size + 1, 1, none⟩ = some (.int .i64 2) := by rw [hwq, World.cell?_alloc_lt _ _ _ hz]; exact c0
  have hbel : Below w.heap.size w wq := by rw [hwq]; exact (below_go ((Below.refl _ _).alloc (Nat.le_refl _) _) (below_go ((Below.refl _ _).alloc (Nat.le_refl _) _) hb1)).alloc (by omega) _
  clear hwq c0
  refine wp_region_still_tail 13 (by kernel_rfl) (by kernel_rfl) ?_
  simp only [List.take_succ_cons, List.take_zero, List.drop_succ_cons, List.drop_zero]
  change wpStill _ _ wq.drew _ _ _
  repeat still_step
  refine wpStill_nil ?_
  change wpList _ _ _ _ _ wq.drew
  go_wp2_with (go_at_call 12; refine (known_true _ (HE.out.below (below_drawn hbel 1))).mono ?_; rintro e w3 ⟨rfl, hb3⟩)
  go_ret
  exact ⟨rfl, below_go (below_drawn hbel 1) hb3⟩

set_option maxHeartbeats 1000000 in
theorem odd_2 (w : World) (he : Env w) :
    Calls Tryd.prog 7 #[.int .i64 2] w fun e w' => e = .returned (.bool true) ∧ Below w.heap.size w w' := by
  have ht : Lx.toks [49, 120] = ([], 1, 0) := by decide +kernel
  have HE := Lib.hid he
  have HT : Hid (Lx.toks (bs [49, 120]).data.toList = ([], 1, 0)) := ht
  clear ht he
  go_enter Tryd.func7, Tryd.ntmps7
  go_wp2_with fail
  refine (tokens_at (bs [49, 120]) (by decide) [] 1 0 HT.out _ (HE.out.below ?_)).mono ?_
  · exact ((Below.refl _ _).alloc (Nat.le_refl _) _).alloc (by simp) _
  rintro e w1 ⟨A, c, rfl, hl1, hb1⟩
  clear hl1
  have c0 := odd_cell hb1 2
  have hz : w.heap.size + 1 < w1.heap.size := by have := hb1.size; simp at this; omega
  simp at c0
  have hG := eqGuardFault
  have hE := run_eql_fault 1 0 1 0 true (by simp)
  go_wp2
  obtain ⟨wq, hwq⟩ : ∃ wq, wq = w1.alloc (.cells #[.int .i64 1, .int .i64 0] 25) := ⟨_, rfl⟩
  rw [← hwq]
  obtain ⟨e0, e1⟩ : wq.cell? ⟨w1.heap.size, 0, none⟩ = some (.int .i64 1) ∧ wq.cell? ⟨w1.heap.size, 1, none⟩ = some (.int .i64 0) := by rw [hwq]; exact ⟨by simp, by simp⟩
  have e2 : wq.cell? ⟨w.heap.size + 1, 2, none⟩ = some (.int .i64 0) := by rw [hwq, World.cell?_alloc_lt _ _ _ hz]; exact c0
  have hbel : Below w.heap.size w wq := by rw [hwq]; exact (below_go ((Below.refl _ _).alloc (Nat.le_refl _) _) (below_go ((Below.refl _ _).alloc (Nat.le_refl _) _) hb1)).alloc (by omega) _
  clear hwq c0
  refine wp_region_still_tail 13 (by kernel_rfl) (by kernel_rfl) ?_
  simp only [List.take_succ_cons, List.take_zero, List.drop_succ_cons, List.drop_zero]
  change wpStill _ _ wq.drew _ _ _
  repeat still_step
  refine wpStill_nil ?_
  change wpList _ _ _ _ _ wq.drew
  go_wp2_with (go_at_call 12; refine (known_true _ (HE.out.below (below_drawn hbel 1))).mono ?_; rintro e w3 ⟨rfl, hb3⟩)
  go_ret
  exact ⟨rfl, below_go (below_drawn hbel 1) hb3⟩

set_option maxHeartbeats 1000000 in
theorem odd_3 (w : World) (he : Env w) :
    Calls Tryd.prog 7 #[.int .i64 3] w fun e w' => e = .returned (.bool true) ∧ Below w.heap.size w w' := by
  have ht : Lx.toks [57, 50, 50, 51, 51, 55, 50, 48, 51, 54, 56, 53, 52, 55, 55, 53, 56, 48, 56] = ([], 1, 0) := by decide +kernel
  have HE := Lib.hid he
  have HT : Hid (Lx.toks (bs [57, 50, 50, 51, 51, 55, 50, 48, 51, 54, 56, 53, 52, 55, 55, 53, 56, 48, 56]).data.toList = ([], 1, 0)) := ht
  clear ht he
  go_enter Tryd.func7, Tryd.ntmps7
  go_wp2_with fail
  refine (tokens_at (bs [57, 50, 50, 51, 51, 55, 50, 48, 51, 54, 56, 53, 52, 55, 55, 53, 56, 48, 56]) (by decide) [] 1 0 HT.out _ (HE.out.below ?_)).mono ?_
  · exact ((Below.refl _ _).alloc (Nat.le_refl _) _).alloc (by simp) _
  rintro e w1 ⟨A, c, rfl, hl1, hb1⟩
  clear hl1
  have c0 := odd_cell hb1 3
  have hz : w.heap.size + 1 < w1.heap.size := by have := hb1.size; simp at this; omega
  simp at c0
  have hG := eqGuardFault
  have hE := run_eql_fault 1 0 1 0 true (by simp)
  go_wp2
  obtain ⟨wq, hwq⟩ : ∃ wq, wq = w1.alloc (.cells #[.int .i64 1, .int .i64 0] 25) := ⟨_, rfl⟩
  rw [← hwq]
  obtain ⟨e0, e1⟩ : wq.cell? ⟨w1.heap.size, 0, none⟩ = some (.int .i64 1) ∧ wq.cell? ⟨w1.heap.size, 1, none⟩ = some (.int .i64 0) := by rw [hwq]; exact ⟨by simp, by simp⟩
  have e2 : wq.cell? ⟨w.heap.size + 1, 3, none⟩ = some (.int .i64 0) := by rw [hwq, World.cell?_alloc_lt _ _ _ hz]; exact c0
  have hbel : Below w.heap.size w wq := by rw [hwq]; exact (below_go ((Below.refl _ _).alloc (Nat.le_refl _) _) (below_go ((Below.refl _ _).alloc (Nat.le_refl _) _) hb1)).alloc (by omega) _
  clear hwq c0
  refine wp_region_still_tail 13 (by kernel_rfl) (by kernel_rfl) ?_
  simp only [List.take_succ_cons, List.take_zero, List.drop_succ_cons, List.drop_zero]
  change wpStill _ _ wq.drew _ _ _
  repeat still_step
  refine wpStill_nil ?_
  change wpList _ _ _ _ _ wq.drew
  go_wp2_with (go_at_call 12; refine (known_true _ (HE.out.below (below_drawn hbel 1))).mono ?_; rintro e w3 ⟨rfl, hb3⟩)
  go_ret
  exact ⟨rfl, below_go (below_drawn hbel 1) hb3⟩

set_option maxHeartbeats 1000000 in
theorem odd_4 (w : World) (he : Env w) :
    Calls Tryd.prog 7 #[.int .i64 4] w fun e w' => e = .returned (.bool true) ∧ Below w.heap.size w w' := by
  have ht : Lx.toks [97, 35] = ([], 1, 1) := by decide +kernel
  have HE := Lib.hid he
  have HT : Hid (Lx.toks (bs [97, 35]).data.toList = ([], 1, 1)) := ht
  clear ht he
  go_enter Tryd.func7, Tryd.ntmps7
  go_wp2_with fail
  refine (tokens_at (bs [97, 35]) (by decide) [] 1 1 HT.out _ (HE.out.below ?_)).mono ?_
  · exact ((Below.refl _ _).alloc (Nat.le_refl _) _).alloc (by simp) _
  rintro e w1 ⟨A, c, rfl, hl1, hb1⟩
  clear hl1
  have c0 := odd_cell hb1 4
  have hz : w.heap.size + 1 < w1.heap.size := by have := hb1.size; simp at this; omega
  simp at c0
  have hG := eqGuardFault
  have hE := run_eql_fault 1 1 1 1 true (by simp)
  go_wp2
  obtain ⟨wq, hwq⟩ : ∃ wq, wq = w1.alloc (.cells #[.int .i64 1, .int .i64 1] 25) := ⟨_, rfl⟩
  rw [← hwq]
  obtain ⟨e0, e1⟩ : wq.cell? ⟨w1.heap.size, 0, none⟩ = some (.int .i64 1) ∧ wq.cell? ⟨w1.heap.size, 1, none⟩ = some (.int .i64 1) := by rw [hwq]; exact ⟨by simp, by simp⟩
  have e2 : wq.cell? ⟨w.heap.size + 1, 4, none⟩ = some (.int .i64 1) := by rw [hwq, World.cell?_alloc_lt _ _ _ hz]; exact c0
  have hbel : Below w.heap.size w wq := by rw [hwq]; exact (below_go ((Below.refl _ _).alloc (Nat.le_refl _) _) (below_go ((Below.refl _ _).alloc (Nat.le_refl _) _) hb1)).alloc (by omega) _
  clear hwq c0
  refine wp_region_still_tail 13 (by kernel_rfl) (by kernel_rfl) ?_
  simp only [List.take_succ_cons, List.take_zero, List.drop_succ_cons, List.drop_zero]
  change wpStill _ _ wq.drew _ _ _
  repeat still_step
  refine wpStill_nil ?_
  change wpList _ _ _ _ _ wq.drew
  go_wp2_with (go_at_call 12; refine (known_true _ (HE.out.below (below_drawn hbel 1))).mono ?_; rintro e w3 ⟨rfl, hb3⟩)
  go_ret
  exact ⟨rfl, below_go (below_drawn hbel 1) hb3⟩

set_option maxHeartbeats 1000000 in
theorem odd_5 (w : World) (he : Env w) :
    Calls Tryd.prog 7 #[.int .i64 5] w fun e w' => e = .returned (.bool true) ∧ Below w.heap.size w w' := by
  have ht : Lx.toks [120, 32, 124] = ([], 1, 2) := by decide +kernel
  have HE := Lib.hid he
  have HT : Hid (Lx.toks (bs [120, 32, 124]).data.toList = ([], 1, 2)) := ht
  clear ht he
  go_enter Tryd.func7, Tryd.ntmps7
  go_wp2_with fail
  refine (tokens_at (bs [120, 32, 124]) (by decide) [] 1 2 HT.out _ (HE.out.below ?_)).mono ?_
  · exact ((Below.refl _ _).alloc (Nat.le_refl _) _).alloc (by simp) _
  rintro e w1 ⟨A, c, rfl, hl1, hb1⟩
  clear hl1
  have c0 := odd_cell hb1 5
  have hz : w.heap.size + 1 < w1.heap.size := by have := hb1.size; simp at this; omega
  simp at c0
  have hG := eqGuardFault
  have hE := run_eql_fault 1 2 1 2 true (by simp)
  go_wp2
  obtain ⟨wq, hwq⟩ : ∃ wq, wq = w1.alloc (.cells #[.int .i64 1, .int .i64 2] 25) := ⟨_, rfl⟩
  rw [← hwq]
  obtain ⟨e0, e1⟩ : wq.cell? ⟨w1.heap.size, 0, none⟩ = some (.int .i64 1) ∧ wq.cell? ⟨w1.heap.size, 1, none⟩ = some (.int .i64 2) := by rw [hwq]; exact ⟨by simp, by simp⟩
  have e2 : wq.cell? ⟨w.heap.size + 1, 5, none⟩ = some (.int .i64 2) := by rw [hwq, World.cell?_alloc_lt _ _ _ hz]; exact c0
  have hbel : Below w.heap.size w wq := by rw [hwq]; exact (below_go ((Below.refl _ _).alloc (Nat.le_refl _) _) (below_go ((Below.refl _ _).alloc (Nat.le_refl _) _) hb1)).alloc (by omega) _
  clear hwq c0
  refine wp_region_still_tail 13 (by kernel_rfl) (by kernel_rfl) ?_
  simp only [List.take_succ_cons, List.take_zero, List.drop_succ_cons, List.drop_zero]
  change wpStill _ _ wq.drew _ _ _
  repeat still_step
  refine wpStill_nil ?_
  change wpList _ _ _ _ _ wq.drew
  go_wp2_with (go_at_call 12; refine (known_true _ (HE.out.below (below_drawn hbel 1))).mono ?_; rintro e w3 ⟨rfl, hb3⟩)
  go_ret
  exact ⟨rfl, below_go (below_drawn hbel 1) hb3⟩

set_option maxHeartbeats 1000000 in
theorem odd_6 (w : World) (he : Env w) :
    Calls Tryd.prog 7 #[.int .i64 6] w fun e w' => e = .returned (.bool true) ∧ Below w.heap.size w w' := by
  have ht : Lx.toks [0] = ([], 1, 0) := by decide +kernel
  have HE := Lib.hid he
  have HT : Hid (Lx.toks (bs [0]).data.toList = ([], 1, 0)) := ht
  clear ht he
  go_enter Tryd.func7, Tryd.ntmps7
  go_wp2_with fail
  refine (tokens_at (bs [0]) (by decide) [] 1 0 HT.out _ (HE.out.below ?_)).mono ?_
  · exact ((Below.refl _ _).alloc (Nat.le_refl _) _).alloc (by simp) _
  rintro e w1 ⟨A, c, rfl, hl1, hb1⟩
  clear hl1
  have c0 := odd_cell hb1 6
  have hz : w.heap.size + 1 < w1.heap.size := by have := hb1.size; simp at this; omega
  simp at c0
  have hG := eqGuardFault
  have hE := run_eql_fault 1 0 1 0 true (by simp)
  go_wp2
  obtain ⟨wq, hwq⟩ : ∃ wq, wq = w1.alloc (.cells #[.int .i64 1, .int .i64 0] 25) := ⟨_, rfl⟩
  rw [← hwq]
  obtain ⟨e0, e1⟩ : wq.cell? ⟨w1.heap.size, 0, none⟩ = some (.int .i64 1) ∧ wq.cell? ⟨w1.heap.size, 1, none⟩ = some (.int .i64 0) := by rw [hwq]; exact ⟨by simp, by simp⟩
  have e2 : wq.cell? ⟨w.heap.size + 1, 6, none⟩ = some (.int .i64 0) := by rw [hwq, World.cell?_alloc_lt _ _ _ hz]; exact c0
  have hbel : Below w.heap.size w wq := by rw [hwq]; exact (below_go ((Below.refl _ _).alloc (Nat.le_refl _) _) (below_go ((Below.refl _ _).alloc (Nat.le_refl _) _) hb1)).alloc (by omega) _
  clear hwq c0
  refine wp_region_still_tail 13 (by kernel_rfl) (by kernel_rfl) ?_
  simp only [List.take_succ_cons, List.take_zero, List.drop_succ_cons, List.drop_zero]
  change wpStill _ _ wq.drew _ _ _
  repeat still_step
  refine wpStill_nil ?_
  change wpList _ _ _ _ _ wq.drew
  go_wp2_with (go_at_call 12; refine (known_true _ (HE.out.below (below_drawn hbel 1))).mono ?_; rintro e w3 ⟨rfl, hb3⟩)
  go_ret
  exact ⟨rfl, below_go (below_drawn hbel 1) hb3⟩

set_option maxHeartbeats 1000000 in
theorem odd_7 (w : World) (he : Env w) :
    Calls Tryd.prog 7 #[.int .i64 7] w fun e w' => e = .returned (.bool true) ∧ Below w.heap.size w w' := by
  have ht : Lx.toks [97, 46, 98, 255] = ([], 1, 3) := by decide +kernel
  have HE := Lib.hid he
  have HT : Hid (Lx.toks (bs [97, 46, 98, 255]).data.toList = ([], 1, 3)) := ht
  clear ht he
  go_enter Tryd.func7, Tryd.ntmps7
  go_wp2_with fail
  refine (tokens_at (bs [97, 46, 98, 255]) (by decide) [] 1 3 HT.out _ (HE.out.below ?_)).mono ?_
  · exact ((Below.refl _ _).alloc (Nat.le_refl _) _).alloc (by simp) _
  rintro e w1 ⟨A, c, rfl, hl1, hb1⟩
  clear hl1
  have c0 := odd_cell hb1 7
  have hz : w.heap.size + 1 < w1.heap.size := by have := hb1.size; simp at this; omega
  simp at c0
  have hG := eqGuardFault
  have hE := run_eql_fault 1 3 1 3 true (by simp)
  go_wp2
  obtain ⟨wq, hwq⟩ : ∃ wq, wq = w1.alloc (.cells #[.int .i64 1, .int .i64 3] 25) := ⟨_, rfl⟩
  rw [← hwq]
  obtain ⟨e0, e1⟩ : wq.cell? ⟨w1.heap.size, 0, none⟩ = some (.int .i64 1) ∧ wq.cell? ⟨w1.heap.size, 1, none⟩ = some (.int .i64 3) := by rw [hwq]; exact ⟨by simp, by simp⟩
  have e2 : wq.cell? ⟨w.heap.size + 1, 7, none⟩ = some (.int .i64 3) := by rw [hwq, World.cell?_alloc_lt _ _ _ hz]; exact c0
  have hbel : Below w.heap.size w wq := by rw [hwq]; exact (below_go ((Below.refl _ _).alloc (Nat.le_refl _) _) (below_go ((Below.refl _ _).alloc (Nat.le_refl _) _) hb1)).alloc (by omega) _
  clear hwq c0
  refine wp_region_still_tail 13 (by kernel_rfl) (by kernel_rfl) ?_
  simp only [List.take_succ_cons, List.take_zero, List.drop_succ_cons, List.drop_zero]
  change wpStill _ _ wq.drew _ _ _
  repeat still_step
  refine wpStill_nil ?_
  change wpList _ _ _ _ _ wq.drew
  go_wp2_with (go_at_call 12; refine (known_true _ (HE.out.below (below_drawn hbel 1))).mono ?_; rintro e w3 ⟨rfl, hb3⟩)
  go_ret
  exact ⟨rfl, below_go (below_drawn hbel 1) hb3⟩

set_option maxHeartbeats 1000000 in
theorem odd_8 (w : World) (he : Env w) :
    Calls Tryd.prog 7 #[.int .i64 8] w fun e w' => e = .returned (.bool true) ∧ Below w.heap.size w w' := by
  have ht : Lx.toks [97, 98, 99, 100, 101, 102, 103, 104, 105] = ([], 1, 0) := by decide +kernel
  have HE := Lib.hid he
  have HT : Hid (Lx.toks (bs [97, 98, 99, 100, 101, 102, 103, 104, 105]).data.toList = ([], 1, 0)) := ht
  clear ht he
  go_enter Tryd.func7, Tryd.ntmps7
  go_wp2_with fail
  refine (tokens_at (bs [97, 98, 99, 100, 101, 102, 103, 104, 105]) (by decide) [] 1 0 HT.out _ (HE.out.below ?_)).mono ?_
  · exact ((Below.refl _ _).alloc (Nat.le_refl _) _).alloc (by simp) _
  rintro e w1 ⟨A, c, rfl, hl1, hb1⟩
  clear hl1
  have c0 := odd_cell hb1 8
  have hz : w.heap.size + 1 < w1.heap.size := by have := hb1.size; simp at this; omega
  simp at c0
  have hG := eqGuardFault
  have hE := run_eql_fault 1 0 1 0 true (by simp)
  go_wp2
  obtain ⟨wq, hwq⟩ : ∃ wq, wq = w1.alloc (.cells #[.int .i64 1, .int .i64 0] 25) := ⟨_, rfl⟩
  rw [← hwq]
  obtain ⟨e0, e1⟩ : wq.cell? ⟨w1.heap.size, 0, none⟩ = some (.int .i64 1) ∧ wq.cell? ⟨w1.heap.size, 1, none⟩ = some (.int .i64 0) := by rw [hwq]; exact ⟨by simp, by simp⟩
  have e2 : wq.cell? ⟨w.heap.size + 1, 8, none⟩ = some (.int .i64 0) := by rw [hwq, World.cell?_alloc_lt _ _ _ hz]; exact c0
  have hbel : Below w.heap.size w wq := by rw [hwq]; exact (below_go ((Below.refl _ _).alloc (Nat.le_refl _) _) (below_go ((Below.refl _ _).alloc (Nat.le_refl _) _) hb1)).alloc (by omega) _
  clear hwq c0
  refine wp_region_still_tail 13 (by kernel_rfl) (by kernel_rfl) ?_
  simp only [List.take_succ_cons, List.take_zero, List.drop_succ_cons, List.drop_zero]
  change wpStill _ _ wq.drew _ _ _
  repeat still_step
  refine wpStill_nil ?_
  change wpList _ _ _ _ _ wq.drew
  go_wp2_with (go_at_call 12; refine (known_true _ (HE.out.below (below_drawn hbel 1))).mono ?_; rintro e w3 ⟨rfl, hb3⟩)
  go_ret
  exact ⟨rfl, below_go (below_drawn hbel 1) hb3⟩

set_option maxHeartbeats 1000000 in
theorem odd_9 (w : World) (he : Env w) :
    Calls Tryd.prog 7 #[.int .i64 9] w fun e w' => e = .returned (.bool true) ∧ Below w.heap.size w w' := by
  have ht : Lx.toks [47, 32, 47] = ([⟨4, [47], 0, 0⟩, ⟨4, [47], 0, 2⟩, ⟨0, [], 0, 3⟩], 0, 0) := by decide +kernel
  have HE := Lib.hid he
  have HT : Hid (Lx.toks (bs [47, 32, 47]).data.toList = ([⟨4, [47], 0, 0⟩, ⟨4, [47], 0, 2⟩, ⟨0, [], 0, 3⟩], 0, 0)) := ht
  clear ht he
  go_enter Tryd.func7, Tryd.ntmps7
  go_wp2_with fail
  refine (tokens_at (bs [47, 32, 47]) (by decide) [⟨4, [47], 0, 0⟩, ⟨4, [47], 0, 2⟩, ⟨0, [], 0, 3⟩] 0 0 HT.out _ (HE.out.below ?_)).mono ?_
  · exact ((Below.refl _ _).alloc (Nat.le_refl _) _).alloc (by simp) _
  rintro e w1 ⟨A, c, rfl, hl1, hb1⟩
  clear hl1
  have c0 := odd_cell hb1 9
  have hz : w.heap.size + 1 < w1.heap.size := by have := hb1.size; simp at this; omega
  simp at c0
  have hb2 : Below w.heap.size w w1 := below_go ((Below.refl _ _).alloc (Nat.le_refl _) _) (below_go ((Below.refl _ _).alloc (Nat.le_refl _) _) hb1)
  go_wp2_with (go_at_call 12; refine (known_true _ (HE.out.below (hb2.alloc hb2.size _))).mono ?_; rintro e w3 ⟨rfl, hb3⟩)
  go_ret
  exact ⟨rfl, below_go (hb2.alloc hb2.size _) hb3⟩

set_option maxHeartbeats 1000000 in
theorem lexOdd_walk (n : Int) (_ : -9223372036854775808 ≤ n ∧ n ≤ 9223372036854775807) (w : World) (he : Env w) :
    Calls Tryd.prog 7 #[.int .i64 n] w fun e w' => e = .returned (.bool true) ∧ Below w.heap.size w w' := by
  by_cases h : 0 ≤ n ∧ n < 10
  · have hc : n = 0 ∨ n = 1 ∨ n = 2 ∨ n = 3 ∨ n = 4 ∨ n = 5 ∨ n = 6 ∨ n = 7 ∨ n = 8 ∨ n = 9 := by omega
    rcases hc with rfl | rfl | rfl | rfl | rfl | rfl | rfl | rfl | rfl | rfl
    · exact odd_0 w he
    · exact odd_1 w he
    · exact odd_2 w he
    · exact odd_3 w he
    · exact odd_4 w he
    · exact odd_5 w he
    · exact odd_6 w he
    · exact odd_7 w he
    · exact odd_8 w he
    · exact odd_9 w he
  · clear he
    by_cases h0 : n < 0
    · go_enter Tryd.func7, Tryd.ntmps7
      go_wp2
      go_ret
      exact ⟨rfl, ((Below.refl _ _).alloc (Nat.le_refl _) _).alloc (by simp) _⟩
    · have h1 : 10 ≤ n := by omega
      have h2 : 0 ≤ n := by omega
      go_enter Tryd.func7, Tryd.ntmps7
      go_wp2
      go_ret
      exact ⟨rfl, ((Below.refl _ _).alloc (Nat.le_refl _) _).alloc (by simp) _⟩
end Go.Proofs.YtconbldpomjgkaaDoor
