/-
  The answer's Rec and Arr.
-/
import Derived.Test.YtapaangppidnoaaSg
namespace Go.Proofs.Ytapaangppidnoaa
open Go.RowKit

theorem make_at (m : Int) (n : Nat) (hm : m = (n : Int)) (hn : n ≤ 50) (w : World) : (Instr.makeSlice 39 (.int .i64 m) (.int .i64 m)).run Try.prog w = .ok (.slice (some ⟨w.heap.size, 0, none⟩) n n) (w.alloc (.cells (obC (List.replicate n 0)) 3)) := by
  subst hm
  exact make_ints n hn w
section
variable {w : World} {p : Nat} {v : Value} {os : List Ob}
set_option maxHeartbeats 1000000 in
theorem qrec_any (h : Sto w p 28 v os) (n : Int) (hl : os.length ≤ 1000000) : Calls Try.prog 10 #[.pointer (some ⟨p, 0, none⟩), .int .i64 n] w (NewP p 28 v os (recN n) w (.int .i64 ((os.length : Int) + 1))) := by
  obtain ⟨a, ha⟩ : ∃ a : Int, (if 8 < n then (8 : Int) else n) = a := ⟨_, rfl⟩
  obtain ⟨m, hm⟩ : ∃ m : Int, (if 0 < a then a else 0) = m := ⟨_, rfl⟩
  have hm2 : m = (recN n : Int) := by
    rw [← hm, ← ha]
    unfold recN
    (repeat' split) <;> omega
  have hmk := make_at m (recN n) hm2 (by have := recN_le n; omega)
  obtain ⟨k, hk⟩ : ∃ k, k = recN n := ⟨_, rfl⟩
  have hn : k ≤ 50 := by have := recN_le n; omega
  rw [← hk] at hmk ⊢
  have hp := h.cell
  have hf := h.free
  have hlt := h.plt
  obtain ⟨C, hC⟩ : ∃ C, C = obC (List.replicate k 0) := ⟨_, rfl⟩
  rw [← hC] at hmk
  have HC := Lib.hid hC
  have H := Lib.hid h
  have HN := Lib.hid hn
  have HL := Lib.hid hl
  obtain ⟨i0, hi0, hz0, hz1, hz2⟩ := info_parts infoSl
  clear h hC hn hl hm2 hk
  have hmp : os.map obV ++ [.slice (some ⟨w.heap.size, 0, none⟩) k k] = os.map obV ++ [obV (w.heap.size, List.replicate k 0)] := by rw [obV, List.length_replicate]
  have HM := Lib.hid hmp
  clear hmp
  go_enter Try.func10, Try.ntmps10
  go_upto_region 1 with fail
  go_region_law ((refine step_append_own rfl (.tmp 9) (.tmp 14) 26 rfl (p + 1) 39 i0 _ 1 24 Try.underlying26 hi0 hz0 hz1 hz2 rfl (by decide) v os.length (os.map obV) (by simp [Act.eval]) ((H.out.row.alloc _).alloc _).drew ⟨w.heap.size + 1, 0, none⟩ 1 1 [.slice (some ⟨w.heap.size, 0, none⟩) k k] (by simp [Act.eval]) rfl (new_cell w C _ _ _) (one_ob _ _ _) (by have := HL.out; unfold maxLen; omega) (by have := HL.out; omega) (alloc2_le H.out.plt _ _) ?_; intro v' w1 hown hgrow hat; obtain ⟨q, c, rfl⟩ := own_slice hown; have HO := Lib.hid hown; have HG := Lib.hid hgrow; have HA := Lib.hid hat; clear hown hgrow hat; have hb1 := old_box H.out HG.out; have hp1 := cell_of_one hb1; have hf1 := free_of_one hb1; clear hb1))
  all_goals
    go_wp2
    go_ret
    have hown := HO.out
    have hgrow := HG.out
    rw [HM.out] at hown
    rw [HC.out] at hgrow
    exact NewP.mk H.out HN.out hown (grown_drew hgrow) (by have := HA.out; simpa using this)
theorem qarr_no (w : World) (n : Int) (hn : n < 0 ∨ 0 ≤ n ∧ 50 < n) : Calls Try.prog 12 #[.pointer (some ⟨p, 0, none⟩), .int .i64 n] w (AskP (0, 4) w) := by
  rcases hn with hn | ⟨h1, h2⟩
  · have hd : decide (n < 0) = true := decide_eq_true hn
    clear hn
    go_enter Try.func12, Try.ntmps12
    go_wp2
    go_ret2
    exact ⟨rfl, rfl⟩
  · have hd : decide (n < 0) = false := decide_eq_false (by omega)
    have hd2 : decide (50 < n) = true := decide_eq_true h2
    clear h1 h2
    go_enter Try.func12, Try.ntmps12
    go_wp2
    go_ret2
    exact ⟨rfl, rfl⟩
set_option maxHeartbeats 1000000 in
theorem qarr_yes (h : Sto w p 28 v os) (k : Nat) (hn : k ≤ 50) (hl : os.length ≤ 1000000) : Calls Try.prog 12 #[.pointer (some ⟨p, 0, none⟩), .int .i64 (k : Int)] w (NewP p 28 v os k w (.tuple #[.int .i64 ((os.length : Int) + 1), .int .i64 0])) := by
  have hmk := make_ints k hn
  have hp := h.cell
  have hf := h.free
  have hlt := h.plt
  obtain ⟨C, hC⟩ : ∃ C, C = obC (List.replicate k 0) := ⟨_, rfl⟩
  rw [← hC] at hmk
  have HC := Lib.hid hC
  have H := Lib.hid h
  have HN := Lib.hid hn
  have HL := Lib.hid hl
  obtain ⟨i0, hi0, hz0, hz1, hz2⟩ := info_parts infoSl
  have hd : decide ((k : Int) < 0) = false := decide_eq_false (by omega)
  have hd2 : decide (50 < (k : Int)) = false := decide_eq_false (by omega)
  have hd3 : decide (50 < k) = false := decide_eq_false (by omega)
  clear h hC hn hl
  have hmp : os.map obV ++ [.slice (some ⟨w.heap.size, 0, none⟩) k k] = os.map obV ++ [obV (w.heap.size, List.replicate k 0)] := by rw [obV, List.length_replicate]
  have HM := Lib.hid hmp
  clear hmp
  go_enter Try.func12, Try.ntmps12
  go_upto_region 3 with fail
  go_region_law ((refine step_append_own rfl (.tmp 16) (.tmp 19) 26 rfl (p + 1) 39 i0 _ 1 24 Try.underlying26 hi0 hz0 hz1 hz2 rfl (by decide) v os.length (os.map obV) (by simp [Act.eval]) ((H.out.row.alloc _).alloc _).drew ⟨w.heap.size + 1, 0, none⟩ 1 1 [.slice (some ⟨w.heap.size, 0, none⟩) k k] (by simp [Act.eval]) rfl (new_cell w C _ _ _) (one_ob _ _ _) (by have := HL.out; unfold maxLen; omega) (by have := HL.out; omega) (alloc2_le H.out.plt _ _) ?_; intro v' w1 hown hgrow hat; obtain ⟨q, c, rfl⟩ := own_slice hown; have HO := Lib.hid hown; have HG := Lib.hid hgrow; have HA := Lib.hid hat; clear hown hgrow hat; have hb1 := old_box H.out HG.out; have hp1 := cell_of_one hb1; have hf1 := free_of_one hb1; clear hb1))
  all_goals
    go_wp2
    go_ret2
    have hown := HO.out
    have hgrow := HG.out
    rw [HM.out] at hown
    rw [HC.out] at hgrow
    exact NewP.mk H.out HN.out hown (grown_drew hgrow) (by have := HA.out; simpa using this)
end
end Go.Proofs.Ytapaangppidnoaa
