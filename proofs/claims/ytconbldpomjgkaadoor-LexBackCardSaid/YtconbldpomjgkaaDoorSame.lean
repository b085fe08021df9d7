/-
  The contract of Same (the document's answer): two lists of tokens are one.
-/
import Derived.Test.YtconbldpomjgkaaDoorRToks
import Derived.Laws.StructEq
namespace Go.Proofs.YtconbldpomjgkaaDoor
open Go.RowKit

theorem tok_at {ts : List Lx.Tk} {j : Nat} {t : Lx.Tk} (h : ts[j]? = some t) : (cellsOf ts)[j * 4]? = some (.int .i64 t.kind) ∧ (cellsOf ts)[j * 4 + 1]? = some (.string (bs t.text)) ∧ (cellsOf ts)[j * 4 + 2]? = some (.int .i64 t.num) ∧ (cellsOf ts)[j * 4 + 3]? = some (.int .i64 t.at_) := by
  induction ts generalizing j with
  | nil => simp at h
  | cons u ts ih =>
    cases j with
    | zero =>
      simp at h
      subst h
      exact ⟨rfl, rfl, rfl, rfl⟩
    | succ j =>
      have := ih (j := j) (by simpa using h)
      have e : cellsOf (u :: ts) = tokCells u ++ cellsOf ts := rfl
      rw [e]
      have hl : (tokCells u).length = 4 := rfl
      refine ⟨?_, ?_, ?_, ?_⟩
      · rw [List.getElem?_append_right (by omega), hl, show (j + 1) * 4 - 4 = j * 4 from by omega]; exact this.1
      · rw [List.getElem?_append_right (by omega), hl, show (j + 1) * 4 + 1 - 4 = j * 4 + 1 from by omega]; exact this.2.1
      · rw [List.getElem?_append_right (by omega), hl, show (j + 1) * 4 + 2 - 4 = j * 4 + 2 from by omega]; exact this.2.2.1
      · rw [List.getElem?_append_right (by omega), hl, show (j + 1) * 4 + 3 - 4 = j * 4 + 3 from by omega]; exact this.2.2.2

theorem eqGuardTok : Tryd.prog.eqGuardType Tryd.prog.depth 34 = false := by kernel_rfl
theorem stoodTok : Tryd.prog.stoodInHeld 34 = false := by kernel_rfl
def tokA (t : Lx.Tk) : Array Value := #[.int .i64 t.kind, .string (bs t.text), .int .i64 t.num, .int .i64 t.at_]
theorem tok_same (t u : Lx.Tk) : ((t.kind : Int) == (u.kind : Int) && ((bs t.text).toList == (bs u.text).toList && ((t.num : Int) == (u.num : Int) && (t.at_ : Int) == (u.at_ : Int)))) = decide (t = u) := by
  rw [Lib.toList_data, Lib.toList_data, bs_list, bs_list]
  obtain ⟨a, b, c, d⟩ := t
  obtain ⟨e, f, g, h⟩ := u
  rw [Bool.eq_iff_iff]
  simp only [Bool.and_eq_true, beq_iff_eq, decide_eq_true_eq, Lx.Tk.mk.injEq]
  exact ⟨fun ⟨x, y, z, v⟩ => ⟨by omega, y, by omega, by omega⟩, fun ⟨x, y, z, v⟩ => ⟨by omega, y, by omega, by omega⟩⟩
set_option maxHeartbeats 1000000 in
theorem run_neq_tok (t u : Lx.Tk) (w : World) : (binOp .neq 34 (.agg #[.int .i64 t.kind, .string (bs t.text), .int .i64 t.num, .int .i64 t.at_]) (.agg #[.int .i64 u.kind, .string (bs u.text), .int .i64 u.num, .int .i64 u.at_])).run Tryd.prog w = .ok (.bool (!decide (t = u))) w := by
  rw [run_neq_struct, run_equalIn_agg w 9999 _ _ _ (by kernel_rfl) stoodTok, ← tok_same]
  simp [go_sem]
  split <;> (try split) <;> (try split) <;> (try split) <;> simp_all

set_option maxHeartbeats 1000000 in
theorem same_any (w : World) (A B : Option Addr) (c d : Nat) (ts us : List Lx.Tk) (N : Nat) (ha : Lies w N A (cellsOf ts)) (hb : Lies w N B (cellsOf us)) (hla : ts.length ≤ 100000) :
    Calls Tryd.prog 11 #[.slice A ts.length c, .slice B us.length d] w fun e w' => e = .returned (.bool (decide (ts = us))) ∧ ∃ n, w' = w.drewN n := by
  by_cases hl : ts.length = us.length
  · have hl1 : ((ts.length : Int) != (us.length : Int)) = false := by rw [hl]; exact bne_self_eq_false _
    have hl2 : (ts.length != us.length) = false := by rw [hl]; exact bne_self_eq_false _
    have HL := Lib.hid hl
    clear hl
    go_enter Tryd.func11, Tryd.ntmps11
    go_wp2
    go_loopw [5] (fun i wr => ∃ j : Nat, j ≤ ts.length ∧ i = .int .i64 j ∧ (∀ q, q < j → ts[q]? = us[q]?) ∧ ∃ n, wr = w.drewN n) (fun i _ => ts.length - (intOf i).toNat)
    case atStart => exact ⟨0, by omega, rfl, fun q hq => absurd hq (by omega), 0, rfl⟩
    case round =>
      obtain ⟨j, hj, rfl, hn, n, rfl⟩ := hrel
      have HN := Lib.hid hn
      clear hn
      by_cases hlt : j < ts.length
      · obtain ⟨t, ht⟩ : ∃ t, ts[j]? = some t := ⟨_, List.getElem?_eq_getElem hlt⟩
        obtain ⟨u, hu⟩ : ∃ u, us[j]? = some u := ⟨_, List.getElem?_eq_getElem (by have := HL.out; omega)⟩
        obtain ⟨ga, rfl, hga, hca⟩ := ha (by intro h; have := congrArg List.length h; rw [cellsOf_len, List.length_nil] at this; omega)
        obtain ⟨gb, rfl, hgb, hcb⟩ := hb (by intro h; have := congrArg List.length h; rw [cellsOf_len, List.length_nil] at this; have := HL.out; omega)
        obtain ⟨x0, x1, x2, x3⟩ := tok_at ht
        obtain ⟨y0, y1, y2, y3⟩ := tok_at hu
        have a0 := hca _ _ x0
        have a1 := hca _ _ x1
        have a2 := hca _ _ x2
        have a3 := hca _ _ x3
        have b0 := hcb _ _ y0
        have b1 := hcb _ _ y1
        have b2 := hcb _ _ y2
        have b3 := hcb _ _ y3
        have hji : (j : Int) < (ts.length : Int) := by omega
        have hju : (j : Int) < (us.length : Int) := by have := HL.out; omega
        clear x0 x1 x2 x3 y0 y1 y2 y3 hca hcb ha hb
        have HT := Lib.hid ht
        have HU := Lib.hid hu
        clear ht hu
        have hG := eqGuardTok
        have hN := run_neq_tok t u
        by_cases he : t = u
        · rw [decide_eq_true he] at hN
          have HE := Lib.hid he
          clear he
          go_wp2
          go_quiet (fail)
          go_wp2
          go_roundw
          case rel =>
            refine ⟨j + 1, by omega, by go_num, fun q hq => ?_, _, rfl⟩
            rcases Nat.lt_or_eq_of_le (Nat.le_of_lt_succ hq) with h | rfl
            · exact HN.out q h
            · rw [HT.out, HU.out, HE.out]
          case measure => simp [intOf]; omega
        · rw [decide_eq_false he] at hN
          have HE := Lib.hid he
          clear he
          go_wp2
          go_quiet (fail)
          go_wp2
          go_ret
          refine ⟨ret_bool (decide_eq_false fun h => ?_).symm, _, World.drewN_drewN _ _ _⟩
          have h2 := HT.out
          rw [h, HU.out] at h2
          exact HE.out (Option.some.inj h2).symm
      · go_wp2
        go_ret
        refine ⟨ret_bool (decide_eq_true ?_).symm, _, rfl⟩
        apply List.ext_getElem?
        intro q
        by_cases hq : q < j
        · exact HN.out q hq
        · rw [List.getElem?_eq_none (by omega), List.getElem?_eq_none (by have := HL.out; omega)]
  · have hl1 : ((ts.length : Int) != (us.length : Int)) = true := by rw [bne_iff_ne]; omega
    have hl2 : (ts.length != us.length) = true := by rw [bne_iff_ne]; exact hl
    have HL := Lib.hid hl
    clear hl ha hb
    go_enter Tryd.func11, Tryd.ntmps11
    go_wp2
    go_ret
    exact ⟨ret_bool (decide_eq_false fun h => HL.out (by rw [h])).symm, 0, rfl⟩
end Go.Proofs.YtconbldpomjgkaaDoor
