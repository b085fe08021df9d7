/-
  The answer's store.
-/
import Derived.Test.YtapaangppidnoaaSd
namespace Go.Proofs.Ytapaangppidnoaa
open Go.RowKit

section
variable {w : World} {p : Nat} {v : Value} {os : List Ob}
theorem qlen_any (h : Sto w p 28 v os) (ref : Int) : Calls Try.prog 18 #[.pointer (some ⟨p, 0, none⟩), .int .i64 ref] w (AskP (lenP (cnt os) ref) w) := by
  rcases ref_cases os ref with ⟨hr, ha⟩ | ⟨k, o, hr, hk, ho, ha⟩
  · rw [lenP_none ha]
    obtain ⟨q, c, rfl⟩ := h.slice
    have hp := h.cell
    clear h ha
    by_cases h1 : ref < 1
    · have hd : decide (ref < 1) = true := decide_eq_true h1
      clear hr h1
      go_enter Try.func18, Try.ntmps18
      go_wp2
      go_ret2
      exact ⟨rfl, rfl⟩
    · have hd : decide (ref < 1) = false := decide_eq_false h1
      have hd2 : decide ((os.length : Int) < ref) = true := decide_eq_true (hr (by omega))
      clear hr h1
      go_enter Try.func18, Try.ntmps18
      go_wp2
      go_ret2
      exact ⟨rfl, rfl⟩
  · rw [lenP_some ha]
    subst hr
    obtain ⟨g, c, rfl, hc⟩ := h.at ho
    have hp := h.cell
    have hl := h.len
    rw [obV] at hc
    have hk0 : (0 : Int) ≤ (k : Int) := by omega
    have hk1 : (k : Int) < (os.length : Int) := by omega
    have hk2 : (k : Int) + 1 ≤ 9223372036854775807 := by omega
    have hd : decide ((k : Int) + 1 < 1) = false := decide_eq_false (by omega)
    have hd1 : decide ((k : Int) < 0) = false := decide_eq_false (by omega)
    have hd2 : decide ((os.length : Int) < (k : Int) + 1) = false := decide_eq_false (by omega)
    clear h ha ho
    go_enter Try.func18, Try.ntmps18
    go_wp2
    go_ret2
    exact ⟨rfl, rfl⟩
theorem qload_any (h : Sto w p 28 v os) (ref i : Int) : Calls Try.prog 14 #[.pointer (some ⟨p, 0, none⟩), .int .i64 ref, .int .i64 i] w (AskP (loadP (cnt os) ref i) w) := by
  have HC := Lib.hid (qlen_any h ref)
  rcases ref_cases os ref with ⟨hr, ha⟩ | ⟨k, o, hr, hk, ho, ha⟩
  · rw [loadP_none ha]
    rw [lenP_none ha] at HC
    clear h ha hr
    go_enter Try.func14, Try.ntmps14
    go_wp2_with (go_at_call 18; ((with_reducible refine HC.out.mono ?_); rintro e w' ⟨rfl, rfl⟩))
    go_ret2
    exact ⟨rfl, rfl⟩
  · rw [lenP_some ha] at HC
    subst hr
    rcases idx_cases o.2 i with ⟨h1, h2, -⟩ | ⟨j, x, rfl, hj, hx⟩
    · rw [loadP_out ha h2]
      obtain ⟨n, hn⟩ : ∃ n : Nat, n = o.2.length := ⟨_, rfl⟩
      rw [← hn] at HC h1
      clear h ha ho h2 hn
      rcases h1 with hi | ⟨hi, hi2⟩
      · have hd : decide (i < 0) = true := decide_eq_true hi
        clear hi
        go_enter Try.func14, Try.ntmps14
        go_wp2_with (go_at_call 18; ((with_reducible refine HC.out.mono ?_); rintro e w' ⟨rfl, rfl⟩))
        go_ret2
        exact ⟨rfl, rfl⟩
      · have hd : decide (i < 0) = false := decide_eq_false (by omega)
        have hd2 : decide ((n : Int) ≤ i) = true := decide_eq_true hi2
        clear hi hi2
        go_enter Try.func14, Try.ntmps14
        go_wp2_with (go_at_call 18; ((with_reducible refine HC.out.mono ?_); rintro e w' ⟨rfl, rfl⟩))
        go_ret2
        exact ⟨rfl, rfl⟩
    · rw [loadP_in ha hx]
      obtain ⟨hce, -⟩ := h.cel ho hx
      obtain ⟨g, c, rfl, hc⟩ := h.at ho
      have hp := h.cell
      have hl := h.len
      rw [obV] at hc
      have hk0 : (0 : Int) ≤ (k : Int) := by omega
      have hk1 : (k : Int) < (os.length : Int) := by omega
      have hk2 : (k : Int) + 1 ≤ 9223372036854775807 := by omega
      have hd : decide ((j : Int) < 0) = false := decide_eq_false (by omega)
      have hd2 : decide (o.2.length ≤ j) = false := decide_eq_false (by omega)
      have hd3 : decide ((o.2.length : Int) ≤ (j : Int)) = false := decide_eq_false (by omega)
      have hj0 : (0 : Int) ≤ (j : Int) := by omega
      have hj1 : (j : Int) < (o.2.length : Int) := by omega
      clear h ha ho hx
      go_enter Try.func14, Try.ntmps14
      go_wp2_with (go_at_call 18; ((with_reducible refine HC.out.mono ?_); rintro e w' ⟨rfl, rfl⟩))
      go_ret2
      exact ⟨rfl, rfl⟩
theorem qput_any (h : Sto w p 28 v os) (ref i x : Int) : Calls Try.prog 16 #[.pointer (some ⟨p, 0, none⟩), .int .i64 ref, .int .i64 i, .int .i64 x] w (SetP p 28 v os ref i x w) := by
  have H := Lib.hid h
  have HC := Lib.hid (qload_any h ref i)
  rcases ref_cases os ref with ⟨hr, ha⟩ | ⟨k, o, hr, hk, ho, ha⟩
  · have HS := Lib.hid (SetP.same (x := x) h (loadP_none ha i) (set_none ha))
    rw [loadP_none ha] at HC
    clear h ha hr
    go_enter Try.func16, Try.ntmps16
    go_wp2_with (go_at_call 14; ((with_reducible refine HC.out.mono ?_); rintro e w' ⟨rfl, rfl⟩))
    go_ret
    exact HS.out
  · have HR := Lib.hid hr
    rcases idx_cases o.2 i with ⟨h1, h2, -⟩ | ⟨j, y, rfl, hj, hx⟩
    · have HS := Lib.hid (SetP.same (x := x) h (loadP_out ha h2) (set_out hr ho ha h1))
      rw [loadP_out ha h2] at HC
      subst hr
      clear h ha ho h1 h2
      go_enter Try.func16, Try.ntmps16
      go_wp2_with (go_at_call 14; ((with_reducible refine HC.out.mono ?_); rintro e w' ⟨rfl, rfl⟩))
      go_ret
      exact HS.out
    · have HL := Lib.hid (loadP_in ha hx)
      have HP := Lib.hid (set_in (x := x) (j := j) hr ha)
      have HO := Lib.hid ho
      rw [loadP_in ha hx] at HC
      subst hr
      obtain ⟨hce, hfe⟩ := h.cel ho hx
      obtain ⟨g, c, rfl, hc⟩ := h.at ho
      have hp := h.cell
      have hl := h.len
      rw [obV] at hc
      have hk0 : (0 : Int) ≤ (k : Int) := by omega
      have hk1 : (k : Int) < (os.length : Int) := by omega
      have hk2 : (k : Int) + 1 ≤ 9223372036854775807 := by omega
      have hj0 : (0 : Int) ≤ (j : Int) := by omega
      have hj1 : (j : Int) < (o.2.length : Int) := by omega
      clear h ha ho hx
      go_enter Try.func16, Try.ntmps16
      go_wp2_with (go_at_call 14; ((with_reducible refine HC.out.mono ?_); rintro e w' ⟨rfl, rfl⟩))
      go_ret
      obtain ⟨h1, h2⟩ := H.out.put HO.out j x
      exact ⟨by rw [HL.out]; rfl, _, h1, HP.out.symm, fun n hn => own_set (u := (o.1, o.2.set j x)) HO.out rfl n hn, h2⟩
end
end Go.Proofs.Ytapaangppidnoaa
