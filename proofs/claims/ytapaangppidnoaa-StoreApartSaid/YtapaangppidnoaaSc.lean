/-
  The project's Len, Load and Put.
-/
import Derived.Test.YtapaangppidnoaaSb
namespace Go.Proofs.Ytapaangppidnoaa
open Go.RowKit

/-- What the store is behind an operation that only asks: the same. -/
def AskP (r : Int × Int) (w : World) (e : Ending) (w' : World) : Prop := e = .returned (.tuple #[.int .i64 r.1, .int .i64 r.2]) ∧ w = w'
/-- What it is behind one that sets. -/
def SetP (p : Nat) (T : TypeId) (v : Value) (os : List Ob) (ref i x : Int) (w : World) (e : Ending) (w' : World) : Prop :=
  e = .returned (.int .i64 (loadP (cnt os) ref i).2) ∧ ∃ os', Sto w' p T v os' ∧ cnt os' = putP (cnt os) ref i x ∧ (∀ k, Own p v os' k → Own p v os k) ∧ Ke (Own p v os) w w'
section
variable {w : World} {p : Nat} {T : TypeId} {v : Value} {os : List Ob}
theorem loadP_none {L : List (List Int)} {ref : Int} (h : atP L ref = none) (i : Int) : loadP L ref i = (0, 1) := by rw [loadP, h]
theorem loadP_out {L : List (List Int)} {ref i : Int} {l : List Int} (h : atP L ref = some l) (hi : (if 0 ≤ i then (match l[i.toNat]? with | some x => ((x, 0) : Int × Int) | none => (0, 2)) else (0, 2)) = (0, 2)) : loadP L ref i = (0, 2) := by rw [loadP, h]; exact hi
theorem loadP_in {L : List (List Int)} {ref : Int} {l : List Int} {j : Nat} {x : Int} (h : atP L ref = some l) (hj : l[j]? = some x) : loadP L ref (j : Int) = (x, 0) := by
  rw [loadP, h]
  show (if 0 ≤ (j : Int) then _ else _) = _
  rw [if_pos (by omega), Int.toNat_natCast, hj]
theorem lenP_none {L : List (List Int)} {ref : Int} (h : atP L ref = none) : lenP L ref = (0, 1) := by rw [lenP, h]
theorem lenP_some {L : List (List Int)} {ref : Int} {l : List Int} (h : atP L ref = some l) : lenP L ref = ((l.length : Int), 0) := by rw [lenP, h]
theorem set_none {ref i x : Int} {os : List Ob} (h : atP (cnt os) ref = none) : putP (cnt os) ref i x = cnt os := by rw [putP, h]
theorem set_out {ref i x : Int} {os : List Ob} {k : Nat} {o : Ob} (hr : ref = (k : Int) + 1) (ho : os[k]? = some o) (h : atP (cnt os) ref = some o.2) (hi : i < 0 ∨ 0 ≤ i ∧ (o.2.length : Int) ≤ i) : putP (cnt os) ref i x = cnt os := by
  rw [putP, h]
  show (if 0 ≤ i then _ else _) = _
  split
  · rename_i h0
    rw [List.set_eq_of_length_le (by omega : o.2.length ≤ i.toNat), hr, show ((k : Int) + 1 - 1).toNat = k by omega]
    refine List.ext_getElem? fun n => ?_
    rw [List.getElem?_set]
    split
    · rename_i hin
      subst hin
      have hlt : k < os.length := (List.getElem?_eq_some_iff.1 ho).1
      rw [if_pos (by rw [cnt_len]; exact hlt), cnt, List.getElem?_map, ho]
      rfl
    · rfl
  · rfl
theorem set_in {ref x : Int} {os : List Ob} {k j : Nat} {o : Ob} (hr : ref = (k : Int) + 1) (h : atP (cnt os) ref = some o.2) : putP (cnt os) ref (j : Int) x = cnt (os.set k (o.1, o.2.set j x)) := by
  rw [putP, h]
  show (if 0 ≤ (j : Int) then _ else _) = _
  rw [if_pos (by omega), Int.toNat_natCast, hr, show ((k : Int) + 1 - 1).toNat = k by omega, cnt_set]
theorem own_set {k : Nat} {u : Ob} {o : Ob} (ho : os[k]? = some o) (hu : u.1 = o.1) (n : Nat) (h : Own p v (os.set k u) n) : Own p v os n := by
  rcases h with h | h | ⟨y, hy, rfl⟩
  · exact .inl h
  · exact .inr (.inl h)
  · refine .inr (.inr ?_)
    rcases List.mem_or_eq_of_mem_set hy with hm | rfl
    · exact ⟨y, hm, rfl⟩
    · exact ⟨o, List.mem_of_getElem? ho, hu.symm⟩
theorem SetP.same {ref i x : Int} {r : Int × Int} (h : Sto w p T v os) (hr : loadP (cnt os) ref i = r) (hp : putP (cnt os) ref i x = cnt os) : SetP p T v os ref i x w (.returned (.int .i64 r.2)) w :=
  ⟨by rw [hr], os, h, hp.symm, fun _ hk => hk, Ke.refl _ _⟩

theorem len_any (h : Sto w p 44 v os) (ref : Int) : Calls Try.prog 17 #[.pointer (some ⟨p, 0, none⟩), .int .i64 ref] w (AskP (lenP (cnt os) ref) w) := by
  have H := Lib.hid h
  rcases ref_cases os ref with ⟨hr, ha⟩ | ⟨k, o, hr, hk, ho, ha⟩
  · rw [lenP_none ha]
    clear h ha
    have HR := Lib.hid hr
    clear hr
    go_enter Try.func17, Try.ntmps17
    go_wp2_with (go_at_call 23; ((with_reducible refine (has_no H.out _ HR.out).mono ?_); rintro e w' ⟨rfl, rfl⟩))
    go_ret2
    exact ⟨rfl, rfl⟩
  · rw [lenP_some ha]
    subst hr
    obtain ⟨g, c, rfl, hc⟩ := h.at ho
    have hp := h.cell
    have hl := h.len
    have HY := Lib.hid (has_yes h k hk)
    rw [obV] at hc
    have hk0 : (0 : Int) ≤ (k : Int) := by omega
    have hk1 : (k : Int) < (os.length : Int) := by omega
    have hk2 : (k : Int) + 1 ≤ 9223372036854775807 := by omega
    clear h ha ho
    go_enter Try.func17, Try.ntmps17
    go_wp2_with (go_at_call 23; ((with_reducible refine HY.out.mono ?_); rintro e w' ⟨rfl, rfl⟩))
    go_ret2
    exact ⟨rfl, rfl⟩
theorem cell_no (h : Sto w p 44 v os) (ref i : Int) (hr : 0 < ref → (os.length : Int) < ref) : Calls Try.prog 22 #[.pointer (some ⟨p, 0, none⟩), .int .i64 ref, .int .i64 i] w fun e w' => e = .returned (.tuple #[.pointer none, .int .i64 1]) ∧ w = w' := by
  have H := Lib.hid h
  have HR := Lib.hid hr
  clear h hr
  go_enter Try.func22, Try.ntmps22
  go_wp2_with (go_at_call 23; ((with_reducible refine (has_no H.out _ HR.out).mono ?_); rintro e w' ⟨rfl, rfl⟩))
  go_ret2
  exact ⟨rfl, rfl⟩
theorem cell_nil (w : World) (ref i : Int) : Calls Try.prog 22 #[.pointer none, .int .i64 ref, .int .i64 i] w fun e w' => e = .returned (.tuple #[.pointer none, .int .i64 1]) ∧ w = w' := by
  go_enter Try.func22, Try.ntmps22
  go_wp2_with (go_at_call 23; ((with_reducible refine (has_nil _ _).mono ?_); rintro e w' ⟨rfl, rfl⟩))
  go_ret2
  exact ⟨rfl, rfl⟩
theorem cell_out (h : Sto w p 44 v os) (k : Nat) (o : Ob) (i : Int) (hk : k < os.length) (ho : os[k]? = some o) (hi : i < 0 ∨ 0 ≤ i ∧ (o.2.length : Int) ≤ i) :
    Calls Try.prog 22 #[.pointer (some ⟨p, 0, none⟩), .int .i64 ((k : Int) + 1), .int .i64 i] w fun e w' => e = .returned (.tuple #[.pointer none, .int .i64 2]) ∧ w = w' := by
  obtain ⟨g, c, rfl, hc⟩ := h.at ho
  have hp := h.cell
  have hl := h.len
  have HY := Lib.hid (has_yes h k hk)
  rw [obV] at hc
  have hk0 : (0 : Int) ≤ (k : Int) := by omega
  have hk1 : (k : Int) < (os.length : Int) := by omega
  have hk2 : (k : Int) + 1 ≤ 9223372036854775807 := by omega
  clear h ho
  rcases hi with hi | ⟨hi, hi2⟩
  · have hd : decide (i < 0) = true := decide_eq_true hi
    clear hi
    go_enter Try.func22, Try.ntmps22
    go_wp2_with (go_at_call 23; ((with_reducible refine HY.out.mono ?_); rintro e w' ⟨rfl, rfl⟩))
    go_ret2
    exact ⟨rfl, rfl⟩
  · have hd : decide (i < 0) = false := decide_eq_false (by omega)
    have hd2 : decide ((o.2.length : Int) ≤ i) = true := decide_eq_true hi2
    clear hi hi2
    go_enter Try.func22, Try.ntmps22
    go_wp2_with (go_at_call 23; ((with_reducible refine HY.out.mono ?_); rintro e w' ⟨rfl, rfl⟩))
    go_ret2
    exact ⟨rfl, rfl⟩
theorem cell_in (h : Sto w p 44 v os) (k : Nat) (o : Ob) (j : Nat) (hk : k < os.length) (ho : os[k]? = some o) (hj : j < o.2.length) :
    Calls Try.prog 22 #[.pointer (some ⟨p, 0, none⟩), .int .i64 ((k : Int) + 1), .int .i64 (j : Int)] w fun e w' => e = .returned (.tuple #[.pointer (some ⟨o.1, j, none⟩), .int .i64 0]) ∧ w = w' := by
  obtain ⟨g, c, rfl, hc⟩ := h.at ho
  have hp := h.cell
  have hl := h.len
  have HY := Lib.hid (has_yes h k hk)
  rw [obV] at hc
  have hk0 : (0 : Int) ≤ (k : Int) := by omega
  have hk1 : (k : Int) < (os.length : Int) := by omega
  have hk2 : (k : Int) + 1 ≤ 9223372036854775807 := by omega
  have hd : decide ((j : Int) < 0) = false := decide_eq_false (by omega)
  have hd2 : decide (o.2.length ≤ j) = false := decide_eq_false (by omega)
  have hd3 : decide ((o.2.length : Int) ≤ (j : Int)) = false := decide_eq_false (by omega)
  have hj0 : (0 : Int) ≤ (j : Int) := by omega
  have hj1 : (j : Int) < (o.2.length : Int) := by omega
  clear h ho
  go_enter Try.func22, Try.ntmps22
  go_wp2_with (go_at_call 23; ((with_reducible refine HY.out.mono ?_); rintro e w' ⟨rfl, rfl⟩))
  go_ret2
  exact ⟨rfl, rfl⟩

theorem load_any (h : Sto w p 44 v os) (ref i : Int) : Calls Try.prog 13 #[.pointer (some ⟨p, 0, none⟩), .int .i64 ref, .int .i64 i] w (AskP (loadP (cnt os) ref i) w) := by
  rcases ref_cases os ref with ⟨hr, ha⟩ | ⟨k, o, hr, hk, ho, ha⟩
  · rw [loadP_none ha]
    have HC := Lib.hid (cell_no h ref i hr)
    clear h ha hr
    go_enter Try.func13, Try.ntmps13
    go_wp2_with (go_at_call 22; ((with_reducible refine HC.out.mono ?_); rintro e w' ⟨rfl, rfl⟩))
    go_ret2
    exact ⟨rfl, rfl⟩
  · subst hr
    rcases idx_cases o.2 i with ⟨h1, h2, -⟩ | ⟨j, x, rfl, hj, hx⟩
    · rw [loadP_out ha h2]
      have HC := Lib.hid (cell_out h k o i hk ho h1)
      clear h ha ho h1 h2
      go_enter Try.func13, Try.ntmps13
      go_wp2_with (go_at_call 22; ((with_reducible refine HC.out.mono ?_); rintro e w' ⟨rfl, rfl⟩))
      go_ret2
      exact ⟨rfl, rfl⟩
    · rw [loadP_in ha hx]
      have HC := Lib.hid (cell_in h k o j hk ho hj)
      obtain ⟨hc, -⟩ := h.cel ho hx
      clear h ha ho hx
      go_enter Try.func13, Try.ntmps13
      go_wp2_with (go_at_call 22; ((with_reducible refine HC.out.mono ?_); rintro e w' ⟨rfl, rfl⟩))
      go_ret2
      exact ⟨rfl, rfl⟩
theorem put_any (h : Sto w p 44 v os) (ref i x : Int) : Calls Try.prog 15 #[.pointer (some ⟨p, 0, none⟩), .int .i64 ref, .int .i64 i, .int .i64 x] w (SetP p 44 v os ref i x w) := by
  have H := Lib.hid h
  rcases ref_cases os ref with ⟨hr, ha⟩ | ⟨k, o, hr, hk, ho, ha⟩
  · have HC := Lib.hid (cell_no h ref i hr)
    have HS := Lib.hid (SetP.same (x := x) h (loadP_none ha i) (set_none ha))
    clear h ha hr
    go_enter Try.func15, Try.ntmps15
    go_wp2_with (go_at_call 22; ((with_reducible refine HC.out.mono ?_); rintro e w' ⟨rfl, rfl⟩))
    go_ret
    exact HS.out
  · have HR := Lib.hid hr
    rcases idx_cases o.2 i with ⟨h1, h2, -⟩ | ⟨j, y, rfl, hj, hx⟩
    · have HS := Lib.hid (SetP.same (x := x) h (loadP_out ha h2) (set_out hr ho ha h1))
      subst hr
      have HC := Lib.hid (cell_out h k o i hk ho h1)
      clear h ha ho h1 h2
      go_enter Try.func15, Try.ntmps15
      go_wp2_with (go_at_call 22; ((with_reducible refine HC.out.mono ?_); rintro e w' ⟨rfl, rfl⟩))
      go_ret
      exact HS.out
    · have HL := Lib.hid (loadP_in ha hx)
      have HP := Lib.hid (set_in (x := x) (j := j) hr ha)
      have HO := Lib.hid ho
      subst hr
      have HC := Lib.hid (cell_in h k o j hk ho hj)
      obtain ⟨hc, hf⟩ := h.cel ho hx
      clear h ha ho hx
      go_enter Try.func15, Try.ntmps15
      go_wp2_with (go_at_call 22; ((with_reducible refine HC.out.mono ?_); rintro e w' ⟨rfl, rfl⟩))
      go_ret
      obtain ⟨h1, h2⟩ := H.out.put HO.out j x
      exact ⟨by rw [HL.out]; rfl, _, h1, HP.out.symm, fun n hn => own_set (u := (o.1, o.2.set j x)) HO.out rfl n hn, h2⟩
theorem len_nil (w : World) (ref : Int) : Calls Try.prog 17 #[.pointer none, .int .i64 ref] w (AskP (0, 1) w) := by
  go_enter Try.func17, Try.ntmps17
  go_wp2_with (go_at_call 23; ((with_reducible refine (has_nil _ _).mono ?_); rintro e w' ⟨rfl, rfl⟩))
  go_ret2
  exact ⟨rfl, rfl⟩
theorem load_nil (w : World) (ref i : Int) : Calls Try.prog 13 #[.pointer none, .int .i64 ref, .int .i64 i] w (AskP (0, 1) w) := by
  go_enter Try.func13, Try.ntmps13
  go_wp2_with (go_at_call 22; ((with_reducible refine (cell_nil _ _ _).mono ?_); rintro e w' ⟨rfl, rfl⟩))
  go_ret2
  exact ⟨rfl, rfl⟩
theorem put_nil (w : World) (ref i x : Int) : Calls Try.prog 15 #[.pointer none, .int .i64 ref, .int .i64 i, .int .i64 x] w fun e w' => e = .returned (.int .i64 1) ∧ w = w' := by
  go_enter Try.func15, Try.ntmps15
  go_wp2_with (go_at_call 22; ((with_reducible refine (cell_nil _ _ _).mono ?_); rintro e w' ⟨rfl, rfl⟩))
  go_ret
  exact ⟨rfl, rfl⟩
end
end Go.Proofs.Ytapaangppidnoaa
