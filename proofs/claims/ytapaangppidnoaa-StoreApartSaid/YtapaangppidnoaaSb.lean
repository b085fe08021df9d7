/-
  What is asked of a store, in plain data; the project's asking methods.
-/
import Derived.Test.YtapaangppidnoaaSa
import Derived.BigQuiet
import Derived.IntWalk
import Derived.Outline
import Derived.Deep.QuietTactic
import Derived.Deep.CutBlock
import Derived.Deep.LoopGhost
import Derived.Deep.RegionHeld3
import Derived.RegionTactic
namespace Go.Proofs.Ytapaangppidnoaa
open Go.RowKit

/-- The object with this reference. -/
def atP (L : List (List Int)) (ref : Int) : Option (List Int) := if 0 < ref then L[(ref - 1).toNat]? else none
/-- How many cells it has; a trap. -/
def lenP (L : List (List Int)) (ref : Int) : Int × Int := match atP L ref with | some l => ((l.length : Int), 0) | none => (0, 1)
/-- What a cell contains; a trap. -/
def loadP (L : List (List Int)) (ref i : Int) : Int × Int :=
  match atP L ref with | some l => (if 0 ≤ i then (match l[i.toNat]? with | some x => (x, 0) | none => (0, 2)) else (0, 2)) | none => (0, 1)
/-- A cell is set, if it is there. -/
def putP (L : List (List Int)) (ref i x : Int) : List (List Int) :=
  match atP L ref with | some l => (if 0 ≤ i then L.set (ref - 1).toNat (l.set i.toNat x) else L) | none => L
/-- What the objects contain. -/
def cnt (os : List Ob) : List (List Int) := os.map (·.2)
theorem cnt_len (os : List Ob) : (cnt os).length = os.length := List.length_map ..
theorem cnt_push (os : List Ob) (o : Ob) : cnt (os ++ [o]) = cnt os ++ [o.2] := by simp [cnt]
theorem cnt_set (os : List Ob) (k : Nat) (o : Ob) : cnt (os.set k o) = (cnt os).set k o.2 := by simp [cnt, List.map_set]
/-- Is there an object with this reference? -/
theorem ref_cases (os : List Ob) (ref : Int) : (((0 < ref) → (os.length : Int) < ref) ∧ atP (cnt os) ref = none) ∨ ∃ (k : Nat) (o : Ob), ref = (k : Int) + 1 ∧ k < os.length ∧ os[k]? = some o ∧ atP (cnt os) ref = some o.2 := by
  by_cases h0 : 0 < ref
  · obtain ⟨k, rfl⟩ : ∃ k : Nat, ref = (k : Int) + 1 := ⟨(ref - 1).toNat, by omega⟩
    have hk : ((k : Int) + 1 - 1).toNat = k := by omega
    by_cases hlt : k < os.length
    · refine .inr ⟨k, os[k], rfl, hlt, List.getElem?_eq_getElem hlt, ?_⟩
      rw [atP, if_pos h0, hk, cnt, List.getElem?_map, List.getElem?_eq_getElem hlt]
      rfl
    · refine .inl ⟨fun _ => by omega, ?_⟩
      rw [atP, if_pos h0, hk]
      exact List.getElem?_eq_none (by rw [cnt_len]; omega)
  · exact .inl ⟨fun h => absurd h h0, by rw [atP, if_neg h0]⟩
/-- Has the object this cell? -/
theorem idx_cases (l : List Int) (i : Int) : ((i < 0 ∨ 0 ≤ i ∧ (l.length : Int) ≤ i) ∧ (if 0 ≤ i then (match l[i.toNat]? with | some x => ((x, 0) : Int × Int) | none => (0, 2)) else (0, 2)) = (0, 2) ∧ (0 ≤ i → l.set i.toNat 0 = l)) ∨
    ∃ (j : Nat) (x : Int), i = (j : Int) ∧ j < l.length ∧ l[j]? = some x := by
  by_cases h0 : 0 ≤ i
  · obtain ⟨j, rfl⟩ : ∃ j : Nat, i = (j : Int) := ⟨i.toNat, by omega⟩
    by_cases hlt : j < l.length
    · exact .inr ⟨j, l[j], rfl, hlt, List.getElem?_eq_getElem hlt⟩
    · refine .inl ⟨.inr ⟨h0, by omega⟩, ?_, fun _ => List.set_eq_of_length_le (by rw [Int.toNat_natCast]; omega)⟩
      rw [if_pos h0, Int.toNat_natCast, List.getElem?_eq_none (by omega)]
  · exact .inl ⟨.inl (by omega), by rw [if_neg h0], fun h => absurd h h0⟩

section
variable {w : World} {p : Nat} {v : Value} {os : List Ob}
theorem many_any (h : Sto w p 44 v os) : Calls Try.prog 19 #[.pointer (some ⟨p, 0, none⟩)] w fun e w' => e = .returned (.int .i64 (os.length : Int)) ∧ w = w' := by
  obtain ⟨q, c, rfl⟩ := h.slice
  have h0 := h.cell
  clear h
  go_enter Try.func19, Try.ntmps19
  go_wp2
  go_ret
  exact ⟨rfl, rfl⟩
theorem many_nil (w : World) : Calls Try.prog 19 #[.pointer none] w fun e w' => e = .returned (.int .i64 0) ∧ w = w' := by
  go_enter Try.func19, Try.ntmps19
  go_wp2
  go_ret
  exact ⟨rfl, rfl⟩
theorem has_yes (h : Sto w p 44 v os) (k : Nat) (hk : k < os.length) : Calls Try.prog 23 #[.pointer (some ⟨p, 0, none⟩), .int .i64 ((k : Int) + 1)] w fun e w' => e = .returned (.bool true) ∧ w = w' := by
  have hd : decide (0 < (k : Int) + 1) = true := decide_eq_true (by omega)
  have hd2 : decide ((k : Int) + 1 ≤ (os.length : Int)) = true := decide_eq_true (by omega)
  have hm := many_any h
  have HM := Lib.hid hm
  clear h hm
  go_enter Try.func23, Try.ntmps23
  go_wp2_with (go_at_call 19; ((with_reducible refine HM.out.mono ?_); rintro e w' ⟨rfl, rfl⟩))
  go_ret
  exact ⟨rfl, rfl⟩
theorem has_no (h : Sto w p 44 v os) (ref : Int) (hr : 0 < ref → (os.length : Int) < ref) : Calls Try.prog 23 #[.pointer (some ⟨p, 0, none⟩), .int .i64 ref] w fun e w' => e = .returned (.bool false) ∧ w = w' := by
  have hm := many_any h
  have HM := Lib.hid hm
  clear h hm
  by_cases h0 : 0 < ref
  · have hd : decide (0 < ref) = true := decide_eq_true h0
    have hd2 : decide (ref ≤ (os.length : Int)) = false := decide_eq_false (by have := hr h0; omega)
    go_enter Try.func23, Try.ntmps23
    go_wp2_with (go_at_call 19; ((with_reducible refine HM.out.mono ?_); rintro e w' ⟨rfl, rfl⟩))
    go_ret
    exact ⟨rfl, rfl⟩
  · have hd : decide (0 < ref) = false := decide_eq_false h0
    go_enter Try.func23, Try.ntmps23
    go_wp2
    go_ret
    exact ⟨rfl, rfl⟩
theorem has_nil (w : World) (ref : Int) : Calls Try.prog 23 #[.pointer none, .int .i64 ref] w fun e w' => e = .returned (.bool false) ∧ w = w' := by
  by_cases h0 : 0 < ref
  · have hd : decide (0 < ref) = true := decide_eq_true h0
    have hd2 : decide (ref ≤ 0) = false := decide_eq_false (by omega)
    go_enter Try.func23, Try.ntmps23
    go_wp2_with (go_at_call 19; ((with_reducible refine (many_nil _).mono ?_); rintro e w' ⟨rfl, rfl⟩))
    go_ret
    exact ⟨rfl, rfl⟩
  · have hd : decide (0 < ref) = false := decide_eq_false h0
    go_enter Try.func23, Try.ntmps23
    go_wp2
    go_ret
    exact ⟨rfl, rfl⟩
end
end Go.Proofs.Ytapaangppidnoaa
