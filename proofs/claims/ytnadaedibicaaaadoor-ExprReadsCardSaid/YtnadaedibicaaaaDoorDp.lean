/-
  Signs, brackets and calls in each other, in plain data: as many as may be open, and the first that is too many.
-/
import Derived.Test.YtnadaedibicaaaaDoorPr
namespace Go.Proofs.YtnadaedibicaaaaDoor
namespace Pe
open Go.RowKit
open Px (RT tokAt)

/-- Nothing that begins here goes on an expression. -/
def halts (ts : List RT) (c : Cs) : Prop := (peek ts c).kind = 0 ∨ ((peek ts c).kind = 4 ∧ ((peek ts c).text = [41] ∨ (peek ts c).text = [93]))
theorem halts_dead {ts : List RT} {c : Cs} (h : c.E ≠ 0) : halts ts c := .inl (by rw [peek, if_neg h]; rfl)
theorem halts_op {ts : List RT} {c : Cs} (h : halts ts c) (n : Int) : seesOp ts c n = none := by
  unfold seesOp
  rw [Option.map_eq_none_iff, List.find?_eq_none]
  intro o ho
  simp only [opList, List.mem_cons, List.not_mem_nil, or_false] at ho
  unfold sees
  rcases h with h | ⟨h, h1 | h1⟩
  · simp [h]
  · rcases ho with rfl | rfl | rfl | rfl | rfl | rfl | rfl | rfl | rfl | rfl | rfl <;> simp [h, h1]
  · rcases ho with rfl | rfl | rfl | rfl | rfl | rfl | rfl | rfl | rfl | rfl | rfl <;> simp [h, h1]
theorem halts_bin {ts : List RT} {s : St} (h : halts ts s.c) (rec : Nat → St → Out) (n g : Nat) (e : Ex) : binLoop ts rec n (g + 1) e s = some (e, s) := by
  rw [binLoop, halts_op h]
theorem halts_suf {ts : List RT} {s : St} (h : halts ts s.c) (rec : Nat → St → Out) (g : Nat) (e : Ex) : sufLoop ts rec (g + 1) e s = some (e, s) := by
  rw [sufLoop]
  rcases h with h | ⟨h, h1 | h1⟩
  · rw [if_neg (by rw [h]; decide)]
  · rw [if_pos h, if_neg (by rw [h1]; decide), if_neg (by rw [h1]; decide)]
  · rw [if_pos h, if_neg (by rw [h1]; decide), if_neg (by rw [h1]; decide)]
/-- What one with signs in front reads, the signs of two sides read too, where nothing goes on. -/
theorem run_up {ts : List RT} {f : Nat} {s s1 : St} {e : Ex} (h : (run ts f).2 s = some (e, s1)) (hs : halts ts s1.c) : (run ts (f + 6)).1 1 s = some (e, s1) := by
  have h6 : (run ts (f + 1)).1 6 s = some (e, s1) := by rw [run]; exact h
  have h5 : (run ts (f + 2)).1 5 s = some (e, s1) := by
    rw [run]; show (match (run ts (f + 1)).1 6 s with | none => none | some (l, s1) => binLoop ts (run ts (f + 1)).1 5 (f + 1) l s1) = _
    rw [h6]; exact halts_bin hs _ _ _ _
  have h4 : (run ts (f + 3)).1 4 s = some (e, s1) := by
    rw [run]; show (match (run ts (f + 2)).1 5 s with | none => none | some (l, s1) => binLoop ts (run ts (f + 2)).1 4 (f + 2) l s1) = _
    rw [h5]; exact halts_bin hs _ _ _ _
  have h3 : (run ts (f + 4)).1 3 s = some (e, s1) := by
    rw [run]; show (match (run ts (f + 3)).1 4 s with | none => none | some (l, s1) => binLoop ts (run ts (f + 3)).1 3 (f + 3) l s1) = _
    rw [h4]; exact halts_bin hs _ _ _ _
  have h2 : (run ts (f + 5)).1 2 s = some (e, s1) := by
    rw [run]; show (match (run ts (f + 4)).1 3 s with | none => none | some (l, s1) => binLoop ts (run ts (f + 4)).1 2 (f + 4) l s1) = _
    rw [h3]; exact halts_bin hs _ _ _ _
  rw [run]; show (match (run ts (f + 5)).1 2 s with | none => none | some (l, s1) => binLoop ts (run ts (f + 5)).1 1 (f + 5) l s1) = _
  rw [h2]; exact halts_bin hs _ _ _ _

theorem peek_dead {ts : List RT} {c : Cs} (h : c.E ≠ 0) : peek ts c = RT.none := if_neg h
theorem sees_dead {ts : List RT} {c : Cs} (h : c.E ≠ 0) (t : List UInt8) : sees ts c 4 t = false := by unfold sees; rw [peek_dead h]; rfl
theorem fail_dead {ts : List RT} {c : Cs} (h : c.E ≠ 0) (e : Int) : fail ts c e = c := if_neg h
/-- Behind the first fault nothing is read. -/
theorem dead_unary {ts : List RT} {s : St} (h : s.c.E ≠ 0) (f : Nat) : (run ts (f + 2)).2 s = some (Ex.zero, s) := by
  rw [run]
  show unary ts _ _ (f + 1) s = _
  rw [unary, sees_dead h, sees_dead h]
  simp only [Bool.false_eq_true, if_false]
  rw [postfix_, primary, peek_dead h]
  have h0 : RT.none.kind = 0 := rfl
  simp only [h0]
  rw [if_neg (by decide), if_neg (by decide), if_neg (by decide), if_neg (by decide), refuse, fail_dead h]
  exact halts_suf (halts_dead h) _ _ _
theorem dead_run {ts : List RT} {s : St} (h : s.c.E ≠ 0) (f : Nat) : (run ts (f + 8)).1 1 s = some (Ex.zero, s) := run_up (dead_unary h f) (halts_dead h)

theorem sign_dead {ts : List RT} {c : Cs} (h : c.E ≠ 0) (t : List UInt8) : (sign ts c t).2 = next c := by
  unfold sign failUnless
  rw [sees_dead h]
  simp only [Bool.false_eq_true, if_false]
  rw [fail_dead h]
theorem sign_live {ts : List RT} {c : Cs} {t : List UInt8} (h : sees ts c 4 t = true) : (sign ts c t).2 = next c := by
  unfold sign failUnless
  rw [h]; rfl
/-- It leaves a fault as it is. -/
theorem leave_dead {ts : List RT} {s : St} (h : s.c.E ≠ 0) (t : List UInt8) : (leave ts s t).c.E = s.c.E ∧ (leave ts s t).c.F = s.c.F := by
  unfold leave
  rw [sign_dead h]
  exact ⟨rfl, rfl⟩
theorem enter_live {ts : List RT} {s : St} {t : List UInt8} (h : sees ts s.c 4 t = true) (ho : s.o ≠ 50) : (enter ts s t).2 = ⟨next s.c, inc s.o⟩ := by
  unfold enter
  rw [h, decide_eq_false ho]
  simp only [Bool.and_false, Bool.false_eq_true, if_false]
  rw [sign_live h]
theorem enter_over {ts : List RT} {s : St} {t : List UInt8} (h : sees ts s.c 4 t = true) (he : s.c.E = 0) (ho : s.o = 50) : (enter ts s t).2 = ⟨⟨inc s.c.k, 4, (tokAt ts s.c.k).at_⟩, inc s.o⟩ := by
  unfold enter
  rw [h, decide_eq_true ho]
  simp only [Bool.and_true, if_true]
  rw [show fail ts s.c 4 = ⟨s.c.k, 4, (tokAt ts s.c.k).at_⟩ from if_pos he, sign_dead (show (4 : Int) ≠ 0 by decide)]
  rfl

/-! The four ways in. -/
theorem live_num {ts : List RT} {k o : Int} (hk : (tokAt ts k).kind = 2) (hs : halts ts ⟨inc k, 0, 0⟩) (f : Nat) : (run ts (f + 2)).2 ⟨⟨k, 0, 0⟩, o⟩ = some (Ex.of 1 (tokAt ts k).num [] [] 0 [] (tokAt ts k).at_, ⟨⟨inc k, 0, 0⟩, o⟩) := by
  have hp : peek ts ⟨k, 0, 0⟩ = tokAt ts k := if_pos rfl
  rw [run]
  show unary ts _ _ (f + 1) ⟨⟨k, 0, 0⟩, o⟩ = _
  have h1 : ∀ t, sees ts ⟨k, 0, 0⟩ 4 t = false := fun t => by unfold sees; rw [hp, hk]; rfl
  rw [unary, h1, h1]
  simp only [Bool.false_eq_true, if_false]
  rw [postfix_, primary]
  simp only [hp, hk]
  rw [if_neg (by decide), if_pos trivial, number]
  simp only [hp]
  exact halts_suf hs _ _ _
/-- A sign in front. -/
theorem step_minus {ts : List RT} {s s2 : St} {e : Ex} (h : sees ts s.c 4 [45] = true) {f : Nat} (hr : (run ts f).2 (enter ts s [45]).2 = some (e, s2)) : ∃ e2, (run ts (f + 1)).2 s = some (e2, ⟨s2.c, dec s2.o⟩) := by
  rw [run]
  show ∃ e2, unary ts _ _ f s = _
  rw [unary, h]
  simp only [if_true]
  rw [prefixed, hr]
  exact ⟨_, rfl⟩
theorem not_minus {ts : List RT} {c : Cs} {t u : List UInt8} (h : sees ts c 4 t = true) (hn : t ≠ u) : sees ts c 4 u = false := by
  unfold sees at h ⊢
  rw [Bool.and_eq_true] at h
  have := eq_of_beq h.2
  rw [this, Bool.and_eq_false_iff]
  right
  exact beq_false_of_ne hn
theorem sees_kind {ts : List RT} {c : Cs} {t : List UInt8} (h : sees ts c 4 t = true) : (peek ts c).kind = 4 ∧ (peek ts c).text = t := by
  unfold sees at h
  rw [Bool.and_eq_true] at h
  exact ⟨of_decide_eq_true h.1, eq_of_beq h.2⟩
/-- A bracket. -/
theorem step_bracket {ts : List RT} {s s2 : St} {e : Ex} (h : sees ts s.c 4 [40] = true) {f : Nat} (hf : 0 < f) (hr : (run ts f).1 1 (enter ts s [40]).2 = some (e, s2)) (hs : halts ts (leave ts s2 [41]).c) : ∃ e2, (run ts (f + 1)).2 s = some (e2, leave ts s2 [41]) := by
  obtain ⟨g, rfl⟩ : ∃ g, f = g + 1 := ⟨f - 1, by omega⟩
  rw [run]
  show ∃ e2, unary ts _ _ (g + 1) s = _
  rw [unary, not_minus h (by decide), not_minus h (by decide)]
  simp only [Bool.false_eq_true, if_false]
  rw [postfix_, primary]
  simp only [(sees_kind h).1]
  rw [if_neg (by decide), if_neg (by decide), if_neg (by decide), if_pos trivial, enclosed, hr]
  exact ⟨e, halts_suf hs _ _ _⟩
theorem name_live {ts : List RT} {k : Int} (h : (tokAt ts k).kind = 1) : name ts ⟨k, 0, 0⟩ = ((tokAt ts k).text, ⟨inc k, 0, 0⟩) := by
  have hp : peek ts ⟨k, 0, 0⟩ = tokAt ts k := if_pos rfl
  unfold name failUnless
  simp only [hp, h, decide_true, if_true]
  rfl
/-- A call of one argument. -/
theorem step_call {ts : List RT} {k o : Int} {s2 : St} {e : Ex} (hn : (tokAt ts k).kind = 1) (h : sees ts ⟨inc k, 0, 0⟩ 4 [40] = true) {f : Nat} (hf : 0 < f) (h41 : sees ts (enter ts ⟨⟨inc k, 0, 0⟩, o⟩ [40]).2.c 4 [41] = false)
    (hr : (run ts f).1 1 (enter ts ⟨⟨inc k, 0, 0⟩, o⟩ [40]).2 = some (e, s2)) (h44 : sees ts s2.c 4 [44] = false) (hs : halts ts (leave ts s2 [41]).c) : ∃ e2, (run ts (f + 1)).2 ⟨⟨k, 0, 0⟩, o⟩ = some (e2, leave ts s2 [41]) := by
  obtain ⟨g, rfl⟩ : ∃ g, f = g + 1 := ⟨f - 1, by omega⟩
  have hp : peek ts ⟨k, 0, 0⟩ = tokAt ts k := if_pos rfl
  have h1 : ∀ t, sees ts ⟨k, 0, 0⟩ 4 t = false := fun t => by unfold sees; rw [hp, hn]; rfl
  rw [run]
  show ∃ e2, unary ts _ _ (g + 1) ⟨⟨k, 0, 0⟩, o⟩ = _
  rw [unary, h1, h1]
  simp only [Bool.false_eq_true, if_false]
  rw [postfix_, primary]
  simp only [hp, hn]
  rw [if_pos trivial, varOrCall]
  simp only [name_live hn, h, if_true]
  rw [args]
  simp only [h41, Bool.false_eq_true, if_false, hr]
  rw [argLoop, h44]
  simp only [Bool.false_eq_true, if_false]
  exact ⟨_, halts_suf hs _ _ _⟩
/-- An element. -/
theorem step_item {ts : List RT} {k o : Int} {s2 : St} {e : Ex} (hn : (tokAt ts k).kind = 1) (h : sees ts ⟨inc k, 0, 0⟩ 4 [91] = true) {f : Nat} (hf : 1 < f)
    (hr : (run ts f).1 1 (enter ts ⟨⟨inc k, 0, 0⟩, o⟩ [91]).2 = some (e, s2)) (hs : halts ts (leave ts s2 [93]).c) : ∃ e2, (run ts (f + 1)).2 ⟨⟨k, 0, 0⟩, o⟩ = some (e2, leave ts s2 [93]) := by
  obtain ⟨g, rfl⟩ : ∃ g, f = g + 2 := ⟨f - 2, by omega⟩
  have hp : peek ts ⟨k, 0, 0⟩ = tokAt ts k := if_pos rfl
  have h1 : ∀ t, sees ts ⟨k, 0, 0⟩ 4 t = false := fun t => by unfold sees; rw [hp, hn]; rfl
  rw [run]
  show ∃ e2, unary ts _ _ (g + 2) ⟨⟨k, 0, 0⟩, o⟩ = _
  rw [unary, h1, h1]
  simp only [Bool.false_eq_true, if_false]
  rw [postfix_, primary]
  simp only [hp, hn]
  rw [if_pos trivial, varOrCall]
  simp only [name_live hn, not_minus h (show ([91] : List UInt8) ≠ [40] by decide), Bool.false_eq_true, if_false]
  rw [sufLoop]
  simp only [(sees_kind h).1, (sees_kind h).2, if_true]
  rw [if_neg (by decide), item, enclosed]
  simp only [hr]
  exact ⟨_, halts_suf hs _ _ _⟩
end Pe
end Go.Proofs.YtnadaedibicaaaaDoor
