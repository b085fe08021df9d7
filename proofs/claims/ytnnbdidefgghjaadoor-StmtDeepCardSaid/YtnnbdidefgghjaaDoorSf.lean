/-
  What is read has no list that is too long.
-/
import Derived.Test.YtnnbdidefgghjaaDoorSe
import Derived.Test.YtnnbdidefgghjaaDoorSn
namespace Go.Proofs.YtnnbdidefgghjaaDoor
namespace Sim
open Go.RowKit
open Px (RT tokAt isT)
open Pe (Ex)
open Qe (Q)

theorem fit_of {kind num : Int} {name ofn : List UInt8} {dims : Int} {kids : List Ex} {at_ : Int} (h : fitL kids = true) (hl : kids.length ≤ 9000000000) : fitE (Ex.of kind num name ofn dims kids at_) = true := by
  rw [Ex.of, fitE, h, Bool.and_true]
  exact decide_eq_true (by omega)
theorem fit_nil : fitL [] = true := by rw [fitL]
theorem fit_one {e : Ex} (h : fitE e = true) : fitL [e] = true := by rw [fitL, h, fit_nil]; rfl
theorem fit_two {e e2 : Ex} (h : fitE e = true) (h2 : fitE e2 = true) : fitL [e, e2] = true := by rw [fitL, h, fit_one h2]; rfl
theorem fit_snoc : ∀ {l : List Ex} {e : Ex}, fitL l = true → fitE e = true → fitL (l ++ [e]) = true
  | [], e, _, h => fit_one h
  | x :: l, e, hl, h => by
    rw [fitL, Bool.and_eq_true] at hl
    rw [List.cons_append, fitL, hl.1, fit_snoc hl.2 h]; rfl
theorem fit1 {kind num : Int} {name ofn : List UInt8} {dims at_ : Int} {e : Ex} (h : fitE e = true) : fitE (Ex.of kind num name ofn dims [e] at_) = true := fit_of (fit_one h) (by show 1 ≤ 9000000000; decide)
theorem fit2 {kind num : Int} {name ofn : List UInt8} {dims at_ : Int} {e e2 : Ex} (h : fitE e = true) (h2 : fitE e2 = true) : fitE (Ex.of kind num name ofn dims [e, e2] at_) = true := fit_of (fit_two h h2) (by show 2 ≤ 9000000000; decide)
theorem fit0 {kind num : Int} {name ofn : List UInt8} {dims at_ : Int} : fitE (Ex.of kind num name ofn dims [] at_) = true := fit_of fit_nil (Nat.zero_le _)
def RF (recQ : Nat → Q → Qe.Out) : Prop := ∀ n q x, recQ n q = some x → fitE x.1 = true

theorem fit_argLoop {ts : List RT} {recQ : Nat → Q → Qe.Out} (hr : RF recQ) : ∀ (g : Nat) {l : List Ex} {q : Q} {x : List Ex × Q}, fitL l = true → Qe.argLoop ts recQ g l q = some x → fitL x.1 = true ∧ x.1.length ≤ l.length + g
  | 0, _, _, _, _, h => by rw [Qe.argLoop] at h; cases h
  | g + 1, l, q, x, hl, h => by
    rw [Qe.argLoop] at h
    split at h
    · split at h
      · cases h
      · rename_i e s2 he
        obtain ⟨a, b⟩ := fit_argLoop hr g (fit_snoc hl (hr _ _ _ he)) h
        refine ⟨a, ?_⟩
        rw [List.length_append, List.length_singleton] at b
        omega
    · injection h with h
      subst h
      exact ⟨hl, Nat.le_add_right _ _⟩
theorem fit_args {ts : List RT} {recQ : Nat → Q → Qe.Out} (hr : RF recQ) {g : Nat} {q : Q} {x : List Ex × Q} (h : Qe.args ts recQ g q = some x) : fitL x.1 = true ∧ x.1.length ≤ 1 + g := by
  unfold Qe.args at h
  split at h
  · injection h with h
    subst h
    exact ⟨fit_nil, Nat.zero_le _⟩
  · split at h
    · cases h
    · rename_i e s2 he
      split at h
      · cases h
      · rename_i l s3 hl
        injection h with h
        subst h
        exact fit_argLoop hr g (x := (l, s3)) (fit_one (hr _ _ (e, s2) he)) hl
theorem fit_inner {ts : List RT} {recQ : Nat → Q → Qe.Out} (hr : RF recQ) {q : Q} {x : Ex × Q} (h : Qe.inner ts recQ q = some x) : fitE x.1 = true := by
  unfold Qe.inner at h
  split at h
  · cases h
  · rename_i e s2 he
    injection h with h
    subst h
    exact hr _ _ (e, s2) he
theorem fit_fresh {ts : List RT} {recQ : Nat → Q → Qe.Out} (hr : RF recQ) {q : Q} {a : Int} {x : Ex × Q} (h : Qe.fresh ts recQ q a = some x) : fitE x.1 = true := by
  unfold Qe.fresh at h
  split at h
  · dsimp only at h
    split at h
    · cases h
    · rename_i e s2 he
      injection h with h
      subst h
      exact fit1 (fit_inner hr (x := (e, s2)) he)
  · injection h with h
    subst h
    exact fit0
theorem fit_first {ts : List RT} {recQ : Nat → Q → Qe.Out} (hr : RF recQ) {g : Nat} (hg : g ≤ 8999999999) {q : Q} {x : Ex × Q} (h : Qe.first ts recQ g q = some x) : fitE x.1 = true := by
  dsimp only [Qe.first] at h
  repeat' split at h
  all_goals first
    | (cases h; done)
    | exact fit_fresh hr h
    | exact fit_inner hr h
    | (injection h with h; subst h; exact fit0)
    | (rename_i e s2 he; injection h with h; subst h; exact fit1 (fit_inner hr (x := (e, s2)) he))
    | (rename_i l s2 he; injection h with h; subst h; have ha := fit_args hr (x := (l, s2)) he; exact fit_of ha.1 (by have := ha.2; dsimp only at this; omega))
theorem fit_behind {ts : List RT} {recQ : Nat → Q → Qe.Out} (hr : RF recQ) : ∀ (g : Nat) {e : Ex} {q : Q} {x : Ex × Q}, fitE e = true → Qe.behind ts recQ g e q = some x → fitE x.1 = true
  | 0, _, _, _, _, h => by rw [Qe.behind] at h; cases h
  | g + 1, e, q, x, he, h => by
    rw [Qe.behind] at h
    split at h
    · exact fit_behind hr g (fit1 he) h
    · split at h
      · split at h
        · cases h
        · rename_i i s2 hi
          exact fit_behind hr g (fit2 he (hr _ _ (i, s2) hi)) h
      · injection h with h
        subst h
        exact he
theorem fit_pre {ts : List RT} {recQ : Nat → Q → Qe.Out} (hr : RF recQ) {q : Q} {t : List UInt8} {kind : Int} {x : Ex × Q} (h : Qe.prefixed ts recQ q t kind = some x) : fitE x.1 = true := by
  unfold Qe.prefixed at h
  split at h
  · cases h
  · rename_i e s2 he
    injection h with h
    subst h
    exact fit1 (hr _ _ (e, s2) he)
theorem fit_unary {ts : List RT} {recQ : Nat → Q → Qe.Out} (hr : RF recQ) {g : Nat} (hg : g ≤ 8999999999) {q : Q} {x : Ex × Q} (h : Qe.unary ts recQ g q = some x) : fitE x.1 = true := by
  unfold Qe.unary at h
  split at h
  · exact fit_pre hr h
  · split at h
    · exact fit_pre hr h
    · split at h
      · cases h
      · rename_i e s2 he
        exact fit_behind hr g (fit_first hr hg (x := (e, s2)) he) h
theorem fit_bin {ts : List RT} {recQ : Nat → Q → Qe.Out} (hr : RF recQ) (n : Nat) : ∀ (g : Nat) {e : Ex} {q : Q} {x : Ex × Q}, fitE e = true → Qe.binLoop ts recQ n g e q = some x → fitE x.1 = true
  | 0, _, _, _, _, h => by rw [Qe.binLoop] at h; cases h
  | g + 1, e, q, x, he, h => by
    rw [Qe.binLoop] at h
    split at h
    · injection h with h
      subst h
      exact he
    · split at h
      · cases h
      · rename_i r s2 hrr
        exact fit_bin hr n g (fit2 he (hr _ _ (r, s2) hrr)) h
theorem fit_run (ts : List RT) : ∀ (f : Nat), f ≤ 8999999999 → RF (Qe.run ts f)
  | 0, _ => fun n q x h => by cases h
  | f + 1, hf => fun n q x h => by
    have hr := fit_run ts f (by omega)
    rw [qrun] at h
    split at h
    · exact fit_unary hr (by omega) h
    · split at h
      · cases h
      · rename_i l s1 hl
        exact fit_bin hr n f (hr _ _ (l, s1) hl) h
theorem fit_expr {ts : List RT} (hl : ts.length ≤ 800000000) {k o : Int} {x : Ex × Int × Int × Int} (h : Qe.expr ts (enough ts) k o = some x) : fitE x.1 = true := by
  unfold Qe.expr at h
  split at h
  · cases h
  · rename_i e s he
    injection h with h
    subst h
    unfold Qe.exEnd
    split
    · exact fit_run ts _ (by unfold enough; omega) _ _ (e, s) he
    · exact fit0
end Sim
end Go.Proofs.YtnnbdidefgghjaaDoor
