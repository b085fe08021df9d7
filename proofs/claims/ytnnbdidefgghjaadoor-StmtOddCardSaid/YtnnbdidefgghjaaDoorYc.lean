/-
  The answer's reader keeps the fault's place while there is no fault (plain data).
-/
import Derived.Test.YtnnbdidefgghjaaDoorSe
namespace Go.Proofs.YtnnbdidefgghjaaDoor
namespace Sim
open Go.RowKit
open Px (RT tokAt isT)
open Pe (Ex Cs St inc dec)
open Qe (Q)

def Kp (q q' : Q) : Prop := q'.E = 0 → q.E = 0 ∧ q'.F = q.F
theorem Kp.refl (q : Q) : Kp q q := fun h => ⟨h, rfl⟩
theorem Kp.trans {a b c : Q} (h : Kp a b) (g : Kp b c) : Kp a c := fun h0 => ⟨(h (g h0).1).1, (g h0).2.trans (h (g h0).1).2⟩
theorem kp_next (q : Q) : Kp q (Qe.next q) := fun h => ⟨h, rfl⟩
theorem kp_fail (ts : List RT) (q : Q) {e : Int} (he : e ≠ 0) : Kp q (Qe.fail ts q e) := fun h => absurd h (fail_dead he)
theorem kp_take (ts : List RT) (q : Q) (wd : Bool) (t : List UInt8) : Kp q (Qe.take ts q wd t) := by
  unfold Qe.take
  split
  · exact kp_next q
  · exact kp_fail ts q (by decide)
theorem kp_opens (ts : List RT) (q : Q) (t : List UInt8) : Kp q (Qe.opens ts q t) := by
  unfold Qe.opens
  split
  · exact kp_fail ts q (by decide)
  · exact fun h => kp_take ts q false t h
theorem kp_closes (ts : List RT) (q : Q) (t : List UInt8) : Kp q (Qe.closes ts q t) := fun h => kp_take ts q false t h
theorem kp_name (ts : List RT) (q : Q) : Kp q (Qe.name ts q).2 := by
  unfold Qe.name
  split
  · exact kp_next q
  · exact kp_fail ts q (by decide)
theorem kp_dims (ts : List RT) : ∀ (n : Nat) (q : Q), Kp q (Qe.dims ts n q).2
  | 0, q => by
    rw [Qe.dims]
    split
    · exact kp_fail ts q (by decide)
    · exact Kp.refl q
  | n + 1, q => by
    rw [Qe.dims]
    split
    · exact (kp_next q).trans (kp_dims ts n (Qe.next q))
    · exact Kp.refl q
theorem kp_base (ts : List RT) (q : Q) : Kp q (Qe.base ts q).2 := by
  unfold Qe.base
  split
  · exact kp_next q
  · exact kp_name ts q
theorem kp_shut (ts : List RT) : ∀ (n : Nat) (q : Q), Kp q (Qe.shut ts n q)
  | 0, q => Kp.refl q
  | n + 1, q => by rw [Qe.shut]; exact (kp_take ts q false [93]).trans (kp_shut ts n _)
theorem kp_of (ts : List RT) (q : Q) : Kp q (Qe.of ts q).2.2 := by
  unfold Qe.of
  split
  · exact kp_dims ts 3 q
  · exact (kp_dims ts 3 q).trans ((kp_base ts _).trans (kp_shut ts _ _))

def RecK (rec : Nat → Q → Qe.Out) : Prop := ∀ n q e q', rec n q = some (e, q') → Kp q q'
theorem kp_inner {ts : List RT} {rec : Nat → Q → Qe.Out} (h : RecK rec) {q q' : Q} {e : Ex} (hx : Qe.inner ts rec q = some (e, q')) : Kp q q' := by
  unfold Qe.inner at hx
  split at hx
  · cases hx
  · rename_i e2 s2 he
    injection hx with hx
    injection hx with _ hx
    subst hx
    exact (kp_opens ts q [40]).trans ((h _ _ _ _ he).trans (kp_closes ts s2 [41]))
theorem kp_argLoop {ts : List RT} {rec : Nat → Q → Qe.Out} (h : RecK rec) : ∀ (g : Nat) {l l' : List Ex} {q q' : Q}, Qe.argLoop ts rec g l q = some (l', q') → Kp q q'
  | 0, _, _, _, _, hx => by cases hx
  | g + 1, l, l', q, q', hx => by
    rw [Qe.argLoop] at hx
    split at hx
    · split at hx
      · cases hx
      · rename_i e2 s2 he
        exact (kp_next q).trans ((h _ _ _ _ he).trans (kp_argLoop h g hx))
    · injection hx with hx
      injection hx with _ hx
      subst hx
      exact Kp.refl q
theorem kp_args {ts : List RT} {rec : Nat → Q → Qe.Out} (h : RecK rec) {g : Nat} {l' : List Ex} {q q' : Q} (hx : Qe.args ts rec g q = some (l', q')) : Kp q q' := by
  unfold Qe.args at hx
  split at hx
  · injection hx with hx
    injection hx with _ hx
    subst hx
    exact (kp_opens ts q [40]).trans (kp_closes ts _ [41])
  · split at hx
    · cases hx
    · rename_i e2 s2 he
      split at hx
      · cases hx
      · rename_i l3 s3 hl
        injection hx with hx
        injection hx with _ hx
        subst hx
        exact (kp_opens ts q [40]).trans ((h _ _ _ _ he).trans ((kp_argLoop h g hl).trans (kp_closes ts s3 [41])))
theorem kp_fresh {ts : List RT} {rec : Nat → Q → Qe.Out} (h : RecK rec) {q q' : Q} {at_ : Int} {e : Ex} (hx : Qe.fresh ts rec q at_ = some (e, q')) : Kp q q' := by
  unfold Qe.fresh at hx
  dsimp only at hx
  split at hx
  · split at hx
    · cases hx
    · rename_i e2 s2 he
      injection hx with hx
      injection hx with _ hx
      subst hx
      exact (kp_next q).trans ((kp_of ts _).trans ((kp_take ts _ false [93]).trans (kp_inner h he)))
  · injection hx with hx
    injection hx with _ hx
    subst hx
    exact kp_name ts q
theorem kp_first {ts : List RT} {rec : Nat → Q → Qe.Out} (h : RecK rec) {g : Nat} {q q' : Q} {e : Ex} (hx : Qe.first ts rec g q = some (e, q')) : Kp q q' := by
  have one : ∀ {e2 : Ex} {s2 : Q}, Kp q s2 → some (e2, s2) = some (e, q') → Kp q q' := fun hk hx => by
    injection hx with hx
    injection hx with _ hx
    exact hx ▸ hk
  unfold Qe.first at hx
  dsimp only at hx
  split at hx
  · exact one (kp_next q) hx
  · split at hx
    · exact one (kp_next q) hx
    · split at hx
      · exact one (kp_next q) hx
      · split at hx
        · exact one ((kp_next q).trans (kp_of ts _)) hx
        · split at hx
          · exact (kp_next q).trans (kp_fresh h hx)
          · split at hx
            · split at hx
              · cases hx
              · rename_i e2 s2 he
                exact one ((kp_next q).trans (kp_inner h he)) hx
            · split at hx
              · exact one ((kp_next q).trans ((kp_opens ts _ [40]).trans (kp_closes ts _ [41]))) hx
              · split at hx
                · exact kp_inner h hx
                · split at hx
                  · split at hx
                    · cases hx
                    · rename_i l2 s2 he
                      exact one ((kp_name ts q).trans (kp_args h he)) hx
                  · exact one (kp_name ts q) hx
theorem kp_behind {ts : List RT} {rec : Nat → Q → Qe.Out} (h : RecK rec) : ∀ (g : Nat) {e e' : Ex} {q q' : Q}, Qe.behind ts rec g e q = some (e', q') → Kp q q'
  | 0, _, _, _, _, hx => by cases hx
  | g + 1, e, e', q, q', hx => by
    rw [Qe.behind] at hx
    split at hx
    · exact (kp_next q).trans ((kp_name ts _).trans (kp_behind h g hx))
    · split at hx
      · split at hx
        · cases hx
        · rename_i e2 s2 he
          exact (kp_opens ts q [91]).trans ((h _ _ _ _ he).trans ((kp_closes ts s2 [93]).trans (kp_behind h g hx)))
      · injection hx with hx
        injection hx with _ hx
        subst hx
        exact Kp.refl q
theorem kp_prefixed {ts : List RT} {rec : Nat → Q → Qe.Out} (h : RecK rec) {q q' : Q} {t : List UInt8} {kind : Int} {e : Ex} (hx : Qe.prefixed ts rec q t kind = some (e, q')) : Kp q q' := by
  unfold Qe.prefixed at hx
  split at hx
  · cases hx
  · rename_i e2 s2 he
    injection hx with hx
    injection hx with _ hx
    subst hx
    exact (kp_opens ts q t).trans ((h _ _ _ _ he).trans fun h0 => ⟨h0, rfl⟩)
theorem kp_unary {ts : List RT} {rec : Nat → Q → Qe.Out} (h : RecK rec) {g : Nat} {q q' : Q} {e : Ex} (hx : Qe.unary ts rec g q = some (e, q')) : Kp q q' := by
  unfold Qe.unary at hx
  split at hx
  · exact kp_prefixed h hx
  · split at hx
    · exact kp_prefixed h hx
    · split at hx
      · cases hx
      · rename_i e2 s2 he
        exact (kp_first h he).trans (kp_behind h g hx)
theorem kp_binLoop {ts : List RT} {rec : Nat → Q → Qe.Out} (h : RecK rec) (n : Nat) : ∀ (g : Nat) {e e' : Ex} {q q' : Q}, Qe.binLoop ts rec n g e q = some (e', q') → Kp q q'
  | 0, _, _, _, _, hx => by cases hx
  | g + 1, e, e', q, q', hx => by
    rw [Qe.binLoop] at hx
    split at hx
    · injection hx with hx
      injection hx with _ hx
      subst hx
      exact Kp.refl q
    · split at hx
      · cases hx
      · rename_i e2 s2 he
        exact (kp_next q).trans ((h _ _ _ _ he).trans (kp_binLoop h n g hx))
theorem kp_run (ts : List RT) : ∀ f, RecK (Qe.run ts f)
  | 0 => fun n q e q' hx => by cases hx
  | f + 1 => fun n q e q' hx => by
    rw [qrun] at hx
    split at hx
    · exact kp_unary (kp_run ts f) hx
    · split at hx
      · cases hx
      · rename_i e2 s2 he
        exact (kp_run ts f _ _ _ _ he).trans (kp_binLoop (kp_run ts f) n f hx)
end Sim
end Go.Proofs.YtnnbdidefgghjaaDoor
