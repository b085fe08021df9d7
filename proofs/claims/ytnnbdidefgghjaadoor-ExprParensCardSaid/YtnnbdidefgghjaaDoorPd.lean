/-
  An expression in brackets, in plain data: three readings side by side: of a list; of the same list with more open; of a list that holds it from a place on, with a closing bracket where it ends, and as many open.
  An expression in brackets, in plain data: the three readings of an expression stay in step.
  An expression in brackets, in plain data: the three readings of a whole expression stay in step.
  An expression in brackets, in plain data: so many pairs of brackets leave no trace; too many are the limit.
-/
import Derived.Test.YtnnbdidefgghjaaDoorSe
import Derived.Test.YtnnbdidefgghjaaDoorSm
namespace Go.Proofs.YtnnbdidefgghjaaDoor
namespace Par
open Go.RowKit
open Px (RT tokAt isT levelT)
open Pe (Ex inc dec)
open Qe

/-- One list holds the other from a place on, with a closing bracket where it ends. -/
structure Laid (l m : List RT) (n e : Nat) : Prop where
  len : l.length = e + 1
  small : m.length ≤ 900000000
  last : (tokAt l e).kind = 0
  mid : ∀ k : Int, 0 ≤ k → k < e → (tokAt m (k + n)).kind = (tokAt l k).kind ∧ (tokAt m (k + n)).text = (tokAt l k).text ∧ (tokAt m (k + n)).num = (tokAt l k).num
  shut : (tokAt m ((e : Int) + n)).kind = 4 ∧ (tokAt m ((e : Int) + n)).text = [41]
  room : e + n < m.length

/-- All three go on, in step. -/
structure In (n e : Nat) (s s1 s2 : Q) : Prop where
  E : s.E = 0
  E1 : s1.E = 0
  E2 : s2.E = 0
  k0 : 0 ≤ s.k
  ke : s.k ≤ e
  k1 : s1.k = s.k
  k2 : s2.k = s.k + n
  o : s1.o = s2.o
def R (n e : Nat) (s s1 s2 : Q) : Prop := s.E = 0 → In n e s s1 s2 ∨ (s1.E = 4 ∧ s2.E = 4)

section
variable {l m : List RT} {n e : Nat}
theorem is_dead {ts : List RT} {s : Q} (h : s.E ≠ 0) (wd : Bool) (t : List UInt8) : is ts s wd t = false := by
  unfold is; rw [show (s.E == 0) = false by simpa using h]; rfl
theorem fail_stay {ts : List RT} {s : Q} (h : s.E ≠ 0) (x : Int) : fail ts s x = s := if_neg h
theorem fail_E {ts : List RT} {s : Q} (x : Int) (h : s.E = 0) : (fail ts s x).E = x := by unfold fail; rw [if_pos h]
theorem take_dead {ts : List RT} {s : Q} (h : s.E ≠ 0) (wd : Bool) (t : List UInt8) : take ts s wd t = s := by unfold take; rw [is_dead h]; exact fail_stay h _
theorem opens_dead {ts : List RT} {s : Q} (h : s.E ≠ 0) (t : List UInt8) : (opens ts s t).E = s.E := by
  unfold opens; rw [is_dead h, take_dead h]; rfl
theorem closes_dead {ts : List RT} {s : Q} (h : s.E ≠ 0) (t : List UInt8) : (closes ts s t).E = s.E := by unfold closes; rw [take_dead h]
theorem name_dead {ts : List RT} {s : Q} (h : s.E ≠ 0) : name ts s = ([], s) := by
  unfold name; rw [if_neg (fun hh => h hh.1), fail_stay h]
theorem dims_dead {ts : List RT} {s : Q} (h : s.E ≠ 0) (d : Nat) : dims ts d s = (some 0, s) := by
  cases d <;> rw [dims, is_dead h] <;> rfl
theorem base_dead {ts : List RT} {s : Q} (h : s.E ≠ 0) : base ts s = ([], s) := by
  unfold base; rw [is_dead h, is_dead h]; exact name_dead h
theorem of_dead {ts : List RT} {s : Q} (h : s.E ≠ 0) : of ts s = ([], 0, s) := by
  unfold of; rw [dims_dead h]; simp only [base_dead h, Qe.shut]

/-- A look at what stands there. -/
theorem look1 {s s1 s2 : Q} (h : In n e s s1 s2) (wd : Bool) (t : List UInt8) : is l s1 wd t = is l s wd t := by
  unfold is; rw [h.E, h.E1, h.k1]
theorem look_end (L : Laid l m n e) {s s1 s2 : Q} (_h : In n e s s1 s2) (he : s.k = e) (wd : Bool) (t : List UInt8) : is l s wd t = false := by
  unfold is isT; rw [he, L.last]; cases wd <;> simp
theorem look_mid (L : Laid l m n e) {s s1 s2 : Q} (h : In n e s s1 s2) (he : s.k < e) (wd : Bool) (t : List UInt8) : is m s2 wd t = is l s wd t := by
  obtain ⟨h1, h2, -⟩ := L.mid s.k h.k0 he
  unfold is isT; rw [h.E, h.E2, h.k2, h1, h2]
theorem look2 (L : Laid l m n e) {s s1 s2 : Q} (h : In n e s s1 s2) {wd : Bool} {t : List UInt8} (ht : wd = true ∨ t ≠ [41]) : is m s2 wd t = is l s wd t := by
  by_cases he : s.k < e
  · exact look_mid L h he wd t
  · have hk : s.k = e := by have := h.ke; omega
    rw [look_end L h hk]
    unfold is isT
    rw [h.k2, hk, L.shut.1, L.shut.2]
    rcases ht with rfl | ht
    · simp
    · cases wd
      · rw [Bool.and_eq_false_iff]; right
        rw [Bool.and_eq_false_iff]; right
        exact beq_false_of_ne (fun hh => ht hh.symm)
      · simp
theorem kind_mid (L : Laid l m n e) {k : Int} (_h0 : 0 ≤ k) (hk : k ≤ e) (hne : (tokAt l k).kind ≠ 0) : k < e := by
  by_cases he : k < e
  · exact he
  · have : k = e := by omega
    rw [this, L.last] at hne
    exact absurd rfl hne
theorem is_mid (L : Laid l m n e) {s s1 s2 : Q} (h : In n e s s1 s2) {wd : Bool} {t : List UInt8} (hi : is l s wd t = true) : s.k < e := by
  obtain ⟨-, -, -, h1, -⟩ := Sim.is_at hi
  exact kind_mid L h.k0 h.ke (by rw [h1]; cases wd <;> decide)

theorem In.next (L : Laid l m n e) {s s1 s2 : Q} (h : In n e s s1 s2) (hk : s.k < e) : In n e (next s) (next s1) (next s2) := by
  have hr := L.room
  have hs := L.small
  have h0 := h.k0
  have i1 : inc s.k = s.k + 1 := Sim.inc_eq h0 (by omega)
  have i2 : inc s2.k = s.k + n + 1 := by rw [h.k2]; exact Sim.inc_eq (by omega) (by omega)
  exact ⟨h.E, h.E1, h.E2, by show 0 ≤ inc s.k; omega, by show inc s.k ≤ e; omega, by show inc s1.k = inc s.k; rw [h.k1], by show inc s2.k = inc s.k + n; rw [i1, i2]; omega, h.o⟩
theorem In.on {s s1 s2 : Q} (h : In n e s s1 s2) (a b : Int) : In n e ⟨s.k, a, s.E, s.F⟩ ⟨s1.k, b, s1.E, s1.F⟩ ⟨s2.k, b, s2.E, s2.F⟩ := ⟨h.E, h.E1, h.E2, h.k0, h.ke, h.k1, h.k2, rfl⟩
theorem is_E {ts : List RT} {s : Q} {wd : Bool} {t : List UInt8} (h : is ts s wd t = true) : s.E = 0 := (Sim.is_at h).1

theorem take_E {ts : List RT} {s : Q} {wd : Bool} {t : List UInt8} (h : (take ts s wd t).E = 0) : is ts s wd t = true := by
  unfold take at h
  cases hv : is ts s wd t with
  | true => rfl
  | false => rw [hv] at h; exact absurd h (Sim.fail_dead (by decide))
theorem R.take (L : Laid l m n e) {s s1 s2 : Q} (h : R n e s s1 s2) (wd : Bool) (t : List UInt8) : R n e (take l s wd t) (take l s1 wd t) (take m s2 wd t) := by
  intro h0
  have hi := take_E h0
  rcases h (is_E hi) with h | ⟨h1, h2⟩
  · have hk := is_mid L h hi
    unfold Qe.take
    rw [look1 h, look_mid L h hk, hi]
    exact .inl (h.next L hk)
  · rw [take_dead (ts := l) (s := s1) (by rw [h1]; decide), take_dead (ts := m) (s := s2) (by rw [h2]; decide)]
    exact .inr ⟨h1, h2⟩
theorem R.closes (L : Laid l m n e) {s s1 s2 : Q} (h : R n e s s1 s2) (t : List UInt8) : R n e (closes l s t) (closes l s1 t) (closes m s2 t) := by
  intro h0
  rcases h.take L false t h0 with h | h
  · refine .inl ?_
    unfold Qe.closes
    rw [h.o]
    exact h.on _ _
  · exact .inr h
theorem opens_E {ts : List RT} {s : Q} {t : List UInt8} (h : (opens ts s t).E = 0) : is ts s false t = true ∧ ¬ 50 ≤ s.o := by
  unfold opens at h
  cases hv : is ts s false t && decide (50 ≤ s.o) with
  | true =>
    rw [hv] at h
    exact absurd h (Sim.fail_dead (by decide))
  | false =>
    rw [hv] at h
    simp only [Bool.false_eq_true, if_false] at h
    have hi := take_E h
    rw [hi] at hv
    exact ⟨hi, by simpa using hv⟩
theorem R.opens (L : Laid l m n e) {s s1 s2 : Q} (h : R n e s s1 s2) {t : List UInt8} : R n e (opens l s t) (opens l s1 t) (opens m s2 t) := by
  intro h0
  obtain ⟨hi, ho⟩ := opens_E h0
  rcases h (is_E hi) with h | ⟨h1, h2⟩
  · have hk := is_mid L h hi
    have i1 : is l s1 false t = true := by rw [look1 h]; exact hi
    have i2 : is m s2 false t = true := by rw [look_mid L h hk]; exact hi
    by_cases h5 : 50 ≤ s1.o
    · refine .inr ⟨?_, ?_⟩
      · unfold Qe.opens; rw [i1, decide_eq_true h5, Bool.and_self, if_pos rfl]; exact fail_E 4 h.E1
      · unfold Qe.opens; rw [i2, decide_eq_true (by rw [← h.o]; exact h5), Bool.and_self, if_pos rfl]; exact fail_E 4 h.E2
    · refine .inl ?_
      have h6 : ¬ 50 ≤ s2.o := by rw [← h.o]; exact h5
      unfold Qe.opens Qe.take
      rw [hi, i1, i2, decide_eq_false ho, decide_eq_false h5, decide_eq_false h6]
      simp only [Bool.and_false, Bool.false_eq_true, if_false, if_true]
      have := (h.next L hk).on (inc s.o) (inc s1.o)
      show In n e ⟨(next s).k, inc s.o, _, _⟩ ⟨(next s1).k, inc s1.o, _, _⟩ ⟨(next s2).k, inc s2.o, _, _⟩
      rw [← h.o]
      exact this
  · exact .inr ⟨by rw [opens_dead (by rw [h1]; decide)]; exact h1, by rw [opens_dead (by rw [h2]; decide)]; exact h2⟩

/-- What is read is the same, too. -/
def V (n e : Nat) (p : Prop) (s s1 s2 : Q) : Prop := s.E = 0 → (In n e s s1 s2 ∧ p) ∨ (s1.E = 4 ∧ s2.E = 4)
theorem V.r {p : Prop} {s s1 s2 : Q} (h : V n e p s s1 s2) : R n e s s1 s2 := fun h0 => (h h0).imp (·.1) id
theorem name_E {ts : List RT} {s : Q} (h : (name ts s).2.E = 0) : s.E = 0 ∧ (tokAt ts s.k).kind = 1 := by
  unfold name at h
  by_cases hc : s.E = 0 ∧ (tokAt ts s.k).kind = 1
  · exact hc
  · rw [if_neg hc] at h; exact absurd h (Sim.fail_dead (by decide))
theorem V.name (L : Laid l m n e) {s s1 s2 : Q} (h : R n e s s1 s2) : V n e ((name m s2).1 = (name l s).1) (name l s).2 (name l s1).2 (name m s2).2 := by
  intro h0
  obtain ⟨hE, hk1⟩ := name_E h0
  rcases h hE with h | ⟨h1, h2⟩
  · have hk := kind_mid L h.k0 h.ke (by rw [hk1]; decide)
    obtain ⟨m1, m2, -⟩ := L.mid s.k h.k0 hk
    have c1 : s1.E = 0 ∧ (tokAt l s1.k).kind = 1 := ⟨h.E1, by rw [h.k1]; exact hk1⟩
    have c2 : s2.E = 0 ∧ (tokAt m s2.k).kind = 1 := ⟨h.E2, by rw [h.k2, m1]; exact hk1⟩
    unfold Qe.name
    rw [if_pos ⟨hE, hk1⟩, if_pos c1, if_pos c2]
    exact .inl ⟨h.next L hk, by show (tokAt m s2.k).text = _; rw [h.k2, m2]⟩
  · rw [name_dead (ts := l) (s := s1) (by rw [h1]; decide), name_dead (ts := m) (s := s2) (by rw [h2]; decide)]
    exact .inr ⟨h1, h2⟩
theorem V.dims (L : Laid l m n e) : ∀ (d : Nat) {s s1 s2 : Q}, R n e s s1 s2 → V n e ((dims l d s1).1 = (dims l d s).1 ∧ (dims m d s2).1 = (dims l d s).1) (dims l d s).2 (dims l d s1).2 (dims m d s2).2
  | 0, s, s1, s2, h => by
    intro h0
    rw [Qe.dims] at h0 ⊢
    cases hv : is l s false [91] with
    | true => rw [hv] at h0; exact absurd h0 (Sim.fail_dead (by decide))
    | false =>
      rw [hv] at h0
      rcases h h0 with h | ⟨h1, h2⟩
      · rw [Qe.dims, Qe.dims, look1 h, look2 L h (.inr (by decide)), hv]
        exact .inl ⟨h, rfl, rfl⟩
      · rw [dims_dead (ts := l) (s := s1) (by rw [h1]; decide), dims_dead (ts := m) (s := s2) (by rw [h2]; decide)]
        exact .inr ⟨h1, h2⟩
  | d + 1, s, s1, s2, h => by
    intro h0
    rw [Qe.dims] at h0 ⊢
    cases hv : is l s false [91] with
    | true =>
      rw [hv] at h0
      simp only [if_true] at h0 ⊢
      rcases h (is_E hv) with h | ⟨h1, h2⟩
      · have hk := is_mid L h hv
        rw [Qe.dims, Qe.dims, look1 h, look2 L h (.inr (by decide)), hv]
        simp only [if_true]
        rcases V.dims L d (fun _ => .inl (h.next L hk)) h0 with ⟨h, e1, e2⟩ | h
        · exact .inl ⟨h, by rw [e1], by rw [e2]⟩
        · exact .inr h
      · rw [dims_dead (ts := l) (s := s1) (by rw [h1]; decide), dims_dead (ts := m) (s := s2) (by rw [h2]; decide)]
        exact .inr ⟨h1, h2⟩
    | false =>
      rw [hv] at h0
      rcases h h0 with h | ⟨h1, h2⟩
      · rw [Qe.dims, Qe.dims, look1 h, look2 L h (.inr (by decide)), hv]
        exact .inl ⟨h, rfl, rfl⟩
      · rw [dims_dead (ts := l) (s := s1) (by rw [h1]; decide), dims_dead (ts := m) (s := s2) (by rw [h2]; decide)]
        exact .inr ⟨h1, h2⟩
theorem V.base (L : Laid l m n e) {s s1 s2 : Q} (h : R n e s s1 s2) : V n e ((base m s2).1 = (base l s).1) (base l s).2 (base l s1).2 (base m s2).2 := by
  intro h0
  by_cases hE : s.E = 0
  · rcases h hE with h | ⟨h1, h2⟩
    · unfold Qe.base at h0 ⊢
      rw [look1 h, look1 h, look2 L h (.inl rfl), look2 L h (.inl rfl)]
      cases hv : is l s true [105, 110, 116] || is l s true [98, 111, 111, 108] with
      | true =>
        have hk : s.k < e := by
          rcases Bool.or_eq_true_iff.1 hv with hv | hv
          · exact is_mid L h hv
          · exact is_mid L h hv
        obtain ⟨-, m2, -⟩ := L.mid s.k h.k0 hk
        exact .inl ⟨h.next L hk, by show (tokAt m s2.k).text = _; rw [h.k2, m2]; rfl⟩
      | false =>
        rw [hv] at h0
        exact V.name L (fun _ => .inl h) h0
    · rw [base_dead (ts := l) (s := s1) (by rw [h1]; decide), base_dead (ts := m) (s := s2) (by rw [h2]; decide)]
      exact .inr ⟨h1, h2⟩
  · rw [base_dead hE] at h0; exact absurd h0 hE
theorem R.shut (L : Laid l m n e) : ∀ (d : Nat) {s s1 s2 : Q}, R n e s s1 s2 → R n e (Qe.shut l d s) (Qe.shut l d s1) (Qe.shut m d s2)
  | 0, _, _, _, h => h
  | d + 1, _, _, _, h => R.shut L d (h.take L false [93])
theorem shut_E {ts : List RT} : ∀ (d : Nat) {s : Q}, (Qe.shut ts d s).E = 0 → s.E = 0
  | 0, _, h => h
  | d + 1, _, h => is_E (take_E (shut_E d h))
theorem shut_dead {ts : List RT} : ∀ (d : Nat) {s : Q}, s.E ≠ 0 → Qe.shut ts d s = s
  | 0, _, _ => rfl
  | d + 1, _, h => by rw [Qe.shut, take_dead h]; exact shut_dead d h
theorem base_E {ts : List RT} {s : Q} (h : (base ts s).2.E = 0) : s.E = 0 := by
  by_cases hE : s.E = 0
  · exact hE
  · rw [base_dead hE] at h; exact absurd h hE
theorem dims_none {ts : List RT} : ∀ (d : Nat) {s : Q}, (Qe.dims ts d s).1 = none → (Qe.dims ts d s).2.E ≠ 0
  | 0, s, h => by
    rw [Qe.dims] at h ⊢
    cases hv : is ts s false [91] with
    | true => exact Sim.fail_dead (by decide)
    | false => rw [hv] at h; cases h
  | d + 1, s, h => by
    rw [Qe.dims] at h ⊢
    cases hv : is ts s false [91] with
    | true =>
      rw [hv] at h
      simp only [if_true] at h ⊢
      cases h2 : (Qe.dims ts d (Qe.next s)).1 with
      | none => exact dims_none d h2
      | some x => rw [h2] at h; cases h
    | false => rw [hv] at h; cases h
theorem of_dims {ts : List RT} {s : Q} (h : (Qe.dims ts 3 s).2.E ≠ 0) : (Qe.of ts s).2.2.E = (Qe.dims ts 3 s).2.E := by
  unfold Qe.of
  cases hv : (Qe.dims ts 3 s).1 with
  | none => rfl
  | some d =>
    simp only [base_dead h]
    rw [shut_dead d h]
theorem V.of (L : Laid l m n e) {s s1 s2 : Q} (h : R n e s s1 s2) : V n e ((of m s2).1 = (of l s).1 ∧ (of m s2).2.1 = (of l s).2.1) (of l s).2.2 (of l s1).2.2 (of m s2).2.2 := by
  have hd := V.dims L 3 h
  intro h0
  unfold Qe.of at h0 ⊢
  cases hv : (Qe.dims l 3 s).1 with
  | none =>
    rw [hv] at h0
    exact absurd h0 (dims_none 3 hv)
  | some d =>
    rw [hv] at h0
    simp only at h0 ⊢
    have hb0 := shut_E d h0
    rcases hd (base_E hb0) with ⟨hi, e1, e2⟩ | ⟨h1, h2⟩
    · rw [e1, e2, hv]
      simp only
      rcases V.base L (fun _ => .inl hi) hb0 with ⟨hj, e3⟩ | ⟨h1, h2⟩
      · rcases R.shut L d (fun _ => .inl hj) h0 with hk | hk
        · exact .inl ⟨hk, e3, trivial⟩
        · exact .inr hk
      · exact .inr ⟨by rw [shut_dead d (by rw [h1]; decide)]; exact h1, by rw [shut_dead d (by rw [h2]; decide)]; exact h2⟩
    · exact .inr ⟨(of_dims (ts := l) (s := s1) (by rw [h1]; decide)).trans h1, (of_dims (ts := m) (s := s2) (by rw [h2]; decide)).trans h2⟩
end
end Par
end Go.Proofs.YtnnbdidefgghjaaDoor
namespace Go.Proofs.YtnnbdidefgghjaaDoor
namespace Par
open Go.RowKit
open Px (RT tokAt isT levelT)
open Pe (Ex inc dec)
open Qe

/-! Behind the first fault nothing is read. -/
theorem first_dead {ts : List RT} {rec : Nat → Q → Out} {g : Nat} {s : Q} (h : s.E ≠ 0) : ∃ a, first ts rec g s = some (a, s) := by
  unfold first
  simp only [is_dead h, name_dead h, Bool.false_eq_true, if_false]
  rw [if_neg (fun hh => h hh.1)]
  exact ⟨_, rfl⟩
theorem fresh_dead {ts : List RT} {rec : Nat → Q → Out} {s : Q} (h : s.E ≠ 0) (a : Int) : ∃ b, fresh ts rec s a = some (b, s) := by
  unfold fresh
  simp only [is_dead h, name_dead h, Bool.false_eq_true, if_false]
  exact ⟨_, rfl⟩
theorem behind_dead {ts : List RT} {rec : Nat → Q → Out} {g : Nat} {s : Q} {a : Ex} {x : Ex × Q} (h : s.E ≠ 0) (hx : behind ts rec g a s = some x) : x = (a, s) := by
  cases g with
  | zero => rw [behind] at hx; cases hx
  | succ g =>
    rw [behind, is_dead h, is_dead h] at hx
    exact (Option.some.inj hx).symm
theorem bin_dead {ts : List RT} {rec : Nat → Q → Out} {j g : Nat} {s : Q} {a : Ex} {x : Ex × Q} (h : s.E ≠ 0) (hx : binLoop ts rec j g a s = some x) : x = (a, s) := by
  cases g with
  | zero => rw [binLoop] at hx; cases hx
  | succ g =>
    rw [binLoop, show sign ts s j = 0 from if_neg h, if_pos rfl] at hx
    exact (Option.some.inj hx).symm
theorem argLoop_dead {ts : List RT} {rec : Nat → Q → Out} {g : Nat} {s : Q} {a : List Ex} {x : List Ex × Q} (h : s.E ≠ 0) (hx : argLoop ts rec g a s = some x) : x = (a, s) := by
  cases g with
  | zero => rw [argLoop] at hx; cases hx
  | succ g =>
    rw [argLoop, is_dead h] at hx
    exact (Option.some.inj hx).symm
theorem unary_dead {ts : List RT} {rec : Nat → Q → Out} {g : Nat} {s : Q} {x : Ex × Q} (h : s.E ≠ 0) (hx : unary ts rec g s = some x) : x.2.E = s.E := by
  obtain ⟨a, ha⟩ := first_dead (ts := ts) (rec := rec) (g := g) h
  unfold unary at hx
  rw [is_dead h, is_dead h, ha] at hx
  have := behind_dead h hx
  rw [this]
theorem run_succ (ts : List RT) (f j : Nat) (s : Q) : run ts (f + 1) j s = if j = 5 then unary ts (run ts f) f s else
    match run ts f (j + 1) s with
    | none => none
    | some (l, s1) => binLoop ts (run ts f) j f l s1 := rfl
theorem run_dead {ts : List RT} : ∀ (f j : Nat) {s : Q} {x : Ex × Q}, s.E ≠ 0 → run ts f j s = some x → x.2.E = s.E
  | 0, j, s, x, _, hx => by rw [run] at hx; cases hx
  | f + 1, j, s, x, h, hx => by
    rw [run_succ] at hx
    by_cases hj : j = 5
    · rw [if_pos hj] at hx
      exact unary_dead h hx
    · rw [if_neg hj] at hx
      split at hx
      · cases hx
      · rename_i a s1 ha
        have h1 := run_dead f (j + 1) h ha
        have := bin_dead (by rw [h1]; exact h) hx
        rw [this]; exact h1

section
variable {l m : List RT} {n e : Nat}
/-! Where the list ends no expression begins. -/
theorem none_at (L : Laid l m n e) {s : Q} (hk : s.k = e) (wd : Bool) (t : List UInt8) : is l s wd t = false := by
  unfold is isT; rw [hk, L.last]; cases wd <;> simp
theorem first_stop (L : Laid l m n e) {rec : Nat → Q → Out} {g : Nat} {s : Q} {x : Ex × Q} (_h0 : s.E = 0) (hk : s.k = e) (hx : first l rec g s = some x) : x.2.E ≠ 0 := by
  have hn : name l s = ([], fail l s 2) := by
    unfold name; rw [if_neg]; rintro ⟨-, hh⟩; rw [hk, L.last] at hh; cases hh
  have hf : (fail l s 2).E ≠ 0 := Sim.fail_dead (by decide)
  unfold first at hx
  simp only [none_at L hk, hn, is_dead hf, Bool.false_eq_true, if_false] at hx
  rw [if_neg (by rintro ⟨-, hh⟩; rw [hk, L.last] at hh; cases hh)] at hx
  rw [← Option.some.inj hx]
  exact hf
theorem unary_stop (L : Laid l m n e) {rec : Nat → Q → Out} {g : Nat} {s : Q} {x : Ex × Q} (h0 : s.E = 0) (hk : s.k = e) (hx : unary l rec g s = some x) : x.2.E ≠ 0 := by
  unfold unary at hx
  rw [none_at L hk, none_at L hk] at hx
  simp only [Bool.false_eq_true, if_false] at hx
  split at hx
  · cases hx
  · rename_i a s2 ha
    have h1 := first_stop L h0 hk ha
    rw [behind_dead h1 hx]
    exact h1
theorem run_stop (L : Laid l m n e) : ∀ (f j : Nat) {s : Q} {x : Ex × Q}, s.E = 0 → s.k = e → run l f j s = some x → x.2.E ≠ 0
  | 0, j, s, x, _, _, hx => by rw [run] at hx; cases hx
  | f + 1, j, s, x, h0, hk, hx => by
    rw [run_succ] at hx
    by_cases hj : j = 5
    · rw [if_pos hj] at hx
      exact unary_stop L h0 hk hx
    · rw [if_neg hj] at hx
      split at hx
      · cases hx
      · rename_i a s1 ha
        have h1 := run_stop L f (j + 1) h0 hk ha
        rw [bin_dead h1 hx]
        exact h1

/-! In step. -/
abbrev OutR (n e : Nat) (x x1 x2 : Ex × Q) : Prop := V n e (sameE x2.1 x.1 = true) x.2 x1.2 x2.2
abbrev OutL (n e : Nat) (x x1 x2 : List Ex × Q) : Prop := V n e (sameL x2.1 x.1 = true) x.2 x1.2 x2.2
structure RecOk (l m : List RT) (n e : Nat) (rec rec1 rec2 : Nat → Q → Out) : Prop where
  go : ∀ {j : Nat} {s s1 s2 : Q} {x x1 x2 : Ex × Q}, R n e s s1 s2 → rec j s = some x → rec1 j s1 = some x1 → rec2 j s2 = some x2 → OutR n e x x1 x2
  stop : ∀ {j : Nat} {s : Q} {x : Ex × Q}, s.E = 0 → s.k = e → rec j s = some x → x.2.E ≠ 0
  d0 : ∀ {j : Nat} {s : Q} {x : Ex × Q}, s.E ≠ 0 → rec j s = some x → x.2.E = s.E
  d1 : ∀ {j : Nat} {s : Q} {x : Ex × Q}, s.E ≠ 0 → rec1 j s = some x → x.2.E = s.E
  d2 : ∀ {j : Nat} {s : Q} {x : Ex × Q}, s.E ≠ 0 → rec2 j s = some x → x.2.E = s.E

theorem four {x : Int} (h : x = 4) : x ≠ 0 := by rw [h]; decide
theorem sameE_of {k : Int} {d : Int} {nm o : List UInt8} {dm : Int} {us vs : List Ex} {a b : Int} (h : sameL us vs = true) : sameE (Ex.of k d nm o dm us a) (Ex.of k d nm o dm vs b) = true := by
  simp [sameE, Ex.of, h]
theorem sameL_one {a b : Ex} (h : sameE a b = true) : sameL [a] [b] = true := by simp [sameL, h]
theorem sameL_two {a b c d : Ex} (h : sameE a b = true) (h2 : sameE c d = true) : sameL [a, c] [b, d] = true := by simp [sameL, h, h2]
theorem sameL_snoc {a b : Ex} (h : sameE a b = true) : ∀ {us vs : List Ex}, sameL us vs = true → sameL (us ++ [a]) (vs ++ [b]) = true
  | [], [], _ => sameL_one h
  | [], _ :: _, hh => by simp [sameL] at hh
  | _ :: _, [], hh => by simp [sameL] at hh
  | x :: xs, y :: ys, hh => by
    simp only [sameL, Bool.and_eq_true] at hh
    simp only [List.cons_append, sameL, Bool.and_eq_true]
    exact ⟨hh.1, sameL_snoc h hh.2⟩

variable {rec rec1 rec2 : Nat → Q → Out}
theorem closes_E {ts : List RT} {s : Q} {t : List UInt8} (h : (closes ts s t).E = 0) : s.E = 0 := is_E (take_E h)
theorem V.closes (L : Laid l m n e) {p : Prop} {s s1 s2 : Q} (h : V n e p s s1 s2) (t : List UInt8) : V n e p (closes l s t) (closes l s1 t) (closes m s2 t) := by
  intro h0
  rcases h (closes_E h0) with ⟨hi, hp⟩ | hd
  · exact (R.closes L (fun _ => .inl hi) t h0).imp (⟨·, hp⟩) id
  · refine .inr ⟨?_, ?_⟩
    · rw [closes_dead (four hd.1)]; exact hd.1
    · rw [closes_dead (four hd.2)]; exact hd.2
theorem V.imp {p q : Prop} {s s1 s2 : Q} (h : V n e p s s1 s2) (f : p → q) : V n e q s s1 s2 := fun h0 => (h h0).imp (fun hh => ⟨hh.1, f hh.2⟩) id

theorem inner_dead {ts : List RT} {rec : Nat → Q → Out} (D : ∀ {j : Nat} {s : Q} {x : Ex × Q}, s.E ≠ 0 → rec j s = some x → x.2.E = s.E) {s : Q} {x : Ex × Q} (h : s.E ≠ 0) (hx : inner ts rec s = some x) : x.2.E = s.E := by
  unfold inner at hx
  have ho := opens_dead (ts := ts) h [40]
  split at hx
  · cases hx
  · rename_i a s2 ha
    have h2 := D (by rw [ho]; exact h) ha
    rw [← Option.some.inj hx]
    show (Qe.closes ts s2 [41]).E = _
    rw [closes_dead (by rw [h2, ho]; exact h)]
    exact h2.trans ho
theorem inner_in (L : Laid l m n e) (H : RecOk l m n e rec rec1 rec2) {s s1 s2 : Q} {x x1 x2 : Ex × Q} (h : R n e s s1 s2) (hx : inner l rec s = some x) (hx1 : inner l rec1 s1 = some x1) (hx2 : inner m rec2 s2 = some x2) : OutR n e x x1 x2 := by
  unfold inner at hx hx1 hx2
  split at hx
  · cases hx
  rename_i a t ha
  split at hx1
  · cases hx1
  rename_i a1 t1 ha1
  split at hx2
  · cases hx2
  rename_i a2 t2 ha2
  obtain rfl := Option.some.inj hx
  obtain rfl := Option.some.inj hx1
  obtain rfl := Option.some.inj hx2
  exact (H.go (h.opens L) ha ha1 ha2).closes L [41]
theorem argLoop_in (L : Laid l m n e) (H : RecOk l m n e rec rec1 rec2) : ∀ (g g1 g2 : Nat) {s s1 s2 : Q} {a a1 a2 : List Ex} {x x1 x2 : List Ex × Q}, V n e (sameL a2 a = true) s s1 s2 → argLoop l rec g a s = some x → argLoop l rec1 g1 a1 s1 = some x1 → argLoop m rec2 g2 a2 s2 = some x2 → OutL n e x x1 x2
  | 0, _, _, _, _, _, _, _, _, _, _, _, _, hx, _, _ => by rw [argLoop] at hx; cases hx
  | _ + 1, 0, _, _, _, _, _, _, _, _, _, _, _, _, hx, _ => by rw [argLoop] at hx; cases hx
  | _ + 1, _ + 1, 0, _, _, _, _, _, _, _, _, _, _, _, _, hx => by rw [argLoop] at hx; cases hx
  | g + 1, g1 + 1, g2 + 1, s, s1, s2, a, a1, a2, x, x1, x2, h, hx, hx1, hx2 => by
    by_cases hE : s.E = 0
    · rcases h hE with ⟨hi, hs⟩ | hd
      · rw [argLoop] at hx hx1 hx2
        rw [look1 hi] at hx1
        rw [look2 L hi (.inr (by decide))] at hx2
        cases hv : is l s false [44] with
        | true =>
          rw [hv] at hx hx1 hx2
          simp only [if_true] at hx hx1 hx2
          split at hx
          · cases hx
          rename_i b t hb
          split at hx1
          · cases hx1
          rename_i b1 t1 hb1
          split at hx2
          · cases hx2
          rename_i b2 t2 hb2
          have ho := H.go (fun _ => .inl (hi.next L (is_mid L hi hv))) hb hb1 hb2
          exact argLoop_in L H g g1 g2 (ho.imp fun hh => sameL_snoc hh hs) hx hx1 hx2
        | false =>
          rw [hv] at hx hx1 hx2
          obtain rfl := Option.some.inj hx
          obtain rfl := Option.some.inj hx1
          obtain rfl := Option.some.inj hx2
          exact h
      · obtain rfl := argLoop_dead (four hd.1) hx1
        obtain rfl := argLoop_dead (four hd.2) hx2
        exact fun _ => .inr hd
    · obtain rfl := argLoop_dead hE hx
      exact fun h0 => absurd h0 hE

/-- The arguments behind the opening bracket. -/
def tail (ts : List RT) (rec : Nat → Q → Out) (g : Nat) (s : Q) : Option (List Ex × Q) :=
  if is ts s false [41] then some ([], closes ts s [41]) else
  match rec 0 s with
  | none => none
  | some (e, s2) => match argLoop ts rec g [e] s2 with
    | none => none
    | some (l, s3) => some (l, closes ts s3 [41])
theorem args_tail (ts : List RT) (rec : Nat → Q → Out) (g : Nat) (s : Q) : args ts rec g s = tail ts rec g (opens ts s [40]) := rfl
theorem tail_dead {ts : List RT} {rec : Nat → Q → Out} (D : ∀ {j : Nat} {s : Q} {x : Ex × Q}, s.E ≠ 0 → rec j s = some x → x.2.E = s.E) {g : Nat} {s : Q} {x : List Ex × Q} (h : s.E ≠ 0) (hx : tail ts rec g s = some x) : x.2.E = s.E := by
  unfold tail at hx
  rw [is_dead h] at hx
  simp only [Bool.false_eq_true, if_false] at hx
  split at hx
  · cases hx
  rename_i a t ha
  have h1 := D h ha
  split at hx
  · cases hx
  rename_i b u hb
  have h2 := argLoop_dead (by rw [h1]; exact h) hb
  obtain rfl := Option.some.inj hx
  obtain ⟨-, rfl⟩ := Prod.mk.inj h2
  show (Qe.closes ts u [41]).E = _
  rw [closes_dead (by rw [h1]; exact h)]
  exact h1
theorem tail_in (L : Laid l m n e) (H : RecOk l m n e rec rec1 rec2) {g g1 g2 : Nat} {s s1 s2 : Q} {x x1 x2 : List Ex × Q} (h : R n e s s1 s2) (hx : tail l rec g s = some x) (hx1 : tail l rec1 g1 s1 = some x1) (hx2 : tail m rec2 g2 s2 = some x2) : OutL n e x x1 x2 := by
  by_cases hE : s.E = 0
  · rcases h hE with hi | hd
    · unfold tail at hx hx1 hx2
      rw [look1 hi] at hx1
      by_cases hk : s.k < e
      · rw [look_mid L hi hk] at hx2
        cases hv : is l s false [41] with
        | true =>
          rw [hv] at hx hx1 hx2
          obtain rfl := Option.some.inj hx
          obtain rfl := Option.some.inj hx1
          obtain rfl := Option.some.inj hx2
          exact V.closes L (fun _ => .inl ⟨hi, by simp [sameL]⟩) [41]
        | false =>
          rw [hv] at hx hx1 hx2
          simp only [Bool.false_eq_true, if_false] at hx hx1 hx2
          split at hx
          · cases hx
          rename_i b t hb
          split at hx1
          · cases hx1
          rename_i b1 t1 hb1
          split at hx2
          · cases hx2
          rename_i b2 t2 hb2
          split at hx
          · cases hx
          rename_i c u hc
          split at hx1
          · cases hx1
          rename_i c1 u1 hc1
          split at hx2
          · cases hx2
          rename_i c2 u2 hc2
          obtain rfl := Option.some.inj hx
          obtain rfl := Option.some.inj hx1
          obtain rfl := Option.some.inj hx2
          have ho := H.go (fun _ => .inl hi) hb hb1 hb2
          exact V.closes L (argLoop_in L H g g1 g2 (ho.imp sameL_one) hc hc1 hc2) [41]
      · have hk2 : s.k = e := by have := hi.ke; omega
        rw [none_at L hk2] at hx
        simp only [Bool.false_eq_true, if_false] at hx
        split at hx
        · cases hx
        rename_i b t hb
        have h1 := H.stop hE hk2 hb
        split at hx
        · cases hx
        rename_i c u hc
        obtain rfl := Option.some.inj hx
        have h2 := argLoop_dead h1 hc
        obtain ⟨-, rfl⟩ := Prod.mk.inj h2
        exact fun h0 => absurd (closes_E h0) h1
    · exact fun _ => .inr ⟨(tail_dead H.d1 (four hd.1) hx1).trans hd.1, (tail_dead H.d2 (four hd.2) hx2).trans hd.2⟩
  · exact fun h0 => absurd ((tail_dead H.d0 hE hx).symm.trans h0) hE
theorem fresh_in (L : Laid l m n e) (H : RecOk l m n e rec rec1 rec2) {s s1 s2 : Q} {a a1 a2 : Int} {x x1 x2 : Ex × Q} (h : R n e s s1 s2) (hx : fresh l rec s a = some x) (hx1 : fresh l rec1 s1 a1 = some x1) (hx2 : fresh m rec2 s2 a2 = some x2) : OutR n e x x1 x2 := by
  by_cases hE : s.E = 0
  · rcases h hE with hi | hd
    · unfold fresh at hx hx1 hx2
      rw [look1 hi] at hx1
      rw [look2 L hi (.inr (by decide))] at hx2
      cases hv : is l s false [91] with
      | true =>
        rw [hv] at hx hx1 hx2
        simp only [if_true] at hx hx1 hx2
        split at hx
        · cases hx
        rename_i b t hb
        split at hx1
        · cases hx1
        rename_i b1 t1 hb1
        split at hx2
        · cases hx2
        rename_i b2 t2 hb2
        obtain rfl := Option.some.inj hx
        obtain rfl := Option.some.inj hx1
        obtain rfl := Option.some.inj hx2
        have hof := V.of L (s := next s) (s1 := next s1) (s2 := next s2) (fun _ => .inl (hi.next L (is_mid L hi hv)))
        have ho := inner_in L H (hof.r.take L false [93]) hb hb1 hb2
        intro h0
        have hb0 : (of l (next s)).2.2.E = 0 := by
          by_cases h3 : (take l (of l (next s)).2.2 false [93]).E = 0
          · exact is_E (take_E h3)
          · exact absurd ((inner_dead H.d0 h3 hb).symm.trans h0) h3
        rcases ho h0 with ⟨hj, hs⟩ | hd
        · rcases hof hb0 with ⟨-, e1, e2⟩ | hd
          · refine .inl ⟨hj, ?_⟩
            show sameE (Ex.of 9 0 [] (of m (next s2)).1 (of m (next s2)).2.1 [b2] a2) (Ex.of 9 0 [] (of l (next s)).1 (of l (next s)).2.1 [b] a) = true
            rw [e1, e2]
            exact sameE_of (sameL_one hs)
          · refine .inr ⟨?_, ?_⟩
            · have h5 := take_dead (ts := l) (four hd.1) false [93]
              exact (inner_dead H.d1 (by rw [h5]; exact four hd.1) hb1).trans (by rw [h5]; exact hd.1)
            · have h5 := take_dead (ts := m) (four hd.2) false [93]
              exact (inner_dead H.d2 (by rw [h5]; exact four hd.2) hb2).trans (by rw [h5]; exact hd.2)
        · exact .inr hd
      | false =>
        rw [hv] at hx hx1 hx2
        obtain rfl := Option.some.inj hx
        obtain rfl := Option.some.inj hx1
        obtain rfl := Option.some.inj hx2
        refine (V.name L (fun _ => .inl hi)).imp fun hh => ?_
        show sameE (Ex.of 8 0 [] (name m s2).1 0 [] a2) (Ex.of 8 0 [] (name l s).1 0 [] a) = true
        rw [hh]
        exact sameE_of (by simp [sameL])
    · obtain ⟨b1, hb1⟩ := fresh_dead (ts := l) (rec := rec1) (four hd.1) a1
      obtain ⟨b2, hb2⟩ := fresh_dead (ts := m) (rec := rec2) (four hd.2) a2
      rw [hb1] at hx1
      rw [hb2] at hx2
      obtain rfl := Option.some.inj hx1
      obtain rfl := Option.some.inj hx2
      exact fun _ => .inr hd
  · obtain ⟨b, hb⟩ := fresh_dead (ts := l) (rec := rec) hE a
    rw [hb] at hx
    obtain rfl := Option.some.inj hx
    exact fun h0 => absurd h0 hE
end
end Par
end Go.Proofs.YtnnbdidefgghjaaDoor
namespace Go.Proofs.YtnnbdidefgghjaaDoor
namespace Par
open Go.RowKit
open Px (RT tokAt isT levelT)
open Pe (Ex inc dec)
open Qe

section
variable {l m : List RT} {n e : Nat} {rec rec1 rec2 : Nat → Q → Out}
theorem first_in (L : Laid l m n e) (H : RecOk l m n e rec rec1 rec2) {g g1 g2 : Nat} {s s1 s2 : Q} {x x1 x2 : Ex × Q} (h : R n e s s1 s2) (hx : first l rec g s = some x) (hx1 : first l rec1 g1 s1 = some x1) (hx2 : first m rec2 g2 s2 = some x2) : OutR n e x x1 x2 := by
  by_cases hE : s.E = 0
  · rcases h hE with hi | hd
    · by_cases hk : s.k < e
      · obtain ⟨m1, m2, m3⟩ := L.mid s.k hi.k0 hk
        have i1 := fun wd t => look1 (l := l) hi wd t
        have i2 := fun wd t => look_mid L hi hk wd t
        have t1 : tokAt l s1.k = tokAt l s.k := by rw [hi.k1]
        have t2 : (tokAt m s2.k).kind = (tokAt l s.k).kind ∧ (tokAt m s2.k).num = (tokAt l s.k).num := by rw [hi.k2]; exact ⟨m1, m3⟩
        have hnx : R n e (next s) (next s1) (next s2) := fun _ => .inl (hi.next L hk)
        unfold first at hx hx1 hx2
        simp only [i1, t1] at hx1
        simp only [i2, t2.1, t2.2] at hx2
        by_cases c2 : (tokAt l s.k).kind = 2
        · rw [if_pos ⟨hE, c2⟩] at hx
          rw [if_pos ⟨hi.E1, c2⟩] at hx1
          rw [if_pos ⟨hi.E2, c2⟩] at hx2
          obtain rfl := Option.some.inj hx
          obtain rfl := Option.some.inj hx1
          obtain rfl := Option.some.inj hx2
          exact fun _ => .inl ⟨hi.next L hk, sameE_of (by simp [sameL])⟩
        rw [if_neg (fun hh => c2 hh.2)] at hx hx1 hx2
        cases v1 : is l s true [116, 114, 117, 101] with
        | true =>
          rw [v1] at hx hx1 hx2
          obtain rfl := Option.some.inj hx
          obtain rfl := Option.some.inj hx1
          obtain rfl := Option.some.inj hx2
          exact fun _ => .inl ⟨hi.next L hk, sameE_of (by simp [sameL])⟩
        | false =>
        rw [v1] at hx hx1 hx2
        simp only [Bool.false_eq_true, if_false] at hx hx1 hx2
        cases v2 : is l s true [102, 97, 108, 115, 101] with
        | true =>
          rw [v2] at hx hx1 hx2
          obtain rfl := Option.some.inj hx
          obtain rfl := Option.some.inj hx1
          obtain rfl := Option.some.inj hx2
          exact fun _ => .inl ⟨hi.next L hk, sameE_of (by simp [sameL])⟩
        | false =>
        rw [v2] at hx hx1 hx2
        simp only [Bool.false_eq_true, if_false] at hx hx1 hx2
        cases v3 : is l s true [110, 117, 108, 108] with
        | true =>
          rw [v3] at hx hx1 hx2
          obtain rfl := Option.some.inj hx
          obtain rfl := Option.some.inj hx1
          obtain rfl := Option.some.inj hx2
          refine (V.of L hnx).imp fun hh => ?_
          show sameE (Ex.of 3 0 [] (Qe.of m (next s2)).1 (Qe.of m (next s2)).2.1 [] _) (Ex.of 3 0 [] (Qe.of l (next s)).1 (Qe.of l (next s)).2.1 [] _) = true
          rw [hh.1, hh.2]
          exact sameE_of (by simp [sameL])
        | false =>
        rw [v3] at hx hx1 hx2
        simp only [Bool.false_eq_true, if_false] at hx hx1 hx2
        cases v4 : is l s true [110, 101, 119] with
        | true =>
          rw [v4] at hx hx1 hx2
          exact fresh_in L H hnx hx hx1 hx2
        | false =>
        rw [v4] at hx hx1 hx2
        simp only [Bool.false_eq_true, if_false] at hx hx1 hx2
        cases v5 : is l s true [108, 101, 110] with
        | true =>
          rw [v5] at hx hx1 hx2
          simp only [if_true] at hx hx1 hx2
          split at hx
          · cases hx
          rename_i b t hb
          split at hx1
          · cases hx1
          rename_i b1 t1 hb1
          split at hx2
          · cases hx2
          rename_i b2 t2 hb2
          obtain rfl := Option.some.inj hx
          obtain rfl := Option.some.inj hx1
          obtain rfl := Option.some.inj hx2
          exact (inner_in L H hnx hb hb1 hb2).imp fun hh => sameE_of (sameL_one hh)
        | false =>
        rw [v5] at hx hx1 hx2
        simp only [Bool.false_eq_true, if_false] at hx hx1 hx2
        cases v6 : is l s true [114, 101, 97, 100] with
        | true =>
          rw [v6] at hx hx1 hx2
          obtain rfl := Option.some.inj hx
          obtain rfl := Option.some.inj hx1
          obtain rfl := Option.some.inj hx2
          exact fun h0 => ((hnx.opens L).closes L [41] h0).imp (fun hh => ⟨hh, sameE_of (by simp [sameL])⟩) id
        | false =>
        rw [v6] at hx hx1 hx2
        simp only [Bool.false_eq_true, if_false] at hx hx1 hx2
        cases v7 : is l s false [40] with
        | true =>
          rw [v7] at hx hx1 hx2
          exact inner_in L H (fun _ => .inl hi) hx hx1 hx2
        | false =>
        rw [v7] at hx hx1 hx2
        simp only [Bool.false_eq_true, if_false] at hx hx1 hx2
        have hn := V.name L (l := l) (m := m) (s := s) (s1 := s1) (s2 := s2) (fun _ => .inl hi)
        by_cases hE2 : (name l s).2.E = 0
        · rcases hn hE2 with ⟨hj, hnm⟩ | hd
          · rw [look1 hj] at hx1
            rw [look2 L hj (.inr (by decide)), hnm] at hx2
            cases v8 : is l (name l s).2 false [40] with
            | true =>
              rw [v8] at hx hx1 hx2
              simp only [if_true, args_tail] at hx hx1 hx2
              split at hx
              · cases hx
              rename_i b t hb
              split at hx1
              · cases hx1
              rename_i b1 t1 hb1
              split at hx2
              · cases hx2
              rename_i b2 t2 hb2
              obtain rfl := Option.some.inj hx
              obtain rfl := Option.some.inj hx1
              obtain rfl := Option.some.inj hx2
              exact (tail_in L H (R.opens L (fun _ => .inl hj)) hb hb1 hb2).imp fun hh => sameE_of hh
            | false =>
              rw [v8] at hx hx1 hx2
              obtain rfl := Option.some.inj hx
              obtain rfl := Option.some.inj hx1
              obtain rfl := Option.some.inj hx2
              exact fun _ => .inl ⟨hj, sameE_of (by simp [sameL])⟩
          · rw [is_dead (four hd.1)] at hx1
            rw [is_dead (four hd.2)] at hx2
            obtain rfl := Option.some.inj hx1
            obtain rfl := Option.some.inj hx2
            exact fun _ => .inr hd
        · rw [is_dead hE2] at hx
          obtain rfl := Option.some.inj hx
          exact fun h0 => absurd h0 hE2
      · have hk2 : s.k = e := by have := hi.ke; omega
        exact fun h0 => absurd h0 (first_stop L hE hk2 hx)
    · obtain ⟨b1, hb1⟩ := first_dead (ts := l) (rec := rec1) (g := g1) (four hd.1)
      obtain ⟨b2, hb2⟩ := first_dead (ts := m) (rec := rec2) (g := g2) (four hd.2)
      rw [hb1] at hx1
      rw [hb2] at hx2
      obtain rfl := Option.some.inj hx1
      obtain rfl := Option.some.inj hx2
      exact fun _ => .inr hd
  · obtain ⟨b, hb⟩ := first_dead (ts := l) (rec := rec) (g := g) hE
    rw [hb] at hx
    obtain rfl := Option.some.inj hx
    exact fun h0 => absurd h0 hE
theorem behind_in (L : Laid l m n e) (H : RecOk l m n e rec rec1 rec2) : ∀ (g g1 g2 : Nat) {s s1 s2 : Q} {a a1 a2 : Ex} {x x1 x2 : Ex × Q}, V n e (sameE a2 a = true) s s1 s2 → behind l rec g a s = some x → behind l rec1 g1 a1 s1 = some x1 → behind m rec2 g2 a2 s2 = some x2 → OutR n e x x1 x2
  | 0, _, _, _, _, _, _, _, _, _, _, _, _, hx, _, _ => by rw [behind] at hx; cases hx
  | _ + 1, 0, _, _, _, _, _, _, _, _, _, _, _, _, hx, _ => by rw [behind] at hx; cases hx
  | _ + 1, _ + 1, 0, _, _, _, _, _, _, _, _, _, _, _, _, hx => by rw [behind] at hx; cases hx
  | g + 1, g1 + 1, g2 + 1, s, s1, s2, a, a1, a2, x, x1, x2, h, hx, hx1, hx2 => by
    by_cases hE : s.E = 0
    · rcases h hE with ⟨hi, hs⟩ | hd
      · rw [behind] at hx hx1 hx2
        rw [look1 hi, look1 hi] at hx1
        rw [look2 L hi (.inr (by decide)), look2 L hi (.inr (by decide))] at hx2
        cases hv : is l s false [46] with
        | true =>
          rw [hv] at hx hx1 hx2
          simp only [if_true] at hx hx1 hx2
          have hn := V.name L (l := l) (m := m) (s := next s) (s1 := next s1) (s2 := next s2) (fun _ => .inl (hi.next L (is_mid L hi hv)))
          refine behind_in L H g g1 g2 (hn.imp fun hh => ?_) hx hx1 hx2
          rw [hh]
          exact sameE_of (sameL_one hs)
        | false =>
        rw [hv] at hx hx1 hx2
        simp only [Bool.false_eq_true, if_false] at hx hx1 hx2
        cases hv2 : is l s false [91] with
        | true =>
          rw [hv2] at hx hx1 hx2
          simp only [if_true] at hx hx1 hx2
          split at hx
          · cases hx
          rename_i b t hb
          split at hx1
          · cases hx1
          rename_i b1 t1 hb1
          split at hx2
          · cases hx2
          rename_i b2 t2 hb2
          have ho := H.go (R.opens L (fun _ => .inl hi)) hb hb1 hb2
          exact behind_in L H g g1 g2 ((ho.closes L [93]).imp fun hh => sameE_of (sameL_two hs hh)) hx hx1 hx2
        | false =>
          rw [hv2] at hx hx1 hx2
          obtain rfl := Option.some.inj hx
          obtain rfl := Option.some.inj hx1
          obtain rfl := Option.some.inj hx2
          exact h
      · obtain rfl := behind_dead (four hd.1) hx1
        obtain rfl := behind_dead (four hd.2) hx2
        exact fun _ => .inr hd
    · obtain rfl := behind_dead hE hx
      exact fun h0 => absurd h0 hE
theorem prefixed_in (L : Laid l m n e) (H : RecOk l m n e rec rec1 rec2) {t : List UInt8} {k : Int} {s s1 s2 : Q} {x x1 x2 : Ex × Q} (h : R n e s s1 s2) (hx : prefixed l rec s t k = some x) (hx1 : prefixed l rec1 s1 t k = some x1) (hx2 : prefixed m rec2 s2 t k = some x2) : OutR n e x x1 x2 := by
  unfold prefixed at hx hx1 hx2
  split at hx
  · cases hx
  rename_i b u hb
  split at hx1
  · cases hx1
  rename_i b1 u1 hb1
  split at hx2
  · cases hx2
  rename_i b2 u2 hb2
  obtain rfl := Option.some.inj hx
  obtain rfl := Option.some.inj hx1
  obtain rfl := Option.some.inj hx2
  have ho := H.go (R.opens L h) hb hb1 hb2
  intro h0
  rcases ho h0 with ⟨hi, hs⟩ | hd
  · refine .inl ⟨?_, sameE_of (sameL_one hs)⟩
    have := hi.on (dec u.o) (dec u1.o)
    show In n e ⟨u.k, dec u.o, u.E, u.F⟩ ⟨u1.k, dec u1.o, u1.E, u1.F⟩ ⟨u2.k, dec u2.o, u2.E, u2.F⟩
    rw [← hi.o]
    exact this
  · exact .inr hd
theorem unary_in (L : Laid l m n e) (H : RecOk l m n e rec rec1 rec2) {g g1 g2 : Nat} {s s1 s2 : Q} {x x1 x2 : Ex × Q} (h : R n e s s1 s2) (hx : unary l rec g s = some x) (hx1 : unary l rec1 g1 s1 = some x1) (hx2 : unary m rec2 g2 s2 = some x2) : OutR n e x x1 x2 := by
  by_cases hE : s.E = 0
  · rcases h hE with hi | hd
    · unfold unary at hx hx1 hx2
      rw [look1 hi, look1 hi] at hx1
      rw [look2 L hi (.inr (by decide)), look2 L hi (.inr (by decide))] at hx2
      cases hv : is l s false [45] with
      | true =>
        rw [hv] at hx hx1 hx2
        exact prefixed_in L H h hx hx1 hx2
      | false =>
      rw [hv] at hx hx1 hx2
      simp only [Bool.false_eq_true, if_false] at hx hx1 hx2
      cases hv2 : is l s false [33] with
      | true =>
        rw [hv2] at hx hx1 hx2
        exact prefixed_in L H h hx hx1 hx2
      | false =>
      rw [hv2] at hx hx1 hx2
      simp only [Bool.false_eq_true, if_false] at hx hx1 hx2
      split at hx
      · cases hx
      rename_i b u hb
      split at hx1
      · cases hx1
      rename_i b1 u1 hb1
      split at hx2
      · cases hx2
      rename_i b2 u2 hb2
      exact behind_in L H g g1 g2 (first_in L H h hb hb1 hb2) hx hx1 hx2
    · exact fun _ => .inr ⟨(unary_dead (four hd.1) hx1).trans hd.1, (unary_dead (four hd.2) hx2).trans hd.2⟩
  · exact fun h0 => absurd ((unary_dead hE hx).symm.trans h0) hE
theorem level_none (j : Nat) {t : RT} (h : t.kind = 0 ∨ t.text = [41]) : levelT j t = 0 := by
  unfold levelT
  by_cases hk : t.kind = 4
  · rw [if_pos hk]
    rcases h with h | h
    · rw [hk] at h; cases h
    · rw [h]
      match j with
      | 0 => rfl
      | 1 => rfl
      | 2 => rfl
      | 3 => rfl
      | 4 => rfl
      | _ + 5 => rfl
  · rw [if_neg hk]
theorem level_same (j : Nat) {t u : RT} (h : t.kind = u.kind) (h2 : t.text = u.text) : levelT j t = levelT j u := by
  unfold levelT; rw [h, h2]
theorem sign1 {s s1 s2 : Q} (h : In n e s s1 s2) (j : Nat) : sign l s1 j = sign l s j := by unfold sign; rw [if_pos h.E, if_pos h.E1, h.k1]
theorem sign2 (L : Laid l m n e) {s s1 s2 : Q} (h : In n e s s1 s2) (j : Nat) : sign m s2 j = sign l s j := by
  unfold sign
  rw [if_pos h.E, if_pos h.E2, h.k2]
  by_cases hk : s.k < e
  · obtain ⟨m1, m2, -⟩ := L.mid s.k h.k0 hk
    exact level_same j m1 m2
  · have hk2 : s.k = e := by have := h.ke; omega
    rw [hk2, level_none j (.inl L.last), level_none j (.inr L.shut.2)]
theorem sign_mid (L : Laid l m n e) {s s1 s2 : Q} (h : In n e s s1 s2) {j : Nat} (hs : sign l s j ≠ 0) : s.k < e := by
  refine kind_mid L h.k0 h.ke fun hk => hs ?_
  unfold sign
  rw [if_pos h.E]
  exact level_none j (.inl hk)
theorem bin_in (L : Laid l m n e) (H : RecOk l m n e rec rec1 rec2) (j : Nat) : ∀ (g g1 g2 : Nat) {s s1 s2 : Q} {a a1 a2 : Ex} {x x1 x2 : Ex × Q}, V n e (sameE a2 a = true) s s1 s2 → binLoop l rec j g a s = some x → binLoop l rec1 j g1 a1 s1 = some x1 → binLoop m rec2 j g2 a2 s2 = some x2 → OutR n e x x1 x2
  | 0, _, _, _, _, _, _, _, _, _, _, _, _, hx, _, _ => by rw [binLoop] at hx; cases hx
  | _ + 1, 0, _, _, _, _, _, _, _, _, _, _, _, _, hx, _ => by rw [binLoop] at hx; cases hx
  | _ + 1, _ + 1, 0, _, _, _, _, _, _, _, _, _, _, _, _, hx => by rw [binLoop] at hx; cases hx
  | g + 1, g1 + 1, g2 + 1, s, s1, s2, a, a1, a2, x, x1, x2, h, hx, hx1, hx2 => by
    by_cases hE : s.E = 0
    · rcases h hE with ⟨hi, hs⟩ | hd
      · rw [binLoop] at hx hx1 hx2
        rw [sign1 hi] at hx1
        rw [sign2 L hi] at hx2
        by_cases hv : sign l s j = 0
        · rw [if_pos hv] at hx hx1 hx2
          obtain rfl := Option.some.inj hx
          obtain rfl := Option.some.inj hx1
          obtain rfl := Option.some.inj hx2
          exact h
        · rw [if_neg hv] at hx hx1 hx2
          split at hx
          · cases hx
          rename_i b t hb
          split at hx1
          · cases hx1
          rename_i b1 t1 hb1
          split at hx2
          · cases hx2
          rename_i b2 t2 hb2
          have ho := H.go (fun _ => .inl (hi.next L (sign_mid L hi hv))) hb hb1 hb2
          exact bin_in L H j g g1 g2 (ho.imp fun hh => sameE_of (sameL_two hs hh)) hx hx1 hx2
      · obtain rfl := bin_dead (four hd.1) hx1
        obtain rfl := bin_dead (four hd.2) hx2
        exact fun _ => .inr hd
    · obtain rfl := bin_dead hE hx
      exact fun h0 => absurd h0 hE
theorem trio_in (L : Laid l m n e) : ∀ (f f1 f2 : Nat), RecOk l m n e (run l f) (run l f1) (run m f2)
  | 0, f1, f2 => ⟨fun _ hx _ _ => (by rw [run] at hx; cases hx), fun h0 hk hx => run_stop L 0 _ h0 hk hx, fun h hx => run_dead 0 _ h hx, fun h hx => run_dead f1 _ h hx, fun h hx => run_dead f2 _ h hx⟩
  | f + 1, 0, f2 => ⟨fun _ _ hx _ => (by rw [run] at hx; cases hx), fun h0 hk hx => run_stop L _ _ h0 hk hx, fun h hx => run_dead _ _ h hx, fun h hx => run_dead 0 _ h hx, fun h hx => run_dead f2 _ h hx⟩
  | f + 1, f1 + 1, 0 => ⟨fun _ _ _ hx => (by rw [run] at hx; cases hx), fun h0 hk hx => run_stop L _ _ h0 hk hx, fun h hx => run_dead _ _ h hx, fun h hx => run_dead _ _ h hx, fun h hx => run_dead 0 _ h hx⟩
  | f + 1, f1 + 1, f2 + 1 => by
    have H := trio_in L f f1 f2
    refine ⟨fun {j} {s} {s1} {s2} {x} {x1} {x2} h hx hx1 hx2 => ?_, fun h0 hk hx => run_stop L _ _ h0 hk hx, fun h hx => run_dead _ _ h hx, fun h hx => run_dead _ _ h hx, fun h hx => run_dead _ _ h hx⟩
    rw [run_succ] at hx hx1 hx2
    by_cases hj : j = 5
    · rw [if_pos hj] at hx hx1 hx2
      exact unary_in L H h hx hx1 hx2
    · rw [if_neg hj] at hx hx1 hx2
      split at hx
      · cases hx
      rename_i b t hb
      split at hx1
      · cases hx1
      rename_i b1 t1 hb1
      split at hx2
      · cases hx2
      rename_i b2 t2 hb2
      exact bin_in L H j f f1 f2 (H.go h hb hb1 hb2) hx hx1 hx2
end
end Par
end Go.Proofs.YtnnbdidefgghjaaDoor
namespace Go.Proofs.YtnnbdidefgghjaaDoor
namespace Par
open Go.RowKit
open Px (RT tokAt isT levelT)
open Pe (Ex inc dec)
open Qe

/-- Nothing that stands here goes on an expression. -/
def Stops (ts : List RT) (s : Q) : Prop := s.E ≠ 0 ∨ (tokAt ts s.k).kind = 0 ∨ ((tokAt ts s.k).kind = 4 ∧ (tokAt ts s.k).text = [41])
theorem stops_is {ts : List RT} {s : Q} (h : Stops ts s) {t : List UInt8} (ht : t ≠ [41]) : is ts s false t = false := by
  rcases h with h | h | ⟨-, h⟩
  · exact is_dead h _ _
  · unfold is isT; rw [h]; simp
  · unfold is isT; rw [h, Bool.and_eq_false_iff]; right
    rw [Bool.and_eq_false_iff]; right
    exact beq_false_of_ne fun hh => ht hh.symm
theorem stops_sign {ts : List RT} {s : Q} (h : Stops ts s) (j : Nat) : sign ts s j = 0 := by
  unfold sign
  by_cases hE : s.E = 0
  · rw [if_pos hE]
    rcases h with h | h | ⟨-, h⟩
    · exact absurd hE h
    · exact level_none j (.inl h)
    · exact level_none j (.inr h)
  · rw [if_neg hE]
theorem stops_behind {ts : List RT} {rec : Nat → Q → Out} {g : Nat} {s : Q} {a : Ex} {x : Ex × Q} (h : Stops ts s) (hx : behind ts rec g a s = some x) : x = (a, s) := by
  cases g with
  | zero => rw [behind] at hx; cases hx
  | succ g =>
    rw [behind, stops_is h (by decide), stops_is h (by decide)] at hx
    exact (Option.some.inj hx).symm
theorem stops_bin {ts : List RT} {rec : Nat → Q → Out} {j g : Nat} {s : Q} {a : Ex} {x : Ex × Q} (h : Stops ts s) (hx : binLoop ts rec j g a s = some x) : x = (a, s) := by
  cases g with
  | zero => rw [binLoop] at hx; cases hx
  | succ g =>
    rw [binLoop, stops_sign h, if_pos rfl] at hx
    exact (Option.some.inj hx).symm
/-- One with signs in front, where nothing goes on behind it. -/
theorem down {ts : List RT} {s : Q} : ∀ (d F j : Nat) {x : Ex × Q}, j + d = 5 → run ts F j s = some x → ∃ f x5, unary ts (run ts f) f s = some x5 ∧ (Stops ts x5.2 → x = x5)
  | d, 0, j, x, _, hx => by rw [run] at hx; cases hx
  | 0, F + 1, j, x, hj, hx => by
    rw [run_succ, if_pos (by omega)] at hx
    exact ⟨F, x, hx, fun _ => rfl⟩
  | d + 1, F + 1, j, x, hj, hx => by
    rw [run_succ, if_neg (by omega)] at hx
    split at hx
    · cases hx
    rename_i a t ha
    obtain ⟨f, x5, h5, he⟩ := down d F (j + 1) (by omega) ha
    exact ⟨f, x5, h5, fun hs => by
      have := he hs
      subst this
      exact stops_bin hs hx⟩
theorem is_other {ts : List RT} {s : Q} (h : is ts s false [40] = true) {wd : Bool} {t : List UInt8} (ht : wd = true ∨ t ≠ [40]) : is ts s wd t = false := by
  obtain ⟨-, -, -, h1, h2⟩ := Sim.is_at h
  unfold is isT
  rw [h1, h2]
  rcases ht with rfl | ht
  · simp
  · cases wd
    · rw [Bool.and_eq_false_iff]; right
      rw [Bool.and_eq_false_iff]; right
      exact beq_false_of_ne fun hh => ht hh.symm
    · simp
/-- What stands in a pair of brackets. -/
theorem peel {ts : List RT} {s : Q} {F : Nat} {x : Ex × Q} (h : is ts s false [40] = true) (hx : run ts F 0 s = some x) :
    ∃ f y, run ts f 0 (opens ts s [40]) = some y ∧ (Stops ts (closes ts y.2 [41]) → x = (y.1, closes ts y.2 [41])) := by
  obtain ⟨f, x5, h5, he⟩ := down 5 F 0 rfl hx
  obtain ⟨-, -, -, hk, -⟩ := Sim.is_at h
  unfold unary at h5
  rw [is_other h (.inr (by decide)), is_other h (.inr (by decide))] at h5
  simp only [Bool.false_eq_true, if_false] at h5
  split at h5
  · cases h5
  rename_i a t ha
  unfold first at ha
  simp only [is_other h (.inl rfl), h, Bool.false_eq_true, if_false, if_true] at ha
  rw [if_neg (by rintro ⟨-, hh⟩; rw [hk] at hh; exact absurd hh (by decide))] at ha
  unfold inner at ha
  split at ha
  · cases ha
  rename_i b u hb
  obtain ⟨rfl, rfl⟩ := Prod.mk.inj (Option.some.inj ha)
  refine ⟨f, (b, u), hb, fun hs => ?_⟩
  have := stops_behind hs h5
  subst this
  exact he hs

/-- So many brackets around. -/
structure Wrapped (l m : List RT) (n e : Nat) : Prop where
  laid : Laid l m n e
  opn : ∀ i : Nat, i < n → (tokAt m (i : Int)).kind = 4 ∧ (tokAt m (i : Int)).text = [40]
  cls : ∀ i : Nat, i < n → (tokAt m ((e + n + i : Nat) : Int)).kind = 4 ∧ (tokAt m ((e + n + i : Nat) : Int)).text = [41]
  fin : (tokAt m ((e + n + n : Nat) : Int)).kind = 0

section
variable {l m : List RT} {n e : Nat}
theorem Wrapped.is_opn (W : Wrapped l m n e) {i : Nat} (hi : i < n) (o F : Int) : is m ⟨i, o, 0, F⟩ false [40] = true := by
  obtain ⟨h1, h2⟩ := W.opn i hi
  unfold is isT
  simp only [h1, h2]
  rfl
theorem Wrapped.opens (W : Wrapped l m n e) {i : Nat} (hi : i < n) (h5 : i < 50) : Qe.opens m ⟨i, i, 0, 0⟩ [40] = ⟨((i + 1 : Nat) : Int), ((i + 1 : Nat) : Int), 0, 0⟩ := by
  have h := W.is_opn hi i 0
  have e1 : inc (i : Int) = ((i + 1 : Nat) : Int) := by rw [Sim.inc_eq (by omega) (by omega)]; omega
  unfold Qe.opens Qe.take
  rw [h, decide_eq_false (show ¬ (50 : Int) ≤ (i : Int) by omega)]
  simp only [Bool.and_false, Bool.false_eq_true, if_false, if_true]
  show (⟨inc (i : Int), inc (i : Int), 0, 0⟩ : Q) = _
  rw [e1]
theorem Wrapped.over (W : Wrapped l m n e) (hn : 50 < n) : (Qe.opens m ⟨(50 : Nat), (50 : Nat), 0, 0⟩ [40]).E = 4 := by
  have h := W.is_opn (i := 50) hn (50 : Nat) 0
  unfold Qe.opens
  rw [h, decide_eq_true (show (50 : Int) ≤ ((50 : Nat) : Int) by decide), Bool.and_self, if_pos rfl]
  exact fail_E 4 rfl
theorem dead_out {ts : List RT} {x y : Ex × Q} (hy : y.2.E = 4) (he : Stops ts (Qe.closes ts y.2 [41]) → x = (y.1, Qe.closes ts y.2 [41])) : x.2.E = 4 := by
  have h1 : (Qe.closes ts y.2 [41]).E = 4 := (closes_dead (four hy) [41]).trans hy
  rw [he (.inl (four h1))]
  exact h1
/-- Too many. -/
theorem too_many (W : Wrapped l m n e) (hn : 50 < n) : ∀ (d i F : Nat) {x : Ex × Q}, i + d = 50 → run m F 0 ⟨i, i, 0, 0⟩ = some x → x.2.E = 4
  | 0, i, F, x, hi, hx => by
    obtain rfl : i = 50 := by omega
    obtain ⟨f, y, hy, he⟩ := peel (W.is_opn hn _ _) hx
    have ho := W.over hn
    exact dead_out ((run_dead f 0 (four ho) hy).trans ho) he
  | d + 1, i, F, x, hi, hx => by
    obtain ⟨f, y, hy, he⟩ := peel (W.is_opn (i := i) (by omega) _ _) hx
    rw [W.opens (by omega) (by omega)] at hy
    exact dead_out (too_many W hn d (i + 1) f (by omega) hy) he
/-- As many as may be. -/
theorem enough_in (W : Wrapped l m n e) (hn : n ≤ 50) (h1 : 1 ≤ n) {f f1 : Nat} {b b1 : Ex × Q} (hb : run l f 0 ⟨0, 0, 0, 0⟩ = some b) (hE : b.2.E = 0) (hk : b.2.k = e) (hb1 : run l f1 0 ⟨0, n, 0, 0⟩ = some b1) :
    ∀ (d i F : Nat) {x : Ex × Q}, i + d = n → run m F 0 ⟨i, i, 0, 0⟩ = some x → (b1.2.E = 0 → x.2.E = 0 ∧ x.2.k = ((e + n + d : Nat) : Int) ∧ sameE x.1 b.1 = true) ∧ (b1.2.E ≠ 0 → x.2.E = 4)
  | 0, i, F, x, hi, hx => by
    obtain rfl : i = n := by omega
    have ho := (trio_in W.laid f f1 F).go (s := ⟨0, 0, 0, 0⟩) (s1 := ⟨0, i, 0, 0⟩) (s2 := ⟨i, i, 0, 0⟩) (fun _ => .inl ⟨rfl, rfl, rfl, Int.le_refl _, Int.natCast_nonneg _, rfl, by show (i : Int) = 0 + i; omega, rfl⟩) hb hb1 hx hE
    rcases ho with ⟨hin, hs⟩ | hd
    · exact ⟨fun _ => ⟨hin.E2, by rw [hin.k2, hk]; omega, hs⟩, fun hh => absurd hin.E1 hh⟩
    · exact ⟨fun hh => absurd hh (four hd.1), fun _ => hd.2⟩
  | d + 1, i, F, x, hi, hx => by
    obtain ⟨f2, y, hy, he⟩ := peel (W.is_opn (i := i) (by omega) _ _) hx
    rw [W.opens (by omega) (by omega)] at hy
    obtain ⟨ha, hd⟩ := enough_in W hn h1 hb hE hk hb1 d (i + 1) f2 (by omega) hy
    refine ⟨fun hh => ?_, fun hh => dead_out (hd hh) he⟩
    obtain ⟨y1, y2, y3⟩ := ha hh
    obtain ⟨c1, c2⟩ := W.cls d (by omega)
    have hc : Qe.closes m y.2 [41] = ⟨((e + n + (d + 1) : Nat) : Int), dec y.2.o, 0, y.2.F⟩ := by
      have hr : is m y.2 false [41] = true := by
        unfold is isT
        rw [y1, y2, c1, c2]
        rfl
      have hlt := (Sim.is_at hr).2.2.1
      have hsm := W.laid.small
      rw [y2] at hlt
      have e1 : inc y.2.k = ((e + n + (d + 1) : Nat) : Int) := by rw [y2, Sim.inc_eq (by omega) (by omega)]; omega
      unfold Qe.closes Qe.take
      rw [hr]
      simp only [if_true]
      show (⟨inc y.2.k, dec y.2.o, y.2.E, y.2.F⟩ : Q) = _
      rw [e1, y1]
    have hst : Stops m (Qe.closes m y.2 [41]) := by
      rw [hc]
      refine .inr ?_
      by_cases h0 : d + 1 < n
      · exact .inr (W.cls (d + 1) h0)
      · have : d + 1 = n := by omega
        rw [this]
        exact .inl W.fin
    rw [he hst, hc]
    exact ⟨rfl, rfl, y3⟩
end
end Par
end Go.Proofs.YtnnbdidefgghjaaDoor
