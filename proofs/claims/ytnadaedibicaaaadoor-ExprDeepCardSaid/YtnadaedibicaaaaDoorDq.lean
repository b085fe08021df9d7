/-
  Signs, brackets, calls and elements in each other: what the project's own reader makes of them, in plain data.
-/
import Derived.Test.YtnadaedibicaaaaDoorDp
namespace Go.Proofs.YtnadaedibicaaaaDoor
namespace Pe
open Go.RowKit
open Px (RT tokAt)

def aW (w : Nat) : Nat := if w ≤ 1 then 1 else 2
def opW (w : Nat) : List UInt8 := if w = 0 then [45] else if w = 3 then [91] else [40]
def clW (w : Nat) : List UInt8 := if w = 3 then [93] else [41]
def cW (w : Nat) : Nat := if w = 0 then 0 else 1
/-- So many openings, a number, as many closings, the end. -/
structure Nest (ts : List RT) (w n : Nat) : Prop where
  nm : 2 ≤ w → ∀ i, i < n → (tokAt ts ((aW w * i : Nat) : Int)).kind = 1
  op : ∀ i, i < n → (tokAt ts ((aW w * i + (aW w - 1) : Nat) : Int)).kind = 4 ∧ (tokAt ts ((aW w * i + (aW w - 1) : Nat) : Int)).text = opW w ∧ (tokAt ts ((aW w * i + (aW w - 1) : Nat) : Int)).at_ = ((aW w * i + (aW w - 1) : Nat) : Int)
  num : (tokAt ts ((aW w * n : Nat) : Int)).kind = 2
  cl : ∀ j, j < cW w * n → (tokAt ts ((aW w * n + 1 + j : Nat) : Int)).kind = 4 ∧ (tokAt ts ((aW w * n + 1 + j : Nat) : Int)).text = clW w
  fin : (tokAt ts ((aW w * n + 1 + cW w * n : Nat) : Int)).kind = 0

theorem inc_nat {k : Nat} (h : k < 100000) : inc (k : Int) = ((k + 1 : Nat) : Int) := by unfold inc; simp [wrap64]; omega
theorem peek_live {ts : List RT} {k : Int} : peek ts ⟨k, 0, 0⟩ = tokAt ts k := if_pos rfl
theorem sees_live {ts : List RT} {k : Int} {t : List UInt8} (h : (tokAt ts k).kind = 4 ∧ (tokAt ts k).text = t) : sees ts ⟨k, 0, 0⟩ 4 t = true := by
  unfold sees
  rw [peek_live, h.1, h.2]
  simp
theorem halts_no {ts : List RT} {c : Cs} (h : halts ts c) : sees ts c 4 [44] = false := by
  unfold sees
  rcases h with h | ⟨h, h1 | h1⟩
  · simp [h]
  · simp [h, h1]
  · simp [h, h1]

/-- Where an opening leaves the reader. -/
def mst (w i : Nat) (o : Int) : St := if o = 50 then ⟨⟨((aW w * (i + 1) : Nat) : Int), 4, ((aW w * i + (aW w - 1) : Nat) : Int)⟩, inc o⟩ else ⟨⟨((aW w * (i + 1) : Nat) : Int), 0, 0⟩, inc o⟩
/-- Where its closing leaves it. -/
def aft (ts : List RT) (w : Nat) (s : St) : St := if w = 0 then ⟨s.c, dec s.o⟩ else leave ts s (clW w)

theorem mst_of {ts : List RT} {w i : Nat} {o : Int} {k : Nat} (hk : k < 1000) (h : (tokAt ts (k : Int)).kind = 4 ∧ (tokAt ts (k : Int)).text = opW w ∧ (tokAt ts (k : Int)).at_ = (k : Int)) (h1 : k = aW w * i + (aW w - 1)) (h2 : k + 1 = aW w * (i + 1)) : (enter ts ⟨⟨(k : Int), 0, 0⟩, o⟩ (opW w)).2 = mst w i o := by
  have hs := sees_live ⟨h.1, h.2.1⟩
  unfold mst
  by_cases ho : o = 50
  · rw [if_pos ho, enter_over hs rfl ho]
    simp only [h.2.2]
    rw [inc_nat (by omega), ← h1, ← h2]
  · rw [if_neg ho, enter_live hs ho, next]
    simp only
    rw [inc_nat (by omega), ← h2]

theorem step_any {ts : List RT} {w n i : Nat} (hN : Nest ts w n) (hw : w ≤ 3) (hn : n ≤ 60) (hi : i < n) (o : Int) (F : Nat) (hF : 2 ≤ F) (P : St → Prop) (hP : ∀ s2, P s2 → halts ts s2.c ∧ halts ts (aft ts w s2).c) (h41 : w = 2 → sees ts (mst w i o).c 4 [41] = false)
    (hr : ∀ f, F ≤ f → ∃ e s2, (run ts f).2 (mst w i o) = some (e, s2) ∧ P s2) : ∀ f, F + 7 ≤ f → ∃ e s2, (run ts f).2 ⟨⟨((aW w * i : Nat) : Int), 0, 0⟩, o⟩ = some (e, aft ts w s2) ∧ P s2 := by
  intro f hf
  have hop := hN.op i hi
  match w, hw with
  | 0, _ =>
    obtain ⟨g, rfl⟩ : ∃ g, f = g + 1 := ⟨f - 1, by omega⟩
    obtain ⟨e, s2, hrun, hp⟩ := hr g (by omega)
    have hen := mst_of (i := i) (o := o) (k := i) (by omega) (by simpa [aW] using hop) (by simp [aW]) (by simp [aW])
    rw [← hen] at hrun
    obtain ⟨e2, h2⟩ := step_minus (s := ⟨⟨(i : Int), 0, 0⟩, o⟩) (sees_live (by have := hop; simp [aW, opW] at this; exact ⟨this.1, this.2.1⟩)) hrun
    exact ⟨e2, s2, by simpa [aW, aft, clW] using h2, hp⟩
  | 1, _ =>
    obtain ⟨g, rfl⟩ : ∃ g, f = (g + 6) + 1 := ⟨f - 7, by omega⟩
    obtain ⟨e, s2, hrun, hp⟩ := hr g (by omega)
    have hen := mst_of (w := 1) (i := i) (o := o) (k := i) (by omega) (by simpa [aW] using hop) (by simp [aW]) (by simp [aW])
    rw [← hen] at hrun
    obtain ⟨e2, h2⟩ := step_bracket (s := ⟨⟨(i : Int), 0, 0⟩, o⟩) (sees_live (by have := hop; simp [aW, opW] at this; exact ⟨this.1, this.2.1⟩)) (by omega) (run_up hrun (hP s2 hp).1) (hP s2 hp).2
    exact ⟨e2, s2, by simpa [aW, aft, clW] using h2, hp⟩
  | 2, _ =>
    obtain ⟨g, rfl⟩ : ∃ g, f = (g + 6) + 1 := ⟨f - 7, by omega⟩
    obtain ⟨e, s2, hrun, hp⟩ := hr g (by omega)
    have hen := mst_of (w := 2) (i := i) (o := o) (k := 2 * i + 1) (by omega) (by simpa [aW] using hop) (by simp [aW]) (by simp [aW]; omega)
    have h41 := h41 rfl
    rw [← hen] at hrun h41
    have hinc : inc ((2 * i : Nat) : Int) = ((2 * i + 1 : Nat) : Int) := inc_nat (by omega)
    obtain ⟨e2, h2⟩ := step_call (k := ((2 * i : Nat) : Int)) (o := o) (s2 := s2) (by have := hN.nm (by omega) i hi; simpa [aW] using this) (by rw [hinc]; exact sees_live (by have := hop; simp [aW, opW] at this; exact ⟨this.1, this.2.1⟩)) (show 0 < g + 6 by omega) (by rw [hinc]; exact h41) (by rw [hinc]; exact run_up hrun (hP s2 hp).1) (halts_no (hP s2 hp).1) (hP s2 hp).2
    exact ⟨e2, s2, by simpa [aW, aft, clW] using h2, hp⟩
  | 3, _ =>
    obtain ⟨g, rfl⟩ : ∃ g, f = (g + 6) + 1 := ⟨f - 7, by omega⟩
    obtain ⟨e, s2, hrun, hp⟩ := hr g (by omega)
    have hen := mst_of (w := 3) (i := i) (o := o) (k := 2 * i + 1) (by omega) (by simpa [aW] using hop) (by simp [aW]) (by simp [aW]; omega)
    rw [← hen] at hrun
    have hinc : inc ((2 * i : Nat) : Int) = ((2 * i + 1 : Nat) : Int) := inc_nat (by omega)
    obtain ⟨e2, h2⟩ := step_item (k := ((2 * i : Nat) : Int)) (o := o) (s2 := s2) (by have := hN.nm (by omega) i hi; simpa [aW] using this) (by rw [hinc]; exact sees_live (by have := hop; simp [aW, opW] at this; exact ⟨this.1, this.2.1⟩)) (show 1 < g + 6 by omega) (by rw [hinc]; exact run_up hrun (hP s2 hp).1) (hP s2 hp).2
    exact ⟨e2, s2, by simpa [aW, aft, clW] using h2, hp⟩
theorem dec_int {x : Int} (h : -1000 < x ∧ x < 1000) : dec x = x - 1 := by unfold dec; simp [wrap64]; omega
theorem inc_int {x : Int} (h : -1000 < x ∧ x < 1000) : inc x = x + 1 := by unfold inc; simp [wrap64]; omega
theorem halts_end {ts : List RT} {w n : Nat} (hN : Nest ts w n) {j : Nat} (hj : j ≤ cW w * n) : halts ts ⟨((aW w * n + 1 + j : Nat) : Int), 0, 0⟩ := by
  rcases Nat.lt_or_eq_of_le hj with h | h
  · have := hN.cl j h
    refine .inr ⟨by rw [peek_live]; exact this.1, ?_⟩
    rw [peek_live, this.2, clW]
    split
    · exact .inr rfl
    · exact .inl rfl
  · subst h
    exact .inl (by rw [peek_live]; exact hN.fin)
/-- Where the reading of so many stands at its end. -/
def endAt (w n m : Nat) (o : Int) : St := ⟨⟨((aW w * n + 1 + cW w * m : Nat) : Int), 0, 0⟩, o⟩
theorem cW_le {w m n : Nat} (h : m ≤ n) : cW w * m ≤ cW w * n := Nat.mul_le_mul_left _ h
theorem aW_le (w : Nat) : 1 ≤ aW w ∧ aW w ≤ 2 := by unfold aW; split <;> omega
theorem aft_end {ts : List RT} {w n m : Nat} (hN : Nest ts w n) (hn : n ≤ 60) (hm : m < n) (o : Int) (ho : -100 < o ∧ o < 100) : aft ts w (endAt w n m (o + 1)) = endAt w n (m + 1) o := by
  unfold aft endAt
  by_cases hw : w = 0
  · subst hw
    rw [if_pos rfl]
    simp only [cW, if_true, Nat.zero_mul]
    rw [dec_int (by omega), show o + 1 - 1 = o by omega]
  · rw [if_neg hw]
    have h1 : cW w = 1 := if_neg hw
    have hs := sees_live (ts := ts) (hN.cl (1 * m) (by rw [h1]; omega))
    unfold leave
    rw [h1, sign_live hs, next]
    simp only
    have ha := aW_le w
    have hb : aW w * n ≤ 2 * n := Nat.mul_le_mul_right _ ha.2
    rw [inc_nat (by omega), dec_int (by omega), show o + 1 - 1 = o by omega, show aW w * n + 1 + 1 * m + 1 = aW w * n + 1 + 1 * (m + 1) by omega]
theorem mst_kind {ts : List RT} {w n i : Nat} (hN : Nest ts w n) (hi : i < n) (o : Int) (hw : w = 2) : sees ts (mst w i o).c 4 [41] = false := by
  unfold mst
  by_cases ho : o = 50
  · rw [if_pos ho]
    exact sees_dead (show (4 : Int) ≠ 0 by decide) _
  · rw [if_neg ho]
    unfold sees
    rw [peek_live]
    rcases Nat.lt_or_eq_of_le (Nat.succ_le_of_lt hi) with h | h
    · have := hN.nm (by omega) (i + 1) h
      rw [this]; rfl
    · have := hN.num
      rw [← h] at this
      rw [this]; rfl
theorem nest_live {ts : List RT} {w n : Nat} (hN : Nest ts w n) (hw : w ≤ 3) (hn : n ≤ 60) (o : Int) (h0 : 0 ≤ o) (hon : o + n ≤ 50) : ∀ (m i : Nat), i + m = n → ∀ f, 2 + 7 * m ≤ f → ∃ e, (run ts f).2 ⟨⟨((aW w * i : Nat) : Int), 0, 0⟩, o + i⟩ = some (e, endAt w n m (o + i))
  | 0, i, him, f, hf => by
    obtain rfl : i = n := by omega
    obtain ⟨g, rfl⟩ : ∃ g, f = g + 2 := ⟨f - 2, by omega⟩
    have ha := aW_le w
    have hb : aW w * i ≤ 2 * i := Nat.mul_le_mul_right _ ha.2
    have hh := halts_end hN (Nat.zero_le _)
    have hi1 : inc ((aW w * i : Nat) : Int) = ((aW w * i + 1 : Nat) : Int) := inc_nat (by omega)
    have h1 := live_num (o := o + i) hN.num (by rw [hi1]; exact hh) g
    rw [hi1] at h1
    exact ⟨_, h1⟩
  | m + 1, i, him, f, hf => by
    have hi : i < n := by omega
    have hm : mst w i (o + i) = ⟨⟨((aW w * (i + 1) : Nat) : Int), 0, 0⟩, o + ((i + 1 : Nat) : Int)⟩ := by
      unfold mst
      rw [if_neg (by omega), inc_int (by omega)]
      congr 1
      omega
    have he : aft ts w (endAt w n m (o + ((i + 1 : Nat) : Int))) = endAt w n (m + 1) (o + i) := by
      rw [show o + ((i + 1 : Nat) : Int) = (o + i) + 1 by omega]
      exact aft_end hN hn (by omega) _ (by omega)
    obtain ⟨e, s2, h2, rfl⟩ := step_any hN hw hn hi (o + i) (2 + 7 * m) (by omega) (fun s2 => s2 = endAt w n m (o + ((i + 1 : Nat) : Int))) (fun s2 hs => by
      subst hs
      rw [he]
      exact ⟨halts_end hN (cW_le (by omega)), halts_end hN (cW_le (by omega))⟩) (fun hw2 => mst_kind hN hi _ hw2) (fun f hf => by
        obtain ⟨e, he⟩ := nest_live hN hw hn o h0 hon m (i + 1) (by omega) f hf
        rw [hm]
        exact ⟨e, _, he, rfl⟩) f (by omega)
    rw [he] at h2
    exact ⟨e, h2⟩
theorem aft_dead {ts : List RT} {w : Nat} {s : St} (h : s.c.E ≠ 0) : (aft ts w s).c.E = s.c.E ∧ (aft ts w s).c.F = s.c.F := by
  unfold aft
  split
  · exact ⟨rfl, rfl⟩
  · exact leave_dead h _
theorem nest_dead {ts : List RT} {w n : Nat} (hN : Nest ts w n) (hw : w ≤ 3) (hn : n ≤ 60) (o : Int) (h0 : 0 ≤ o) (d : Nat) (hd : d < n) (hod : o + d = 50) : ∀ (m i : Nat), i + m = d → ∀ f, 9 + 7 * m ≤ f → ∃ e s2, (run ts f).2 ⟨⟨((aW w * i : Nat) : Int), 0, 0⟩, o + i⟩ = some (e, s2) ∧ s2.c.E = 4 ∧ s2.c.F = ((aW w * d + (aW w - 1) : Nat) : Int)
  | 0, i, him, f, hf => by
    obtain rfl : i = d := by omega
    have hm : mst w i (o + i) = ⟨⟨((aW w * (i + 1) : Nat) : Int), 4, ((aW w * i + (aW w - 1) : Nat) : Int)⟩, inc (o + i)⟩ := by
      unfold mst
      rw [if_pos hod]
    obtain ⟨e, s2, h2, h3, h4⟩ := step_any hN hw hn hd (o + i) 2 (by omega) (fun s2 => s2.c.E = 4 ∧ s2.c.F = ((aW w * i + (aW w - 1) : Nat) : Int)) (fun s2 hs => by
      have h1 : s2.c.E ≠ 0 := by rw [hs.1]; decide
      exact ⟨halts_dead h1, halts_dead (by rw [(aft_dead h1).1]; exact h1)⟩) (fun hw2 => mst_kind hN hd _ hw2) (fun f hf => by
        obtain ⟨g, rfl⟩ : ∃ g, f = g + 2 := ⟨f - 2, by omega⟩
        rw [hm]
        exact ⟨_, _, dead_unary (show (4 : Int) ≠ 0 by decide) g, rfl, rfl⟩) f (by omega)
    have h1 : s2.c.E ≠ 0 := by rw [h3]; decide
    exact ⟨e, _, h2, (aft_dead h1).1.trans h3, (aft_dead h1).2.trans h4⟩
  | m + 1, i, him, f, hf => by
    have hi : i < n := by omega
    have hm : mst w i (o + i) = ⟨⟨((aW w * (i + 1) : Nat) : Int), 0, 0⟩, o + ((i + 1 : Nat) : Int)⟩ := by
      unfold mst
      rw [if_neg (by omega), inc_int (by omega)]
      congr 1
      omega
    obtain ⟨e, s2, h2, h3, h4⟩ := step_any hN hw hn hi (o + i) (9 + 7 * m) (by omega) (fun s2 => s2.c.E = 4 ∧ s2.c.F = ((aW w * d + (aW w - 1) : Nat) : Int)) (fun s2 hs => by
      have h1 : s2.c.E ≠ 0 := by rw [hs.1]; decide
      exact ⟨halts_dead h1, halts_dead (by rw [(aft_dead h1).1]; exact h1)⟩) (fun hw2 => mst_kind hN hi _ hw2) (fun f hf => by
        obtain ⟨e, s2, he⟩ := nest_dead hN hw hn o h0 d hd hod m (i + 1) (by omega) f hf
        rw [hm]
        exact ⟨e, s2, he⟩) f (by omega)
    have h1 : s2.c.E ≠ 0 := by rw [h3]; decide
    exact ⟨e, _, h2, (aft_dead h1).1.trans h3, (aft_dead h1).2.trans h4⟩
/-- As many as may be open, and all is read. -/
theorem parse_live {ts : List RT} {w n : Nat} (hN : Nest ts w n) (hw : w ≤ 3) (hn : n ≤ 60) (o : Int) (h0 : 0 ≤ o) (hon : n = 0 ∨ o + n ≤ 50) : ∃ e, parse ts 1000 0 o = some (e, ((aW w * n + 1 + cW w * n : Nat) : Int), 0, 0) := by
  have hc : 0 ≤ clamp o ∧ clamp o + n ≤ 50 := by unfold clamp; omega
  obtain ⟨e, h1⟩ := nest_live hN hw hn (clamp o) hc.1 hc.2 n 0 (by omega) 994 (by omega)
  have h2 := run_up h1 (halts_end hN (cW_le (Nat.le_refl _)))
  rw [Nat.mul_zero] at h2
  have h3 : (run ts (994 + 6)).1 1 ⟨⟨0, 0, 0⟩, clamp o⟩ = some (e, endAt w n n (clamp o)) := by
    rw [show ((0 : Nat) : Int) = 0 from rfl, Int.add_zero] at h2
    exact h2
  unfold parse
  rw [show (1000 : Nat) = 994 + 6 from rfl, h3]
  exact ⟨e, rfl⟩
/-- One more, and that one is told. -/
theorem parse_dead {ts : List RT} {w n : Nat} (hN : Nest ts w n) (hw : w ≤ 3) (hn : n ≤ 60) (o : Int) (h0 : 0 ≤ o) (hon : 50 < o + n) (hz : 0 < n) : ∃ e, parse ts 1000 0 o = some (e, 0, 4, ((aW w * (50 - clamp o).toNat + (aW w - 1) : Nat) : Int)) := by
  have hc : 0 ≤ clamp o ∧ clamp o ≤ 50 := by unfold clamp; omega
  have hd : (50 - clamp o).toNat < n := by unfold clamp; omega
  obtain ⟨e, s2, h1, h3, h4⟩ := nest_dead hN hw hn (clamp o) hc.1 (50 - clamp o).toNat hd (by omega) (50 - clamp o).toNat 0 (by omega) 994 (by omega)
  have hne : s2.c.E ≠ 0 := by rw [h3]; decide
  have h2 := run_up h1 (halts_dead hne)
  rw [Nat.mul_zero] at h2
  have h5 : (run ts (994 + 6)).1 1 ⟨⟨0, 0, 0⟩, clamp o⟩ = some (e, s2) := by
    rw [show ((0 : Nat) : Int) = 0 from rfl, Int.add_zero] at h2
    exact h2
  unfold parse
  rw [show (1000 : Nat) = 994 + 6 from rfl, h5]
  show ∃ e2, some (exEnd e s2.c) = _
  unfold exEnd
  rw [if_neg hne, h3, h4]
  exact ⟨_, rfl⟩
end Pe
end Go.Proofs.YtnadaedibicaaaaDoor
