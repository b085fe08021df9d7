/-
  The texts of ExprDeep: their tokens.
-/
import Derived.Test.YtnadaedibicaaaaDoorDq
import Derived.Test.YtnadaedibicaaaaDoorKo
namespace Go.Proofs.YtnadaedibicaaaaDoor
open Go.RowKit
open Px (RT tokAt)
open Pe

def openW (w : Nat) : List UInt8 := if w = 0 then [45] else if w = 1 then [40] else if w = 2 then [102, 40] else [120, 91]
def shutW (w : Nat) : List UInt8 := if w = 0 then [] else if w = 3 then [93] else [41]
def dpS (w n : Nat) : List UInt8 := (List.replicate n (openW w)).flatten
def dpE (w n : Nat) : List UInt8 := [49] ++ (List.replicate n (shutW w)).flatten
def dpT (w n : Nat) : List UInt8 := dpS w n ++ dpE w n
def dpUs (w n : Nat) : List Ln.Lx.Tk := (Ln.Lx.toks (dpT w n)).1
def tkAt (us : List Ln.Lx.Tk) (k : Nat) : Ln.Lx.Tk := us.getD k ⟨0, [], 0, 0⟩
def opens (w : Nat) : Nat → Nat → List Ln.Lx.Tk → List Ln.Lx.Tk
  | 0, _, r => r
  | n + 1, k, r => if 2 ≤ w then ⟨1, [if w = 2 then 102 else 120], 0, k⟩ :: ⟨4, opW w, 0, k + 1⟩ :: opens w n (k + 2) r else ⟨4, opW w, 0, k⟩ :: opens w n (k + 1) r
def shuts (w : Nat) : Nat → Nat → List Ln.Lx.Tk → List Ln.Lx.Tk
  | 0, _, r => r
  | n + 1, k, r => ⟨4, clW w, 0, k⟩ :: shuts w n (k + 1) r
/-- Its tokens. -/
def dpX (w n : Nat) : List Ln.Lx.Tk := opens w n 0 (⟨2, [], 1, aW w * n⟩ :: shuts w (cW w * n) (aW w * n + 1) [⟨0, [], 0, aW w * n + 1 + cW w * n⟩])
def tkEq (a b : Ln.Lx.Tk) : Bool := a.kind.beq b.kind && decide (a.text = b.text) && a.num.beq b.num && a.at_.beq b.at_
def tkEqL : List Ln.Lx.Tk → List Ln.Lx.Tk → Bool
  | [], [] => true
  | a :: l, b :: m => tkEq a b && tkEqL l m
  | _, _ => false
theorem tkEq_eq {a b : Ln.Lx.Tk} (h : tkEq a b = true) : a = b := by
  obtain ⟨k, t, n, p⟩ := a
  obtain ⟨k2, t2, n2, p2⟩ := b
  simp only [tkEq, Bool.and_eq_true, decide_eq_true_eq] at h
  obtain ⟨⟨⟨h1, h2⟩, h3⟩, h4⟩ := h
  rw [Nat.eq_of_beq_eq_true h1, h2, Nat.eq_of_beq_eq_true h3, Nat.eq_of_beq_eq_true h4]
theorem tkEqL_eq : ∀ {l m : List Ln.Lx.Tk}, tkEqL l m = true → l = m
  | [], [], _ => rfl
  | [], _ :: _, h => by simp [tkEqL] at h
  | _ :: _, [], h => by simp [tkEqL] at h
  | a :: l, b :: m, h => by
    rw [tkEqL, Bool.and_eq_true] at h
    rw [tkEq_eq h.1, tkEqL_eq h.2]
def dpChk (w n : Nat) : Bool :=
  match Ln.Lx.toks (dpT w n) with
  | (us, e, k) => tkEqL us (dpX w n) && e.beq 0 && k.beq 0
theorem dp_of {w n : Nat} (h : dpChk w n = true) : Ln.Lx.toks (dpT w n) = (dpX w n, 0, 0) := by
  unfold dpChk at h
  generalize Ln.Lx.toks (dpT w n) = x at h ⊢
  obtain ⟨us, e, k⟩ := x
  simp only [Bool.and_eq_true] at h
  obtain ⟨⟨h1, h2⟩, h3⟩ := h
  rw [tkEqL_eq h1, Nat.eq_of_beq_eq_true h2, Nat.eq_of_beq_eq_true h3]
set_option maxRecDepth 100000 in
theorem dp_0_0 : ((List.range 21).all fun n => dpChk 0 (n + 0)) = true := by kernel_rfl
set_option maxRecDepth 100000 in
theorem dp_0_21 : ((List.range 20).all fun n => dpChk 0 (n + 21)) = true := by kernel_rfl
set_option maxRecDepth 100000 in
theorem dp_0_41 : ((List.range 20).all fun n => dpChk 0 (n + 41)) = true := by kernel_rfl
set_option maxRecDepth 100000 in
theorem dp_1_0 : ((List.range 21).all fun n => dpChk 1 (n + 0)) = true := by kernel_rfl
set_option maxRecDepth 100000 in
theorem dp_1_21 : ((List.range 20).all fun n => dpChk 1 (n + 21)) = true := by kernel_rfl
set_option maxRecDepth 100000 in
theorem dp_1_41 : ((List.range 20).all fun n => dpChk 1 (n + 41)) = true := by kernel_rfl
set_option maxRecDepth 100000 in
theorem dp_2_0 : ((List.range 21).all fun n => dpChk 2 (n + 0)) = true := by kernel_rfl
set_option maxRecDepth 100000 in
theorem dp_2_21 : ((List.range 20).all fun n => dpChk 2 (n + 21)) = true := by kernel_rfl
set_option maxRecDepth 100000 in
theorem dp_2_41 : ((List.range 20).all fun n => dpChk 2 (n + 41)) = true := by kernel_rfl
set_option maxRecDepth 100000 in
theorem dp_3_0 : ((List.range 21).all fun n => dpChk 3 (n + 0)) = true := by kernel_rfl
set_option maxRecDepth 100000 in
theorem dp_3_21 : ((List.range 20).all fun n => dpChk 3 (n + 21)) = true := by kernel_rfl
set_option maxRecDepth 100000 in
theorem dp_3_41 : ((List.range 20).all fun n => dpChk 3 (n + 41)) = true := by kernel_rfl
theorem dp_some {w a m : Nat} (h : ((List.range m).all fun n => dpChk w (n + a)) = true) {n : Nat} (h1 : a ≤ n) (h2 : n < a + m) : dpChk w n = true := by
  have := List.all_eq_true.1 h (n - a) (List.mem_range.2 (by omega))
  rwa [show n - a + a = n by omega] at this
theorem dp_at {w n : Nat} (hw : w ≤ 3) (hn : n ≤ 60) : Ln.Lx.toks (dpT w n) = (dpX w n, 0, 0) := by
  refine dp_of ?_
  match w, hw with
  | 0, _ =>
    rcases Nat.lt_or_ge n 21 with h | h
    · exact dp_some dp_0_0 (Nat.zero_le _) (by omega)
    · rcases Nat.lt_or_ge n 41 with h2 | h2
      · exact dp_some dp_0_21 h (by omega)
      · exact dp_some dp_0_41 h2 (by omega)
  | 1, _ =>
    rcases Nat.lt_or_ge n 21 with h | h
    · exact dp_some dp_1_0 (Nat.zero_le _) (by omega)
    · rcases Nat.lt_or_ge n 41 with h2 | h2
      · exact dp_some dp_1_21 h (by omega)
      · exact dp_some dp_1_41 h2 (by omega)
  | 2, _ =>
    rcases Nat.lt_or_ge n 21 with h | h
    · exact dp_some dp_2_0 (Nat.zero_le _) (by omega)
    · rcases Nat.lt_or_ge n 41 with h2 | h2
      · exact dp_some dp_2_21 h (by omega)
      · exact dp_some dp_2_41 h2 (by omega)
  | 3, _ =>
    rcases Nat.lt_or_ge n 21 with h | h
    · exact dp_some dp_3_0 (Nat.zero_le _) (by omega)
    · rcases Nat.lt_or_ge n 41 with h2 | h2
      · exact dp_some dp_3_21 h (by omega)
      · exact dp_some dp_3_41 h2 (by omega)

theorem opens_op (w : Nat) (r : List Ln.Lx.Tk) : ∀ (n k i : Nat), i < n → (opens w n k r)[aW w * i + (aW w - 1)]? = some ⟨4, opW w, 0, k + (aW w * i + (aW w - 1))⟩
  | 0, _, _, h => absurd h (Nat.not_lt_zero _)
  | n + 1, k, i, h => by
    rw [opens]
    by_cases hw : 2 ≤ w
    · have ha : aW w = 2 := if_neg (by omega)
      rw [if_pos hw, ha]
      cases i with
      | zero => rfl
      | succ i =>
        have := opens_op w r n (k + 2) i (by omega)
        rw [ha] at this
        rw [show 2 * (i + 1) + (2 - 1) = (2 * i + (2 - 1)) + 1 + 1 by omega, List.getElem?_cons_succ, List.getElem?_cons_succ, this]
        congr 2
        omega
    · have ha : aW w = 1 := if_pos (by omega)
      rw [if_neg hw, ha]
      cases i with
      | zero => rfl
      | succ i =>
        have := opens_op w r n (k + 1) i (by omega)
        rw [ha] at this
        rw [show 1 * (i + 1) + (1 - 1) = (1 * i + (1 - 1)) + 1 by omega, List.getElem?_cons_succ]
        refine this.trans ?_
        congr 2
        omega
theorem opens_nm (w : Nat) (hw : 2 ≤ w) (r : List Ln.Lx.Tk) : ∀ (n k i : Nat), i < n → ∃ t, (opens w n k r)[2 * i]? = some t ∧ t.kind = 1
  | 0, _, _, h => absurd h (Nat.not_lt_zero _)
  | n + 1, k, i, h => by
    rw [opens, if_pos hw]
    cases i with
    | zero => exact ⟨_, rfl, rfl⟩
    | succ i =>
      obtain ⟨t, ht, hk⟩ := opens_nm w hw r n (k + 2) i (by omega)
      exact ⟨t, by rw [show 2 * (i + 1) = 2 * i + 1 + 1 by omega, List.getElem?_cons_succ, List.getElem?_cons_succ, ht], hk⟩
theorem opens_rest (w : Nat) (r : List Ln.Lx.Tk) : ∀ (n k j : Nat), (opens w n k r)[aW w * n + j]? = r[j]?
  | 0, _, j => by rw [opens, Nat.mul_zero, Nat.zero_add]
  | n + 1, k, j => by
    rw [opens]
    by_cases hw : 2 ≤ w
    · have ha : aW w = 2 := if_neg (by omega)
      have := opens_rest w r n (k + 2) j
      rw [ha] at this
      rw [if_pos hw, ha, show 2 * (n + 1) + j = (2 * n + j) + 1 + 1 by omega, List.getElem?_cons_succ, List.getElem?_cons_succ, this]
    · have ha : aW w = 1 := if_pos (by omega)
      have := opens_rest w r n (k + 1) j
      rw [ha] at this
      rw [if_neg hw, ha, show 1 * (n + 1) + j = (1 * n + j) + 1 by omega, List.getElem?_cons_succ, this]
theorem shuts_at (w : Nat) (r : List Ln.Lx.Tk) : ∀ (m k j : Nat), j < m → (shuts w m k r)[j]? = some ⟨4, clW w, 0, k + j⟩
  | 0, _, _, h => absurd h (Nat.not_lt_zero _)
  | m + 1, k, 0, _ => by rw [shuts]; rfl
  | m + 1, k, j + 1, h => by
    rw [shuts, List.getElem?_cons_succ, shuts_at w r m (k + 1) j (by omega), show k + 1 + j = k + (j + 1) by omega]
theorem shuts_rest (w : Nat) (r : List Ln.Lx.Tk) : ∀ (m k : Nat), (shuts w m k r)[m]? = r[0]?
  | 0, _ => by rw [shuts]
  | m + 1, k => by rw [shuts, List.getElem?_cons_succ, shuts_rest w r m (k + 1)]
theorem tok_at {us : List Ln.Lx.Tk} {p : Nat} {t : Ln.Lx.Tk} (h : us[p]? = some t) : tokAt (us.map toRT) (p : Int) = toRT t := by
  have hlt : p < us.length := (List.getElem?_eq_some_iff.1 h).1
  unfold tokAt
  rw [if_pos ⟨by omega, by rw [List.length_map]; omega⟩]
  simp [List.getD, h]
theorem dp_nest {w n : Nat} : Nest ((dpX w n).map toRT) w n where
  nm := fun hw i hi => by
    obtain ⟨t, ht, hk⟩ := opens_nm w hw (⟨2, [], 1, aW w * n⟩ :: shuts w (cW w * n) (aW w * n + 1) [⟨0, [], 0, aW w * n + 1 + cW w * n⟩]) n 0 i hi
    have ha : aW w = 2 := if_neg (by omega)
    rw [ha]
    have := tok_at (us := dpX w n) ht
    rw [this]
    show (t.kind : Int) = 1
    rw [hk]; rfl
  op := fun i hi => by
    have ht := opens_op w (⟨2, [], 1, aW w * n⟩ :: shuts w (cW w * n) (aW w * n + 1) [⟨0, [], 0, aW w * n + 1 + cW w * n⟩]) n 0 i hi
    have := tok_at (us := dpX w n) ht
    rw [this, Nat.zero_add]
    exact ⟨rfl, rfl, rfl⟩
  num := by
    have ht := opens_rest w (⟨2, [], 1, aW w * n⟩ :: shuts w (cW w * n) (aW w * n + 1) [⟨0, [], 0, aW w * n + 1 + cW w * n⟩]) n 0 0
    have := tok_at (us := dpX w n) (t := ⟨2, [], 1, aW w * n⟩) ht
    rw [Nat.add_zero] at this
    rw [this]; rfl
  cl := fun j hj => by
    have ht := opens_rest w (⟨2, [], 1, aW w * n⟩ :: shuts w (cW w * n) (aW w * n + 1) [⟨0, [], 0, aW w * n + 1 + cW w * n⟩]) n 0 (j + 1)
    rw [List.getElem?_cons_succ, shuts_at w _ _ _ _ hj] at ht
    have := tok_at (us := dpX w n) ht
    rw [show aW w * n + (j + 1) = aW w * n + 1 + j by omega] at this
    rw [this]
    exact ⟨rfl, rfl⟩
  fin := by
    have ht := opens_rest w (⟨2, [], 1, aW w * n⟩ :: shuts w (cW w * n) (aW w * n + 1) [⟨0, [], 0, aW w * n + 1 + cW w * n⟩]) n 0 (cW w * n + 1)
    rw [List.getElem?_cons_succ, shuts_rest] at ht
    have := tok_at (us := dpX w n) (t := ⟨0, [], 0, aW w * n + 1 + cW w * n⟩) ht
    rw [show aW w * n + (cW w * n + 1) = aW w * n + 1 + cW w * n by omega] at this
    rw [this]; rfl
theorem dp_len (w n : Nat) : (dpX w n).length = aW w * n + 1 + cW w * n + 1 := by
  have h1 : ∀ (m k : Nat) (r : List Ln.Lx.Tk), (shuts w m k r).length = m + r.length := by
    intro m
    induction m with
    | zero => intro k r; simp [shuts]
    | succ m ih => intro k r; simp [shuts, ih]; omega
  have h2 : ∀ (m k : Nat) (r : List Ln.Lx.Tk), (opens w m k r).length = aW w * m + r.length := by
    intro m
    induction m with
    | zero => intro k r; simp [opens]
    | succ m ih =>
      intro k r
      rw [opens]
      by_cases hw : 2 ≤ w
      · have ha : aW w = 2 := if_neg (by omega)
        rw [ha] at ih ⊢
        rw [if_pos hw]; simp [ih]; omega
      · have ha : aW w = 1 := if_pos (by omega)
        rw [ha] at ih ⊢
        rw [if_neg hw]; simp [ih]; omega
  unfold dpX
  rw [h2, List.length_cons, h1, List.length_singleton]
  omega
theorem dp_short {w n : Nat} : ∀ t ∈ dpX w n, t.text.length ≤ 281474976710656 := by
  have hc : (clW w).length ≤ 281474976710656 := by unfold clW; split <;> decide
  have ho : (opW w).length ≤ 281474976710656 := by unfold opW; split <;> (try split) <;> decide
  have h1 : ∀ (m k : Nat) (r : List Ln.Lx.Tk), (∀ t ∈ r, t.text.length ≤ 281474976710656) → ∀ t ∈ shuts w m k r, t.text.length ≤ 281474976710656 := by
    intro m
    induction m with
    | zero => intro k r hr; rw [shuts]; exact hr
    | succ m ih =>
      intro k r hr t ht
      rw [shuts, List.mem_cons] at ht
      rcases ht with rfl | ht
      · exact hc
      · exact ih _ _ hr t ht
  have h2 : ∀ (m k : Nat) (r : List Ln.Lx.Tk), (∀ t ∈ r, t.text.length ≤ 281474976710656) → ∀ t ∈ opens w m k r, t.text.length ≤ 281474976710656 := by
    intro m
    induction m with
    | zero => intro k r hr; rw [opens]; exact hr
    | succ m ih =>
      intro k r hr t ht
      rw [opens] at ht
      split at ht
      · rw [List.mem_cons, List.mem_cons] at ht
        rcases ht with rfl | rfl | ht
        · show 1 ≤ _; decide
        · exact ho
        · exact ih _ _ hr t ht
      · rw [List.mem_cons] at ht
        rcases ht with rfl | ht
        · exact ho
        · exact ih _ _ hr t ht
  refine h2 _ _ _ fun t ht => ?_
  rw [List.mem_cons] at ht
  rcases ht with rfl | ht
  · exact Nat.zero_le _
  · refine h1 _ _ _ (fun t ht => ?_) t ht
    rw [List.mem_singleton] at ht
    subst ht
    exact Nat.zero_le _
end Go.Proofs.YtnadaedibicaaaaDoor
